import PyProof.Rows.All
import Wide.All
import OpenK.AllK
import Wide.FinOn
import HandS.ForMost
import HandS.Evl
import HandS.TupAny
import HandS.Walk
import HandS.Wide
import HandS.SortInts
import HandS.GenYield
import HandS.GenList
import HandS.IsInst
import PyProof.Rows.SortShell
import PyProof.Rows.SortWalk
import PySem.Challenge.RW_fewserve_k98_lots_and_choices
set_option Elab.async false
set_option linter.all false
set_option maxRecDepth 100000
set_option maxHeartbeats 2000000
/-! DL: typed data over the layer: what a value stands for (Rep), what an expression gives (Er, En), promises of pure defs -/
namespace DL
open PySem L2 Evl

/-! ### heaps: a frame F within the heap, and what is new -/
def part (F H1 H2 : Hp) : Hp := fun q => match F q with
  | some o => some o
  | none => match H1 q with
    | some _ => none
    | none => H2 q
section
variable {F G H H1 H2 H3 H4 : Hp} {p q : Addr} {o : HO}
theorem part_in (h : F q = some o) : part F H1 H2 q = some o := by
  unfold part
  rw [h]
theorem part_old (h : F q = none) (h1 : H1 q = some o) : part F H1 H2 q = none := by
  unfold part
  rw [h, h1]
theorem part_new (h : F q = none) (h1 : H1 q = none) : part F H1 H2 q = H2 q := by
  unfold part
  rw [h, h1]
theorem part_ex : Ex F (part F H1 H2) := fun q o h => part_in h
theorem back_none (e : Ex H H1) (h : H1 p = none) : H p = none := by
  cases h1 : H p with
  | none => rfl
  | some o =>
    rw [e p o h1] at h
    cases h
theorem part_sub (e : Ex F H2) : Ex (part F H1 H2) H2 := fun q o h => by
  cases hf : F q with
  | some u =>
    rw [part_in hf] at h
    rw [← h]
    exact e q u hf
  | none =>
    cases h1 : H1 q with
    | some u =>
      rw [part_old hf h1] at h
      cases h
    | none =>
      rw [part_new hf h1] at h
      exact h
theorem part_up (e : Ex H2 H3) : Ex (part F H1 H2) (part F H1 H3) := fun q o h => by
  cases hf : F q with
  | some u =>
    rw [part_in hf] at h ⊢
    exact h
  | none =>
    cases h1 : H1 q with
    | some u =>
      rw [part_old hf h1] at h
      cases h
    | none =>
      rw [part_new hf h1] at h ⊢
      exact e q o h
theorem part_back (e : Ex H1 H2) : Ex (part F H2 H3) (part F H1 H3) := fun q o h => by
  cases hf : F q with
  | some u =>
    rw [part_in hf] at h ⊢
    exact h
  | none =>
    cases h2 : H2 q with
    | some u =>
      rw [part_old hf h2] at h
      cases h
    | none =>
      rw [part_new hf h2] at h
      rw [part_new hf (back_none e h2)]
      exact h
/-- a later evaluation over the frame that an earlier one has left -/
theorem part_part (e1 : Ex H1 H2) (e2 : Ex H2 H3) (e3 : Ex H3 H4) : Ex (part (part F H1 H2) H3 H4) (part F H1 H4) := fun q o h => by
  cases hp : part F H1 H2 q with
  | some u =>
    rw [part_in hp] at h
    rw [← h]
    exact part_up (e2.trans e3) q u hp
  | none =>
    cases h3 : H3 q with
    | some u =>
      rw [part_old hp h3] at h
      cases h
    | none =>
      rw [part_new hp h3] at h
      have n1 : H1 q = none := back_none (e1.trans e2) h3
      cases hf : F q with
      | some u =>
        rw [part_in hf] at hp
        cases hp
      | none =>
        rw [part_new hf n1]
        exact h
/-- a greater frame within the old heap -/
theorem part_frame (e : Ex F G) (e1 : Ex G H1) : Ex (part F H1 H2) (part G H1 H2) := fun q o h => by
  cases hf : F q with
  | some u =>
    rw [part_in hf] at h
    rw [part_in (e q u hf)]
    exact h
  | none =>
    cases h1 : H1 q with
    | some u =>
      rw [part_old hf h1] at h
      cases h
    | none =>
      rw [part_new hf h1] at h
      rw [part_new (back_none e1 h1) h1]
      exact h
/-- without the object at D -/
def mns (H : Hp) (D : Addr) : Hp := fun q => if q = D then none else H q
theorem mns_at {D : Addr} : mns H D D = none := by
  unfold mns
  rw [if_pos rfl]
theorem mns_ne {D : Addr} (h : q ≠ D) : mns H D q = H q := by
  unfold mns
  rw [if_neg h]
theorem mns_sub {D : Addr} : Ex (mns H D) H := fun q o h => by
  by_cases e : q = D
  · rw [e, mns_at] at h
    cases h
  · rw [mns_ne e] at h
    exact h
theorem ex_mns {D : Addr} (e : Ex F H) (h : F D = none) : Ex F (mns H D) := fun q o hq => by
  rw [mns_ne (ne_of_none hq h)]
  exact e q o hq
theorem mns_up {D : Addr} (e : Ex H H1) : Ex (mns H D) (mns H1 D) := ex_mns (mns_sub.trans e) mns_at
theorem mns_upd {D : Addr} {u : HO} : mns (upd H D u) D = mns H D := by
  funext q
  by_cases e : q = D
  · rw [e, mns_at, mns_at]
  · rw [mns_ne e, mns_ne e, upd_ne e]
/-- a turn of a loop that fills D: what was made in the turn, over the frame, is not D -/
theorem part_turn {D : Addr} (e0 : Ex F H1) (e1 : Ex H1 H2) (hD : H2 D = none) (e2 : Ex H2 H3) (h3 : H3 D = some o) (e3 : Ex H3 H4) : Ex (part (part F H1 H2) H3 H4) (mns (part F H1 H4) D) := by
  refine ex_mns (part_part e1 e2 e3) ?_
  have hf : F D = none := back_none (e0.trans e1) hD
  have hp : part F H1 H2 D = none := by
    rw [part_new hf (back_none e1 hD)]
    exact hD
  exact part_old hp h3
end

/-! ### data -/
inductive Al {α : Type} (R : V → α → Prop) : List V → List α → Prop
  | nil : Al R [] []
  | cons {v : V} {a : α} {vs : List V} {as : List α} : R v a → Al R vs as → Al R (v :: vs) (a :: as)
section
variable {α : Type} {R R' : V → α → Prop} {vs ws : List V} {as bs : List α}
theorem Al.imp (f : ∀ v a, R v a → R' v a) : ∀ {vs : List V} {as : List α}, Al R vs as → Al R' vs as
  | _, _, .nil => .nil
  | _, _, .cons h t => .cons (f _ _ h) (Al.imp f t)
theorem Al.len : ∀ {vs : List V} {as : List α}, Al R vs as → vs.length = as.length
  | _, _, .nil => rfl
  | _, _, .cons _ t => by rw [List.length_cons, List.length_cons, Al.len t]
theorem Al.app : ∀ {vs : List V} {as : List α}, Al R vs as → Al R ws bs → Al R (vs ++ ws) (as ++ bs)
  | _, _, .nil, h => h
  | _, _, .cons h t, k => .cons h (Al.app t k)
theorem Al.snoc {v : V} {a : α} (h : Al R vs as) (k : R v a) : Al R (vs ++ [v]) (as ++ [a]) := h.app (.cons k .nil)
theorem Al.get : ∀ {vs : List V} {as : List α} {i : Nat} {v : V}, Al R vs as → vs[i]? = some v → ∃ a, as[i]? = some a ∧ R v a
  | _, _, i, v, .nil, h => by simp at h
  | _, _, 0, v, .cons h t, e => by
    cases e
    exact ⟨_, rfl, h⟩
  | _, _, i + 1, v, .cons h t, e => by
    obtain ⟨a, e1, e2⟩ := Al.get t (show _ = some v from e)
    exact ⟨a, e1, e2⟩
theorem Al.at : ∀ {vs : List V} {as : List α} {i : Nat} {a : α}, Al R vs as → as[i]? = some a → ∃ v, vs[i]? = some v ∧ R v a
  | _, _, i, v, .nil, h => by simp at h
  | _, _, 0, v, .cons h t, e => by
    cases e
    exact ⟨_, rfl, h⟩
  | _, _, i + 1, v, .cons h t, e => by
    obtain ⟨a, e1, e2⟩ := Al.at t (show _ = some v from e)
    exact ⟨a, e1, e2⟩
theorem Al.take : ∀ {vs : List V} {as : List α} (n : Nat), Al R vs as → Al R (vs.take n) (as.take n)
  | _, _, 0, _ => .nil
  | _, _, n + 1, .nil => .nil
  | _, _, n + 1, .cons h t => .cons h (Al.take n t)
theorem Al.drop : ∀ {vs : List V} {as : List α} (n : Nat), Al R vs as → Al R (vs.drop n) (as.drop n)
  | _, _, 0, h => h
  | _, _, n + 1, .nil => .nil
  | _, _, n + 1, .cons h t => Al.drop n t
theorem Al.set {v : V} {a : α} (k : R v a) : ∀ {vs : List V} {as : List α} (i : Nat), Al R vs as → Al R (vs.set i v) (as.set i a)
  | _, _, _, .nil => .nil
  | _, _, 0, .cons _ t => .cons k t
  | _, _, i + 1, .cons h t => .cons h (Al.set k i t)
theorem Al.map {β : Type} {S : V → β → Prop} {f : α → β} (h : ∀ v a, R v a → S v (f a)) : ∀ {vs : List V} {as : List α}, Al R vs as → Al S vs (as.map f)
  | _, _, .nil => .nil
  | _, _, .cons x t => .cons (h _ _ x) (Al.map h t)
end
/-- what a value stands for, in a heap; more objects change nothing -/
structure Rep (α : Type) where
  rel : Hp → V → α → Prop
  mono : ∀ {H H' : Hp} {v : V} {a : α}, Ex H H' → rel H v a → rel H' v a
def rInt : Rep Int := ⟨fun _ v i => v = .int i, fun _ h => h⟩
def rBl : Rep Bool := ⟨fun _ v i => v = .bl i, fun _ h => h⟩
def rStr : Rep Str := ⟨fun _ v i => v = .str i, fun _ h => h⟩
def rNon : Rep Unit := ⟨fun _ v _ => v = .non, fun _ h => h⟩
section
variable {α β γ : Type} (K : PySem.W.Frag)
def rLst (r : Rep α) : Rep (List α) := ⟨fun H v as => ∃ p xs, v = .ref p ∧ H p = some (.lst xs) ∧ Al (r.rel H) xs as, fun e ⟨p, xs, h, s, a⟩ => ⟨p, xs, h, e p _ s, a.imp fun _ _ k => r.mono e k⟩⟩
def rTup (r : Rep α) : Rep (List α) := ⟨fun H v as => ∃ p xs, v = .ref p ∧ H p = some (.tup xs) ∧ Al (r.rel H) xs as, fun e ⟨p, xs, h, s, a⟩ => ⟨p, xs, h, e p _ s, a.imp fun _ _ k => r.mono e k⟩⟩
def rPair (r : Rep α) (s : Rep β) : Rep (α × β) := ⟨fun H v c => ∃ p x y, v = .ref p ∧ H p = some (.tup [x, y]) ∧ r.rel H x c.1 ∧ s.rel H y c.2, fun e ⟨p, x, y, h, t, a, b⟩ => ⟨p, x, y, h, e p _ t, r.mono e a, s.mono e b⟩⟩
/-- the script: a list that is only read -/
def rFro : Rep (List Int) := ⟨fun H v ns => ∃ p, v = .ref p ∧ SqL K H p (ns.map V.int), fun e ⟨p, h, s⟩ => ⟨p, h, ex_l e s⟩⟩
end
def rOpt {α : Type} (r : Rep α) : Rep (Option α) := ⟨fun H v o => match o with | none => v = .non | some a => r.rel H v a, fun {H H' v o} e h => by
  cases o with
  | none => exact h
  | some a => exact r.mono e h⟩
theorem rel_ints {H : Hp} : ∀ {xs : List V} {ns : List Int}, Al (rInt.rel H) xs ns → xs = ns.map V.int
  | _, _, .nil => rfl
  | _, _, .cons h t => by
    rw [show _ = V.int _ from h, rel_ints t]
    rfl
theorem ints_rel {H : Hp} : ∀ (ns : List Int), Al (rInt.rel H) (ns.map V.int) ns
  | [] => .nil
  | n :: ns => .cons rfl (ints_rel ns)

/-! ### what an expression gives -/
section
variable {α β γ δ : Type} {K : PySem.W.Frag}
/-- a value that stands for a | a new list of what stands for as -/
def Er (r : Rep α) (te : TE) (σ : L2.St) (F : Hp) (a : α) : Prop := ∀ H1, Ex F H1 → ∀ Q : VK, (∀ v H2, Ex H1 H2 → r.rel (part F H1 H2) v a → Q v H2) → te σ H1 Q
def New (r : Rep α) (as : List α) (F H1 H2 : Hp) (p : Addr) : Prop := H1 p = none ∧ ∃ xs, H2 p = some (.lst xs) ∧ Al (r.rel (mns (part F H1 H2) p)) xs as
def En (r : Rep α) (te : TE) (σ : L2.St) (F : Hp) (as : List α) : Prop := ∀ H1, Ex F H1 → ∀ Q : VK, (∀ p H2, Ex H1 H2 → New r as F H1 H2 p → Q (.ref p) H2) → te σ H1 Q
def Ea (P : Hp → List V → Prop) (ta : TA) (σ : L2.St) (F : Hp) : Prop := ∀ H1, Ex F H1 → ∀ Q : List V → Hp → Prop, (∀ vs H2, Ex H1 H2 → P (part F H1 H2) vs → Q vs H2) → ta σ H1 Q
variable {σ : L2.St} {F G H H1 H2 H3 : Hp} {ta tb te tx : TE} {t u : TT} {v : V} {r : Rep α} {s : Rep β} {a : α} {b : β} {as : List α}
theorem New.rel {p : Addr} (h : New r as F H1 H2 p) (e0 : Ex F H1) : (rLst r).rel (part F H1 H2) (.ref p) as := by
  obtain ⟨h1, xs, h2, h3⟩ := h
  refine ⟨p, xs, rfl, ?_, h3.imp fun _ _ k => r.mono mns_sub k⟩
  rw [part_new (back_none e0 h1) h1]
  exact h2
theorem En.er (h : En r te σ F as) : Er (rLst r) te σ F as := fun H1 e Q q => h H1 e Q fun p H2 e2 n => q _ H2 e2 (n.rel e)
theorem Er.mono (e : Ex F G) (h : Er r te σ F a) : Er r te σ G a := fun H1 e1 Q q => h H1 (e.trans e1) Q fun v H2 e2 k => q v H2 e2 (r.mono (part_frame e e1) k)
theorem En.mono (e : Ex F G) (h : En r te σ F as) : En r te σ G as := fun H1 e1 Q q => h H1 (e.trans e1) Q fun p H2 e2 ⟨k1, xs, k2, k3⟩ => q p H2 e2 ⟨k1, xs, k2, k3.imp fun _ _ k => r.mono (mns_up (part_frame e e1)) k⟩
theorem er_is {a' : α} (h : Er r te σ F a) (e : a = a') : Er r te σ F a' := e ▸ h
theorem en_is {as' : List α} (h : En r te σ F as) (e : as = as') : En r te σ F as' := e ▸ h
theorem er_to (h : Er r te σ F a) (f : ∀ H v, r.rel H v a → s.rel H v b) : Er s te σ F b := fun H1 e Q q => h H1 e Q fun v H2 e2 k => q v H2 e2 (f _ _ k)
theorem er_var {i : Nat} (h : σ[i]? = some (some v)) (hr : r.rel F v a) : Er r (tVar i) σ F a := fun H1 _ _ q => ⟨v, h, q v H1 (Ex.refl H1) (r.mono part_ex hr)⟩
theorem er_vi {i : Nat} {n : Int} (h : σ[i]? = some (some (.int n))) : Er rInt (tVar i) σ F n := er_var h rfl
theorem er_int {i : Int} : Er rInt (tC (.int i)) σ F i := fun H1 _ _ q => q _ H1 (Ex.refl H1) rfl
theorem er_bl {i : Bool} : Er rBl (tC (.bl i)) σ F i := fun H1 _ _ q => q _ H1 (Ex.refl H1) rfl
theorem er_str {i : Str} : Er rStr (tC (.str i)) σ F i := fun H1 _ _ q => q _ H1 (Ex.refl H1) rfl
theorem er_nonO : Er (rOpt r) (tC .non) σ F none := fun H1 _ _ q => q _ H1 (Ex.refl H1) rfl
theorem er_some (h : Er r te σ F a) : Er (rOpt r) te σ F (some a) := er_to h fun _ _ k => k
/-- two in their order -/
theorem er_two {R : V → V → Hp → Prop} (ha : Er r ta σ F a) (hb : Er s tb σ F b) (e : Ex F H1) (q : ∀ x y H3, Ex H1 H3 → r.rel (part F H1 H3) x a → s.rel (part F H1 H3) y b → R x y H3) : ta σ H1 fun x H2 => tb σ H2 fun y H3 => R x y H3 :=
  ha H1 e _ fun x H2 e2 k1 => hb H2 (e.trans e2) _ fun y H3 e3 k2 => q x y H3 (e2.trans e3) (r.mono (part_up e3) k1) (s.mono (part_back e2) k2)
theorem er_I0 {f : Int → Int → Int} {i j : Int} (ha : Er rInt ta σ F i) (hb : Er rInt tb σ F j) : Er rInt (tOp (rI0 fun i j => .int (f i j)) ta tb) σ F (f i j) := fun H1 e Q q =>
  er_two ha hb e fun x y H3 e3 k1 k2 => ⟨i, j, k1, k2, q _ H3 e3 rfl⟩
theorem er_I {C : Int → Int → Prop} {f : Int → Int → Int} {i j : Int} (ha : Er rInt ta σ F i) (hb : Er rInt tb σ F j) (hc : C i j) : Er rInt (tOp (rI C fun i j => .int (f i j)) ta tb) σ F (f i j) := fun H1 e Q q =>
  er_two ha hb e fun x y H3 e3 k1 k2 => ⟨i, j, k1, k2, hc, q _ H3 e3 rfl⟩
theorem er_cmp0 {f : Int → Int → Bool} {i j : Int} (ha : Er rInt ta σ F i) (hb : Er rInt tb σ F j) : Er rBl (tOp (rI0 fun i j => .bl (f i j)) ta tb) σ F (f i j) := fun H1 e Q q =>
  er_two ha hb e fun x y H3 e3 k1 k2 => ⟨i, j, k1, k2, q _ H3 e3 rfl⟩
theorem er_neg {i : Int} (ha : Er rInt ta σ F i) : Er rInt (tUn (rU fun i => .int (-i)) ta) σ F (-i) := fun H1 e Q q => ha H1 e _ fun x H2 e2 k => ⟨i, k, q _ H2 e2 rfl⟩
theorem er_eqI {i j : Int} (ha : Er rInt ta σ F i) (hb : Er rInt tb σ F j) : Er rBl (tOp rEq ta tb) σ F (decide (i = j)) := fun H1 e Q q =>
  er_two ha hb e fun x y H3 e3 k1 k2 => by
    cases (show x = V.int i from k1)
    cases (show y = V.int j from k2)
    refine ⟨rfl, ?_⟩
    rw [show decide (V.int i = V.int j) = decide (i = j) from decide_eq_decide.mpr ⟨fun z => V.int.inj z, fun z => congrArg V.int z⟩]
    exact q _ H3 e3 rfl
theorem er_neI {i j : Int} (ha : Er rInt ta σ F i) (hb : Er rInt tb σ F j) : Er rBl (tOp rNe ta tb) σ F (!decide (i = j)) := fun H1 e Q q =>
  er_two ha hb e fun x y H3 e3 k1 k2 => by
    cases (show x = V.int i from k1)
    cases (show y = V.int j from k2)
    refine ⟨rfl, ?_⟩
    rw [show decide (V.int i = V.int j) = decide (i = j) from decide_eq_decide.mpr ⟨fun z => V.int.inj z, fun z => congrArg V.int z⟩]
    exact q _ H3 e3 rfl
theorem er_eqB {i j : Bool} (ha : Er rBl ta σ F i) (hb : Er rBl tb σ F j) : Er rBl (tOp rEq ta tb) σ F (decide (i = j)) := fun H1 e Q q =>
  er_two ha hb e fun x y H3 e3 k1 k2 => by
    cases (show x = V.bl i from k1)
    cases (show y = V.bl j from k2)
    refine ⟨rfl, ?_⟩
    rw [show decide (V.bl i = V.bl j) = decide (i = j) from decide_eq_decide.mpr ⟨fun z => V.bl.inj z, fun z => congrArg V.bl z⟩]
    exact q _ H3 e3 rfl
theorem er_neB {i j : Bool} (ha : Er rBl ta σ F i) (hb : Er rBl tb σ F j) : Er rBl (tOp rNe ta tb) σ F (!decide (i = j)) := fun H1 e Q q =>
  er_two ha hb e fun x y H3 e3 k1 k2 => by
    cases (show x = V.bl i from k1)
    cases (show y = V.bl j from k2)
    refine ⟨rfl, ?_⟩
    rw [show decide (V.bl i = V.bl j) = decide (i = j) from decide_eq_decide.mpr ⟨fun z => V.bl.inj z, fun z => congrArg V.bl z⟩]
    exact q _ H3 e3 rfl
theorem et_test {b : Bool} (h : Er rBl te σ F b) : EvT (tTest te) σ F b := fun H1 e _ q => h H1 e _ fun v H2 e2 k => ⟨b, k, q H2 e2⟩
theorem et_B {b : Bool} (h : Er rBl te σ F b) : EvT (tB te) σ F b := fun H1 e _ q => h H1 e _ fun v H2 e2 k => ⟨b, k, q H2 e2⟩
theorem er_if {b : Bool} (h : EvT t σ F b) (h1 : b = true → Er r ta σ F a) (h2 : b = false → Er r tb σ F a) : Er r (tIf t ta tb) σ F a := fun H1 e Q q => h H1 e _ fun H2 e2 => by
  cases b with
  | true =>
    show ta σ H2 Q
    exact h1 rfl H2 (e.trans e2) Q fun v H3 e3 k => q v H3 (e2.trans e3) (r.mono (part_back e2) k)
  | false =>
    show tb σ H2 Q
    exact h2 rfl H2 (e.trans e2) Q fun v H3 e3 k => q v H3 (e2.trans e3) (r.mono (part_back e2) k)
theorem er_andV {a b : Bool} (h1 : Er rBl ta σ F a) (h2 : a = true → Er rBl tb σ F b) : Er rBl (tAndV ta tb) σ F (a && b) := fun H1 e Q q => h1 H1 e _ fun v H2 e2 k => ⟨a, k, by
  cases a with
  | true =>
    show tb σ H2 Q
    exact h2 rfl H2 (e.trans e2) Q fun v H3 e3 k => q v H3 (e2.trans e3) k
  | false =>
    show Q (.bl false) H2
    exact q _ H2 e2 rfl⟩
theorem er_orV {a b : Bool} (h1 : Er rBl ta σ F a) (h2 : a = false → Er rBl tb σ F b) : Er rBl (tOrV ta tb) σ F (a || b) := fun H1 e Q q => h1 H1 e _ fun v H2 e2 k => ⟨a, k, by
  cases a with
  | true =>
    show Q (.bl true) H2
    exact q _ H2 e2 rfl
  | false =>
    show tb σ H2 Q
    exact h2 rfl H2 (e.trans e2) Q fun v H3 e3 k => q v H3 (e2.trans e3) k⟩
theorem er_notV {a : Bool} (h1 : Er rBl ta σ F a) : Er rBl (tNotV ta) σ F (!a) := fun H1 e Q q => h1 H1 e _ fun v H2 e2 k => ⟨a, k, q _ H2 e2 rfl⟩
/-! arguments -/
theorem ea_nil : Ea (fun _ vs => vs = []) tNil σ F := fun H1 _ _ q => q [] H1 (Ex.refl H1) rfl
def HCons (r : Rep α) (a : α) (P : Hp → List V → Prop) : Hp → List V → Prop := fun G vs => ∃ v ws, vs = v :: ws ∧ r.rel G v a ∧ P G ws
def MonoP (P : Hp → List V → Prop) : Prop := ∀ {G G' : Hp} {vs : List V}, Ex G G' → P G vs → P G' vs
theorem ea_cons {tr : TA} {P : Hp → List V → Prop} (h : Er r ta σ F a) (hr : Ea P tr σ F) (hP : MonoP P) : Ea (HCons r a P) (tCons ta tr) σ F := fun H1 e _ q =>
  h H1 e _ fun v H2 e2 k => hr H2 (e.trans e2) _ fun ws H3 e3 k3 => q _ H3 (e2.trans e3) ⟨v, ws, rfl, r.mono (part_up e3) k, hP (part_back e2) k3⟩
theorem mono_nil : MonoP (fun _ vs => vs = []) := fun _ h => h
theorem mono_cons {P : Hp → List V → Prop} (hP : MonoP P) : MonoP (HCons r a P) := fun e ⟨v, ws, h, k, p⟩ => ⟨v, ws, h, r.mono e k, hP e p⟩
def A1 (r : Rep α) (a : α) : Hp → List V → Prop := fun G vs => ∃ v, vs = [v] ∧ r.rel G v a
def A2 (r : Rep α) (s : Rep β) (a : α) (b : β) : Hp → List V → Prop := fun G vs => ∃ v w, vs = [v, w] ∧ r.rel G v a ∧ s.rel G w b
def A3 (r : Rep α) (s : Rep β) (t : Rep γ) (a : α) (b : β) (c : γ) : Hp → List V → Prop := fun G vs => ∃ v w x, vs = [v, w, x] ∧ r.rel G v a ∧ s.rel G w b ∧ t.rel G x c
theorem ea1 (h : Er r ta σ F a) : Ea (A1 r a) (tCons ta tNil) σ F := fun H1 e _ q => h H1 e _ fun v H2 e2 k => q _ H2 e2 ⟨v, rfl, k⟩
theorem ea2 (h : Er r ta σ F a) (h2 : Er s tb σ F b) : Ea (A2 r s a b) (tCons ta (tCons tb tNil)) σ F := fun H1 e _ q => er_two h h2 e fun x y H3 e3 k1 k2 => q _ H3 e3 ⟨x, y, rfl, k1, k2⟩
theorem ea3 {tz : TE} {z : Rep γ} {c : γ} (h : Er r ta σ F a) (h2 : Er s tb σ F b) (h3 : Er z tz σ F c) : Ea (A3 r s z a b c) (tCons ta (tCons tb (tCons tz tNil))) σ F := fun H1 e _ q =>
  er_two (R := fun x y H3 => tz σ H3 fun w H4 => _) h h2 e fun x y H3 e3 k1 k2 => h3 H3 (e.trans e3) _ fun w H4 e4 k3 => q _ H4 (e3.trans e4) ⟨x, y, w, rfl, r.mono (part_up e4) k1, s.mono (part_up e4) k2, z.mono (part_back e3) k3⟩
theorem mono1 : MonoP (A1 r a) := fun e ⟨v, h, k⟩ => ⟨v, h, r.mono e k⟩
theorem mono2 : MonoP (A2 r s a b) := fun e ⟨v, w, h, k, l⟩ => ⟨v, w, h, r.mono e k, s.mono e l⟩
theorem mono3 {z : Rep γ} {c : γ} : MonoP (A3 r s z a b c) := fun e ⟨v, w, x, h, k, l, m⟩ => ⟨v, w, x, h, r.mono e k, s.mono e l, z.mono e m⟩
/-! promises: P says what the arguments stand for; a value | a new list -/
def spV (s : Rep β) (W : (Hp → List V → Prop) → β → Prop) : Sp := fun vs H Q _ => ∃ F P b, Ex F H ∧ MonoP P ∧ W P b ∧ P F vs ∧ ∀ v H2, Ex H H2 → s.rel (part F H H2) v b → Q v H2
def spN (s : Rep β) (W : (Hp → List V → Prop) → List β → Prop) : Sp := fun vs H Q _ => ∃ F P b, Ex F H ∧ MonoP P ∧ W P b ∧ P F vs ∧ ∀ p H2, Ex H H2 → New s b F H H2 p → Q (.ref p) H2
theorem er_call {W : (Hp → List V → Prop) → β → Prop} {P : Hp → List V → Prop} {E : XK} {tr : TA} (h : Ea P tr σ F) (hP : MonoP P) (w : W P b) : Er s (tCall (spV s W) [] E tr) σ F b := fun H1 e Q q =>
  h H1 e _ fun vs H2 e2 k => ⟨part F H1 H2, P, b, part_sub (e.trans e2), hP, w, by rw [List.append_nil]; exact k, fun v H3 e3 k3 => q v H3 (e2.trans e3) (s.mono (part_part e2 (Ex.refl H2) e3) k3)⟩
theorem en_call {W : (Hp → List V → Prop) → List β → Prop} {P : Hp → List V → Prop} {bs : List β} {E : XK} {tr : TA} (h : Ea P tr σ F) (hP : MonoP P) (w : W P bs) : En s (tCall (spN s W) [] E tr) σ F bs := fun H1 e Q q =>
  h H1 e _ fun vs H2 e2 k => ⟨part F H1 H2, P, bs, part_sub (e.trans e2), hP, w, by rw [List.append_nil]; exact k, fun p H3 e3 ⟨k1, xs, k2, k3⟩ => q p H3 (e2.trans e3) ⟨back_none e2 k1, xs, k2, k3.imp fun _ _ k => s.mono (mns_up (part_part e2 (Ex.refl H2) e3)) k⟩⟩
end
end DL
set_option Elab.async false
set_option linter.all false
set_option maxRecDepth 100000
set_option maxHeartbeats 2000000
namespace DL
open PySem L2 Evl
/-! ### sources of loops -/
section
variable {α β γ δ : Type} {K : PySem.W.Frag} {σ σ2 : L2.St} {F G H H1 H2 H3 : Hp} {ta tb te tl tx : TE} {t u : TT} {v : V} {r : Rep α} {s : Rep β} {a : α} {b : β} {as : List α} {bs : List β}
def YD (G : Hp) (r : Rep α) (as : List α) : Nat → Hp → V → Hp → Prop := fun i H x H' => Ex H H' ∧ ∃ a, as[i]? = some a ∧ r.rel (part G H H') x a
def Src (wi : TI) (σ : L2.St) (F : Hp) (r : Rep α) (as : List α) : Prop :=
  ∀ H1, Ex F H1 → ∀ R : It → Hp → Prop, (∀ J H2, Ex H1 H2 → Walk J as.length (fun H => Ex (part F H1 H2) H) (YD (part F H1 H2) r as) → R J H2) → wi σ H1 R
theorem Src.mono {wi : TI} (e : Ex F G) (h : Src wi σ F r as) : Src wi σ G r as := fun H1 e1 R k => h H1 (e.trans e1) R fun J H2 e2 w => k J H2 e2 (w.mono (fun H hh => (part_frame e e1).trans hh) fun i H x H' hi hG ⟨y1, a, y2, y3⟩ => ⟨y1, a, y2, r.mono (part_frame (part_frame e e1) hG) y3⟩)
theorem src_is {wi : TI} {as' : List α} (h : Src wi σ F r as) (e : as = as') : Src wi σ F r as' := e ▸ h
theorem walkL {p : Addr} {xs : List V} (hp : G p = some (.lst xs)) (ha : Al (r.rel G) xs as) : Walk (Itl K p) as.length (fun H => Ex G H) (YD G r as) := by
  have w := walk_list (K := K) (a := p) (xs := xs)
  rw [ha.len] at w
  refine w.mono (fun H e => SqL.of (e p _ hp)) fun i H x H' hi e ⟨y1, y2⟩ => ?_
  subst y1
  obtain ⟨a, h1, h2⟩ := ha.get y2
  exact ⟨Ex.refl _, a, h1, r.mono part_ex h2⟩
theorem src_list (h : Er (rLst r) tl σ F as) : Src (iList K tl) σ F r as := fun H1 e R k => h H1 e _ fun v H2 e2 ⟨p, xs, hv, hp, ha⟩ =>
  ⟨p, hv, ⟨xs, SqL.of (part_sub (e.trans e2) p _ hp)⟩, k _ H2 e2 (walkL hp ha)⟩
theorem src_tup (h : Er (rTup r) tl σ F as) : Src (iTup K tl) σ F r as := fun H1 e R k => h H1 e _ fun v H2 e2 ⟨p, xs, hv, hp, ha⟩ => by
  refine ⟨p, hv, ⟨xs, SqT.of (part_sub (e.trans e2) p _ hp)⟩, k _ H2 e2 ?_⟩
  have w := walk_tup (K := K) (a := p) (xs := xs)
  rw [ha.len] at w
  refine w.mono (fun H e => SqT.of (e p _ hp)) fun i H x H' hi e ⟨y1, y2⟩ => ?_
  subst y1
  obtain ⟨a, h1, h2⟩ := ha.get y2
  exact ⟨Ex.refl _, a, h1, r.mono part_ex h2⟩
theorem src_fro {ns : List Int} (h : Er (rFro K) tl σ F ns) : Src (iList K tl) σ F rInt ns := fun H1 e R k => h H1 e _ fun v H2 e2 ⟨p, hv, hp⟩ => by
  refine ⟨p, hv, ⟨_, ex_l (part_sub (e.trans e2)) hp⟩, k _ H2 e2 ?_⟩
  have w := walk_list (K := K) (a := p) (xs := ns.map V.int)
  rw [List.length_map] at w
  refine w.mono (fun H e => ex_l e hp) fun i H x H' hi e ⟨y1, y2⟩ => ?_
  subst y1
  rw [List.getElem?_map] at y2
  cases hn : ns[i]? with
  | none => rw [hn] at y2; cases y2
  | some n =>
    rw [hn] at y2
    exact ⟨Ex.refl _, n, hn, (Option.some.inj y2).symm⟩
/-- lo, lo + 1, .. -/
def rng (lo : Int) (n : Nat) : List Int := (List.range n).map fun (i : Nat) => lo + (i : Int)
theorem rng_len {lo : Int} {n : Nat} : (rng lo n).length = n := by
  unfold rng
  rw [List.length_map, List.length_range]
theorem rng_get {lo : Int} {n i : Nat} (h : i < n) : (rng lo n)[i]? = some (lo + (i : Int)) := by
  unfold rng
  rw [List.getElem?_map, List.getElem?_range h]
  rfl
theorem mem_rng {lo x : Int} {n : Nat} : x ∈ rng lo n ↔ lo ≤ x ∧ x < lo + (n : Int) := by
  unfold rng
  rw [List.mem_map]
  constructor
  · rintro ⟨i, hi, rfl⟩
    have := List.mem_range.mp hi
    omega
  · rintro ⟨h1, h2⟩
    exact ⟨(x - lo).toNat, List.mem_range.mpr (by omega), by omega⟩
theorem walkR {lo : Int} {n : Nat} : Walk (Itr lo n) (rng lo n).length (fun H => Ex G H) (YD G rInt (rng lo n)) := by
  rw [rng_len]
  refine walk_range.mono (fun _ _ => trivial) fun i H x H' hi e ⟨y1, y2⟩ => ?_
  subst y1
  exact ⟨Ex.refl _, _, rng_get hi, y2⟩
theorem src_rng1 {ta : TA} {n : Int} (h : Ea (A1 rInt n) ta σ F) (hn : -1000000 ≤ n ∧ n ≤ 1000000) : Src (iRng1 ta) σ F rInt (rng 0 n.toNat) := fun H1 e R k => h H1 e _ fun vs H2 e2 ⟨v, hv, hr⟩ => by
  cases (show v = V.int n from hr)
  exact ⟨n, hv, by omega, by omega, k _ H2 e2 walkR⟩
theorem src_rng2 {ta : TA} {lo n : Int} (h : Ea (A2 rInt rInt lo n) ta σ F) (hn : -1000000 ≤ lo ∧ lo ≤ 1000000 ∧ -1000000 ≤ n ∧ n ≤ 1000000) : Src (iRng2 ta) σ F rInt (rng lo (n - lo).toNat) := fun H1 e R k => h H1 e _ fun vs H2 e2 ⟨v, w, hv, hr, hw⟩ => by
  cases (show v = V.int lo from hr)
  cases (show w = V.int n from hw)
  exact ⟨lo, n, hv, by omega, k _ H2 e2 walkR⟩
theorem pair_new {T : Addr} {x y : V} {a : α} {b : β} (eG : Ex G H) (hT : H T = none) (hx : r.rel G x a) (hy : s.rel G y b) : (rPair r s).rel (part G H (upd H T (.tup [x, y]))) (.ref T) (a, b) := by
  refine ⟨T, x, y, rfl, ?_, r.mono part_ex hx, s.mono part_ex hy⟩
  rw [part_new (back_none eG hT) hT]
  exact upd_same
theorem src_enum {ta : TA} (h : Ea (A1 (rLst r) as) ta σ F) : Src (iEnum K ta) σ F (rPair rInt r) (List.zip (rng 0 as.length) as) := fun H1 e R k => h H1 e _ fun vs H2 e2 ⟨v, hv, p, xs, hv2, hp, ha⟩ => by
  subst hv2
  refine ⟨p, xs, hv, SqL.of (part_sub (e.trans e2) p _ hp), k _ H2 e2 ?_⟩
  have w := walk_enum (K := K) (a := p) (xs := xs)
  rw [ha.len] at w
  rw [List.length_zip, rng_len, Nat.min_self]
  refine w.mono (fun H e => SqL.of (e p _ hp)) fun i H x H' hi e ⟨T, y, z, y1, y2, y3, y4, y5⟩ => ?_
  subst y1
  subst y3
  obtain ⟨a, h1, h2⟩ := ha.get y5
  refine ⟨Ex.new y2, ((0 : Int) + (i : Int), a), ?_, pair_new e y2 ?_ h2⟩
  · rw [List.getElem?_zip_eq_some]
    exact ⟨rng_get hi, h1⟩
  · show y = V.int ((0 : Int) + (i : Int))
    rw [Int.zero_add]
    exact (Option.some.inj y4).symm
theorem src_zip {ta : TA} (h : Ea (A2 (rLst r) (rLst s) as bs) ta σ F) : Src (iZip K ta) σ F (rPair r s) (List.zip as bs) := fun H1 e R k => h H1 e _ fun vs H2 e2 ⟨v, w, hv, ⟨p, xs, hv2, hp, ha⟩, ⟨q, ys, hw2, hq, hb⟩⟩ => by
  subst hv2 hw2
  refine ⟨p, q, xs, ys, hv, SqL.of (part_sub (e.trans e2) p _ hp), SqL.of (part_sub (e.trans e2) q _ hq), k _ H2 e2 ?_⟩
  have w := walk_zip (K := K) (a := p) (b := q) (xs := xs) (ys := ys) (n := (List.zip as bs).length) (by rw [List.length_zip, ha.len, hb.len])
  refine w.mono (fun H e => ⟨SqL.of (e p _ hp), SqL.of (e q _ hq)⟩) fun i H x H' hi e ⟨T, y, z, y1, y2, y3, y4, y5⟩ => ?_
  subst y1
  subst y3
  obtain ⟨a, h1, h2⟩ := ha.get y4
  obtain ⟨b, h3, h4⟩ := hb.get y5
  refine ⟨Ex.new y2, (a, b), ?_, pair_new e y2 h2 h4⟩
  rw [List.getElem?_zip_eq_some]
  exact ⟨h1, h3⟩
/-! ### targets -/
def Tgt (g : TG) (r : Rep α) (S : Hp → α → L2.St → L2.St → Prop) : Prop := ∀ G H x a σ (Q : L2.St → Hp → Prop), Ex G H → r.rel G x a → (∀ σ2, S G a σ σ2 → Q σ2 H) → g x σ H Q
def SN (r : Rep α) (j : Nat) : Hp → α → L2.St → L2.St → Prop := fun G a σ σ2 => ∃ x, r.rel G x a ∧ σ2 = σ.set j (some x)
def SPr (r : Rep α) (s : Rep β) (i j : Nat) : Hp → α × β → L2.St → L2.St → Prop := fun G c σ σ2 => ∃ x y, r.rel G x c.1 ∧ s.rel G y c.2 ∧ σ2 = (σ.set i (some x)).set j (some y)
theorem tgt_n {j : Nat} : Tgt (gName j) r (SN r j) := fun G H x a σ Q _ hx k => k _ ⟨x, hx, rfl⟩
theorem tgt_p {i j : Nat} : Tgt (gTup K 2 (gCons (gName i) (gCons (gName j) gNil))) (rPair r s) (SPr r s i j) := fun G H x c σ Q e ⟨p, y, z, hx, ht, h1, h2⟩ k =>
  ⟨p, [y, z], hx, SqT.of (e p _ ht), rfl, y, [z], rfl, z, [], rfl, rfl, k _ ⟨y, z, h1, h2, rfl⟩⟩
/-! ### loops -/
/-- for: Pv by the frame (what stands still), the items taken, the slots and the heap -/
theorem d_for {wi : TI} {g : TG} {tb : TS} {D : Ends} {S : Hp → α → L2.St → L2.St → Prop} (h : Src wi σ F r as) (hg : Tgt g r S) (e : Ex F H) (Pv : Hp → List α → L2.St → Hp → Prop)
    (hG : ∀ G pre σ' H', Pv G pre σ' H' → Ex G H') (h0 : ∀ H1, Ex H H1 → Pv (part F H H1) [] σ H1)
    (hs : ∀ G pre a post σ' H' H'' σ2, as = pre ++ a :: post → Pv G pre σ' H' → Ex H' H'' → S (part G H' H'') a σ' σ2 → tb { D with nx := Pv G (pre ++ [a]), ct := Pv G (pre ++ [a]), bk := D.nx } σ2 H'')
    (hd : ∀ G σ' H', Pv G as σ' H' → D.nx σ' H') : tFor wi g tb D σ H := h H e _ fun J H1 e1 w => by
  refine for_it w (fun i σ' H' => Pv (part F H H1) (as.take i) σ' H') (h0 H1 e1) (fun i σ' H' _ p => hG _ _ _ _ p) (fun i x σ' H' H'' hi p ⟨y1, a, y2, y3⟩ => ?_) (fun σ' H' p => ?_)
  · refine hg _ H'' x a σ' _ (part_sub ((hG _ _ _ _ p).trans y1)) y3 fun σ2 hS => ?_
    have hl : i < as.length := hi
    have et : as.take (i + 1) = as.take i ++ [a] := by
      rw [List.take_add_one, y2]
      rfl
    have q := hs (part F H H1) (as.take i) a (as.drop (i + 1)) σ' H' H'' σ2 (by
      rw [List.getElem?_eq_getElem hl] at y2
      cases y2
      rw [← List.drop_eq_getElem_cons hl, List.take_append_drop]) p y1 hS
    rw [← et] at q
    exact q
  · rw [List.take_length] at p
    exact hd _ _ _ p
/-! ### comprehensions -/
theorem en_lc {wi : TI} {g : TG} {S : Hp → α → L2.St → L2.St → Prop} {tt : TT} {vs : List Nat} (f : α → Bool) (m : α → β) (h : Src wi σ F r as) (hg : Tgt g r S) (hn : as.length < 100000)
    (hw : ∀ a ∈ as, ∀ G σ2, Ex F G → S G a (wipe σ vs) σ2 → wipe σ2 vs = wipe σ vs ∧ EvT tt σ2 G (f a) ∧ (f a = true → Er s te σ2 G (m a))) :
    En s (tLc wi g tt te vs) σ F ((as.filter f).map m) := fun H1 e Q q => h H1 e _ fun J H2 e2 w D hD => by
  have mem : ∀ i a, as[i]? = some a → a ∈ as := fun i a h => List.mem_of_getElem? h
  have tk : ∀ i a, as[i]? = some a → as.take (i + 1) = as.take i ++ [a] := fun i a h => by
    rw [List.take_add_one, h]
    rfl
  refine lc_it w (fun i H' => ∃ acc, H' D = some (.lst acc) ∧ Ex H2 (mns H' D) ∧ Al (s.rel (mns (part F H1 H') D)) acc (((as.take i).filter f).map m)) ?_ ?_ ?_ ?_
  · refine ⟨[], upd_same, ?_, .nil⟩
    rw [mns_upd]
    exact ex_mns (Ex.refl _) hD
  · rintro i H' _ ⟨acc, h1, h2, _⟩
    exact (part_sub (e.trans e2)).trans (h2.trans mns_sub)
  · rintro i x H' H'' hi ⟨acc, h1, h2, h3⟩ ⟨y1, a, y2, y3⟩
    have hlen : acc.length < 100000 := by
      have l1 := h3.len
      rw [List.length_map] at l1
      have l2 := List.length_filter_le f (as.take i)
      rw [List.length_take] at l2
      omega
    have eF : Ex F H'' := (e.trans e2).trans ((h2.trans mns_sub).trans y1)
    have eG : Ex (part F H1 H2) H' := (part_sub (e.trans e2)).trans (h2.trans mns_sub)
    refine hg _ H'' x a _ _ (part_sub (eG.trans y1)) y3 fun σ2 hS => ?_
    obtain ⟨hwp, ht, he⟩ := hw a (mem _ _ y2) _ σ2 (part_ex.trans part_ex) hS
    refine ⟨hwp, ht H'' (part_sub (eG.trans y1)) _ fun H3 e3 => ?_⟩
    have e12 : Ex H2 H3 := (h2.trans mns_sub).trans (y1.trans e3)
    cases hf : f a with
    | false =>
      refine ⟨acc, e3 D _ (y1 D _ h1), ex_mns e12 hD, ?_⟩
      rw [tk i a y2, List.filter_append, List.filter_cons, if_neg (by rw [hf]; decide), List.filter_nil, List.append_nil]
      exact h3.imp fun _ _ k => s.mono (mns_up (part_up (y1.trans e3))) k
    | true =>
      refine he hf H3 ((part_sub (eG.trans y1)).trans e3) _ fun z H4 e4 rz => ?_
      refine ⟨acc, e4 D _ (e3 D _ (y1 D _ h1)), sz_lt hlen, acc ++ [z], upd_same, ?_, ?_⟩
      · rw [mns_upd]
        exact ex_mns (e12.trans e4) hD
      · rw [tk i a y2, List.filter_append, List.filter_cons, if_pos hf, List.filter_nil, List.map_append]
        have up : Ex (mns (part F H1 H4) D) (mns (part F H1 (upd H4 D (.lst (acc ++ [z])))) D) := fun q o hq => by
          have nq : q ≠ D := fun e => by
            rw [e, mns_at] at hq
            cases hq
          rw [mns_ne nq] at hq ⊢
          cases hF : F q with
          | some u => rw [part_in hF] at hq ⊢; exact hq
          | none =>
            cases hH : H1 q with
            | some u => rw [part_old hF hH] at hq; cases hq
            | none =>
              rw [part_new hF hH] at hq ⊢
              rw [upd_ne nq]
              exact hq
        refine Al.snoc (h3.imp fun _ _ k => s.mono ((mns_up (part_up (y1.trans (e3.trans e4)))).trans up) k) (s.mono (Ex.trans ?_ up) rz)
        -- what the turn made lies beside D
        have a1 : Ex (part (part (part F H1 H2) H' H'') H3 H4) (part F H1 H4) := fun q o hq => by
          cases hp : part (part F H1 H2) H' H'' q with
          | some u =>
            rw [part_in hp] at hq
            rw [← hq]
            exact part_up (e3.trans e4) q u (part_part e2 (h2.trans mns_sub) y1 q u hp)
          | none =>
            cases h3' : H3 q with
            | some u => rw [part_old hp h3'] at hq; cases hq
            | none =>
              rw [part_new hp h3'] at hq
              have n1 : H1 q = none := back_none (e2.trans e12) h3'
              rw [part_new (back_none e n1) n1]
              exact hq
        refine ex_mns a1 ?_
        have d2 : part F H1 H2 D = none := by
          have dF : F D = none := back_none (e.trans e2) hD
          rw [part_new dF (back_none e2 hD)]
          exact hD
        have d3 : part (part F H1 H2) H' H'' D = none := part_old d2 h1
        exact part_old d3 (e3 D _ (y1 D _ h1))
  · rintro H' ⟨acc, h1, h2, h3⟩
    rw [List.take_length] at h3
    exact q D H' (e2.trans (h2.trans mns_sub)) ⟨back_none e2 hD, acc, h1, h3⟩
end
end DL
set_option Elab.async false
set_option linter.all false
set_option maxRecDepth 100000
set_option maxHeartbeats 2000000
namespace DL
open PySem L2 Evl
section
variable {α β γ δ : Type} {K : PySem.W.Frag} {σ σ2 : L2.St} {F G H H1 H2 H3 : Hp} {ta tb te tl tx : TE} {t u : TT} {v : V} {r : Rep α} {s : Rep β} {a : α} {b : β} {as as' : List α} {bs : List β} {p q : Addr}
/-! ### mutable lists of the def's own -/
/-- at p a list of its own, beside the frame, whose items stand in the frame -/
def Mu (r : Rep α) (as : List α) (F H : Hp) (p : Addr) : Prop := F p = none ∧ ∃ xs, H p = some (.lst xs) ∧ Al (r.rel F) xs as
theorem New.mu (h : New r as F H1 H2 p) : Mu r as (mns (part F H1 H2) p) H2 p := ⟨mns_at, h.2⟩
theorem New.ex (h : New r as F H1 H2 p) (e : Ex F H1) : Ex F (mns (part F H1 H2) p) := ex_mns part_ex (back_none e h.1)
theorem New.sub (h : New r as F H1 H2 p) (e : Ex F H1) (e2 : Ex H1 H2) : Ex (mns (part F H1 H2) p) H2 := mns_sub.trans (part_sub (e.trans e2))
theorem Mu.up (h : Mu r as F H p) (e : Ex F G) (hG : G p = none) (e2 : Ex H H2) : Mu r as G H2 p := by
  obtain ⟨h1, xs, h2, h3⟩ := h
  exact ⟨hG, xs, e2 p _ h2, h3.imp fun _ _ k => r.mono e k⟩
/-- the frame of what was made is beside p -/
theorem Mu.part (h : Mu r as F H p) (e2 : Ex H H2) : Mu r as (part F H H2) H2 p := by
  obtain ⟨h1, xs, h2, h3⟩ := id h
  exact h.up part_ex (part_old h1 h2) e2
theorem Mu.freeze (h : Mu r as F H p) (e : Ex F H) : ∃ G, Ex F G ∧ Ex G H ∧ (rLst r).rel G (.ref p) as := by
  obtain ⟨h1, xs, h2, h3⟩ := h
  refine ⟨upd F p (.lst xs), Ex.new h1, fun q o hq => ?_, p, xs, rfl, upd_same, h3.imp fun _ _ k => r.mono (Ex.new h1) k⟩
  by_cases hqp : q = p
  · subst hqp
    rw [upd_same] at hq
    rw [← hq]
    exact h2
  · rw [upd_ne hqp] at hq
    exact e q o hq
/-! ### items -/
theorem Al.atI {R : V → α → Prop} {xs : List V} {i : Int} (h : Al R xs as) (ha : L2.atI as i = some a) : ∃ v, L2.atI xs i = some v ∧ R v a := by
  unfold L2.atI at ha ⊢
  rw [h.len]
  cases hx : ixN as.length i with
  | none => rw [hx] at ha; cases ha
  | some j =>
    rw [hx] at ha
    obtain ⟨v, h1, h2⟩ := h.at (show as[j]? = some a from ha)
    exact ⟨v, h1, h2⟩
theorem er_ixL {i : Int} (ha : Er (rLst r) ta σ F as) (hb : Er rInt tb σ F i) (h : L2.atI as i = some a) : Er r (tOp (rIxL K) ta tb) σ F a := fun H1 e Q q =>
  er_two ha hb e fun x y H3 e3 ⟨p, xs, hx, hp, hal⟩ k2 => by
    obtain ⟨v, h1, h2⟩ := hal.atI h
    exact ⟨p, xs, i, v, hx, k2, SqL.of (part_sub (e.trans e3) p _ hp), h1, q v H3 e3 h2⟩
theorem er_ixT {i : Int} (ha : Er (rTup r) ta σ F as) (hb : Er rInt tb σ F i) (h : L2.atI as i = some a) : Er r (tOp (rIxT K) ta tb) σ F a := fun H1 e Q q =>
  er_two ha hb e fun x y H3 e3 ⟨p, xs, hx, hp, hal⟩ k2 => by
    obtain ⟨v, h1, h2⟩ := hal.atI h
    exact ⟨p, xs, i, v, hx, k2, SqT.of (part_sub (e.trans e3) p _ hp), h1, q v H3 e3 h2⟩
theorem er_ixF {i n : Int} {ns : List Int} (ha : Er (rFro K) ta σ F ns) (hb : Er rInt tb σ F i) (h : L2.atI ns i = some n) : Er rInt (tOp (rIxL K) ta tb) σ F n := fun H1 e Q q =>
  er_two ha hb e fun x y H3 e3 ⟨p, hx, hp⟩ k2 => by
    obtain ⟨v, h1, h2⟩ := (ints_rel (H := F) ns).atI h
    exact ⟨p, _, i, v, hx, k2, ex_l (part_sub (e.trans e3)) hp, h1, q v H3 e3 h2⟩
theorem er_fst {c : α × β} (ha : Er (rPair r s) ta σ F c) (hb : Er rInt tb σ F 0) : Er r (tOp (rIxT K) ta tb) σ F c.1 := fun H1 e Q q =>
  er_two ha hb e fun x y H3 e3 ⟨p, x1, y1, hx, hp, h1, h2⟩ k2 => ⟨p, [x1, y1], 0, x1, hx, k2, SqT.of (part_sub (e.trans e3) p _ hp), rfl, q _ H3 e3 h1⟩
theorem er_snd {c : α × β} (ha : Er (rPair r s) ta σ F c) (hb : Er rInt tb σ F 1) : Er s (tOp (rIxT K) ta tb) σ F c.2 := fun H1 e Q q =>
  er_two ha hb e fun x y H3 e3 ⟨p, x1, y1, hx, hp, h1, h2⟩ k2 => ⟨p, [x1, y1], 1, y1, hx, k2, SqT.of (part_sub (e.trans e3) p _ hp), rfl, q _ H3 e3 h2⟩
/-! ### displays -/
def EaL (r : Rep α) (ta : TA) (σ : L2.St) (F : Hp) (as : List α) : Prop := Ea (fun G vs => Al (r.rel G) vs as) ta σ F
theorem eal_nil : EaL r tNil σ F [] := fun H1 _ _ q => q [] H1 (Ex.refl H1) .nil
theorem eal_cons {tr : TA} (h : Er r ta σ F a) (hr : EaL r tr σ F as) : EaL r (tCons ta tr) σ F (a :: as) := fun H1 e _ q =>
  h H1 e _ fun v H2 e2 k => hr H2 (e.trans e2) _ fun ws H3 e3 k3 => q _ H3 (e2.trans e3) (.cons (r.mono (part_up e3) k) (k3.imp fun _ _ k => r.mono (part_back e2) k))
theorem new_at {xs : List V} (e0 : Ex F H1) (e : Ex H1 H2) (hp : H2 p = none) (h : Al (r.rel (part F H1 H2)) xs as) : New r as F H1 (upd H2 p (.lst xs)) p := by
  refine ⟨back_none e hp, xs, upd_same, h.imp fun _ _ k => r.mono (ex_mns ?_ ?_) k⟩
  · exact part_up (Ex.new hp)
  · rw [part_new (back_none (e0.trans e) hp) (back_none e hp)]
    exact hp
theorem en_lst {ta : TA} (h : EaL r ta σ F as) (hl : as.length ≤ 100000) : En r (tLst ta) σ F as := fun H1 e _ q => h H1 e _ fun vs H2 e2 k =>
  ⟨by rw [k.len]; exact sz_of hl, fun p hp => q p _ (e2.trans (Ex.new hp)) (new_at e e2 hp k)⟩
theorem part_upd {o : HO} (e0 : Ex F H1) (e : Ex H1 H2) (hp : H2 p = none) : part F H1 (upd H2 p o) p = some o := by
  rw [part_new (back_none (e0.trans e) hp) (back_none e hp)]
  exact upd_same
theorem er_tup {ta : TA} (h : EaL r ta σ F as) (hl : as.length ≤ 100000) : Er (rTup r) (tTup ta) σ F as := fun H1 e _ q => h H1 e _ fun vs H2 e2 k =>
  ⟨by rw [k.len]; exact sz_of hl, fun p hp => q _ _ (e2.trans (Ex.new hp)) ⟨p, vs, rfl, part_upd e e2 hp, k.imp fun _ _ k => r.mono (part_up (Ex.new hp)) k⟩⟩
theorem er_pair {ta : TA} (h : Ea (A2 r s a b) ta σ F) : Er (rPair r s) (tTup ta) σ F (a, b) := fun H1 e _ q => h H1 e _ fun vs H2 e2 ⟨x, y, hv, hx, hy⟩ => by
  subst hv
  exact ⟨by show 2 ≤ sizeLine; decide, fun p hp => q _ _ (e2.trans (Ex.new hp)) ⟨p, x, y, rfl, part_upd e e2 hp, r.mono (part_up (Ex.new hp)) hx, s.mono (part_up (Ex.new hp)) hy⟩⟩
/-! ### sequences -/
theorem Al.nil_iff {R : V → α → Prop} {xs : List V} (h : Al R xs as) : xs = [] ↔ as = [] := by
  cases h with
  | nil => exact ⟨fun _ => rfl, fun _ => rfl⟩
  | cons _ _ => exact ⟨fun z => (nomatch z), fun z => (nomatch z)⟩
theorem er_catT (ha : Er (rTup r) ta σ F as) (hb : Er (rTup r) tb σ F as') (hl : as.length + as'.length ≤ 100000) : Er (rTup r) (tOp (rCatA K) ta tb) σ F (as ++ as') := fun H1 e Q q =>
  er_two ha hb e fun x y H3 e3 ⟨p, xs, hx, hp, h1⟩ ⟨p', ys, hy, hp', h2⟩ => by
    refine ⟨p, p', xs, ys, hx, hy, SqT.of (part_sub (e.trans e3) p _ hp), SqT.of (part_sub (e.trans e3) p' _ hp'), by rw [h1.len, h2.len]; exact sz_of hl, fun z => ?_, fun z z2 => ?_, fun _ _ c hc => ?_⟩
    · refine q _ H3 e3 ?_
      rw [h1.nil_iff.mp z]
      exact ⟨p', ys, rfl, hp', h2⟩
    · refine q _ H3 e3 ?_
      rw [h2.nil_iff.mp z2, List.append_nil]
      exact ⟨p, xs, rfl, hp, h1⟩
    · exact q _ _ (e3.trans (Ex.new hc)) ⟨c, _, rfl, part_upd e e3 hc, (h1.app h2).imp fun _ _ k => r.mono (part_up (Ex.new hc)) k⟩
theorem en_catL (ha : Er (rLst r) ta σ F as) (hb : Er (rLst r) tb σ F as') (hl : as.length + as'.length ≤ 100000) : En r (tOp rCat ta tb) σ F (as ++ as') := fun H1 e Q q =>
  er_two ha hb e fun x y H3 e3 ⟨p, xs, hx, hp, h1⟩ ⟨p', ys, hy, hp', h2⟩ =>
    ⟨p, p', xs, ys, hx, hy, part_sub (e.trans e3) p _ hp, part_sub (e.trans e3) p' _ hp', by rw [h1.len, h2.len]; exact sz_of hl, fun c hc => q c _ (e3.trans (Ex.new hc)) (new_at e e3 hc (h1.app h2))⟩
theorem Al.rep {R : V → α → Prop} {xs : List V} (h : Al R xs as) : ∀ n : Nat, Al R (List.replicate n xs).flatten (List.replicate n as).flatten
  | 0 => .nil
  | n + 1 => by
    rw [List.replicate_succ, List.replicate_succ, List.flatten_cons, List.flatten_cons]
    exact h.app (Al.rep h n)
theorem en_rep {k : Int} (ha : Er (rLst r) ta σ F as) (hb : Er rInt tb σ F k) (h1 : -100000 ≤ k ∧ k ≤ 100000) (hl : as.length * k.toNat ≤ 100000) : En r (tOp rRep ta tb) σ F (List.replicate k.toNat as).flatten := fun H1 e Q q =>
  er_two ha hb e fun x y H3 e3 ⟨p, xs, hx, hp, h2⟩ hy =>
    ⟨p, k, xs, hx, hy, part_sub (e.trans e3) p _ hp, by omega, by omega, by rw [h2.len]; exact sz_of hl, fun c hc => q c _ (e3.trans (Ex.new hc)) (new_at e e3 hc (h2.rep _))⟩
def cutA (as : List α) (lo hi : Option Int) : List α := (as.drop (HT.sIx as.length 0 lo)).take (HT.sIx as.length as.length hi - HT.sIx as.length 0 lo)
theorem eo_part {i : Int} (h : Er rInt te σ F i) : EvO (tPart te) σ F (some i) := fun H1 e _ q => h H1 e _ fun v H2 e2 k => ⟨i, k, q H2 e2⟩
theorem en_sl {tl th : TO} {lo hi : Option Int} (h : Er (rLst r) te σ F as) (h1 : EvO tl σ F lo) (h2 : EvO th σ F hi) : En r (tSl (rSlL K) te tl th) σ F (cutA as lo hi) := fun H1 e _ q =>
  h H1 e _ fun v H2 e2 ⟨p, xs, hx, hp, hal⟩ => h1 H2 (e.trans e2) _ fun H3 e3 => h2 H3 ((e.trans e2).trans e3) _ fun H4 e4 => by
    refine ⟨p, xs, hx, SqL.of (part_sub (e.trans (e2.trans (e3.trans e4))) p _ (part_up (e3.trans e4) p _ hp)), fun c hc => q c _ ((e2.trans (e3.trans e4)).trans (Ex.new hc)) (new_at e (e2.trans (e3.trans e4)) hc ?_)⟩
    unfold cutV cutA
    rw [hal.len]
    exact ((hal.drop _).take _).imp fun _ _ k => r.mono (part_up (e3.trans e4)) k
theorem er_slT {tl th : TO} {lo hi : Option Int} (h : Er (rTup r) te σ F as) (h1 : EvO tl σ F lo) (h2 : EvO th σ F hi) : Er (rTup r) (tSl (rSlA K) te tl th) σ F (cutA as lo hi) := fun H1 e _ q =>
  h H1 e _ fun v H2 e2 ⟨p, xs, hx, hp, hal⟩ => h1 H2 (e.trans e2) _ fun H3 e3 => h2 H3 ((e.trans e2).trans e3) _ fun H4 e4 => by
    have ee := e2.trans (e3.trans e4)
    refine ⟨p, xs, hx, SqT.of (part_sub (e.trans ee) p _ (part_up (e3.trans e4) p _ hp)), fun hw => ?_, fun hw c hc => ?_⟩
    · have ec : cutA as lo hi = as := by
        unfold cutA
        rw [hal.len] at hw
        rw [hw.1, hw.2, List.drop_zero, Nat.sub_zero, List.take_length]
      refine q _ H4 ee ?_
      rw [ec]
      exact ⟨p, xs, rfl, part_up (e3.trans e4) p _ hp, hal.imp fun _ _ k => r.mono (part_up (e3.trans e4)) k⟩
    · refine q _ _ (ee.trans (Ex.new hc)) ⟨c, _, rfl, part_upd e ee hc, ?_⟩
      unfold cutV cutA
      rw [hal.len]
      exact ((hal.drop _).take _).imp fun _ _ k => r.mono ((part_up (e3.trans e4)).trans (part_up (Ex.new hc))) k
/-! ### built-ins -/
def rLenQ (K : PySem.W.Frag) : List V → Hp → VK → Prop := fun xs H Q => ∃ p ys, xs = [.ref p] ∧ (SqL K H p ys ∨ SqT K H p ys) ∧ Q (.int ys.length) H
theorem er_lenL (h : Er (rLst r) ta σ F as) : Er rInt (tCB (rLenQ K) (tCons ta tNil)) σ F (as.length : Int) := fun H1 e Q q => h H1 e _ fun v H2 e2 ⟨p, xs, hx, hp, hal⟩ =>
  ⟨p, xs, congrArg (· :: []) hx, .inl (SqL.of (part_sub (e.trans e2) p _ hp)), by rw [hal.len]; exact q _ H2 e2 rfl⟩
theorem er_lenT (h : Er (rTup r) ta σ F as) : Er rInt (tCB (rLenQ K) (tCons ta tNil)) σ F (as.length : Int) := fun H1 e Q q => h H1 e _ fun v H2 e2 ⟨p, xs, hx, hp, hal⟩ =>
  ⟨p, xs, congrArg (· :: []) hx, .inr (SqT.of (part_sub (e.trans e2) p _ hp)), by rw [hal.len]; exact q _ H2 e2 rfl⟩
theorem er_lenF {ns : List Int} (h : Er (rFro K) ta σ F ns) : Er rInt (tCB (rLenQ K) (tCons ta tNil)) σ F (ns.length : Int) := fun H1 e Q q => h H1 e _ fun v H2 e2 ⟨p, hx, hp⟩ => by
  refine ⟨p, _, congrArg (· :: []) hx, .inl (ex_l (part_sub (e.trans e2)) hp), ?_⟩
  rw [List.length_map]
  exact q _ H2 e2 rfl
def rTupQ (K : PySem.W.Frag) : List V → Hp → VK → Prop := fun xs H Q => ∃ p ys, xs = [.ref p] ∧ ((SqL K H p ys ∧ ∀ l, H l = none → Q (.ref l) (upd H l (.tup ys))) ∨ (SqT K H p ys ∧ Q (.ref p) H))
theorem er_tupOf (h : Er (rLst r) ta σ F as) : Er (rTup r) (tCB (rTupQ K) (tCons ta tNil)) σ F as := fun H1 e Q q => h H1 e _ fun v H2 e2 ⟨p, xs, hx, hp, hal⟩ =>
  ⟨p, xs, congrArg (· :: []) hx, .inl ⟨SqL.of (part_sub (e.trans e2) p _ hp), fun l hl => q _ _ (e2.trans (Ex.new hl)) ⟨l, xs, rfl, part_upd e e2 hl, hal.imp fun _ _ k => r.mono (part_up (Ex.new hl)) k⟩⟩⟩
def rLstQ (K : PySem.W.Frag) : List V → Hp → VK → Prop := fun xs H Q => ∃ p ys, xs = [.ref p] ∧ (SqL K H p ys ∨ SqT K H p ys) ∧ ∀ l, H l = none → Q (.ref l) (upd H l (.lst ys))
theorem en_listL (h : Er (rLst r) ta σ F as) : En r (tCB (rLstQ K) (tCons ta tNil)) σ F as := fun H1 e Q q => h H1 e _ fun v H2 e2 ⟨p, xs, hx, hp, hal⟩ =>
  ⟨p, xs, congrArg (· :: []) hx, .inl (SqL.of (part_sub (e.trans e2) p _ hp)), fun l hl => q l _ (e2.trans (Ex.new hl)) (new_at e e2 hl hal)⟩
theorem en_listT (h : Er (rTup r) ta σ F as) : En r (tCB (rLstQ K) (tCons ta tNil)) σ F as := fun H1 e Q q => h H1 e _ fun v H2 e2 ⟨p, xs, hx, hp, hal⟩ =>
  ⟨p, xs, congrArg (· :: []) hx, .inr (SqT.of (part_sub (e.trans e2) p _ hp)), fun l hl => q l _ (e2.trans (Ex.new hl)) (new_at e e2 hl hal)⟩
def rInt1 : List V → Hp → VK → Prop := fun xs H Q => (∃ i, xs = [.int i] ∧ Q (.int i) H) ∨ ∃ k, xs = [.bl k] ∧ Q (.int (if k then 1 else 0)) H
theorem er_int1 {i : Int} (h : Er rInt ta σ F i) : Er rInt (tCB rInt1 (tCons ta tNil)) σ F i := fun H1 e Q q => h H1 e _ fun v H2 e2 hv => .inl ⟨i, congrArg (· :: []) hv, q _ H2 e2 rfl⟩
theorem er_int1B {k : Bool} (h : Er rBl ta σ F k) : Er rInt (tCB rInt1 (tCons ta tNil)) σ F (if k then 1 else 0) := fun H1 e Q q => h H1 e _ fun v H2 e2 hv => .inr ⟨k, congrArg (· :: []) hv, q _ H2 e2 rfl⟩
theorem rel_bls {H : Hp} : ∀ {xs : List V} {ns : List Bool}, Al (rBl.rel H) xs ns → xs = ns.map V.bl
  | _, _, .nil => rfl
  | _, _, .cons h t => by
    rw [show _ = V.bl _ from h, rel_bls t]
    rfl
theorem er_any {ks : List Bool} (h : Er (rLst rBl) ta σ F ks) : Er rBl (tCB (rAny K) (tCons ta tNil)) σ F (ks.any id) := fun H1 e Q q => h H1 e _ fun v H2 e2 ⟨p, xs, hx, hp, hal⟩ => by
  rw [rel_bls hal] at hp
  exact ⟨p, ks, congrArg (· :: []) hx, SqL.of (part_sub (e.trans e2) p _ hp), q _ H2 e2 rfl⟩
theorem er_all {ks : List Bool} (h : Er (rLst rBl) ta σ F ks) : Er rBl (tCB (rAll K) (tCons ta tNil)) σ F (ks.all id) := fun H1 e Q q => h H1 e _ fun v H2 e2 ⟨p, xs, hx, hp, hal⟩ => by
  rw [rel_bls hal] at hp
  exact ⟨p, ks, congrArg (· :: []) hx, SqL.of (part_sub (e.trans e2) p _ hp), q _ H2 e2 rfl⟩
theorem inV_ints {n : Int} : ∀ {ns : List Int}, inV (.int n) (ns.map V.int) = decide (n ∈ ns)
  | [] => rfl
  | m :: ns => by
    show (m == n || inV (.int n) (ns.map V.int)) = _
    rw [inV_ints]
    by_cases h : m = n
    · subst h; simp
    · have h2 : ¬ n = m := fun z => h z.symm
      simp [h, h2]
theorem flat_ints : ∀ {ns : List Int}, (ns.map V.int).all flatV = true
  | [] => rfl
  | _ :: ns => by
    show (true && (ns.map V.int).all flatV) = true
    rw [flat_ints]
    rfl
end
end DL
set_option Elab.async false
set_option linter.all false
set_option maxRecDepth 100000
set_option maxHeartbeats 2000000
namespace DL
open PySem L2 Evl
section
variable {α β γ δ : Type} {K : PySem.W.Frag} {σ σ2 : L2.St} {F G H H1 H2 H3 : Hp} {ta tb te tl tx : TE} {t u : TT} {v : V} {r : Rep α} {s : Rep β} {a : α} {b : β} {as as' : List α} {bs : List β} {p q : Addr}
theorem er_inT {n : Int} {ns : List Int} (ha : Er rInt ta σ F n) (hb : Er (rTup rInt) tb σ F ns) : Er rBl (tOp (rIn K false) ta tb) σ F (decide (n ∈ ns)) := fun H1 e Q q =>
  er_two ha hb e fun x y H3 e3 hx ⟨p, xs, hy, hp, hal⟩ => by
    cases (show x = V.int n from hx)
    rw [rel_ints hal] at hp
    refine ⟨p, _, hy, .inr (SqT.of (part_sub (e.trans e3) p _ hp)), rfl, flat_ints, ?_⟩
    rw [inV_ints]
    exact q _ H3 e3 rfl
theorem er_niT {n : Int} {ns : List Int} (ha : Er rInt ta σ F n) (hb : Er (rTup rInt) tb σ F ns) : Er rBl (tOp (rIn K true) ta tb) σ F (!decide (n ∈ ns)) := fun H1 e Q q =>
  er_two ha hb e fun x y H3 e3 hx ⟨p, xs, hy, hp, hal⟩ => by
    cases (show x = V.int n from hx)
    rw [rel_ints hal] at hp
    refine ⟨p, _, hy, .inr (SqT.of (part_sub (e.trans e3) p _ hp)), rfl, flat_ints, ?_⟩
    rw [inV_ints]
    exact q _ H3 e3 rfl
theorem er_inL {n : Int} {ns : List Int} (ha : Er rInt ta σ F n) (hb : Er (rLst rInt) tb σ F ns) : Er rBl (tOp (rIn K false) ta tb) σ F (decide (n ∈ ns)) := fun H1 e Q q =>
  er_two ha hb e fun x y H3 e3 hx ⟨p, xs, hy, hp, hal⟩ => by
    cases (show x = V.int n from hx)
    rw [rel_ints hal] at hp
    refine ⟨p, _, hy, .inl (SqL.of (part_sub (e.trans e3) p _ hp)), rfl, flat_ints, ?_⟩
    rw [inV_ints]
    exact q _ H3 e3 rfl
theorem er_niL {n : Int} {ns : List Int} (ha : Er rInt ta σ F n) (hb : Er (rLst rInt) tb σ F ns) : Er rBl (tOp (rIn K true) ta tb) σ F (!decide (n ∈ ns)) := fun H1 e Q q =>
  er_two ha hb e fun x y H3 e3 hx ⟨p, xs, hy, hp, hal⟩ => by
    cases (show x = V.int n from hx)
    rw [rel_ints hal] at hp
    refine ⟨p, _, hy, .inl (SqL.of (part_sub (e.trans e3) p _ hp)), rfl, flat_ints, ?_⟩
    rw [inV_ints]
    exact q _ H3 e3 rfl
/-- sorted(xs) of ints -/
theorem en_sortI {ns ms : List Int} (h : Er (rLst rInt) ta σ F ns) (hm : ∀ ns' : List Int, ns'.Perm ns → ns'.Pairwise (· ≤ ·) → ns' = ms) : En rInt (tCB (rSortedI K) (tCons ta tNil)) σ F ms := fun H1 e Q q => h H1 e _ fun v H2 e2 ⟨p, xs, hx, hp, hal⟩ => by
  rw [rel_ints hal] at hp
  refine ⟨p, ns, congrArg (· :: []) hx, SqL.of (part_sub (e.trans e2) p _ hp), fun ns' c h1 h2 hc => ?_⟩
  rw [hm ns' h1 h2]
  exact q c _ (e2.trans (Ex.new hc)) (new_at e e2 hc (ints_rel ms))
/-! ### None -/
def rIsNq : R2 := fun x y H Q => y = .non ∧ Q (.bl (decide (x = .non))) H
def rNotNq : R2 := fun x y H Q => y = .non ∧ Q (.bl (!decide (x = .non))) H
def Sol (r : Rep α) : Prop := ∀ H a, ¬ r.rel H .non a
theorem sol_int : Sol rInt := fun _ _ h => by cases (show V.non = V.int _ from h)
theorem sol_lst : Sol (rLst r) := fun _ _ ⟨_, _, h, _⟩ => by cases h
theorem sol_tup : Sol (rTup r) := fun _ _ ⟨_, _, h, _⟩ => by cases h
theorem sol_pair : Sol (rPair r s) := fun _ _ ⟨_, _, _, h, _⟩ => by cases h
theorem opt_non {o : Option α} (hs : Sol r) (h : (rOpt r).rel F v o) : decide (v = V.non) = o.isNone := by
  cases o with
  | none =>
    rw [show v = V.non from h]
    rfl
  | some a =>
    refine decide_eq_false fun z => ?_
    rw [z] at h
    exact hs _ _ h
theorem er_isN {o : Option α} (hs : Sol r) (ha : Er (rOpt r) ta σ F o) : Er rBl (tOp rIsNq ta (tC .non)) σ F o.isNone := fun H1 e Q q => ha H1 e _ fun v H2 e2 k => ⟨rfl, by rw [opt_non hs k]; exact q _ H2 e2 rfl⟩
theorem er_notN {o : Option α} (hs : Sol r) (ha : Er (rOpt r) ta σ F o) : Er rBl (tOp rNotNq ta (tC .non)) σ F (!o.isNone) := fun H1 e Q q => ha H1 e _ fun v H2 e2 k => ⟨rfl, by rw [opt_non hs k]; exact q _ H2 e2 rfl⟩
/-! ### truth of a list, a tuple -/
def tTru (K : PySem.W.Frag) (te : TE) : TT := fun σ H R => te σ H fun v H2 => ∃ b, TruV K v H2 b ∧ R b H2
theorem et_lst (h : Er (rLst r) ta σ F as) : EvT (tTru K ta) σ F (!as.isEmpty) := fun H1 e Q q => h H1 e _ fun v H2 e2 ⟨p, xs, hx, hp, hal⟩ => by
  subst hx
  refine ⟨!as.isEmpty, .inl ⟨xs, SqL.of (part_sub (e.trans e2) p _ hp), ?_⟩, q H2 e2⟩
  cases hal <;> rfl
theorem et_tup (h : Er (rTup r) ta σ F as) : EvT (tTru K ta) σ F (!as.isEmpty) := fun H1 e Q q => h H1 e _ fun v H2 e2 ⟨p, xs, hx, hp, hal⟩ => by
  subst hx
  refine ⟨!as.isEmpty, .inr (.inl ⟨xs, SqT.of (part_sub (e.trans e2) p _ hp), ?_⟩), q H2 e2⟩
  cases hal <;> rfl
/-! ### equality of data -/
structure Enc (K : PySem.W.Frag) (r : Rep α) [DecidableEq α] where
  enc : α → PyData
  d : Nat
  dp : ∀ {H : Hp} {v : V} {a : α}, r.rel H v a → Dp K H v (enc a)
  eqv : ∀ a b, PyData.eqv (enc a) (enc b) = decide (a = b)
  can : ∀ a, (enc a).canLay0 = true
  dep : ∀ a, (enc a).depth ≤ d
theorem Enc.shaped [DecidableEq α] (E : Enc K r) (h : E.d ≤ 64) (a : α) : SeqAt.shaped (E.enc a) = true := by
  unfold SeqAt.shaped
  rw [E.can, decide_eq_true (Nat.le_trans (E.dep a) h)]
  rfl
def eInt : Enc K rInt where
  enc := .int
  d := 0
  dp := fun h => by
    cases h
    exact .int _
  eqv := fun a b => by
    show (a == b) = _
    by_cases h : a = b
    · subst h; simp
    · simp [h]
  can := fun _ => rfl
  dep := fun _ => Nat.zero_le _
def eBl : Enc K rBl where
  enc := .bool
  d := 0
  dp := fun h => by
    cases h
    exact .bl _
  eqv := fun a b => by cases a <;> cases b <;> rfl
  can := fun _ => rfl
  dep := fun _ => Nat.zero_le _
section
variable [DecidableEq α] [DecidableEq β] (E : Enc K r) (E' : Enc K s)
theorem Enc.all {H : Hp} : ∀ {xs : List V} {as : List α}, Al (r.rel H) xs as → DpAll K H xs (as.map E.enc)
  | _, _, .nil => .nil
  | _, _, .cons h t => .cons (E.dp h) (Enc.all t)
theorem Enc.eqvAll : ∀ as bs : List α, PyData.eqvAll (as.map E.enc) (bs.map E.enc) = decide (as = bs)
  | [], [] => rfl
  | [], _ :: _ => rfl
  | _ :: _, [] => rfl
  | a :: as, b :: bs => by
    show (PyData.eqv (E.enc a) (E.enc b) && PyData.eqvAll (as.map E.enc) (bs.map E.enc)) = _
    rw [E.eqv, Enc.eqvAll as bs]
    by_cases h : a = b <;> by_cases h2 : as = bs <;> simp [h, h2]
theorem Enc.canAll : ∀ as : List α, PyData.canLayAll0 (as.map E.enc) = true
  | [] => rfl
  | a :: as => by
    show ((E.enc a).canLay0 && PyData.canLayAll0 (as.map E.enc)) = true
    rw [E.can, Enc.canAll as]
    rfl
theorem Enc.depAll : ∀ as : List α, PyData.depthAll (as.map E.enc) ≤ E.d
  | [] => Nat.zero_le _
  | a :: as => Nat.max_le.mpr ⟨E.dep a, Enc.depAll as⟩
def eLst : Enc K (rLst r) where
  enc := fun as => .list (as.map E.enc)
  d := E.d + 1
  dp := fun ⟨p, xs, h, hp, hal⟩ => by
    subst h
    exact .lst (SqL.of hp) (E.all hal)
  eqv := fun a b => E.eqvAll a b
  can := fun a => E.canAll a
  dep := fun a => Nat.succ_le_succ (E.depAll a)
def eTup : Enc K (rTup r) where
  enc := fun as => .tuple (as.map E.enc)
  d := E.d + 1
  dp := fun ⟨p, xs, h, hp, hal⟩ => by
    subst h
    exact .tup (SqT.of hp) (E.all hal)
  eqv := fun a b => E.eqvAll a b
  can := fun a => E.canAll a
  dep := fun a => Nat.succ_le_succ (E.depAll a)
def ePair : Enc K (rPair r s) where
  enc := fun c => .tuple [E.enc c.1, E'.enc c.2]
  d := max E.d E'.d + 1
  dp := fun ⟨p, x, y, h, hp, h1, h2⟩ => by
    subst h
    exact .tup (SqT.of hp) (.cons (E.dp h1) (.cons (E'.dp h2) .nil))
  eqv := fun a b => by
    show (PyData.eqv (E.enc a.1) (E.enc b.1) && (PyData.eqv (E'.enc a.2) (E'.enc b.2) && true)) = _
    rw [E.eqv, E'.eqv]
    obtain ⟨a1, a2⟩ := a
    obtain ⟨b1, b2⟩ := b
    by_cases h : a1 = b1 <;> by_cases h2 : a2 = b2 <;> simp [h, h2]
  can := fun a => by
    show ((E.enc a.1).canLay0 && ((E'.enc a.2).canLay0 && true)) = true
    rw [E.can, E'.can]
    rfl
  dep := fun a => by
    show max (E.enc a.1).depth (max (E'.enc a.2).depth 0) + 1 ≤ _
    have h1 := E.dep a.1
    have h2 := E'.dep a.2
    omega
end
theorem er_eqD [DecidableEq α] {a a' : α} (E : Enc K r) (hd : E.d ≤ 64) (ha : Er r ta σ F a) (hb : Er r tb σ F a') : Er rBl (tOp (rEqD K) ta tb) σ F (decide (a = a')) := fun H1 e Q q =>
  er_two ha hb e fun x y H3 e3 hx hy => by
    refine ⟨E.enc a, E.enc a', E.dp (r.mono (part_sub (e.trans e3)) hx), E.dp (r.mono (part_sub (e.trans e3)) hy), E.shaped hd a, E.shaped hd a', ?_⟩
    rw [E.eqv]
    exact q _ H3 e3 rfl
theorem er_neD [DecidableEq α] {a a' : α} (E : Enc K r) (hd : E.d ≤ 64) (ha : Er r ta σ F a) (hb : Er r tb σ F a') : Er rBl (tOp (rNeD K) ta tb) σ F (!decide (a = a')) := fun H1 e Q q =>
  er_two ha hb e fun x y H3 e3 hx hy => by
    refine ⟨E.enc a, E.enc a', E.dp (r.mono (part_sub (e.trans e3)) hx), E.dp (r.mono (part_sub (e.trans e3)) hy), E.shaped hd a, E.shaped hd a', ?_⟩
    rw [E.eqv]
    exact q _ H3 e3 rfl
/-! ### statements -/
variable {D : Ends} {tu tw tz : TS} {g : TG} {i : Nat}
theorem q_asg (h : Er r te σ F a) (e : Ex F H) (k : ∀ v H2, Ex H H2 → r.rel (part F H H2) v a → tz D (σ.set i (some v)) H2) : tSeq (tAsg te (gName i)) tz D σ H := h H e _ k
theorem q_asgN (h : En r te σ F as) (e : Ex F H) (k : ∀ p H2, Ex H H2 → New r as F H H2 p → tz D (σ.set i (some (.ref p))) H2) : tSeq (tAsg te (gName i)) tz D σ H := h H e _ k
theorem q_asgI {n : Int} (h : Er rInt te σ F n) (e : Ex F H) (k : ∀ H2, Ex H H2 → tz D (σ.set i (some (.int n))) H2) : tSeq (tAsg te (gName i)) tz D σ H := h H e _ fun v H2 e2 hv => by
  rw [show v = V.int n from hv]
  exact k H2 e2
theorem s_asg (h : Er r te σ F a) (e : Ex F H) (k : ∀ v H2, Ex H H2 → r.rel (part F H H2) v a → D.nx (σ.set i (some v)) H2) : tAsg te (gName i) D σ H := h H e _ k
theorem s_asgN (h : En r te σ F as) (e : Ex F H) (k : ∀ p H2, Ex H H2 → New r as F H H2 p → D.nx (σ.set i (some (.ref p))) H2) : tAsg te (gName i) D σ H := h H e _ k
theorem s_asgI {n : Int} (h : Er rInt te σ F n) (e : Ex F H) (k : ∀ H2, Ex H H2 → D.nx (σ.set i (some (.int n))) H2) : tAsg te (gName i) D σ H := h H e _ fun v H2 e2 hv => by
  rw [show v = V.int n from hv]
  exact k H2 e2
theorem s_ret (h : Er r te σ F a) (e : Ex F H) (k : ∀ v H2, Ex H H2 → r.rel (part F H H2) v a → D.rt v H2) : tRet te D σ H := h H e _ k
theorem s_retN (h : En r te σ F as) (e : Ex F H) (k : ∀ p H2, Ex H H2 → New r as F H H2 p → D.rt (.ref p) H2) : tRet te D σ H := h H e _ k
theorem s_retB {b : Bool} (h : Er rBl te σ F b) (e : Ex F H) (k : ∀ H2, Ex H H2 → D.rt (.bl b) H2) : tRet te D σ H := h H e _ fun v H2 e2 hv => by
  rw [show v = V.bl b from hv]
  exact k H2 e2
theorem s_retI {b : Int} (h : Er rInt te σ F b) (e : Ex F H) (k : ∀ H2, Ex H H2 → D.rt (.int b) H2) : tRet te D σ H := h H e _ fun v H2 e2 hv => by
  rw [show v = V.int b from hv]
  exact k H2 e2
theorem s_if {b : Bool} (h : EvT t σ F b) (e : Ex F H) (h1 : b = true → ∀ H2, Ex H H2 → tu D σ H2) (h2 : b = false → ∀ H2, Ex H H2 → tw D σ H2) : tIfS t tu tw D σ H := h H e _ fun H2 e2 => by
  cases b with
  | true =>
    show tu D σ H2
    exact h1 rfl H2 e2
  | false =>
    show tw D σ H2
    exact h2 rfl H2 e2
theorem q_if {b : Bool} (h : EvT t σ F b) (e : Ex F H) (h1 : b = true → ∀ H2, Ex H H2 → tu { D with nx := tz D } σ H2) (h2 : b = false → ∀ H2, Ex H H2 → tw { D with nx := tz D } σ H2) : tSeq (tIfS t tu tw) tz D σ H := s_if (D := { D with nx := tz D }) h e h1 h2
theorem q_when {b : Bool} (h : EvT t σ F b) (e : Ex F H) (h1 : b = true → ∀ H2, Ex H H2 → tu { D with nx := tz D } σ H2) (h2 : b = false → ∀ H2, Ex H H2 → tz D σ H2) : tSeq (tIfS t tu tNext) tz D σ H := s_if (D := { D with nx := tz D }) h e h1 h2
/-- p.append(e), p a list of its own -/
theorem s_app (hi : σ[i]? = some (some (.ref p))) (hm : Mu r as F H p) (hl : as.length < 100000) (h : Er r te σ F a) (e : Ex F H)
    (k : ∀ o H2 G, Ex H H2 → Ex F G → Ex G (upd H2 p o) → Mu r (as ++ [a]) G (upd H2 p o) p → (∀ c u, H c = some u → F c = none → G c = none) → D.nx σ (upd H2 p o)) : tDrop (tBM K "list" rAppend (tVar i) (tCons te tNil)) D σ H := by
  obtain ⟨h1, xs, h2, h3⟩ := hm
  refine ⟨_, hi, Or.inl ⟨rfl, xs, SqL.of h2⟩, h H e _ fun v H2 e2 hv => ⟨p, xs, v, rfl, rfl, e2 p _ h2, by rw [h3.len]; exact sz_lt hl, ?_⟩⟩
  have hG : part F H H2 p = none := part_old h1 h2
  exact k (.lst (xs ++ [v])) H2 (part F H H2) e2 part_ex (Ex.mut (part_sub (e.trans e2)) hG) ⟨hG, _, upd_same, Al.snoc (h3.imp fun _ _ k => r.mono part_ex k) hv⟩ fun c o hc hF => part_old hF hc
theorem q_app (hi : σ[i]? = some (some (.ref p))) (hm : Mu r as F H p) (hl : as.length < 100000) (h : Er r te σ F a) (e : Ex F H)
    (k : ∀ o H2 G, Ex H H2 → Ex F G → Ex G (upd H2 p o) → Mu r (as ++ [a]) G (upd H2 p o) p → (∀ c u, H c = some u → F c = none → G c = none) → tz D σ (upd H2 p o)) : tSeq (tDrop (tBM K "list" rAppend (tVar i) (tCons te tNil))) tz D σ H := s_app (D := { D with nx := tz D }) hi hm hl h e k
end
end DL
set_option Elab.async false
set_option linter.all false
set_option maxRecDepth 100000
set_option maxHeartbeats 4000000
/-! a for within a generator's body -/
namespace DL
open PySem PySem.Spec PyProof.Rows L2 GenW
section
variable {X : Cx}
def tGFor (wi : TI) (g : TG) (tb : TGn) : TGn := fun D ys σ H => wi σ H fun J H1 => ∃ W : Nat → Nat → List V → L2.St → Hp → Prop, (∃ m, W 0 m ys σ H1) ∧ ∀ i m ys σ H, W i m ys σ H →
  (J.stop i H ∧ D.nx ys σ H) ∨ (J.go i H ∧ ∃ N : List V → L2.St → Hp → Prop, (∀ ys' σ' H', N ys' σ' H' → ∃ m', m' < m ∧ W (i + 1) m' ys' σ' H') ∧ ∀ x H', J.yld i H x H' → g x σ H' fun σ2 H2 => tb { D with nx := N, ct := N, bk := D.nx } ys σ2 H2)
theorem seg_runOwn {M : Model} {A : Around} {R : GenEnd} {Y : Protocol} {n : Nat} {s₀ : Shared} {c c' : Code} {fs : List Frame} {s : Shared} {env : Env} {K : Flow → Sem PySem.Fin} {H : Value → Sem PySem.Fin} {gd : Bool → Bool} {lv : List Value → List Value}
    (h : ∀ p, Seg M A R Y n s₀ c' (M.den c') (.ret (fun r => ((match r with | .ok f => (.pure f : Sem Flow) | .error e => .raise e).onRaise (cameBack env)).wrap K H gd lv) none (gd false) (lv []) c p [] :: fs) s) :
    Seg M A R Y n s₀ c ((runOwn c' env).wrap K H gd lv) fs s := seg_call h
theorem gs_for {tg iter : Expr} {body : List Stmt} {wi : TI} {g : TG} {tb : TGn} {pos : Pos} (hp : PassesOwn (model X.prog X.w) X.A X.env X.xe) (hc : X.calm = true) (hi : PI X tg iter wi) (hg : PG X tg g) (hb : GSs X body tb)
    (hs : ∀ x, foldedSetIterable iter X.env x = pure x := by intro _; rfl) : GS X (.For tg iter body [] pos) (tGFor wi g tb) := by
  refine ⟨fun A S ip R n ys s₀ c fs K Jx gd lv s σ H D gc hn k hI ht => ?_⟩
  rw [exec_For]
  refine seg_bind_wrap (wpAny_standAt ?_)
  obtain ⟨acc, cc, r, I⟩ := hI
  refine seg_bind_wrap ?_
  rw [gc.over]
  refine wpAny_mono (hi.run _ s σ H _ I ht) (fun v s1 h1 => ?_) fun x s' hx => k.exc n s₀ x s' hx
  refine seg_bind_wrap (wpAny_of_eq (hs v) ?_)
  refine seg_bind_wrap (wpAny_standAt ?_)
  refine seg_bind_wrap ?_
  rw [gc.over]
  refine wpAny_holding (wpAny_mono h1 (fun itv s2 h2 => ?_) fun x s' hx => k.exc n s₀ x s' hx)
  obtain ⟨it, fp, tn, J, H2, eit, I2, T, st2, f2, W, ⟨m0, w0⟩, turn⟩ := h2
  subst eit
  refine seg_runOwn fun p => ?_
  have gl := fun (ip' : List (Addr × Obj)) (hip : ∀ p ∈ ip', p.1 ≠ S) (kk : Result → Sem PySem.Fin) => gc_loop (k := kk) (c' := .forLoop tg (.ref it) body [] X.env) (l := lv []) (kp := []) (p := p) (ip := ip') ⟨gc.pn, hip, gc.apart, gc.over, gc.split, gc.guard, gc.gd⟩ rfl rfl
  have stat : ∀ {H' : Hp} {acc' : Array Value} {c' : Nat}, (∀ b ∈ fp, H' b = none) → ∀ b ∈ fp, FpOk X ((S, lstObj acc' c') :: ip) H' b := fun hn b hb => by
    obtain ⟨_, q2, q3, q4, q5, q6⟩ := f2 b hb
    refine ⟨hn b hb, q2, q3, q4, q5, fun p hp => ?_⟩
    rcases List.mem_append.mp hp with hp | hp
    · exact q6 p (List.mem_append_left _ hp)
    · rcases List.mem_cons.mp hp with hp | hp
      · rw [hp]
        exact q6 (S, lstObj acc cc) (List.mem_append_right _ List.mem_cons_self)
      · exact q6 p (List.mem_append_right _ (List.mem_cons_of_mem _ hp))
  have hfS : ∀ b ∈ fp, b ≠ S := fun b hb z => by
    obtain ⟨_, _, _, _, _, q6⟩ := f2 b hb
    exact q6 (S, lstObj acc cc) (List.mem_append_right _ List.mem_cons_self) z.symm
  have loop : ∀ (m i n : Nat) (ys : List V) (s₀ s : Shared) (σ : L2.St) (H : Hp), n + ys.length = sizeLine → W i m ys σ H → GI X S ip ys σ H s → tn i s.heap → (∀ b ∈ fp, H b = none) →
      Seg (model X.prog X.w) A R (GY X S) n s₀ (.forLoop tg (.ref it) body [] X.env) ((model X.prog X.w).den (.forLoop tg (.ref it) body [] X.env))
        (.ret (fun r => ((match r with | .ok f => (.pure f : Sem Flow) | .error e => .raise e).onRaise (cameBack X.env)).wrap K Jx gd lv) none (gd false) (lv []) c p [] :: fs) s := by
    intro m
    induction m using Nat.strongRecOn with
    | ind m ih =>
      intro i n ys s₀ s σ H hn w hI st fr
      have ee : ∀ (n : Nat) (s₀ : Shared) (x : Value) (s' : Shared), X.xe x s' → Seg (model X.prog X.w) A R (GY X S) n s₀ (.forLoop tg (.ref it) body [] X.env)
          ((do noteFrame x X.env; theTreesLotGoes x : Sem Unit).wrap (fun _ => .raise x) .raise id id)
          (.ret (fun r => ((match r with | .ok f => (.pure f : Sem Flow) | .error e => .raise e).onRaise (cameBack X.env)).wrap K Jx gd lv) none (gd false) (lv []) c p [] :: fs) s' := fun n s₀ x s' hx => by
        refine seg_wrap ?_
        rw [(gl ip gc.ip _).over]
        refine wpAny_bind (wpAny_mono (hp x s' hx) (fun _ sb back => wpAny_theTreesLotGoes ?_) fun y sb back => ?_)
        · exact seg_leaf (.error x) (seg_cameBack gc k back)
        · exact seg_leaf (.error y) (seg_cameBack gc k back)
      have ee2 : ∀ (n : Nat) (s₀ : Shared) (x : Value) (s' : Shared), X.xe x s' → Seg (model X.prog X.w) A R (GY X S) n s₀ (.forLoop tg (.ref it) body [] X.env)
          ((do noteFrame x X.env; theTreesLotGoes x : Sem Unit).bind (fun _ => .raise x))
          (.ret (fun r => ((match r with | .ok f => (.pure f : Sem Flow) | .error e => .raise e).onRaise (cameBack X.env)).wrap K Jx gd lv) none (gd false) (lv []) c p [] :: fs) s' := fun n s₀ x s' hx => by
        rw [Sem.bind_eq_wrap]
        exact ee n s₀ x s' hx
      obtain ⟨acc, cc, r, I⟩ := hI
      show Seg _ A R (GY X S) n s₀ _ ((forTurn tg (.ref it) body [] X.env).onRaise (fun x => do noteFrame x X.env; theTreesLotGoes x)) _ s
      unfold forTurn
      rw [Sem.onRaise_eq_wrap]
      refine seg_bind_wrap (wpAny_standAt ?_)
      refine seg_bind_wrap ?_
      rw [(gl ip gc.ip _).over]
      refine wpAny_onRaise ?_
      rcases turn i m ys σ H w with ⟨stop, qn⟩ | ⟨go, N, hN, step⟩
      · refine wpAny_mono (T.done X rfl rfl rfl hc i _ s σ H X.xe I (stat fr) st stop) (fun r' s4 ⟨hr, I4⟩ => ?_) fun x s' hx => wpAny_standAt (ee2 n s₀ x s' hx)
        subst hr
        refine seg_again rfl ?_
        exact seg_leaf (.ok .next) (k.ok n ys s₀ s4 .next hn ⟨σ, H, ⟨acc, cc, r, I4⟩, qn⟩)
      · refine wpAny_mono (T.item X rfl rfl rfl hc i _ s σ H X.xe I (stat fr) st go) (fun r' s4 ⟨u, hr, h4⟩ => ?_) fun x s' hx => wpAny_standAt (ee2 n s₀ x s' hx)
        subst hr
        refine seg_bind_wrap ?_
        rw [(gl ip gc.ip _).over]
        refine wpAny_mono h4 (fun _ s5 ⟨x, H5, I5, r5, y5, st5, fr5⟩ => ?_) fun x s' hx => ee2 n s₀ x s' hx
        have J5 := I5.pinned (stat fr5) (T.obj _ _ st5)
        refine seg_bind_wrap ?_
        rw [(gl ip gc.ip _).over]
        refine wpAny_mono (hg.run _ s5 σ H5 x u _ J5 r5 (step x H5 y5)) (fun _ s6 ⟨σ6, H6, I6, q6⟩ => ?_) fun x s' hx => ee2 n s₀ x s' hx
        rw [Sem.bind_eq_wrap', Sem.wrap_wrap]
        have hip : ∀ p ∈ ip ++ pinsAt fp s5.heap, p.1 ≠ S := fun p hp => by
          rcases List.mem_append.mp hp with hp | hp
          · exact gc.ip p hp
          · exact hfS _ (of_pinsAt hp).1
        have back : ∀ {ys7 : List V} {σ7 : L2.St} {H7 : Hp} {s7 : Shared}, GI X S (ip ++ pinsAt fp s5.heap) ys7 σ7 H7 s7 → GI X S ip ys7 σ7 H7 s7 ∧ tn (i + 1) s7.heap ∧ ∀ b ∈ fp, H7 b = none := fun {ys7 σ7 H7 s7} hI7 => by
          obtain ⟨acc7, cc7, r7, I7⟩ := hI7
          have mem : ∀ {b : Addr} {o : Obj}, b ∈ fp → s5.heap.get? b = some o → (b, o) ∈ X.pn ++ (S, lstObj acc7 cc7) :: (ip ++ pinsAt fp s5.heap) := fun hb e => List.mem_append_right _ (List.mem_cons_of_mem _ (List.mem_append_right _ (mem_pinsAt hb e)))
          refine ⟨⟨acc7, cc7, r7, I7.pins_of fun p hp => I7.pin p ?_⟩, T.keep _ _ _ st5 fun b hb o e => (I7.pin (b, o) (mem hb e)).1, fun b hb => ?_⟩
          · rcases List.mem_cons.mp hp with hp | hp
            · rw [hp]
              exact List.mem_append_right _ List.mem_cons_self
            · exact List.mem_append_right _ (List.mem_cons_of_mem _ (List.mem_append_left _ hp))
          · obtain ⟨o, e, d⟩ := T.obj _ _ st5 b hb
            exact (I7.pin (b, o) (mem hb e)).2.1
        refine hb.run A S (ip ++ pinsAt fp s5.heap) R n ys s₀ _ _ _ _ id id s6 σ6 H6 { D with nx := N, ct := N, bk := D.nx } (gl _ hip _) hn ⟨fun n' ys' s₀' s3 f hn' hs => ?_, fun n' s₀' x s3 hx => ee2 n' s₀' x s3 hx⟩ ⟨acc, cc, r, I6⟩ q6
        cases f with
        | next =>
          obtain ⟨σ3, H3, I3, n3⟩ := hs
          obtain ⟨m', less, w3⟩ := hN ys' σ3 H3 n3
          obtain ⟨b1, b2, b3⟩ := back I3
          exact seg_again rfl (ih m' less (i + 1) n' ys' s₀' s3 σ3 H3 hn' w3 b1 b2 b3)
        | cont =>
          obtain ⟨σ3, H3, I3, n3⟩ := hs
          obtain ⟨m', less, w3⟩ := hN ys' σ3 H3 n3
          obtain ⟨b1, b2, b3⟩ := back I3
          exact seg_again rfl (ih m' less (i + 1) n' ys' s₀' s3 σ3 H3 hn' w3 b1 b2 b3)
        | brk =>
          obtain ⟨σ3, H3, I3, n3⟩ := hs
          exact seg_leaf (.ok .next) (k.ok n' ys' s₀' s3 .next hn' ⟨σ3, H3, (back I3).1, n3⟩)
        | ret v =>
          obtain ⟨v3, σ3, H3, I3, r3, n3⟩ := hs
          exact seg_leaf (.ok (.ret v)) (k.ok n' ys' s₀' s3 (.ret v) hn' ⟨v3, σ3, H3, (back I3).1, r3, n3⟩)
  exact loop m0 0 n ys s₀ s2 σ H2 hn w0 ⟨acc, cc, r, I2⟩ st2 fun b hb => (f2 b hb).1
end
end DL
set_option Elab.async false
set_option linter.all false
set_option maxRecDepth 100000
set_option maxHeartbeats 4000000
namespace DL
open PySem L2 Evl
section
variable {α β γ δ : Type} {K : PySem.W.Frag} {σ σ2 : L2.St} {F G H H1 H2 H3 H4 Hc : Hp} {ta tb te tl tx : TE} {t u : TT} {v : V} {r : Rep α} {s : Rep β} {r1 : Rep γ} {a : α} {b : β} {as as' : List α} {bs : List β} {p q D : Addr}
theorem part_elem {o : HO} (eG : Ex G (part F H1 Hc)) (e0 : Ex F H1) (e1 : Ex H1 Hc) (e : Ex Hc H4) (hD : Hc D = some o) (hG : G D = none) : Ex (part G Hc H4) (mns (part F H1 H4) D) := fun q u hq => by
  cases hg : G q with
  | some x =>
    rw [part_in hg] at hq
    have nq : q ≠ D := ne_of_none hg hG
    rw [mns_ne nq, ← hq]
    exact part_up e q x (eG q x hg)
  | none =>
    cases hc : Hc q with
    | some x => rw [part_old hg hc] at hq; cases hq
    | none =>
      rw [part_new hg hc] at hq
      have nq : q ≠ D := fun z => by
        rw [z, hD] at hc
        cases hc
      have n1 : H1 q = none := back_none e1 hc
      rw [mns_ne nq, part_new (back_none e0 n1) n1]
      exact hq
theorem part_put {o : HO} : Ex (mns (part F H1 H4) D) (mns (part F H1 (upd H4 D o)) D) := fun q u hq => by
  have nq : q ≠ D := fun e => by
    rw [e, mns_at] at hq
    cases hq
  rw [mns_ne nq] at hq ⊢
  cases hF : F q with
  | some x => rw [part_in hF] at hq ⊢; exact hq
  | none =>
    cases hH : H1 q with
    | some x => rw [part_old hF hH] at hq; cases hq
    | none =>
      rw [part_new hF hH] at hq ⊢
      rw [upd_ne nq]
      exact hq
theorem part_ins : Ex (part F H1 H2) (part F H1 H2) := Ex.refl _
/-! ### two fors in a comprehension -/
theorem en_lc2 {wi wi1 : TI} {g g1 : TG} {S : Hp → α → L2.St → L2.St → Prop} {S1 : Hp → γ → L2.St → L2.St → Prop} {tt tt1 : TT} {vs vs1 : List Nat} (f : α → Bool) (cs : α → List γ) (f1 : α → γ → Bool) (m : α → γ → β)
    (h : Src wi σ F r as) (hg : Tgt g r S) (hg1 : Tgt g1 r1 S1) (hn : ((as.filter f).flatMap fun a => ((cs a).filter (f1 a)).map (m a)).length < 100000)
    (hw : ∀ a ∈ as, ∀ G σ2, Ex F G → S G a (wipe σ vs) σ2 → wipe σ2 vs = wipe σ vs ∧ EvT tt σ2 G (f a) ∧ (f a = true → Src wi1 σ2 G r1 (cs a) ∧
      ∀ c ∈ cs a, ∀ G' σ3, Ex G G' → S1 G' c (wipe σ2 vs1) σ3 → wipe σ3 vs1 = wipe σ2 vs1 ∧ EvT tt1 σ3 G' (f1 a c) ∧ (f1 a c = true → Er s te σ3 G' (m a c)))) :
    En s (tLc2 wi g tt wi1 g1 tt1 te vs vs1) σ F ((as.filter f).flatMap fun a => ((cs a).filter (f1 a)).map (m a)) := fun H1 e Q q => h H1 e _ fun J H2 e2 w D hD => by
  have mem : ∀ {δ : Type} {l : List δ} {i : Nat} {a : δ}, l[i]? = some a → a ∈ l := fun h => List.mem_of_getElem? h
  have tk : ∀ {δ : Type} {l : List δ} {i : Nat} {a : δ}, l[i]? = some a → l.take (i + 1) = l.take i ++ [a] := fun h => by
    rw [List.take_add_one, h]
    rfl
  let out := fun (l : List α) => (l.filter f).flatMap fun a => ((cs a).filter (f1 a)).map (m a)
  have out_snoc : ∀ l a, out (l ++ [a]) = out l ++ (if f a = true then ((cs a).filter (f1 a)).map (m a) else []) := fun l a => by
    show ((l ++ [a]).filter f).flatMap _ = _
    rw [List.filter_append, List.flatMap_append, List.filter_cons]
    split
    · rw [List.filter_nil, List.flatMap_cons, List.flatMap_nil, List.append_nil]
    · rw [List.filter_nil, List.flatMap_nil]
  have out_le : ∀ i, (out (as.take i)).length ≤ (out as).length := fun i => by
    have : out as = out (as.take i) ++ out (as.drop i) := by
      show (as.filter f).flatMap _ = _
      conv => lhs; rw [← List.take_append_drop i as, List.filter_append, List.flatMap_append]
    rw [this, List.length_append]
    omega
  have dF : F D = none := back_none (e.trans e2) hD
  have d2 : part F H1 H2 D = none := by
    rw [part_new dF (back_none e2 hD)]
    exact hD
  let P := fun (i : Nat) (H' : Hp) => ∃ acc, H' D = some (.lst acc) ∧ Ex H2 (mns H' D) ∧ Al (s.rel (mns (part F H1 H') D)) acc (out (as.take i))
  refine ⟨fun i k H' => k = as.length - i ∧ i ≤ as.length ∧ P i H', ⟨as.length, by omega, Nat.zero_le _, [], upd_same, ?_, .nil⟩, ?_⟩
  · rw [mns_upd]
    exact ex_mns (Ex.refl _) hD
  rintro i k H' ⟨rfl, hi, acc, h1, h2, h3⟩
  have eG : Ex (part F H1 H2) H' := (part_sub (e.trans e2)).trans (h2.trans mns_sub)
  by_cases hlt' : ¬ i < as.length
  · have ei : i = as.length := by omega
    subst ei
    refine .inl ⟨w.stops H' eG, ?_⟩
    rw [List.take_length] at h3
    exact q D H' (e2.trans (h2.trans mns_sub)) ⟨back_none e2 hD, acc, h1, h3⟩
  have hlt : i < as.length := Decidable.not_not.mp hlt'
  refine .inr ⟨w.goes i H' hlt eG, P (i + 1), fun H'' p => ⟨as.length - (i + 1), by omega, rfl, hlt, p⟩, fun x H'' yl => ?_⟩
  obtain ⟨y1, a, y2, y3⟩ := w.yields i H' x H'' hlt eG yl
  refine hg _ H'' x a _ _ (part_sub (eG.trans y1)) y3 fun σ2 hS => ?_
  obtain ⟨hwp, ht, he⟩ := hw a (mem y2) _ σ2 (part_ex.trans part_ex) hS
  refine ⟨hwp, ht H'' (part_sub (eG.trans y1)) _ fun H3 e3 => ?_⟩
  have e12 : Ex H2 H3 := (h2.trans mns_sub).trans (y1.trans e3)
  have hD3 : H3 D = some (.lst acc) := e3 D _ (y1 D _ h1)
  -- the frame of the turn
  have d3 : part (part F H1 H2) H' H'' D = none := part_old d2 h1
  have gsub : Ex (part (part F H1 H2) H' H'') (part F H1 H3) := (part_part e2 (h2.trans mns_sub) y1).trans (part_up e3)
  cases hf : f a with
  | false =>
    refine ⟨acc, hD3, ex_mns e12 hD, ?_⟩
    rw [tk y2, out_snoc, hf, if_neg (by decide), List.append_nil]
    exact h3.imp fun _ _ k => s.mono (mns_up (part_up (y1.trans e3))) k
  | true =>
    obtain ⟨hs1, hin⟩ := he hf
    refine hs1 H3 ((part_sub (eG.trans y1)).trans e3) _ fun J1 H4 e4 w1 => ?_
    have hD4 : H4 D = some (.lst acc) := e4 D _ hD3
    have d4 : part (part (part F H1 H2) H' H'') H3 H4 D = none := part_old d3 hD3
    have gsub4 : Ex (part (part (part F H1 H2) H' H'') H3 H4) (part F H1 H4) := fun q o hq => part_elem gsub e (e2.trans e12) e4 hD3 d3 q o hq |> mns_sub q o
    let P1 := fun (j : Nat) (Hj : Hp) => ∃ acc', Hj D = some (.lst acc') ∧ Ex (mns H4 D) (mns Hj D) ∧ Al (s.rel (mns (part F H1 Hj) D)) acc' (out (as.take i) ++ (((cs a).take j).filter (f1 a)).map (m a))
    refine ⟨fun j k Hj => k = (cs a).length - j ∧ j ≤ (cs a).length ∧ P1 j Hj, ⟨(cs a).length, by omega, Nat.zero_le _, acc, hD4, Ex.refl _, ?_⟩, ?_⟩
    · rw [List.take_zero, List.filter_nil, List.map_nil, List.append_nil]
      exact h3.imp fun _ _ k => s.mono (mns_up (part_up (y1.trans (e3.trans e4)))) k
    rintro j k Hj ⟨rfl, hj, acc', g1', g2', g3'⟩
    have e4j : Ex (part (part (part F H1 H2) H' H'') H3 H4) Hj := (ex_mns (part_sub ((part_sub (eG.trans y1)).trans (e3.trans e4))) d4).trans (g2'.trans mns_sub)
    have e2j : Ex H2 (mns Hj D) := (ex_mns (e12.trans e4) hD).trans g2'
    by_cases hlj' : ¬ j < (cs a).length
    · have ej : j = (cs a).length := by omega
      subst ej
      refine .inl ⟨w1.stops Hj e4j, acc', g1', e2j, ?_⟩
      rw [List.take_length] at g3'
      rw [tk y2, out_snoc, if_pos hf]
      exact g3'
    have hlj : j < (cs a).length := Decidable.not_not.mp hlj'
    refine .inr ⟨w1.goes j Hj hlj e4j, P1 (j + 1), fun H'' p => ⟨(cs a).length - (j + 1), by omega, rfl, hlj, p⟩, fun x1 Hk yl1 => ?_⟩
    obtain ⟨z1, c, z2, z3⟩ := w1.yields j Hj x1 Hk hlj e4j yl1
    refine hg1 _ Hk x1 c _ _ (part_sub (e4j.trans z1)) z3 fun σ3 hS1 => ?_
    obtain ⟨hwp1, ht1, he1⟩ := hin c (mem z2) _ σ3 (part_ex.trans part_ex) hS1
    refine ⟨hwp1, ht1 Hk (part_sub (e4j.trans z1)) _ fun H6 e6 => ?_⟩
    have hD6 : H6 D = some (.lst acc') := e6 D _ (z1 D _ g1')
    have t1 : out (as.take i) ++ (((cs a).take (j + 1)).filter (f1 a)).map (m a) = (out (as.take i) ++ (((cs a).take j).filter (f1 a)).map (m a)) ++ (if f1 a c = true then [m a c] else []) := by
      rw [tk z2, List.filter_append, List.map_append, List.filter_cons, List.append_assoc]
      split
      · rfl
      · rfl
    cases hf1 : f1 a c with
    | false =>
      refine ⟨acc', hD6, g2'.trans (mns_up (z1.trans e6)), ?_⟩
      rw [t1, hf1, if_neg (by decide), List.append_nil]
      exact g3'.imp fun _ _ k => s.mono (mns_up (part_up (z1.trans e6))) k
    | true =>
      refine he1 hf1 H6 ((part_sub (e4j.trans z1)).trans e6) _ fun y H7 e7 ry => ?_
      have hl : acc'.length < 100000 := by
        have l1 := g3'.len
        rw [List.length_append, List.length_map] at l1
        have l2 := out_le (i + 1)
        rw [tk y2, out_snoc, if_pos hf, List.length_append, List.length_map] at l2
        have l3 : (((cs a).take j).filter (f1 a)).length ≤ ((cs a).filter (f1 a)).length := by
          conv => rhs; rw [← List.take_append_drop j (cs a), List.filter_append, List.length_append]
          omega
        have : (out as).length < 100000 := hn
        omega
      refine ⟨acc', e7 D _ hD6, sz_lt hl, acc' ++ [y], upd_same, ?_, ?_⟩
      · rw [mns_upd]
        exact g2'.trans (mns_up (z1.trans (e6.trans e7)))
      · rw [t1, if_pos hf1]
        refine Al.snoc (g3'.imp fun _ _ k => s.mono ((mns_up (part_up (z1.trans (e6.trans e7)))).trans part_put) k) (s.mono (Ex.trans ?_ part_put) ry)
        -- what the turn made lies beside D
        have hj4 : Ex H1 Hj := (e2.trans e2j).trans mns_sub
        have gj : Ex (part (part (part F H1 H2) H' H'') H3 H4) (part F H1 Hj) := fun q o hq => by
          have nq : q ≠ D := fun z => by
            rw [z, d4] at hq
            cases hq
          have hq4 := gsub4 q o hq
          cases hF : F q with
          | some u => rw [part_in hF] at hq4 ⊢; exact hq4
          | none =>
            cases hH : H1 q with
            | some u => rw [part_old hF hH] at hq4; cases hq4
            | none =>
              rw [part_new hF hH] at hq4 ⊢
              have := g2' q o (by rw [mns_ne nq]; exact hq4)
              rw [mns_ne nq] at this
              exact this
        have gk : Ex (part (part (part (part F H1 H2) H' H'') H3 H4) Hj Hk) (part F H1 Hk) := fun q o hq => part_elem gj e hj4 z1 g1' d4 q o hq |> mns_sub q o
        exact part_elem (gk.trans (part_up e6)) e (hj4.trans (z1.trans e6)) e7 hD6 (part_old d4 g1')
/-! ### generators -/
variable {D0 : GEnds} {tu tw tz : TGn} {ys : List V}
theorem g_for {wi : TI} {g : TG} {tb : TGn} {D : GEnds} {S : Hp → α → L2.St → L2.St → Prop} (h : Src wi σ F r as) (hg : Tgt g r S) (e : Ex F H) (Pv : Hp → List α → List V → L2.St → Hp → Prop)
    (hG : ∀ G pre ys σ' H', Pv G pre ys σ' H' → Ex G H') (h0 : ∀ H1, Ex H H1 → Pv (part F H H1) [] ys σ H1)
    (hs : ∀ G pre a post ys σ' H' H'' σ2, as = pre ++ a :: post → Pv G pre ys σ' H' → Ex H' H'' → S (part G H' H'') a σ' σ2 → tb { D with nx := Pv G (pre ++ [a]), ct := Pv G (pre ++ [a]), bk := D.nx } ys σ2 H'')
    (hd : ∀ G ys σ' H', Pv G as ys σ' H' → D.nx ys σ' H') : tGFor wi g tb D ys σ H := h H e _ fun J H1 e1 w => by
  refine ⟨fun i k ys σ' H' => k = as.length - i ∧ i ≤ as.length ∧ Pv (part F H H1) (as.take i) ys σ' H', ⟨as.length, by omega, Nat.zero_le _, h0 H1 e1⟩, ?_⟩
  rintro i k ys σ' H' ⟨rfl, hi, p⟩
  have eG := hG _ _ _ _ _ p
  by_cases hlt : i < as.length
  · refine .inr ⟨w.goes i H' hlt eG, Pv (part F H H1) (as.take (i + 1)), fun ys' σ'' H'' p' => ⟨as.length - (i + 1), by omega, rfl, hlt, p'⟩, fun x H'' yl => ?_⟩
    obtain ⟨y1, a, y2, y3⟩ := w.yields i H' x H'' hlt eG yl
    refine hg _ H'' x a σ' _ (part_sub (eG.trans y1)) y3 fun σ2 hS => ?_
    have et : as.take (i + 1) = as.take i ++ [a] := by
      rw [List.take_add_one, y2]
      rfl
    rw [et]
    exact hs (part F H H1) (as.take i) a (as.drop (i + 1)) ys σ' H' H'' σ2 (by
      rw [List.getElem?_eq_getElem hlt] at y2
      cases y2
      rw [← List.drop_eq_getElem_cons hlt, List.take_append_drop]) p y1 hS
  · have ei : i = as.length := by omega
    subst ei
    rw [List.take_length] at p
    exact .inl ⟨w.stops H' eG, hd _ _ _ _ p⟩
/-- a generator def's promise: what it hands out -/
def spG (s : Rep β) (W : (Hp → List V → Prop) → List β → Prop) : SpG := fun vs H cont _ => ∃ F P b, Ex F H ∧ MonoP P ∧ W P b ∧ P F vs ∧ ∀ xs H2, Ex H H2 → Al (s.rel (part F H H2)) xs b → cont xs H2
theorem en_listG {W : (Hp → List V → Prop) → List β → Prop} {P : Hp → List V → Prop} {E : XK} {tr : TA} (h : Ea P tr σ F) (hP : MonoP P) (w : W P bs) : En s (tListG (tCallG (spG s W) [] E tr)) σ F bs := fun H1 e Q q =>
  h H1 e _ fun vs H2 e2 k => ⟨part F H1 H2, P, bs, part_sub (e.trans e2), hP, w, by rw [List.append_nil]; exact k, fun xs H3 e3 hx p hp => q p _ ((e2.trans e3).trans (Ex.new hp)) (new_at e (e2.trans e3) hp (hx.imp fun _ _ k => s.mono (part_part e2 (Ex.refl H2) e3) k))⟩
theorem passG {X : Cx} : Passes (CX X.prog X.w) X E0 := by
  intro pins σ H s e s' I hc
  obtain ⟨_, _, _, _, _, _, _, _, _, _, _, _, hE⟩ := hc
  exact hE.elim
/-! ### isinstance -/
theorem er_isiV {n : String} {ty : String} {k : Bool} (ha : Er r ta σ F a) (ht : ∀ (H : Hp) (v : V), r.rel H v a → TyX K H v (.type ty)) (hk : PySem.W.kitOne K (.type ty) (.type n) = some k) : Er rBl (tCB (rIsi K) (tCons ta (tCons (tC (.ty n)) tNil))) σ F k := fun H1 e Q q =>
  ha H1 e _ fun v H2 e2 hv => ⟨v, .ty n, .type ty, .type n, k, rfl, .ty n, ht _ _ (r.mono (part_sub (e.trans e2)) hv), hk, q _ H2 e2 rfl⟩
theorem ty_lst {H : Hp} (h : (rLst r).rel H v as) : TyX K H v (.type "list") := by
  obtain ⟨p, xs, rfl, hp, _⟩ := h
  exact .base (.lst hp)
theorem ty_tup {H : Hp} (h : (rTup r).rel H v as) : TyX K H v (.type "tuple") := by
  obtain ⟨p, xs, rfl, hp, _⟩ := h
  exact .base (.tup hp)
theorem ty_pair {H : Hp} {c : α × β} (h : (rPair r s).rel H v c) : TyX K H v (.type "tuple") := by
  obtain ⟨p, x, y, rfl, hp, _⟩ := h
  exact .base (.tup hp)
theorem ty_int {H : Hp} {n : Int} (h : rInt.rel H v n) : TyX K H v (.type "int") := by
  cases (show v = V.int n from h)
  exact .base (.int n)
theorem ty_bl {H : Hp} {n : Bool} (h : rBl.rel H v n) : TyX K H v (.type "bool") := by
  cases (show v = V.bl n from h)
  exact .base (.bl n)
/-! ### xs[i] = e, a list of one's own -/
variable {Dn : Ends} {zz : TS}
theorem q_setItem {i : Nat} {j : Nat} (h : Er r te σ F a) (e : Ex F H) (hi : σ[i]? = some (some (.ref p))) (hm : Mu r as F H p) (hj : Er rInt tb σ F (j : Int)) (hl : j < as.length)
    (k : ∀ o H2 G, Ex H H2 → Ex F G → Ex G (upd H2 p o) → Mu r (as.set j a) G (upd H2 p o) p → (∀ c u, H c = some u → F c = none → G c = none) → zz Dn σ (upd H2 p o)) : tSeq (tAsg te (gSub (tVar i) tb rSetL)) zz Dn σ H :=
  h H e _ fun v H2 e2 hv => ⟨.ref p, hi, hj H2 (e.trans e2) _ fun w H3 e3 hw => by
    obtain ⟨h1, xs, h2, h3⟩ := hm
    cases (show w = V.int (j : Int) from hw)
    have e23 := e2.trans e3
    have hG : part F H H3 p = none := part_old h1 h2
    exact ⟨p, xs, (j : Int), j, rfl, rfl, e23 p _ h2, ixN_nat (by rw [h3.len]; exact hl), k (.lst (xs.set j v)) H3 (part F H H3) e23 part_ex (Ex.mut (part_sub (e.trans e23)) hG)
      ⟨hG, _, upd_same, Al.set (r.mono (part_up e3) hv) j (h3.imp fun _ _ k => r.mono part_ex k)⟩ fun c o hc hF => part_old hF hc⟩⟩
end
/-! ### rules with the written part named -/
section
variable {X : Cx} {K : PySem.W.Frag} {tg l : Expr} {tl ta : TE}
theorem pi_listK (hl : PE X l tl) (hK : X.K = K := by rfl) : PI X tg l (iList K tl) := hK ▸ pi_list hl
theorem pi_tupK (hl : PE X l tl) (hK : X.K = K := by rfl) : PI X tg l (iTup K tl) := hK ▸ pi_tup hl
theorem pi_enumK {e : Expr} {ta : TA} {p pos tpos : Pos} {elts : List Expr} {kk : Nat} (hg : Gl X "enumerate") (hm : X.mg "enumerate" = none) (ha : PA X [e] ta) (hs : starEach [e] X.env = [(false, eval e X.env)] := by rfl) (hK : X.K = K := by rfl) :
    PI X (.Tuple elts kk tpos) (.Call (.Name "enumerate" p) [e] [] pos) (iEnum K ta) := hK ▸ pi_enum hg hm ha hs
theorem pi_zipK {e e2 : Expr} {ta : TA} {p pos tpos : Pos} {elts : List Expr} {kk : Nat} (hg : Gl X "zip") (hm : X.mg "zip" = none) (ha : PA X [e, e2] ta)
    (hs : starEach [e, e2] X.env = (false, eval e X.env) :: starEach [e2] X.env := by rfl) (hpl : (backTo pos (starEach [e2] X.env)).any (·.1) = false := by rfl) (hK : X.K = K := by rfl) :
    PI X (.Tuple elts kk tpos) (.Call (.Name "zip" p) [e, e2] [] pos) (iZip K ta) := hK ▸ pi_zip hg hm ha hs hpl
theorem pt_tru {a : Expr} (ha : PE X a ta) (he : ∀ whole, isTrue a X.env whole = (do let v ← whole; standAt a.pos; holding [v] (truthy v))) (hK : X.K = K := by rfl) : PT X a (tTru K ta) := hK ▸ pt_truth ha he
theorem pg_tupK {es : List Expr} {k : Nat} {t : TGs} {n : Nat} {pos : Pos} (hc : X.calm = true) (h : PGs X es t) (hn : (assignEach es X.env).length = n := by rfl) (hst : (assignEach es X.env).findIdx? (·.1) = none := by rfl) (hK : X.K = K := by rfl) : PG X (.Tuple es k pos) (gTup K n t) := by
  subst hK
  exact pg_tup hc h hn hst
end
end DL
set_option Elab.async false
set_option linter.all false
set_option maxRecDepth 100000
set_option maxHeartbeats 4000000
/-! sorted of a tuple of ints -/
namespace DL
open PySem PySem.Spec PyProof.Rows L2 Evl
section
variable {prog : Program} {w : World} {A : Around} {E : Value → Shared → Prop} {s : Shared}
/-- the heap behind the collecting of vs -/
abbrev gath (h : Heap) (vs : List Value) : Heap := (h.push (seqObj "list" #[] 0)).update h.objs.size (Obj.mapSeq (· ++ vs.toArray))
theorem gather_tup {t : Addr} {vs : List Value} {R : List Value → Shared → Prop} (ht : IsTup s.heap t vs.toArray) (k : R vs { s with heap := gath s.heap vs }) (fit : vs.length ≤ sizeLine) :
    wpAny (model prog w) A (collect (.ref t)) R E s := by
  obtain ⟨ob, at_t, cls_t, cnt, dat_t⟩ := id ht
  have at_t' : (s.heap.push (seqObj "list" #[] 0)).get? t = some ob := Heap.get?_push_of_some _ at_t
  have at_new : (s.heap.push (seqObj "list" #[] 0)).get? s.heap.objs.size = some (seqObj "list" #[] 0) := Heap.get?_push_size _ rfl
  unfold collect
  refine wpAny_bind (wpAny_runValue (codeAny_builtin entry_proto_collect' ?_))
  show wpAny _ _ (do again (.builtin "list.__iadd__" ⟨[← newList [], .ref t], []⟩)) _ _ s
  refine wpAny_bind (wpAny_newList (wpAny_pure ⟨Code.quiet_builtin _ (by decide +kernel), codeAny_builtin entry_list_iadd' ?_⟩))
  show wpAny _ _ (Builtin.List.listExtendWith (.ref s.heap.objs.size) (.ref t) (.ref s.heap.objs.size)) _ _ { s with heap := s.heap.push (seqObj "list" #[] 0) }
  unfold Builtin.List.listExtendWith
  refine wpAny_bind (wpAny_typeOf (T := "tuple") ⟨ob, at_t', cls_t⟩ ?_)
  have yes : (Value.type "tuple" == Value.type "tuple") = true := by rfl
  rw [if_pos (by rw [yes, Bool.or_true])]
  refine wpAny_bind (listItems_at at_t' dat_t ?_)
  refine wpAny_bind (listItems_at (xs := #[]) (n := 0) at_new rfl ?_)
  rw [if_neg (by simp)]
  refine wpAny_bind (listUpdate_at (xs := #[]) (n := 0) at_new rfl ?_ (Nat.zero_le _) (by
    show (#[] ++ vs.toArray).size ≤ sizeLine + 1
    simp only [Array.size_append, List.size_toArray, List.length_nil]
    omega))
  refine wpAny_pure ?_
  show wpAny (model prog w) A (do
      let o ← load s.heap.objs.size
      match o.data with
      | .seq xs _ => pure xs.toList
      | _ => unsupported "internal:collect") R E { s with heap := gath s.heap vs }
  refine wpAny_bind (wpAny_load (get?_update_seq at_new _) ?_)
  show wpAny _ _ (pure ((#[] : Array Value) ++ vs.toArray).toList) R E _
  have ev : ((#[] : Array Value) ++ vs.toArray).toList = vs := by simp
  rw [ev]
  exact wpAny_pure k
theorem sorted_tup {t : Addr} {vs : List Value} {ltv : Value → Value → Bool} {R : Value → Shared → Prop} (O : SrtO.Swo ltv) (ht : IsTup s.heap t vs.toArray) (fit : vs.length ≤ sizeLine)
    (hS : 2 ≤ vs.length → ∀ (h₁ : Heap) (a : Addr), SrtO.SortableO prog w A.in1.in1 { s with heap := h₁ } a vs ltv)
    (k : ∀ out : List Value, SrtO.Srtd ltv out → SrtO.Stb ltv out vs → R (.ref (s.heap.objs.size + 1)) { s with heap := sortedAll s.heap vs out.toArray }) :
    wpAny (model prog w) A (call (.builtin "sorted") [.ref t]) R E s := by
  refine Calls.call_function_entry kind_sorted plain_sorted entry_sorted (args_sorted1 _) ?_
  unfold Builtin.«sorted»
  refine wpAny_bind (m := checkCount "sorted" 1 1 _) (wpAny_pure ?_)
  refine wpAny_bind (gather_tup ht ?_ fit)
  refine wpAny_bind (wpAny_newList ?_ fit)
  have sz : (gath s.heap vs).objs.size = s.heap.objs.size + 1 := by
    show ((s.heap.push (seqObj "list" #[] 0)).update _ _).objs.size = _
    rw [Heap.size_update, size_push']
  have at_l : ((gath s.heap vs).push (seqObj "list" vs.toArray 0)).get? (s.heap.objs.size + 1) = some (seqObj "list" vs.toArray 0) := by
    rw [← sz]
    exact Heap.get?_push_size _ rfl
  show wpAny _ _ _ _ _ { s with heap := (gath s.heap vs).push (seqObj "list" vs.toArray 0) }
  rw [sz]
  refine wpAny_bind (wpAny_holding (wpAny_call_entry slot_list_sort ⟨_, at_l, rfl⟩ entry_list_sort (SrtO.list_sort_ord O at_l fit (fun h2 => hS h2 _ _) fun out hs hb => ⟨_, rfl, ?_⟩) (args_list_sort _)))
  exact wpAny_pure ⟨_, rfl, k out hs hb⟩
end
section
variable {X : Cx}
def rSortedT2 (K : PySem.W.Frag) : List V → Hp → VK → Prop := fun vs H Q => ∃ (a : Addr) (ns : List Int), vs = [V.ref a] ∧ SqT K H a (ns.map V.int) ∧
  ∀ (ms : List Int) (p : Addr), ms.Perm ns → ms.Pairwise (· ≤ ·) → H p = none → Q (.ref p) (upd H p (.lst (ms.map V.int)))
theorem cr_sortedT2 : CallR X (.builtin "sorted") (rSortedT2 X.K) := by
  intro pins s σ H vs us Q I r h
  obtain ⟨a, ns, rfl, hs, q⟩ := h
  obtain ⟨its, rv, ht, fit⟩ := I.tuple hs
  rw [Vals.ref1 r]
  have hints := rv.ints
  refine sorted_tup SrtO.swo_int ht (by rw [← rv.length]; exact fit) (fun h2 h₁ a' => SrtO.ints_sortable hints h2) fun out h1 h2 => ?_
  obtain ⟨k1, k2, k3⟩ := SrtO.ints_out hints h1 h2
  obtain ⟨ep, he⟩ := PyProof.Rows.sortedAll_at s.heap its out.toArray
  have len : ((out.map SrtO.iv).map V.int).length ≤ sizeLine := by
    rw [List.length_map, k2.length_eq]
    rw [List.length_map] at fit
    exact fit
  have new : H (s.heap.objs.size + 1) = none := I.hok.fresh (Nat.le_succ _)
  exact ⟨.ref _, upd H (s.heap.objs.size + 1) (.lst ((out.map SrtO.iv).map V.int)), I.laid (t' := s.toks) (fun _ _ => PyProof.Rows.sortedAll_old) (Nat.le_succ _) ⟨len, out, ep, vals_of_ints k1, he⟩, rfl, q _ _ k2 k3 new⟩
end
section
variable {K : PySem.W.Frag} {σ : L2.St} {F : Hp} {ta : TE}
theorem en_sortT {ns ms : List Int} (h : Er (rTup rInt) ta σ F ns) (hm : ∀ ns' : List Int, ns'.Perm ns → ns'.Pairwise (· ≤ ·) → ns' = ms) : En rInt (tCB (rSortedT2 K) (tCons ta tNil)) σ F ms := fun H1 e Q q => h H1 e _ fun v H2 e2 ⟨p, xs, hx, hp, hal⟩ => by
  rw [rel_ints hal] at hp
  refine ⟨p, ns, congrArg (· :: []) hx, SqT.of (part_sub (e.trans e2) p _ hp), fun ns' c h1 h2 hc => ?_⟩
  rw [hm ns' h1 h2]
  exact q c _ (e2.trans (Ex.new hc)) (new_at e e2 hc (ints_rel ms))
end
end DL
set_option Elab.async false
set_option linter.all false
set_option maxRecDepth 100000
set_option maxHeartbeats 4000000
/-! the world of a def's body: F0, H0 at its entry; G what stands still by now; H the heap by now -/
namespace DL
open PySem L2 Evl
structure Wd (F0 H0 G H : Hp) : Prop where
  old : Ex F0 G
  sub : Ex G H
  up : Ex H0 H
  nw : ∀ q u, G q = some u → F0 q = none → H0 q = none
/-- from one point to the next: but the object at x all that stood stands, nothing that was open has come into the frame -/
structure Stp (x : Option Addr) (G H G2 H2 : Hp) : Prop where
  fr : Ex G G2
  hp : ∀ c u, H c = some u → ∃ u2, H2 c = some u2 ∧ (some c ≠ x → u2 = u)
  nw : ∀ c u, H c = some u → G c = none → G2 c = none
section
variable {α β γ δ : Type} {K : PySem.W.Frag} {σ σ2 : L2.St} {F0 H0 F G G2 G3 H H1 H2 H3 : Hp} {ta tb te tl : TE} {t : TT} {v : V} {r : Rep α} {s : Rep β} {a : α} {b : β} {as : List α} {bs : List β} {p q : Addr} {x y : Option Addr}
theorem Stp.at (s : Stp x G H G2 H2) {c : Addr} {u : HO} (n : some c ≠ x) (h : H c = some u) : H2 c = some u := by
  obtain ⟨u2, h1, h2⟩ := s.hp c u h
  rw [h1, h2 n]
theorem Stp.ex (s : Stp none G H G2 H2) : Ex H H2 := fun c u h => s.at (fun z => nomatch z) h
theorem Stp.refl : Stp x G H G H := ⟨Ex.refl _, fun _ u h => ⟨u, h, fun _ => rfl⟩, fun _ _ _ h => h⟩
theorem Stp.trans (a : Stp x G H G2 H2) (b : Stp x G2 H2 G3 H3) : Stp x G H G3 H3 := ⟨a.fr.trans b.fr, fun c u h => by
  obtain ⟨u2, h1, h2⟩ := a.hp c u h
  obtain ⟨u3, h3, h4⟩ := b.hp c u2 h1
  exact ⟨u3, h3, fun n => (h4 n).trans (h2 n)⟩, fun c u h n => by
  obtain ⟨u2, h1, _⟩ := a.hp c u h
  exact b.nw c u2 h1 (a.nw c u h n)⟩
theorem Stp.any (a : Stp none G H G2 H2) : Stp x G H G2 H2 := ⟨a.fr, fun c u h => by
  obtain ⟨u2, h1, h2⟩ := a.hp c u h
  exact ⟨u2, h1, fun _ => h2 fun z => nomatch z⟩, a.nw⟩
theorem stp_ev (e : Ex H H2) : Stp none G H (part G H H2) H2 := ⟨part_ex, fun c u h => ⟨u, e c u h, fun _ => rfl⟩, fun c u h n => part_old n h⟩
theorem stp_same (e : Ex H H2) : Stp none G H G H2 := ⟨Ex.refl _, fun c u h => ⟨u, e c u h, fun _ => rfl⟩, fun _ _ _ n => n⟩
theorem stp_new (n : New r as G H H2 p) (e0 : Ex G H) (e : Ex H H2) : Stp none G H (mns (part G H H2) p) H2 := ⟨n.ex e0, fun c u h => ⟨u, e c u h, fun _ => rfl⟩, fun c u h g => by
  by_cases hc : c = p
  · rw [hc, mns_at]
  · rw [mns_ne hc, part_old g h]⟩
theorem stp_put {o : HO} : Stp (some p) G H G (upd H p o) := ⟨Ex.refl _, fun c u h => by
  by_cases hc : c = p
  · subst hc
    exact ⟨o, upd_same, fun n => absurd rfl n⟩
  · exact ⟨u, (upd_ne hc).trans h, fun _ => rfl⟩, fun _ _ _ n => n⟩
theorem part_into {F H1 Hc H4 G : Hp} (eG : Ex G (part F H1 Hc)) (e0 : Ex F H1) (e1 : Ex H1 Hc) (e : Ex Hc H4) : Ex (part G Hc H4) (part F H1 H4) := fun q u hq => by
  cases hg : G q with
  | some z =>
    rw [part_in hg] at hq
    rw [← hq]
    exact part_up e q z (eG q z hg)
  | none =>
    cases hc : Hc q with
    | some z => rw [part_old hg hc] at hq; cases hq
    | none =>
      rw [part_new hg hc] at hq
      have n1 : H1 q = none := back_none e1 hc
      rw [part_new (back_none e0 n1) n1]
      exact hq
/-! worlds -/
theorem Wd.start (e : Ex F H) : Wd F H F H := ⟨Ex.refl _, e, Ex.refl _, fun q u h n => by
  rw [h] at n
  cases n⟩
theorem Wd.step (w : Wd F0 H0 G H) (s : Stp none G H G2 H2) (sub : Ex G2 H2) : Wd F0 H0 G2 H2 := ⟨w.old.trans s.fr, sub, w.up.trans s.ex, fun q u h n => by
  cases h0 : H0 q with
  | none => rfl
  | some z =>
    have hq := w.up q z h0
    cases g : G q with
    | none =>
      rw [s.nw q z hq g] at h
      cases h
    | some y =>
      rw [w.nw q y g n] at h0
      cases h0⟩
theorem Wd.ev (w : Wd F0 H0 G H) (e : Ex H H2) : Wd F0 H0 (part G H H2) H2 := w.step (stp_ev e) (part_sub (w.sub.trans e))
theorem Wd.same (w : Wd F0 H0 G H) (e : Ex H H2) : Wd F0 H0 G H2 := w.step (stp_same e) (w.sub.trans e)
theorem Wd.new (w : Wd F0 H0 G H) (n : New r as G H H2 p) (e : Ex H H2) : Wd F0 H0 (mns (part G H H2) p) H2 := w.step (stp_new n w.sub e) (n.sub w.sub e)
theorem Wd.put (w : Wd F0 H0 G H) {o : HO} (hG : G p = none) (h0 : H0 p = none) : Wd F0 H0 G (upd H p o) := ⟨w.old, Ex.mut w.sub hG, Ex.mut w.up h0, w.nw⟩
theorem Wd.into (w : Wd F0 H0 G H) : Ex G (part F0 H0 H) := fun q u h => by
  cases f : F0 q with
  | some z =>
    rw [part_in f, ← h]
    exact (w.old q z f).symm
  | none =>
    rw [part_new f (w.nw q u h f)]
    exact w.sub q u h
/-- what stands there at the end, for the caller -/
theorem Wd.out (w : Wd F0 H0 G H) (h : r.rel (part G H H2) v a) (e : Ex H H2) : r.rel (part F0 H0 H2) v a := r.mono ((w.ev e).into) h
theorem Wd.outN (w : Wd F0 H0 G H) (n : New r as G H H2 p) (e : Ex H H2) : New r as F0 H0 H2 p := by
  obtain ⟨h1, xs, h2, h3⟩ := n
  exact ⟨back_none w.up h1, xs, h2, h3.imp fun _ _ k => r.mono (mns_up (w.ev e).into) k⟩
theorem Wd.outMu (w : Wd F0 H0 G H) (m : Mu r as G H p) (h0 : H0 p = none) : New r as F0 H0 H p := by
  obtain ⟨h1, xs, h2, h3⟩ := m
  exact ⟨h0, xs, h2, h3.imp fun _ _ k => r.mono (ex_mns w.into h1) k⟩
/-! lists of one's own -/
theorem Mu.step (h : Mu r as G H p) (s : Stp x G H G2 H2) (n : some p ≠ x) : Mu r as G2 H2 p := by
  obtain ⟨h1, xs, h2, h3⟩ := h
  exact ⟨s.nw p _ h2 h1, xs, s.at n h2, h3.imp fun _ _ k => r.mono s.fr k⟩
theorem Mu.go (h : Mu r as G H p) (s : Stp none G H G2 H2) : Mu r as G2 H2 p := h.step s fun z => nomatch z
/-! statements; w: something behind, v: the last -/
variable {D : Ends} {tu tw tz : TS} {g : TG} {i : Nat}
theorem v_asg (w : Wd F0 H0 G H) (h : Er r te σ G a) (k : ∀ v G2 H2, Wd F0 H0 G2 H2 → Stp none G H G2 H2 → r.rel G2 v a → D.nx (σ.set i (some v)) H2) : tAsg te (gName i) D σ H := h H w.sub _ fun v H2 e hv => k v _ H2 (w.ev e) (stp_ev e) hv
theorem w_asg (w : Wd F0 H0 G H) (h : Er r te σ G a) (k : ∀ v G2 H2, Wd F0 H0 G2 H2 → Stp none G H G2 H2 → r.rel G2 v a → tz D (σ.set i (some v)) H2) : tSeq (tAsg te (gName i)) tz D σ H := v_asg (D := { D with nx := tz D }) w h k
theorem v_asgI {n : Int} (w : Wd F0 H0 G H) (h : Er rInt te σ G n) (k : ∀ H2, Wd F0 H0 G H2 → Stp none G H G H2 → D.nx (σ.set i (some (.int n))) H2) : tAsg te (gName i) D σ H := h H w.sub _ fun v H2 e hv => by
  rw [show v = V.int n from hv]
  exact k H2 (w.same e) (stp_same e)
theorem w_asgI {n : Int} (w : Wd F0 H0 G H) (h : Er rInt te σ G n) (k : ∀ H2, Wd F0 H0 G H2 → Stp none G H G H2 → tz D (σ.set i (some (.int n))) H2) : tSeq (tAsg te (gName i)) tz D σ H := v_asgI (D := { D with nx := tz D }) w h k
theorem v_asgN (w : Wd F0 H0 G H) (h : En r te σ G as) (k : ∀ p G2 H2, Wd F0 H0 G2 H2 → Stp none G H G2 H2 → Mu r as G2 H2 p → H p = none → D.nx (σ.set i (some (.ref p))) H2) : tAsg te (gName i) D σ H := h H w.sub _ fun p H2 e n => k p _ H2 (w.new n e) (stp_new n w.sub e) n.mu n.1
theorem w_asgN (w : Wd F0 H0 G H) (h : En r te σ G as) (k : ∀ p G2 H2, Wd F0 H0 G2 H2 → Stp none G H G2 H2 → Mu r as G2 H2 p → H p = none → tz D (σ.set i (some (.ref p))) H2) : tSeq (tAsg te (gName i)) tz D σ H := v_asgN (D := { D with nx := tz D }) w h k
theorem v_ret (w : Wd F0 H0 G H) (h : Er r te σ G a) (k : ∀ v H2, Ex H0 H2 → r.rel (part F0 H0 H2) v a → D.rt v H2) : tRet te D σ H := h H w.sub _ fun v H2 e hv => k v H2 (w.up.trans e) (w.out hv e)
theorem v_retI {n : Int} (w : Wd F0 H0 G H) (h : Er rInt te σ G n) (k : ∀ H2, Ex H0 H2 → D.rt (.int n) H2) : tRet te D σ H := h H w.sub _ fun v H2 e hv => by
  rw [show v = V.int n from hv]
  exact k H2 (w.up.trans e)
theorem v_retB {n : Bool} (w : Wd F0 H0 G H) (h : Er rBl te σ G n) (k : ∀ H2, Ex H0 H2 → D.rt (.bl n) H2) : tRet te D σ H := h H w.sub _ fun v H2 e hv => by
  rw [show v = V.bl n from hv]
  exact k H2 (w.up.trans e)
theorem v_retN (w : Wd F0 H0 G H) (h : En r te σ G as) (k : ∀ p H2, Ex H0 H2 → New r as F0 H0 H2 p → D.rt (.ref p) H2) : tRet te D σ H := h H w.sub _ fun p H2 e n => k p H2 (w.up.trans e) (w.outN n e)
theorem v_retM (w : Wd F0 H0 G H) (hi : σ[i]? = some (some (.ref p))) (m : Mu r as G H p) (h0 : H0 p = none) (k : New r as F0 H0 H p → D.rt (.ref p) H) : tRet (tVar i) D σ H := ⟨_, hi, k (w.outMu m h0)⟩
theorem v_if {b : Bool} (w : Wd F0 H0 G H) (h : EvT t σ G b) (h1 : b = true → ∀ H2, Wd F0 H0 G H2 → Stp none G H G H2 → tu D σ H2) (h2 : b = false → ∀ H2, Wd F0 H0 G H2 → Stp none G H G H2 → tw D σ H2) : tIfS t tu tw D σ H := h H w.sub _ fun H2 e => by
  cases b with
  | true =>
    show tu D σ H2
    exact h1 rfl H2 (w.same e) (stp_same e)
  | false =>
    show tw D σ H2
    exact h2 rfl H2 (w.same e) (stp_same e)
theorem w_if {b : Bool} (w : Wd F0 H0 G H) (h : EvT t σ G b) (h1 : b = true → ∀ H2, Wd F0 H0 G H2 → Stp none G H G H2 → tu { D with nx := tz D } σ H2) (h2 : b = false → ∀ H2, Wd F0 H0 G H2 → Stp none G H G H2 → tw { D with nx := tz D } σ H2) : tSeq (tIfS t tu tw) tz D σ H := v_if (D := { D with nx := tz D }) w h h1 h2
theorem w_when {b : Bool} (w : Wd F0 H0 G H) (h : EvT t σ G b) (h1 : b = true → ∀ H2, Wd F0 H0 G H2 → Stp none G H G H2 → tu { D with nx := tz D } σ H2) (h2 : b = false → ∀ H2, Wd F0 H0 G H2 → Stp none G H G H2 → tz D σ H2) : tSeq (tIfS t tu tNext) tz D σ H := v_if (D := { D with nx := tz D }) w h h1 h2
theorem v_when {b : Bool} (w : Wd F0 H0 G H) (h : EvT t σ G b) (h1 : b = true → ∀ H2, Wd F0 H0 G H2 → Stp none G H G H2 → tu D σ H2) (h2 : b = false → ∀ H2, Wd F0 H0 G H2 → Stp none G H G H2 → D.nx σ H2) : tIfS t tu tNext D σ H := v_if w h h1 h2
/-- if c: return False, where c is false -/
theorem w_no {b : Bool} (w : Wd F0 H0 G H) (h : EvT t σ G b) (hb : b = false) (k : ∀ H2, Wd F0 H0 G H2 → Stp none G H G H2 → tz D σ H2) : tSeq (tIfS t tu tNext) tz D σ H := w_when w h (fun z => by rw [hb] at z; cases z) fun _ => k
theorem v_no {b : Bool} (w : Wd F0 H0 G H) (h : EvT t σ G b) (hb : b = false) (k : ∀ H2, Wd F0 H0 G H2 → Stp none G H G H2 → D.nx σ H2) : tIfS t tu tNext D σ H := v_when w h (fun z => by rw [hb] at z; cases z) fun _ => k
/-- the same, asked over another frame -/
theorem w_noF {b : Bool} (w : Wd F0 H0 G H) (e0 : Ex G2 H) (h : EvT t σ G2 b) (hb : b = false) (k : ∀ H2, Wd F0 H0 G H2 → Stp none G H G H2 → tz D σ H2) : tSeq (tIfS t tu tNext) tz D σ H := h H e0 _ fun H2 e => by
  subst hb
  show tz D σ H2
  exact k H2 (w.same e) (stp_same e)
/-- xs[i] = e, a list of one's own -/
theorem w_put {tb : TE} {j : Nat} (w : Wd F0 H0 G H) (h : Er r te σ G a) (hi : σ[i]? = some (some (.ref p))) (m : Mu r as G H p) (h0 : H0 p = none) (hj : Er rInt tb σ G (j : Int)) (hl : j < as.length)
    (k : ∀ G2 H2, Wd F0 H0 G2 H2 → Stp (some p) G H G2 H2 → Mu r (as.set j a) G2 H2 p → tz D σ H2) : tSeq (tAsg te (gSub (tVar i) tb rSetL)) tz D σ H :=
  h H w.sub _ fun v H2 e2 hv => ⟨.ref p, hi, hj H2 (w.sub.trans e2) _ fun x H3 e3 hx => by
    obtain ⟨h1, xs, h2, h3⟩ := m
    cases (show x = V.int (j : Int) from hx)
    have e23 := e2.trans e3
    have hG : part G H H3 p = none := part_old h1 h2
    exact ⟨p, xs, (j : Int), j, rfl, rfl, e23 p _ h2, ixN_nat (by rw [h3.len]; exact hl), k (part G H H3) _ ((w.ev e23).put hG h0) (Stp.trans (stp_ev e23).any stp_put)
      ⟨hG, _, upd_same, Al.set (r.mono (part_up e3) hv) j (h3.imp fun _ _ k => r.mono part_ex k)⟩⟩⟩
theorem v_app (w : Wd F0 H0 G H) (hi : σ[i]? = some (some (.ref p))) (m : Mu r as G H p) (h0 : H0 p = none) (hl : as.length < 100000) (h : Er r te σ G a)
    (k : ∀ G2 H2, Wd F0 H0 G2 H2 → Stp (some p) G H G2 H2 → Mu r (as ++ [a]) G2 H2 p → D.nx σ H2) : tDrop (tBM K "list" rAppend (tVar i) (tCons te tNil)) D σ H := by
  obtain ⟨h1, xs, h2, h3⟩ := m
  refine ⟨_, hi, Or.inl ⟨rfl, xs, SqL.of h2⟩, h H w.sub _ fun v H2 e2 hv => ⟨p, xs, v, rfl, rfl, e2 p _ h2, by rw [h3.len]; exact sz_lt hl, ?_⟩⟩
  have hG : part G H H2 p = none := part_old h1 h2
  exact k (part G H H2) _ ((w.ev e2).put hG h0) (Stp.trans (stp_ev e2).any stp_put) ⟨hG, _, upd_same, Al.snoc (h3.imp fun _ _ k => r.mono part_ex k) hv⟩
theorem w_app (w : Wd F0 H0 G H) (hi : σ[i]? = some (some (.ref p))) (m : Mu r as G H p) (h0 : H0 p = none) (hl : as.length < 100000) (h : Er r te σ G a)
    (k : ∀ G2 H2, Wd F0 H0 G2 H2 → Stp (some p) G H G2 H2 → Mu r (as ++ [a]) G2 H2 p → tz D σ H2) : tSeq (tDrop (tBM K "list" rAppend (tVar i) (tCons te tNil))) tz D σ H := v_app (D := { D with nx := tz D }) w hi m h0 hl h k
/-- a list of one's own, to be read as it stands -/
theorem Mu.froz (m : Mu r as G H p) (w : Wd F0 H0 G H) (h0 : H0 p = none) : ∃ G2, Wd F0 H0 G2 H ∧ Ex G G2 ∧ (rLst r).rel G2 (.ref p) as ∧ ∀ c, c ≠ p → G2 c = G c := by
  obtain ⟨h1, xs, h2, h3⟩ := m
  refine ⟨upd G p (.lst xs), ⟨w.old.trans (Ex.new h1), fun q o hq => ?_, w.up, fun q u hq hn => ?_⟩, Ex.new h1, ⟨p, xs, rfl, upd_same, h3.imp fun _ _ k => r.mono (Ex.new h1) k⟩, fun c hc => upd_ne hc⟩
  · by_cases hqp : q = p
    · subst hqp
      rw [upd_same] at hq
      rw [← hq]
      exact h2
    · rw [upd_ne hqp] at hq
      exact w.sub q o hq
  · by_cases hqp : q = p
    · subst hqp
      exact h0
    · rw [upd_ne hqp] at hq
      exact w.nw q u hq hn
def MonoS (S : Hp → α → L2.St → L2.St → Prop) : Prop := ∀ G G2 a σ σ2, Ex G G2 → S G a σ σ2 → S G2 a σ σ2
theorem mono_sn {j : Nat} : MonoS (SN r j) := fun _ _ _ _ _ e ⟨x, h, k⟩ => ⟨x, r.mono e h, k⟩
theorem mono_sp {i j : Nat} : MonoS (SPr r s i j) := fun _ _ _ _ _ e ⟨x, y, h, h2, k⟩ => ⟨x, y, r.mono e h, s.mono e h2, k⟩
/-- what is wanted between two turns of a loop: G1 the frame of what it goes through -/
def Nxt (F0 H0 G1 : Hp) (Pv : L2.St → Hp → Hp → Prop) : L2.St → Hp → Prop := fun σ H => ∃ G, Wd F0 H0 G H ∧ Ex G1 G ∧ Pv σ G H
/-- for: what holds between two turns, by the items taken -/
theorem v_for {wi : TI} {tb : TS} {S : Hp → α → L2.St → L2.St → Prop} (w : Wd F0 H0 G H) (h : Src wi σ G r as) (hg : Tgt g r S) (hm : MonoS S) (Pv : List α → L2.St → Hp → Hp → Prop)
    (h0 : ∀ G1 H1, Wd F0 H0 G1 H1 → Stp none G H G1 H1 → Pv [] σ G1 H1)
    (hs : ∀ G1 pre a post σ' σ2 G' H' G2 H2, as = pre ++ a :: post → Pv pre σ' G' H' → Stp none G' H' G2 H2 → Wd F0 H0 G2 H2 → Ex G1 G2 → S G2 a σ' σ2 →
      tb { D with nx := Nxt F0 H0 G1 (Pv (pre ++ [a])), ct := Nxt F0 H0 G1 (Pv (pre ++ [a])), bk := D.nx } σ2 H2)
    (hd : ∀ σ' G' H', Wd F0 H0 G' H' → Pv as σ' G' H' → D.nx σ' H') : tFor wi g tb D σ H := by
  refine d_for h hg w.sub (fun G1 pre => Nxt F0 H0 G1 (Pv pre)) (fun G1 pre σ' H' ⟨G', w', e', _⟩ => e'.trans w'.sub) (fun H1 e1 => ?_) (fun G1 pre a post σ' H' H2 σ2 has ⟨G', w', e', hP⟩ e2 hS => ?_) (fun G1 σ' H' ⟨G', w', _, hP⟩ => hd σ' G' H' w' hP)
  · exact ⟨_, w.ev e1, Ex.refl _, h0 _ H1 (w.ev e1) (stp_ev e1)⟩
  · exact hs G1 pre a post σ' σ2 G' H' (part G' H' H2) H2 has hP (stp_ev e2) (w'.ev e2) (e'.trans part_ex) (hm _ _ _ _ _ (part_frame e' w'.sub) hS)
theorem w_for {wi : TI} {S : Hp → α → L2.St → L2.St → Prop} (w : Wd F0 H0 G H) (h : Src wi σ G r as) (hg : Tgt g r S) (hm : MonoS S) (Pv : List α → L2.St → Hp → Hp → Prop)
    (h0 : ∀ G1 H1, Wd F0 H0 G1 H1 → Stp none G H G1 H1 → Pv [] σ G1 H1)
    (hs : ∀ G1 pre a post σ' σ2 G' H' G2 H2, as = pre ++ a :: post → Pv pre σ' G' H' → Stp none G' H' G2 H2 → Wd F0 H0 G2 H2 → Ex G1 G2 → S G2 a σ' σ2 →
      tu { D with nx := Nxt F0 H0 G1 (Pv (pre ++ [a])), ct := Nxt F0 H0 G1 (Pv (pre ++ [a])), bk := tz D } σ2 H2)
    (hd : ∀ σ' G' H', Wd F0 H0 G' H' → Pv as σ' G' H' → tz D σ' H') : tSeq (tFor wi g tu) tz D σ H := v_for (D := { D with nx := tz D }) w h hg hm Pv h0 hs hd
end
end DL
set_option Elab.async false
set_option linter.all false
set_option maxHeartbeats 1000000
namespace K98
open DL
/-! ### tuples -/
/-- the least number that may stand behind t -/
def low (t : List Int) : Int := match t.getLast? with
  | some x => x + 1
  | none => 0
theorem low_nil : low [] = 0 := rfl
theorem low_snoc (t : List Int) (k : Int) : low (t ++ [k]) = k + 1 := by
  unfold low
  rw [List.getLast?_append]
  rfl
def step (c : Nat) (found : List (List Int)) : List (List Int) := found.flatMap fun t => ((rng 0 c).filter fun x => decide (low t ≤ x)).map fun k => t ++ [k]
def tuples (c : Nat) : Nat → List (List Int)
  | 0 => [[]]
  | n + 1 => step c (tuples c n)
theorem rng_succ (lo : Int) (n : Nat) : rng lo (n + 1) = rng lo n ++ [lo + (n : Int)] := by
  unfold rng
  rw [List.range_succ, List.map_append]
  rfl
theorem rng_zero (lo : Int) : rng lo 0 = [] := rfl
theorem rng_low (lo : Int) (h : 0 ≤ lo) : ∀ c : Nat, ((rng 0 c).filter fun x => decide (lo ≤ x)) = rng lo ((c : Int) - lo).toNat
  | 0 => by
    have : (((0 : Nat) : Int) - lo).toNat = 0 := by omega
    rw [this]
    rfl
  | c + 1 => by
    rw [rng_succ, List.filter_append, rng_low lo h c, Int.zero_add]
    by_cases hc : lo ≤ (c : Int)
    · have e : (((c + 1 : Nat) : Int) - lo).toNat = ((c : Int) - lo).toNat + 1 := by omega
      rw [e, rng_succ, List.filter_cons, if_pos (by simpa using hc)]
      have e2 : lo + ((((c : Int) - lo).toNat : Nat) : Int) = (c : Int) := by omega
      rw [e2]
      rfl
    · have e : (((c + 1 : Nat) : Int) - lo).toNat = ((c : Int) - lo).toNat := by omega
      rw [e, List.filter_cons, if_neg (by simpa using hc), List.filter_nil, List.append_nil]
theorem step_app (c : Nat) (a b : List (List Int)) : step c (a ++ b) = step c a ++ step c b := List.flatMap_append
theorem step_one (c : Nat) (t : List Int) : step c [t] = ((rng 0 c).filter fun x => decide (low t ≤ x)).map fun k => t ++ [k] := List.flatMap_singleton _ _
theorem step_part {c : Nat} {l pre post : List (List Int)} {t : List Int} {p3 q3 : List Int} (h : l = pre ++ t :: post) (h3 : rng 0 c = p3 ++ q3) :
    (step c pre ++ (p3.filter fun x => decide (low t ≤ x)).map fun k => t ++ [k]).length ≤ (step c l).length := by
  rw [h, show pre ++ t :: post = pre ++ [t] ++ post by simp, step_app, step_app, step_one, h3, List.filter_append, List.map_append]
  simp only [List.length_append]
  omega
theorem low_nonneg {c : Nat} : ∀ {n : Nat} {t : List Int}, t ∈ tuples c n → 0 ≤ low t
  | 0, t, h => by
    rw [List.mem_singleton.mp h, low_nil]
    omega
  | n + 1, t, h => by
    obtain ⟨u, hu, h2⟩ := List.mem_flatMap.mp h
    obtain ⟨k, hk, rfl⟩ := List.mem_map.mp h2
    have h3 := low_nonneg hu
    have h4 := of_decide_eq_true (List.mem_filter.mp hk).2
    rw [low_snoc]
    omega
theorem low_le {c : Nat} : ∀ {n : Nat} {t : List Int}, t ∈ tuples c n → low t ≤ (c : Int)
  | 0, t, h => by
    rw [List.mem_singleton.mp h, low_nil]
    omega
  | n + 1, t, h => by
    obtain ⟨u, hu, h2⟩ := List.mem_flatMap.mp h
    obtain ⟨k, hk, rfl⟩ := List.mem_map.mp h2
    have := mem_rng.mp (List.mem_filter.mp hk).1
    rw [low_snoc]
    omega
theorem mem_len {c : Nat} : ∀ {n : Nat} {t : List Int}, t ∈ tuples c n → t.length = n
  | 0, t, h => by
    rw [List.mem_singleton.mp h]
    rfl
  | n + 1, t, h => by
    obtain ⟨u, hu, h2⟩ := List.mem_flatMap.mp h
    obtain ⟨k, hk, rfl⟩ := List.mem_map.mp h2
    rw [List.length_append, mem_len hu]
    rfl
theorem step_len (c : Nat) : ∀ found : List (List Int), (step c found).length ≤ found.length * c
  | [] => by
    show 0 ≤ _
    omega
  | t :: found => by
    have ih := step_len c found
    show ((((rng 0 c).filter fun x => decide (low t ≤ x)).map fun k => t ++ [k]) ++ step c found).length ≤ _
    rw [List.length_append, List.length_map, List.length_cons, Nat.succ_mul]
    have h2 := List.length_filter_le (fun x => decide (low t ≤ x)) (rng 0 c)
    rw [rng_len] at h2
    omega
theorem tuples_len {c : Nat} (hc : c ≤ 12) : ∀ n : Nat, (tuples c n).length ≤ 12 ^ n
  | 0 => Nat.le_refl _
  | n + 1 => by
    have h1 := step_len c (tuples c n)
    have h2 := tuples_len hc n
    have h3 : (tuples c n).length * c ≤ 12 ^ n * 12 := Nat.mul_le_mul h2 hc
    rw [Nat.pow_succ]
    exact Nat.le_trans h1 h3
theorem tuples_small {c n : Nat} (hc : c ≤ 12) (hn : n ≤ 4) : (tuples c n).length ≤ 20736 := Nat.le_trans (tuples_len hc n) (Nat.le_trans (Nat.pow_le_pow_right (by decide) hn) (by decide))
/-- as choices makes them -/
theorem step_rng {c n : Nat} : (tuples c n).flatMap (fun t => (rng (low t) ((c : Int) - low t).toNat).map fun k => t ++ [k]) = tuples c (n + 1) := by
  show _ = (tuples c n).flatMap _
  have : ∀ l : List (List Int), (∀ t ∈ l, 0 ≤ low t) → l.flatMap (fun t => (rng (low t) ((c : Int) - low t).toNat).map fun k => t ++ [k]) = l.flatMap fun t => ((rng 0 c).filter fun x => decide (low t ≤ x)).map fun k => t ++ [k] := by
    intro l
    induction l with
    | nil => intro _; rfl
    | cons t l ih =>
      intro h
      rw [List.flatMap_cons, List.flatMap_cons, ih fun u hu => h u (List.mem_cons_of_mem _ hu), rng_low (low t) (h t List.mem_cons_self)]
  exact this _ fun t ht => low_nonneg ht
def upTo (c : Nat) : Nat → List (List Int)
  | 0 => []
  | n + 1 => upTo c n ++ tuples c n
theorem upTo_len {c : Nat} (hc : c ≤ 12) : ∀ {n : Nat}, n ≤ 5 → (upTo c n).length ≤ n * 20736
  | 0, _ => Nat.le_refl _
  | n + 1, h => by
    have h1 := upTo_len hc (n := n) (by omega)
    have h2 := tuples_small hc (n := n) (by omega)
    show (upTo c n ++ tuples c n).length ≤ _
    rw [List.length_append]
    omega
/-! ### lots -/
def lotFrom (c : Int) : Int → List Int → Bool
  | _, [] => true
  | b, x :: xs => if x ≤ b ∨ x ≥ c then false else lotFrom c x xs
def isLot (t : List Int) (c : Int) : Bool := lotFrom c (-1) t
/-- as the law says it, place by place -/
def lotAt (t : List Int) (c : Int) (k : Nat) : Bool := match t[k]? with
  | none => true
  | some x => !(decide (x < 0) || decide (x ≥ c)) && !(decide (0 < k) && (match t[k - 1]? with | none => false | some y => decide (x ≤ y)))
theorem lot_all (c : Int) : ∀ (t : List Int) (b : Int), -1 ≤ b → (lotFrom c b t = true ↔ ∀ k x, t[k]? = some x → (x < c ∧ (k = 0 → b < x) ∧ ∀ y, 0 < k → t[k - 1]? = some y → y < x))
  | [], b, _ => by simp [lotFrom]
  | x :: xs, b, hb => by
    unfold lotFrom
    by_cases h : x ≤ b ∨ x ≥ c
    · rw [if_pos h]
      constructor
      · intro z; cases z
      · intro q
        have := q 0 x rfl
        have q2 := this.2.1 rfl
        omega
    · rw [if_neg h, lot_all c xs x (by omega)]
      constructor
      · intro q k y hy
        cases k with
        | zero =>
          cases hy
          exact ⟨by omega, fun _ => by omega, fun y h0 => absurd h0 (by omega)⟩
        | succ k =>
          have h1 := q k y hy
          refine ⟨h1.1, fun z => by omega, fun z _ hz => ?_⟩
          cases k with
          | zero =>
            cases hz
            exact h1.2.1 rfl
          | succ k => exact h1.2.2 z (by omega) hz
      · intro q k y hy
        have h1 := q (k + 1) y hy
        refine ⟨h1.1, fun z => ?_, fun z h0 hz => h1.2.2 z (by omega) ?_⟩
        · subst z
          exact h1.2.2 x (by omega) rfl
        · cases k with
          | zero => omega
          | succ k => exact hz
theorem lot_same (t : List Int) (c : Int) : isLot t c = (List.range t.length).all fun k => lotAt t c k := by
  have key : isLot t c = true ↔ ((List.range t.length).all fun k => lotAt t c k) = true := by
    unfold isLot
    rw [lot_all c t (-1) (by omega), List.all_eq_true]
    constructor
    · intro q k hk
      have hk := List.mem_range.mp hk
      have hx : t[k]? = some t[k] := List.getElem?_eq_getElem hk
      have h1 := q k _ hx
      -- all before k are not below nought
      have pos : ∀ j y, j ≤ k → t[j]? = some y → 0 ≤ y := by
        intro j
        induction j with
        | zero =>
          intro y _ hy
          have := (q 0 y hy).2.1 rfl
          omega
        | succ j ih =>
          intro y hj hy
          have hjl : j < t.length := by omega
          have h2 := ih t[j] (by omega) (List.getElem?_eq_getElem hjl)
          have := (q (j + 1) y hy).2.2 t[j] (by omega) (by rw [Nat.add_sub_cancel]; exact List.getElem?_eq_getElem hjl)
          omega
      have h0 := pos k t[k] (Nat.le_refl _) hx
      unfold lotAt
      rw [hx]
      have a1 : decide (t[k] < 0) = false := decide_eq_false (by omega)
      have a2 : decide (t[k] ≥ c) = false := decide_eq_false (by omega)
      simp only [a1, a2]
      by_cases hk0 : 0 < k
      · have hp : t[k - 1]? = some (t[k - 1]'(by omega)) := List.getElem?_eq_getElem (by omega)
        rw [hp]
        have := h1.2.2 _ hk0 hp
        have a3 : decide (t[k] ≤ t[k - 1]'(by omega)) = false := decide_eq_false (by omega)
        simp only [a3]
        simp
      · have a4 : decide (0 < k) = false := decide_eq_false hk0
        simp [a4]
    · intro q k x hx
      have hk : k < t.length := (List.getElem?_eq_some_iff.mp hx).1
      have h1 := q k (List.mem_range.mpr hk)
      unfold lotAt at h1
      rw [hx] at h1
      simp only [Bool.and_eq_true, Bool.not_eq_true', Bool.or_eq_false_iff, decide_eq_false_iff_not] at h1
      refine ⟨by omega, fun _ => by omega, fun y h0 hy => ?_⟩
      have h2 := h1.2
      rw [hy, decide_eq_true h0] at h2
      simp only [Bool.true_and, decide_eq_false_iff_not] at h2
      omega
  cases h1 : isLot t c with
  | true => exact (key.mp h1).symm
  | false =>
    cases h2 : ((List.range t.length).all fun k => lotAt t c k) with
    | false => rfl
    | true => rw [key.mpr h2] at h1; cases h1
/-! ### marks -/
/-- two lists of one of 0 .. 11 each, in order -/
theorem rng_sorted (lo : Int) : ∀ n : Nat, (rng lo n).Pairwise (· < ·)
  | 0 => .nil
  | n + 1 => by
    rw [rng_succ, List.pairwise_append]
    refine ⟨rng_sorted lo n, List.pairwise_singleton _ _, fun a ha b hb => ?_⟩
    rw [List.mem_singleton.mp hb]
    have := mem_rng.mp ha
    omega
theorem sorted_eq : ∀ {l₁ l₂ : List Int}, l₁.Perm l₂ → l₁.Pairwise (· ≤ ·) → l₂.Pairwise (· ≤ ·) → l₁ = l₂
  | [], l₂, p, _, _ => (List.Perm.nil_eq p)
  | a :: l₁, [], p, _, _ => absurd p.length_eq (by simp)
  | a :: l₁, b :: l₂, p, h1, h2 => by
    have hab : a = b := by
      have ha : a ∈ b :: l₂ := p.mem_iff.mp List.mem_cons_self
      have hb : b ∈ a :: l₁ := p.mem_iff.mpr List.mem_cons_self
      rcases List.mem_cons.mp ha with e | ha
      · exact e
      · rcases List.mem_cons.mp hb with e | hb
        · exact e.symm
        · have q1 := (List.pairwise_cons.mp h1).1 b hb
          have q2 := (List.pairwise_cons.mp h2).1 a ha
          omega
    subst hab
    rw [sorted_eq (List.Perm.cons_inv p) (List.pairwise_cons.mp h1).2 (List.pairwise_cons.mp h2).2]
/-- lists of things in order -/
structure Lot12 (t : List Int) : Prop where
  asc : t.Pairwise (· < ·)
  mem : ∀ x ∈ t, 0 ≤ x ∧ x < 12
theorem lot12_filter (f : Int → Bool) : Lot12 ((rng 0 12).filter f) := ⟨(rng_sorted 0 12).filter f, fun x hx => by
  have := mem_rng.mp (List.mem_filter.mp hx).1
  omega⟩
theorem Lot12.nil : Lot12 [] := ⟨.nil, fun x hx => by cases hx⟩
theorem asc_nodup : ∀ {t : List Int}, t.Pairwise (· < ·) → t.Nodup := fun h => h.imp fun h => by omega
theorem join_sorted {a b ms : List Int} (ha : Lot12 a) (hb : Lot12 b) (hd : ∀ x ∈ a, x ∉ b) (hp : ms.Perm (a ++ b)) (hs : ms.Pairwise (· ≤ ·)) : ms = (rng 0 12).filter fun x => decide (x ∈ a) || decide (x ∈ b) := by
  refine sorted_eq ?_ hs (((rng_sorted 0 12).filter _).imp fun h => by omega)
  refine hp.trans ?_
  refine (List.perm_ext_iff_of_nodup ?_ (asc_nodup ((rng_sorted 0 12).filter _))).mpr fun x => ?_
  · refine List.nodup_append.mpr ⟨asc_nodup ha.asc, asc_nodup hb.asc, fun x hx y hy e => ?_⟩
    subst e
    exact hd x hx hy
  · rw [List.mem_append, List.mem_filter, mem_rng, Bool.or_eq_true, decide_eq_true_iff, decide_eq_true_iff]
    constructor
    · intro h
      refine ⟨?_, h⟩
      rcases h with h | h
      · have := ha.mem x h
        omega
      · have := hb.mem x h
        omega
    · intro h
      exact h.2
end K98
set_option Elab.async false
set_option linter.all false
set_option maxRecDepth 100000
set_option maxHeartbeats 4000000
namespace K98
open PySem PySem.Spec PyProof.Rows L2 Evl DL
def topS (i : Nat) : Stmt := PySem.Challenge.pw_fewserve_k98_lots_and_choices.main.body.getD i (.Pass ⟨0, 0, 0, 0⟩)
structure DefAt (K : PySem.W.Frag) (mg : Str → Option Value) (x : Str) (st : Stmt) (ps : List Str) (f : Addr) (fd : FuncData) : Prop where
  F : Fun K x x st f fd
  g : mg x = some (.ref f)
  b : Binds K fd ps []
/-! ### the mathematics -/
def cell (ns : List Int) (k : Nat) : Int := match ns[k]? with
  | some n => n
  | none => 7919 * (k : Int) + 104729
def draws (rest state : Int) : List Int → List Int
  | [] => []
  | m :: ms =>
    let st := (state * 16807 + 10007) % 2147483647
    if 0 < rest then rest % m :: draws (rest / m) st ms else st / 64 % m :: draws rest st ms
def drawn (c : Int) (ms : List Int) : List Int := draws (if 10 ^ 18 ≤ c then c - 10 ^ 18 else 0) (c * 48271 % 2147483647) ms
theorem draws_len : ∀ (ms : List Int) (r s : Int), (draws r s ms).length = ms.length
  | [], _, _ => rfl
  | m :: ms, r, s => by
    unfold draws
    dsimp only
    split
    · rw [List.length_cons, List.length_cons, draws_len ms]
    · rw [List.length_cons, List.length_cons, draws_len ms]
theorem drawn_len {c : Int} {ms : List Int} : (drawn c ms).length = ms.length := draws_len ms _ _
theorem draws_get : ∀ (ms : List Int) (r s : Int) (i : Nat) (m : Int), (∀ x ∈ ms, 0 < x) → ms[i]? = some m → ∃ x, (draws r s ms)[i]? = some x ∧ 0 ≤ x ∧ x < m
  | [], _, _, i, m, _, h => by simp at h
  | m :: ms, r, s, 0, m', hp, h => by
    cases h
    have h0 := hp m List.mem_cons_self
    unfold draws
    dsimp only
    split
    · exact ⟨_, rfl, Int.emod_nonneg _ (by omega), Int.emod_lt_of_pos _ h0⟩
    · exact ⟨_, rfl, Int.emod_nonneg _ (by omega), Int.emod_lt_of_pos _ h0⟩
  | m :: ms, r, s, i + 1, m', hp, h => by
    unfold draws
    dsimp only
    split
    · exact draws_get ms _ _ i m' (fun x hx => hp x (List.mem_cons_of_mem _ hx)) h
    · exact draws_get ms _ _ i m' (fun x hx => hp x (List.mem_cons_of_mem _ hx)) h
/-! ### the law's cells and draws -/
abbrev s_law_cell : Stmt := topS 10
theorem sc_law_cell : FnScope ["script", "k"] ["script", "k"] (defScope s_law_cell) := ⟨rfl, rfl, rfl, by decide +kernel, rfl, by decide +kernel, by decide +kernel⟩
/- 0 script, 1 k -/
abbrev s_law_draws : Stmt := topS 11
theorem sc_law_draws : FnScope ["cell", "limits", "rest", "state", "drawn", "limit"] ["cell", "limits"] (defScope s_law_draws) := ⟨rfl, rfl, rfl, by decide +kernel, rfl, by decide +kernel, by decide +kernel⟩
/- 0 cell, 1 limits, 2 rest, 3 state, 4 drawn, 5 limit -/
def wCell (K : PySem.W.Frag) : (Hp → List V → Prop) → Int → Prop := fun P b => ∃ (ns : List Int) (k : Nat), P = A2 (rFro K) rInt ns (k : Int) ∧ ns.length ≤ 63 ∧ k ≤ 1000 ∧ b = cell ns k
def wDraws : (Hp → List V → Prop) → List Int → Prop := fun P b => ∃ (c : Int) (ms : List Int), P = A2 rInt (rLst rInt) c ms ∧ ms.length ≤ 1000 ∧ (∀ m ∈ ms, 0 < m ∧ m < 2 ^ 100) ∧ b = drawn c ms
section
variable {P : Program} {w : World} {K : PySem.W.Frag} {mg : Str → Option Value} {base : Heap}
theorem ok_law_cell {f : Addr} {fd : FuncData} (D : DefAt K mg "_law_cell" s_law_cell ["script", "k"] f fd) (mB_len : mg "len" = none) : FnOk P w K mg base CX0 1 f fd ["script", "k"] (spV rInt (wCell K)) := by
  refine D.F.ok sc_law_cell (fun vs H Q E h => ?_) (fun cdv A outer s H vs Q E hr h => ?_)
  · obtain ⟨F, Pp, b, _, _, ⟨ns, k, rfl, _⟩, ⟨v, w, rfl, _⟩, _⟩ := h
    rfl
  · obtain ⟨F, Pp, b, eF, _, ⟨ns, k, rfl, hl, hk, rfl⟩, ⟨v, w', rfl, hv, hw⟩, q⟩ := h
    cases (show w' = V.int k from hw)
    refine ⟨_, (pss_cons (ps_if (pt_cmpR op_lt (pv 1) (pe_callB (r := rLenQ K) call_len_seq (by rfl) mB_len (by decide +kernel) (pa_cons (pv 0) pa_nil)) (nomark _))
    (pss_one (ps_ret (pe_ix (r := rIxL K) ix_list (pv 0) (pv 1) (fun _ _ => rfl))))
    pss_nil)
  (pss_one (ps_ret (pe_op op_add (pe_op op_mul pe_int (pv 1)) pe_int)))), ?_⟩
    have e0 : Er (rFro K) (tVar 0) [some v, some (.int (k : Int))] F ns := er_var rfl hv
    refine q_when (F := F) (et_test (er_cmp0 (er_vi rfl) (er_lenF e0))) eF (fun hb H2 e2 => ?_) (fun hb H2 e2 => ?_)
    · have hb := of_decide_eq_true hb
      have hg : ns[k]? = some ns[k] := List.getElem?_eq_getElem (by omega)
      refine s_retI (F := F) (er_ixF e0 (er_vi rfl) (atI_nat hg)) (eF.trans e2) fun H3 e3 => ?_
      have ec : cell ns k = ns[k] := by
        unfold cell
        rw [hg]
      rw [ec] at q
      exact q _ H3 (e2.trans e3) rfl
    · have hb := of_decide_eq_false hb
      have hg : ns[k]? = none := List.getElem?_eq_none (by omega)
      refine s_retI (F := F) (er_I0 (er_I er_int (er_vi rfl) (Or.inl (by decide))) er_int) (eF.trans e2) fun H3 e3 => ?_
      have ec : cell ns k = 7919 * (k : Int) + 104729 := by
        unfold cell
        rw [hg]
      rw [ec] at q
      exact q _ H3 (e2.trans e3) rfl
theorem ok_law_draws {f : Addr} {fd : FuncData} (D : DefAt K mg "_law_draws" s_law_draws ["cell", "limits"] f fd) (mB_int : mg "int" = none) : FnOk P w K mg base CX0 1 f fd ["cell", "limits"] (spN rInt wDraws) := by
  refine D.F.ok sc_law_draws (fun vs H Q E h => ?_) (fun cdv A outer s H vs Q E hr h => ?_)
  · obtain ⟨F, Pp, b, _, _, ⟨c, ms, rfl, _⟩, ⟨v, w, rfl, _⟩, _⟩ := h
    rfl
  · obtain ⟨F, Pp, b, eF, _, ⟨c, ms, rfl, hl, hm, rfl⟩, ⟨v, w', rfl, hv, hw⟩, q⟩ := h
    cases (show v = V.int c from hv)
    refine ⟨_, (pss_cons (ps_set (i := 2) sc_law_draws.nd rfl (by first | exact Or.inl rfl | exact Or.inr rfl) pe_int)
  (pss_cut (ps_if (pt_cmpR op_ge (pv 0) (pe_op op_pow pe_int pe_int) (nomark _))
    (pss_one (ps_set (i := 2) sc_law_draws.nd rfl (by first | exact Or.inl rfl | exact Or.inr rfl) (pe_op op_sub (pv 0) (pe_op op_pow pe_int pe_int))))
    pss_nil)
  (pss_cons (ps_set (i := 3) sc_law_draws.nd rfl (by first | exact Or.inl rfl | exact Or.inr rfl) (pe_op op_mod (pe_op op_mul (pe_callTy (r := rInt1) call_int1 (by rfl) mB_int (by decide +kernel) (pa_cons (pv 0) pa_nil)) pe_int) pe_int))
  (pss_cons (ps_set (i := 4) sc_law_draws.nd rfl (by first | exact Or.inl rfl | exact Or.inr rfl) (pe_lst pa_nil))
  (pss_cons (ps_for PassesOwn.never rfl (pi_listK (K := K) (pv 1)) (pg_name (i := 5) sc_law_draws.nd rfl (by first | exact Or.inl rfl | exact Or.inr rfl))
    (pss_cons (ps_set (i := 3) sc_law_draws.nd rfl (by first | exact Or.inl rfl | exact Or.inr rfl) (pe_op op_mod (pe_op op_add (pe_op op_mul (pv 3) pe_int) pe_int) pe_int))
  (pss_one (ps_if (pt_cmpR op_gt (pv 2) pe_int (nomark _))
    (pss_cons (ps_expr (pe_bm PySem.F.plainAttrs_list PySem.F.slot_list_append PySem.F.type_list_append mt_append (pv 4) (pa_cons (pe_op op_mod (pv 2) (pv 5)) pa_nil)))
  (pss_one (ps_set (i := 2) sc_law_draws.nd rfl (by first | exact Or.inl rfl | exact Or.inr rfl) (pe_op op_fdivW (pv 2) (pv 5)))))
    (pss_one (ps_expr (pe_bm PySem.F.plainAttrs_list PySem.F.slot_list_append PySem.F.type_list_append mt_append (pv 4) (pa_cons (pe_op op_mod (pe_op op_fdivW (pv 3) pe_int) (pv 5)) pa_nil))))))))
  (pss_one (ps_ret (pv 4)))))))), ?_⟩
    -- rest = 0; if cell >= 10 ** 18: rest = cell - 10 ** 18
    refine q_asgI (F := F) er_int eF fun H1 e1 => ?_
    refine ⟨fun σ' H' => Ex H H' ∧ σ' = [some (.int c), some w', some (.int (if 10 ^ 18 ≤ c then c - 10 ^ 18 else 0)), none, none, none], ?_, fun σ2 H2 ⟨e2, hσ⟩ => ?_⟩
    · refine s_if (F := F) (et_test (er_cmp0 (er_vi rfl) (er_I (C := CPow) er_int er_int ⟨by decide, by decide, by decide⟩))) (eF.trans e1) (fun hb H2 e2 => ?_) (fun hb H2 e2 => ?_)
      · have hb : (10 : Int) ^ 18 ≤ c := of_decide_eq_true hb
        refine s_asgI (F := F) (er_I0 (er_vi rfl) (er_I (C := CPow) er_int er_int ⟨by decide, by decide, by decide⟩)) (eF.trans (e1.trans e2)) fun H3 e3 => ?_
        refine ⟨e1.trans (e2.trans e3), ?_⟩
        rw [if_pos hb]
        rfl
      · have hb : ¬ (10 : Int) ^ 18 ≤ c := of_decide_eq_false hb
        refine ⟨e1.trans e2, ?_⟩
        rw [if_neg hb]
        rfl
    subst hσ
    -- state, drawn
    refine q_asgI (F := F) (er_I (er_I (er_int1 (er_vi rfl)) er_int (Or.inr (by decide))) er_int (by decide)) (eF.trans e2) fun H3 e3 => ?_
    refine q_asgN (F := F) (r := rInt) (en_lst eal_nil (Nat.zero_le _)) (eF.trans (e2.trans e3)) fun p H4 e4 hp => ?_
    have eF3 := eF.trans (e2.trans e3)
    have e0 : Er (rLst rInt) (tVar 1) [some (.int c), some w', some (.int (if 10 ^ 18 ≤ c then c - 10 ^ 18 else 0)), some (.int (c * 48271 % 2147483647)), some (.ref p), none] F ms := er_var rfl hw
    have nF : F p = none := back_none eF3 hp.1
    -- the loop
    refine d_for (F := mns (part F H3 H4) p) (S := SN rInt 5) (src_list (e0.mono (hp.ex eF3))) tgt_n (hp.sub eF3 e4) (fun G pre σ' H' => ∃ (G' : Hp) (r s : Int) (ds : List Int) (x : Option V), Ex G G' ∧ Ex G' H' ∧ Ex H3 (mns H' p) ∧ Mu rInt ds G' H' p ∧ ds.length = pre.length ∧
      σ' = [some (.int c), some w', some (.int r), some (.int s), some (.ref p), x] ∧ ds ++ draws r s (ms.drop pre.length) = drawn c ms) (fun G pre σ' H' ⟨G', _, _, _, _, h1, h2, _⟩ => h1.trans h2) (fun H5 e5 => ?_) (fun G pre a post σ' H' H'' σ2 has hP e5 hS => ?_) (fun G σ' H' hP => ?_)
    · refine ⟨part (mns (part F H3 H4) p) H4 H5, _, _, [], none, Ex.refl _, part_sub ((hp.sub eF3 e4).trans e5), ?_, ?_, rfl, rfl, rfl⟩
      · exact ex_mns (e4.trans e5) hp.1
      · exact (hp.mu).part e5
    · obtain ⟨G', r, s, ds, x, g1, g2, g3, g4, g5, rfl, g6⟩ := hP
      obtain ⟨y, hy, rfl⟩ := hS
      cases (show y = V.int a from hy)
      have hma := hm a (by rw [has]; exact List.mem_append_right _ List.mem_cons_self)
      have hd : ms.drop pre.length = a :: post := by
        rw [has, List.drop_left]
      have hd2 : ms.drop (pre ++ [a]).length = post := by
        rw [has, List.length_append, show pre ++ a :: post = (pre ++ [a]) ++ post by simp, ← List.length_append, List.drop_left]
      have hlen : ds.length < 100000 := by
        have : pre.length ≤ ms.length := by
          rw [has, List.length_append]
          omega
        omega
      rw [hd] at g6
      unfold draws at g6
      dsimp only at g6
      -- state = ..
      refine q_asgI (F := G') (er_I (er_I0 (er_I (er_vi rfl) er_int (Or.inr (by decide))) er_int) er_int (by decide)) (g2.trans e5) fun H6 e6 => ?_
      have m6 := g4.up (Ex.refl _) g4.1 (e5.trans e6)
      refine s_if (F := G') (et_test (er_cmp0 (er_vi rfl) er_int)) (g2.trans (e5.trans e6)) (fun hb H7 e7 => ?_) (fun hb H7 e7 => ?_)
      · have hb := of_decide_eq_true hb
        rw [if_pos hb] at g6
        refine q_app (F := G') rfl (m6.up (Ex.refl _) g4.1 e7) hlen (er_I (er_vi rfl) (er_vi rfl) hma.1) (g2.trans (e5.trans (e6.trans e7))) fun o H8 G2 e8 i1 i2 i3 i4 => ?_
        refine s_asgI (F := G2) (er_I (C := CDivW) (er_vi rfl) (er_vi rfl) (wide_div hma.1 (b := 101) (by omega) (by decide) (by decide))) i2 fun H9 e9 => ?_
        refine ⟨G2, r / a, _, ds ++ [r % a], _, g1.trans i1, i2.trans e9, ?_, i3.up (Ex.refl _) i3.1 e9, ?_, rfl, ?_⟩
        · refine (ex_mns ((g3.trans mns_sub).trans (e5.trans (e6.trans (e7.trans e8)))) hp.1).trans ?_
          rw [← mns_upd (u := o)]
          exact mns_up e9
        · rw [List.length_append, List.length_append, g5]
          rfl
        · rw [hd2, List.append_assoc]
          exact g6
      · have hb := of_decide_eq_false hb
        rw [if_neg hb] at g6
        refine s_app (F := G') rfl (m6.up (Ex.refl _) g4.1 e7) hlen (er_I (er_I (C := CDivW) (er_vi rfl) er_int (wide_div (by decide) (b := 101) (by decide) (by decide) (by decide))) (er_vi rfl) hma.1) (g2.trans (e5.trans (e6.trans e7))) fun o H8 G2 e8 i1 i2 i3 i4 => ?_
        refine ⟨G2, r, _, ds ++ [_], _, g1.trans i1, i2, ?_, i3, ?_, rfl, ?_⟩
        · rw [mns_upd]
          exact ex_mns ((g3.trans mns_sub).trans (e5.trans (e6.trans (e7.trans e8)))) hp.1
        · rw [List.length_append, List.length_append, g5]
          rfl
        · rw [hd2, List.append_assoc]
          exact g6
    · obtain ⟨G', r, s, ds, x, g1, g2, g3, g4, g5, rfl, g6⟩ := hP
      rw [List.drop_length, show draws r s [] = [] from rfl, List.append_nil] at g6
      subst g6
      obtain ⟨h1, xs, h2, h3⟩ := g4
      refine ⟨_, rfl, q p H' (e2.trans (e3.trans (g3.trans mns_sub))) ⟨back_none (e2.trans e3) hp.1, xs, h2, h3.imp fun _ _ k => k⟩⟩
end
end K98
set_option Elab.async false
set_option linter.all false
set_option maxRecDepth 100000
set_option maxHeartbeats 4000000
namespace K98
open PySem PySem.Spec PyProof.Rows L2 Evl DL
abbrev s_choices : Stmt := topS 3
theorem sc_choices : FnScope ["count", "size", "found", "_", "chosen", "k"] ["count", "size"] (defScope s_choices) := ⟨rfl, rfl, rfl, by decide +kernel, rfl, by decide +kernel, by decide +kernel⟩
/- 0 count, 1 size, 2 found, 3 _, 4 chosen, 5 k -/
abbrev s_is_lot : Stmt := topS 5
theorem sc_is_lot : FnScope ["lot", "count", "before", "thing"] ["lot", "count"] (defScope s_is_lot) := ⟨rfl, rfl, rfl, by decide +kernel, rfl, by decide +kernel, by decide +kernel⟩
/- 0 lot, 1 count, 2 before, 3 thing -/
abbrev s_apart : Stmt := topS 6
theorem sc_apart : FnScope ["lot", "other", "thing"] ["lot", "other"] (defScope s_apart) := ⟨rfl, rfl, rfl, by decide +kernel, rfl, by decide +kernel, by decide +kernel⟩
/- 0 lot, 1 other, 2 thing -/
abbrev s_joined : Stmt := topS 7
theorem sc_joined : FnScope ["lot", "other"] ["lot", "other"] (defScope s_joined) := ⟨rfl, rfl, rfl, by decide +kernel, rfl, by decide +kernel, by decide +kernel⟩
/- 0 lot, 1 other -/
abbrev s_without : Stmt := topS 8
theorem sc_without : FnScope ["lot", "other", "thing"] ["lot", "other"] (defScope s_without) := ⟨rfl, rfl, rfl, by decide +kernel, rfl, by decide +kernel, by decide +kernel⟩
/- 0 lot, 1 other, 2 thing -/
abbrev s_law_tuples : Stmt := topS 12
theorem sc_law_tuples : FnScope ["count", "size", "found", "k", "longer", "few", "x"] ["count", "size"] (defScope s_law_tuples) := ⟨rfl, rfl, rfl, by decide +kernel, rfl, by decide +kernel, by decide +kernel⟩
/- 0 count, 1 size, 2 found, 3 k, 4 longer, 5 few, 6 x -/
abbrev s_law_is_lot : Stmt := topS 13
theorem sc_law_is_lot : FnScope ["given", "count", "k"] ["given", "count"] (defScope s_law_is_lot) := ⟨rfl, rfl, rfl, by decide +kernel, rfl, by decide +kernel, by decide +kernel⟩
/- 0 given, 1 count, 2 k -/
abbrev s_law_pair : Stmt := topS 14
theorem sc_law_pair : FnScope ["one", "other", "shared", "told", "x"] ["one", "other"] (defScope s_law_pair) := ⟨rfl, rfl, rfl, by decide +kernel, rfl, by decide +kernel, by decide +kernel⟩
/- 0 one, 1 other, 2 shared, 3 told, 4 x -/
def wTuples : (Hp → List V → Prop) → List (List Int) → Prop := fun P b => ∃ c n : Nat, P = A2 rInt rInt (c : Int) (n : Int) ∧ c ≤ 12 ∧ n ≤ 4 ∧ b = tuples c n
def wLot : (Hp → List V → Prop) → Bool → Prop := fun P b => ∃ (t : List Int) (c : Int), P = A2 (rTup rInt) rInt t c ∧ t.length ≤ 1000 ∧ b = isLot t c
def apartB (a b : List Int) : Bool := !((a.map fun x => decide (x ∈ b)).any id)
def wApart : (Hp → List V → Prop) → Bool → Prop := fun P k => ∃ a b : List Int, P = A2 (rTup rInt) (rTup rInt) a b ∧ a.length ≤ 1000 ∧ k = apartB a b
def both (a b : List Int) : List Int := (rng 0 12).filter fun x => decide (x ∈ a) || decide (x ∈ b)
def wJoined : (Hp → List V → Prop) → Option (List Int) → Prop := fun P k => ∃ a b : List Int, P = A2 (rTup rInt) (rTup rInt) a b ∧ Lot12 a ∧ Lot12 b ∧ a.length ≤ 12 ∧ b.length ≤ 12 ∧ k = if apartB a b then some (both a b) else none
def wWithout : (Hp → List V → Prop) → List Int → Prop := fun P k => ∃ a b : List Int, P = A2 (rTup rInt) (rTup rInt) a b ∧ a.length ≤ 1000 ∧ k = a.filter fun x => !decide (x ∈ b)
def wPair : (Hp → List V → Prop) → Bool → Prop := fun P k => ∃ a b : List Int, P = A2 (rTup rInt) (rTup rInt) a b ∧ Lot12 a ∧ Lot12 b ∧ a.length ≤ 12 ∧ b.length ≤ 12 ∧ k = true
section
variable {P : Program} {w : World} {K : PySem.W.Frag} {mg : Str → Option Value} {base : Heap}
theorem ok_choices {f : Addr} {fd : FuncData} (D : DefAt K mg "choices" s_choices ["count", "size"] f fd) (mB_range : mg "range" = none) : FnOk P w K mg base CX0 1 f fd ["count", "size"] (spN (rTup rInt) wTuples) := by
  refine D.F.ok sc_choices (fun vs H Q E h => ?_) (fun cdv A outer s H vs Q E hr h => ?_)
  · obtain ⟨F, Pp, b, _, _, ⟨c, n, rfl, _⟩, ⟨v, w, rfl, _⟩, _⟩ := h
    rfl
  · obtain ⟨F, Pp, b, eF, _, ⟨c, n, rfl, hc, hn, rfl⟩, ⟨v, w', rfl, hv, hw⟩, q⟩ := h
    cases (show v = V.int c from hv)
    cases (show w' = V.int n from hw)
    refine ⟨_, (pss_cons (ps_if (pt_cmpR op_lt (pv 1) pe_int (nomark _))
    (pss_one (ps_ret (pe_lst pa_nil)))
    pss_nil)
  (pss_cons (ps_set (i := 2) sc_choices.nd rfl (by first | exact Or.inl rfl | exact Or.inr rfl) (pe_lst (pa_cons (pe_tup pa_nil) pa_nil)))
  (pss_cons (ps_for PassesOwn.never rfl (pi_range1 (by rfl) mB_range (pa_cons (pv 1) pa_nil)) (pg_name (i := 3) sc_choices.nd rfl (by first | exact Or.inl rfl | exact Or.inr rfl))
    (pss_one (ps_setLc2 (i := 2) (own := [("chosen", 4), ("k", 5)]) (g := gName 4) (g1 := gName 5) (vs1 := [5]) rfl sc_choices.nd rfl rfl (sw_true rfl rfl rfl (by decide +kernel)) (pi_listK (K := K) (pv 2)) (blkOk_by (own := [("chosen", 4), ("k", 5)]) (N := ["count", "size", "found", "_", "chosen", "k"]) (sc := defScope s_choices) (by decide +kernel)) (by decide) (fun _ _ _ _ _ => (pg_name (i := 4) sc_choices.nd rfl (by first | exact Or.inl rfl | exact Or.inr rfl))) (fun _ _ _ _ _ => pts_nil) (fun _ _ _ _ _ => (pi_range2 (by rfl) mB_range (pa_cons (pe_ifExp (pt_tru (K := K) (pv 4) (by intro _; rfl)) (pe_op op_add (pe_ix (r := rIxT K) ix_tup (pv 4) (pe_un un_neg pe_int) (fun _ _ => rfl)) pe_int) pe_int) (pa_cons (pv 0) pa_nil)))) (fun _ _ _ _ _ => (pg_name (i := 5) sc_choices.nd rfl (by first | exact Or.inl rfl | exact Or.inr rfl))) (fun _ _ _ _ _ => pts_nil) (fun _ _ _ _ _ => (pe_op (r := rCatA K) op_catA (pv 4) (pe_tup (pa_cons (pv 5) pa_nil)))))))
  (pss_one (ps_ret (pv 2)))))), ?_⟩
    refine q_when (F := F) (et_test (er_cmp0 (er_vi rfl) er_int)) eF (fun hb H2 e2 => ?_) (fun hb H2 e2 => ?_)
    · have hb := of_decide_eq_true hb
      omega
    -- found = [()]
    refine q_asgN (F := F) (en_lst (eal_cons (er_tup (r := rInt) eal_nil (Nat.zero_le _)) eal_nil) (by show 1 ≤ 100000; decide)) (eF.trans e2) fun p H3 e3 hp => ?_
    have eF2 := eF.trans e2
    refine d_for (F := part F H2 H3) (S := SN rInt 3) (src_rng1 (ea1 (er_vi rfl)) (by omega)) tgt_n (part_sub (eF2.trans e3)) (fun G pre σ' H' => ∃ (y : Addr) (xx : Option V), Ex H2 H' ∧ Ex G H' ∧ New (rTup rInt) (tuples c pre.length) F H2 H' y ∧
      σ' = [some (.int (c : Int)), some (.int (n : Int)), some (.ref y), xx, none, none]) (fun G pre σ' H' ⟨y, xx, h1, h2, h3, h4⟩ => h2) (fun H4 e4 => ?_) (fun G pre a post σ' H' H'' σ2 has hP e5 hS => ?_) (fun G σ' H' hP => ?_)
    · refine ⟨p, none, e3.trans e4, part_sub ((part_sub (eF2.trans e3)).trans e4), ?_, rfl⟩
      obtain ⟨h1, xs, h2, h3⟩ := hp
      exact ⟨h1, xs, e4 p _ h2, h3.imp fun _ _ k => (rTup rInt).mono (mns_up (part_up e4)) k⟩
    · obtain ⟨y, xx, h1, h2, h3, rfl⟩ := hP
      obtain ⟨z, hz, rfl⟩ := hS
      have hpre : pre.length < n := by
        have l := congrArg List.length has
        rw [rng_len, List.length_append, List.length_cons] at l
        omega
      -- the list as it stands, over F
      have h3' : New (rTup rInt) (tuples c pre.length) F H2 H'' y := by
        obtain ⟨k1, xs, k2, k3⟩ := h3
        exact ⟨k1, xs, e5 y _ k2, k3.imp fun _ _ k => (rTup rInt).mono (mns_up (part_up e5)) k⟩
      have e12 : Ex H2 H'' := h1.trans e5
      have rl := h3'.rel eF2
      have hsm := tuples_small hc (n := pre.length + 1) (by omega)
      rw [← step_rng] at hsm
      have et : ((tuples c pre.length).filter fun _ => true).flatMap (fun a => ((rng (low a) ((c : Int) - low a).toNat).filter fun _ => true).map fun k => a ++ [k]) = tuples c (pre ++ [a]).length := by
        rw [List.length_append, List.length_singleton, ← step_rng]
        rw [List.filter_eq_self.mpr fun _ _ => rfl]
        exact congrArg (fun f => List.flatMap f (tuples c pre.length)) (funext fun t => by rw [List.filter_eq_self.mpr fun _ _ => rfl])
      refine s_asgN (F := part F H2 H'') (r := rTup rInt) (en_is (en_lc2 (r1 := rInt) (fun _ => true) (fun t => rng (low t) ((c : Int) - low t).toNat) (fun _ _ => true) (fun t k => t ++ [k]) (src_list (er_var rfl rl)) tgt_n tgt_n ?_ ?_) et) (part_sub (eF2.trans e12)) fun y2 H6 e6 hy2 => ?_
      rotate_left 2
      · refine ⟨y2, some z, e12.trans e6, (h2.trans e5).trans e6, ?_, rfl⟩
        obtain ⟨k1, xs, k2, k3⟩ := hy2
        exact ⟨back_none e12 k1, xs, k2, k3.imp fun _ _ k => (rTup rInt).mono (mns_up (part_part e12 (Ex.refl _) e6)) k⟩
      · rw [List.filter_eq_self.mpr fun _ _ => rfl]
        refine Nat.lt_of_le_of_lt (Nat.le_of_eq ?_) (Nat.lt_of_le_of_lt hsm (by decide))
        exact congrArg List.length (congrArg (fun f => List.flatMap f (tuples c pre.length)) (funext fun t => by rw [List.filter_eq_self.mpr fun _ _ => rfl]))
      · rintro t ht G1 σ2 eG1 ⟨x4, hx4, rfl⟩
        have hlow := low_nonneg ht
        have hlen := mem_len ht
        refine ⟨rfl, fun H1 _ Q q => q H1 (Ex.refl _), fun _ => ⟨?_, ?_⟩⟩
        · refine src_is (src_rng2 (lo := low t) (n := (c : Int)) (ea2 ?_ (er_vi rfl)) ?_) rfl
          · refine er_if (et_tup (r := rInt) (as := t) (er_var rfl hx4)) (fun hb => ?_) (fun hb => ?_)
            · obtain ⟨u, k, rfl⟩ : ∃ u k, t = u ++ [k] := by
                cases t with
                | nil => cases hb
                | cons a l => exact ⟨(a :: l).dropLast, (a :: l).getLast (List.cons_ne_nil _ _), (List.dropLast_concat_getLast _).symm⟩
              rw [low_snoc]
              exact er_I0 (er_ixT (r := rInt) (er_var rfl hx4) (er_neg er_int) (atI_last u k)) er_int
            · cases t with
              | nil => exact er_int
              | cons a l => cases hb
          · have := low_le ht
            omega
        · rintro k hk G' σ3 eG' ⟨x5, hx5, rfl⟩
          cases (show x5 = V.int k from hx5)
          refine ⟨rfl, fun H1 _ Q q => q H1 (Ex.refl _), fun _ => ?_⟩
          exact er_catT (r := rInt) (er_var rfl ((rTup rInt).mono eG' hx4)) (er_tup (eal_cons (er_vi rfl) eal_nil) (by show 1 ≤ 100000; decide)) (by rw [hlen]; show _ + 1 ≤ _; omega)
    · obtain ⟨y, xx, h1, h2, h3, rfl⟩ := hP
      rw [rng_len, Int.toNat_natCast] at h3
      obtain ⟨k1, xs, k2, k3⟩ := h3
      exact ⟨_, rfl, q y H' (e2.trans h1) ⟨back_none e2 k1, xs, k2, k3.imp fun _ _ k => (rTup rInt).mono (mns_up (part_back e2)) k⟩⟩
end
end K98
set_option Elab.async false
set_option linter.all false
set_option maxRecDepth 100000
set_option maxHeartbeats 4000000
namespace K98
open PySem PySem.Spec PyProof.Rows L2 Evl DL
section
variable {P : Program} {w : World} {K : PySem.W.Frag} {mg : Str → Option Value} {base : Heap}
theorem ok_is_lot {f : Addr} {fd : FuncData} (D : DefAt K mg "is_lot" s_is_lot ["lot", "count"] f fd) : FnOk P w K mg base CX0 1 f fd ["lot", "count"] (spV rBl wLot) := by
  refine D.F.ok sc_is_lot (fun vs H Q E h => ?_) (fun cdv A outer s H vs Q E hr h => ?_)
  · obtain ⟨F, Pp, b, _, _, ⟨t, c, rfl, _⟩, ⟨v, w, rfl, _⟩, _⟩ := h
    rfl
  · obtain ⟨F, Pp, b, eF, _, ⟨t, c, rfl, hl, rfl⟩, ⟨v, w', rfl, hv, hw⟩, q⟩ := h
    cases (show w' = V.int c from hw)
    refine ⟨_, (pss_cons (ps_set (i := 2) sc_is_lot.nd rfl (by first | exact Or.inl rfl | exact Or.inr rfl) (pe_un un_neg pe_int))
  (pss_cons (ps_for PassesOwn.never rfl (pi_tupK (K := K) (pv 0)) (pg_name (i := 3) sc_is_lot.nd rfl (by first | exact Or.inl rfl | exact Or.inr rfl))
    (pss_cons (ps_if (PW.pt (pw_or (pt_cmpR op_le (pv 3) (pv 2) (nomark _)) (pw_or1 (pt_cmpR op_ge (pv 3) (pv 1) (nomark _)))))
    (pss_one (ps_ret pe_bl))
    pss_nil)
  (pss_one (ps_set (i := 2) sc_is_lot.nd rfl (by first | exact Or.inl rfl | exact Or.inr rfl) (pv 3)))))
  (pss_one (ps_ret pe_bl)))), ?_⟩
    refine q_asgI (F := F) (er_neg er_int) eF fun H1 e1 => ?_
    refine d_for (F := F) (S := SN rInt 3) (src_tup (er_var rfl hv)) tgt_n (eF.trans e1) (fun G pre σ' H' => ∃ (b : Int) (xx : Option V), Ex H H' ∧ Ex G H' ∧ isLot t c = lotFrom c b (t.drop pre.length) ∧
      σ' = [some v, some (.int c), some (.int b), xx]) (fun G pre σ' H' ⟨b, xx, h1, h2, h3, h4⟩ => h2) (fun H4 e4 => ?_) (fun G pre a post σ' H' H'' σ2 has hP e5 hS => ?_) (fun G σ' H' hP => ?_)
    · exact ⟨-1, none, e1.trans e4, part_sub ((eF.trans e1).trans e4), rfl, rfl⟩
    · obtain ⟨b, xx, h1, h2, h3, rfl⟩ := hP
      obtain ⟨z, hz, rfl⟩ := hS
      cases (show z = V.int a from hz)
      have hd : t.drop pre.length = a :: post := by rw [has, List.drop_left]
      have hd2 : t.drop (pre ++ [a]).length = post := by
        rw [has, List.length_append, show pre ++ a :: post = (pre ++ [a]) ++ post by simp, ← List.length_append, List.drop_left]
      rw [hd] at h3
      unfold lotFrom at h3
      refine q_when (F := G) (et_or (b := decide (c ≤ a)) (et_test (er_cmp0 (er_vi rfl) (er_vi rfl))) fun _ => et_test (er_cmp0 (er_vi rfl) (er_vi rfl))) (h2.trans e5) (fun hb H6 e6 => ?_) (fun hb H6 e6 => ?_)
      · rw [if_pos (by simpa using hb)] at h3
        rw [h3] at q
        exact s_retB (F := G) er_bl ((h2.trans e5).trans e6) fun H7 e7 => q _ H7 (h1.trans (e5.trans (e6.trans e7))) rfl
      · rw [if_neg (by simpa using hb)] at h3
        refine s_asgI (F := G) (er_vi rfl) ((h2.trans e5).trans e6) fun H7 e7 => ?_
        refine ⟨a, some (.int a), h1.trans (e5.trans (e6.trans e7)), ((h2.trans e5).trans e6).trans e7, ?_, rfl⟩
        rw [hd2]
        exact h3
    · obtain ⟨b, xx, h1, h2, h3, rfl⟩ := hP
      rw [List.drop_length, show lotFrom c b [] = true from rfl] at h3
      rw [h3] at q
      dsimp only
      exact s_retB (F := G) er_bl h2 fun H7 e7 => q _ H7 (h1.trans e7) rfl
theorem ok_apart {f : Addr} {fd : FuncData} (D : DefAt K mg "apart" s_apart ["lot", "other"] f fd) (mB_any : mg "any" = none) : FnOk P w K mg base CX0 1 f fd ["lot", "other"] (spV rBl wApart) := by
  refine D.F.ok sc_apart (fun vs H Q E h => ?_) (fun cdv A outer s H vs Q E hr h => ?_)
  · obtain ⟨F, Pp, b, _, _, ⟨t, c, rfl, _⟩, ⟨v, w, rfl, _⟩, _⟩ := h
    rfl
  · obtain ⟨F, Pp, k, eF, _, ⟨a, b, rfl, hl, rfl⟩, ⟨v, w', rfl, hv, hw⟩, q⟩ := h
    refine ⟨_, (pss_one (ps_ret (pe_not (pe_callB (r := rAny K) (cr_any rfl) (by rfl) mB_any (by decide +kernel) (pa_cons (pe_lc (own := [("thing", 2)]) (g := gName 2) rfl sc_apart.nd (pi_tupK (K := K) (pv 0)) (blkOk_by (own := [("thing", 2)]) (N := ["lot", "other", "thing"]) (sc := defScope s_apart) (by decide +kernel)) (fun _ _ _ _ _ => (pg_name (i := 2) sc_apart.nd rfl (by first | exact Or.inl rfl | exact Or.inr rfl))) (fun _ _ _ _ _ => pts_nil) (fun _ _ _ _ _ => (pe_cmpR (r := rIn K false) op_in_seq (pv 2) (pv 1) (by rfl)))) pa_nil))))), ?_⟩
    refine s_ret (F := F) (er_notV (er_any (En.er (en_is (en_lc (s := rBl) (fun _ => true) (fun x => decide (x ∈ b)) (src_tup (er_var rfl hv)) tgt_n (by omega) (fun x hx G σ2 eG hS => ?_)) ?_)))) eF fun v2 H2 e2 hv2 => q v2 H2 e2 hv2
    · obtain ⟨z, hz, rfl⟩ := hS
      cases (show z = V.int x from hz)
      exact ⟨rfl, fun H1 _ Q q => q H1 (Ex.refl _), fun _ => er_inT (er_vi rfl) (er_var rfl ((rTup rInt).mono eG hw))⟩
    · rw [List.filter_eq_self.mpr fun _ _ => rfl]
theorem ok_joined {f fA : Addr} {fd fdA : FuncData} (D : DefAt K mg "joined" s_joined ["lot", "other"] f fd) (D_apart : DefAt K mg "apart" s_apart ["lot", "other"] fA fdA) (mB_any : mg "any" = none) (mB_tuple : mg "tuple" = none) (mB_sorted : mg "sorted" = none) : FnOk P w K mg base CX0 2 f fd ["lot", "other"] (spV (rOpt (rTup rInt)) wJoined) := by
  have G_apart : FnOk P w K mg base CX0 1 fA fdA ["lot", "other"] (spV rBl wApart) := ok_apart D_apart mB_any
  refine D.F.ok sc_joined (fun vs H Q E h => ?_) (fun cdv A outer s H vs Q E hr h => ?_)
  · obtain ⟨F, Pp, b, _, _, ⟨t, c, rfl, _⟩, ⟨v, w, rfl, _⟩, _⟩ := h
    rfl
  · obtain ⟨F, Pp, k, eF, _, ⟨a, b, rfl, ha, hb, hla, hlb, rfl⟩, ⟨v, w', rfl, hv, hw⟩, q⟩ := h
    refine ⟨_, (pss_cons (ps_if (pt_not (pt_val (pe_call G_apart (hr.mono (by decide)) (by rfl) D_apart.g D_apart.F.kp D_apart.b .nil pass0 (pa_cons (pv 0) (pa_cons (pv 1) pa_nil)))))
    (pss_one (ps_ret pe_non))
    pss_nil)
  (pss_one (ps_ret (pe_callTy (r := rTupQ K) call_tuple_of (by rfl) mB_tuple (by decide +kernel) (pa_cons (pe_callB (r := rSortedT2 K) cr_sortedT2 (by rfl) mB_sorted (by decide +kernel) (pa_cons (pe_op (r := rCatA K) op_catA (pv 0) (pv 1)) pa_nil)) pa_nil))))), ?_⟩
    refine q_when (F := F) (et_not (DL.et_B (er_call (s := rBl) (b := apartB a b) (ea2 (er_var rfl hv) (er_var rfl hw)) mono2 ⟨a, b, rfl, by omega, rfl⟩))) eF (fun hk H2 e2 => ?_) (fun hk H2 e2 => ?_)
    · have hk : apartB a b = false := by simpa using hk
      rw [hk, if_neg (by decide)] at q
      exact s_ret (F := F) (er_nonO (r := rTup rInt)) (eF.trans e2) fun v3 H3 e3 hv3 => q v3 H3 (e2.trans e3) ((rOpt (rTup rInt)).mono (part_back e2) hv3)
    · have hk : apartB a b = true := by simpa using hk
      rw [hk, if_pos rfl] at q
      have hd : ∀ x ∈ a, x ∉ b := fun x hx hxb => by
        unfold apartB at hk
        have : ((a.map fun x => decide (x ∈ b)).any id) = true := List.any_eq_true.mpr ⟨true, List.mem_map.mpr ⟨x, hx, decide_eq_true hxb⟩, rfl⟩
        rw [this] at hk
        cases hk
      refine s_ret (F := F) (er_some (er_tupOf (En.er (en_sortT (ms := both a b) (er_catT (er_var rfl hv) (er_var rfl hw) (by omega)) fun ns' h1 h2 => join_sorted ha hb hd h1 h2)))) (eF.trans e2) fun v3 H3 e3 hv3 => q v3 H3 (e2.trans e3) ((rOpt (rTup rInt)).mono (part_back e2) hv3)
theorem ok_without {f : Addr} {fd : FuncData} (D : DefAt K mg "without" s_without ["lot", "other"] f fd) (mB_tuple : mg "tuple" = none) : FnOk P w K mg base CX0 1 f fd ["lot", "other"] (spV (rTup rInt) wWithout) := by
  refine D.F.ok sc_without (fun vs H Q E h => ?_) (fun cdv A outer s H vs Q E hr h => ?_)
  · obtain ⟨F, Pp, b, _, _, ⟨t, c, rfl, _⟩, ⟨v, w, rfl, _⟩, _⟩ := h
    rfl
  · obtain ⟨F, Pp, k, eF, _, ⟨a, b, rfl, hl, rfl⟩, ⟨v, w', rfl, hv, hw⟩, q⟩ := h
    refine ⟨_, (pss_one (ps_ret (pe_callTy (r := rTupQ K) call_tuple_of (by rfl) mB_tuple (by decide +kernel) (pa_cons (pe_lc (own := [("thing", 2)]) (g := gName 2) rfl sc_without.nd (pi_tupK (K := K) (pv 0)) (blkOk_by (own := [("thing", 2)]) (N := ["lot", "other", "thing"]) (sc := defScope s_without) (by decide +kernel)) (fun _ _ _ _ _ => (pg_name (i := 2) sc_without.nd rfl (by first | exact Or.inl rfl | exact Or.inr rfl))) (fun _ _ _ _ _ => pts_one (pt_cmpR (r := rIn K true) op_notIn_seq (pv 2) (pv 1) (by rfl))) (fun _ _ _ _ _ => (pv 2))) pa_nil)))), ?_⟩
    refine s_ret (F := F) (er_tupOf (En.er (en_is (en_lc (s := rInt) (fun x => !decide (x ∈ b)) (fun x => x) (src_tup (er_var rfl hv)) tgt_n (by omega) (fun x hx G σ2 eG hS => ?_)) (List.map_id' _)))) eF fun v2 H2 e2 hv2 => q v2 H2 e2 hv2
    obtain ⟨z, hz, rfl⟩ := hS
    cases (show z = V.int x from hz)
    exact ⟨rfl, DL.et_test (er_niT (er_vi rfl) (er_var rfl ((rTup rInt).mono eG hw))), fun _ => er_vi rfl⟩

theorem ok_law_tuples {f : Addr} {fd : FuncData} (D : DefAt K mg "_law_tuples" s_law_tuples ["count", "size"] f fd) (mB_range : mg "range" = none) (mB_len : mg "len" = none) (mB_list : mg "list" = none) : FnOk P w K mg base CX0 1 f fd ["count", "size"] (spN (rTup rInt) wTuples) := by
  refine D.F.ok sc_law_tuples (fun vs H Q E h => ?_) (fun cdv A outer s H vs Q E hr h => ?_)
  · obtain ⟨F, Pp, b, _, _, ⟨c, n, rfl, _⟩, ⟨v, w, rfl, _⟩, _⟩ := h
    rfl
  · obtain ⟨F, Pp, b, eF, _, ⟨c, n, rfl, hc, hn, rfl⟩, ⟨v, w', rfl, hv, hw⟩, q⟩ := h
    cases (show v = V.int c from hv)
    cases (show w' = V.int n from hw)
    refine ⟨_, (pss_cons (ps_set (i := 2) sc_law_tuples.nd rfl (by first | exact Or.inl rfl | exact Or.inr rfl) (pe_lst (pa_cons (pe_tup pa_nil) pa_nil)))
  (pss_cons (ps_for PassesOwn.never rfl (pi_range1 (by rfl) mB_range (pa_cons (pv 1) pa_nil)) (pg_name (i := 3) sc_law_tuples.nd rfl (by first | exact Or.inl rfl | exact Or.inr rfl))
    (pss_cons (ps_set (i := 4) sc_law_tuples.nd rfl (by first | exact Or.inl rfl | exact Or.inr rfl) (pe_lst pa_nil))
  (pss_cons (ps_for PassesOwn.never rfl (pi_listK (K := K) (pv 2)) (pg_name (i := 5) sc_law_tuples.nd rfl (by first | exact Or.inl rfl | exact Or.inr rfl))
    (pss_one (ps_for PassesOwn.never rfl (pi_range1 (by rfl) mB_range (pa_cons (pv 0) pa_nil)) (pg_name (i := 6) sc_law_tuples.nd rfl (by first | exact Or.inl rfl | exact Or.inr rfl))
    (pss_one (ps_if (PW.pt (pw_or (pt_cmpR op_eq (pe_callB (r := rLenQ K) call_len_seq (by rfl) mB_len (by decide +kernel) (pa_cons (pv 5) pa_nil)) pe_int (nomark _)) (pw_or1 (pt_cmpR op_gt (pv 6) (pe_ix (r := rIxT K) ix_tup (pv 5) (pe_un un_neg pe_int) (fun _ _ => rfl)) (nomark _)))))
    (pss_one (ps_expr (pe_bm PySem.F.plainAttrs_list PySem.F.slot_list_append PySem.F.type_list_append mt_append (pv 4) (pa_cons (pe_op (r := rCatA K) op_catA (pv 5) (pe_tup (pa_cons (pv 6) pa_nil))) pa_nil))))
    pss_nil)))))
  (pss_one (ps_set (i := 2) sc_law_tuples.nd rfl (by first | exact Or.inl rfl | exact Or.inr rfl) (pe_callTy (r := rLstQ K) call_list_of (by rfl) mB_list (by decide +kernel) (pa_cons (pv 4) pa_nil)))))))
  (pss_one (ps_ret (pv 2))))), ?_⟩
    -- found = [()]
    refine w_asgN (r := rTup rInt) (Wd.start eF) (en_lst (eal_cons (er_tup (r := rInt) eal_nil (Nat.zero_le _)) eal_nil) (by show 1 ≤ 100000; decide)) fun p G1 H1 w1 s1 mp np => ?_
    refine w_for w1 (src_rng1 (ea1 (er_vi rfl)) (by omega)) tgt_n mono_sn (fun pre σ' G' H' => ∃ (y : Addr) (x3 x4 x5 x6 : Option V), H y = none ∧ Mu (rTup rInt) (tuples c pre.length) G' H' y ∧
      σ' = [some (.int (c : Int)), some (.int (n : Int)), some (.ref y), x3, x4, x5, x6]) (fun G2 H2 w2 s2 => ⟨p, none, none, none, none, np, mp.go s2, rfl⟩) (fun Gs pre a post σ' σ2 G' H' G2 H2 has hP s2 w2 eGs hS => ?_) (fun σ' G' H' w2 hP => ?_)
    · obtain ⟨y, x3, x4, x5, x6, ny, my, rfl⟩ := hP
      obtain ⟨z, hz, rfl⟩ := hS
      have hpre : pre.length < n := by
        have l := congrArg List.length has
        rw [rng_len, List.length_append, List.length_cons] at l
        omega
      have hsm : (step c (tuples c pre.length)).length ≤ 20736 := tuples_small hc (n := pre.length + 1) (by omega)
      obtain ⟨G3, w3, e23, ry, o3⟩ := (my.go s2).froz w2 ny
      -- longer = []
      refine w_asgN (r := rTup rInt) w3 (en_lst eal_nil (Nat.zero_le _)) fun l G4 H4 w4 s4 ml nl => ?_
      have nl0 : H l = none := back_none w3.up nl
      -- for few in found
      refine w_for w4 (src_list (er_var rfl ((rLst (rTup rInt)).mono s4.fr ry))) tgt_n mono_sn (fun pre2 σ' G' H' => ∃ (x5 x6 : Option V), Ex G4 G' ∧ Mu (rTup rInt) (step c pre2) G' H' l ∧
        σ' = [some (.int (c : Int)), some (.int (n : Int)), some (.ref y), some z, some (.ref l), x5, x6]) (fun G5 H5 w5 s5 => ⟨_, _, s5.fr, ml.go s5, rfl⟩) (fun Gt pre2 few post2 σ' σ2 G' H' G5 H5 has2 hP2 s5 w5 eGt hS2 => ?_) (fun σ' G' H' w5 hP2 => ?_)
      · obtain ⟨x5, x6, e4, ml2, rfl⟩ := hP2
        obtain ⟨zf, hf, rfl⟩ := hS2
        have hfew : few ∈ tuples c pre.length := by
          rw [has2]
          exact List.mem_append_right _ List.mem_cons_self
        -- for x in range(count)
        refine v_for w5 (src_rng1 (ea1 (er_vi rfl)) (by omega)) tgt_n mono_sn (fun pre3 σ' G' H' => ∃ (x6 : Option V), Ex G5 G' ∧ (rTup rInt).rel G' zf few ∧ Mu (rTup rInt) (step c pre2 ++ (pre3.filter fun x => decide (low few ≤ x)).map fun k => few ++ [k]) G' H' l ∧
          σ' = [some (.int (c : Int)), some (.int (n : Int)), some (.ref y), some z, some (.ref l), some zf, x6]) (fun G6 H6 w6 s6 => ⟨_, s6.fr, (rTup rInt).mono s6.fr hf, ?_, rfl⟩) (fun Gu pre3 x post3 σ' σ2 G' H' G6 H6 has3 hP3 s6 w6 eGu hS3 => ?_) (fun σ' G' H' w6 hP3 => ?_)
        · rw [List.filter_nil, List.map_nil, List.append_nil]
          exact (ml2.go s5).go s6
        · obtain ⟨x6, e5, hf3, ml3, rfl⟩ := hP3
          obtain ⟨zx, hx, rfl⟩ := hS3
          cases (show zx = V.int x from hx)
          have hx0 : 0 ≤ x := by
            have : x ∈ rng 0 (c : Int).toNat := by
              rw [has3]
              exact List.mem_append_right _ List.mem_cons_self
            exact (mem_rng.mp this).1
          have hf6 := (rTup rInt).mono s6.fr hf3
          have ef : ∀ {σ3 : L2.St}, σ3[5]? = some (some zf) → Er (rTup rInt) (tVar 5) σ3 G6 few := fun h => er_var h hf6
          have cond : EvT (tOr (tTest (tOp rEq (tCB (rLenQ K) (tCons (tVar 5) tNil)) (tC (.int 0)))) (tTest (tOp (rI0 fun i j => .bl (decide (i > j))) (tVar 6) (tOp (rIxT K) (tVar 5) (tUn (rU fun i => .int (-i)) (tC (.int 1)))))))
              [some (.int (c : Int)), some (.int (n : Int)), some (.ref y), some z, some (.ref l), some zf, some (.int x)] G6 (decide (low few ≤ x)) := by
            cases few with
            | nil =>
              refine et_is (et_or (b := true) (DL.et_test (er_eqI (er_lenT (ef rfl)) er_int)) fun z => by cases z) ?_
              rw [low_nil, decide_eq_true hx0]
              rfl
            | cons f0 fs =>
              obtain ⟨u, k, hu⟩ : ∃ u k, f0 :: fs = u ++ [k] := ⟨(f0 :: fs).dropLast, (f0 :: fs).getLast (List.cons_ne_nil _ _), (List.dropLast_concat_getLast _).symm⟩
              refine et_is (et_or (DL.et_test (er_eqI (er_lenT (ef rfl)) er_int)) fun _ => DL.et_test (er_cmp0 (er_vi rfl) (er_ixT (a := k) (ef rfl) (er_neg er_int) ?_))) ?_
              · rw [hu]
                exact atI_last u k
              · rw [hu, low_snoc]
                have h1 : decide (((u ++ [k]).length : Int) = 0) = false := decide_eq_false (by rw [List.length_append, List.length_singleton]; omega)
                rw [h1, Bool.false_or]
                exact decide_eq_decide.mpr (by omega)
          have t3 : ((pre3 ++ [x]).filter fun x => decide (low few ≤ x)).map (fun k => few ++ [k]) = (pre3.filter fun x => decide (low few ≤ x)).map (fun k => few ++ [k]) ++ (if decide (low few ≤ x) = true then [few ++ [x]] else []) := by
            rw [List.filter_append, List.map_append, List.filter_cons]
            split <;> rfl
          refine v_when w6 cond (fun hb H7 w7 s7 => ?_) (fun hb H7 w7 s7 => ?_)
          · have hl : (step c pre2 ++ (pre3.filter fun x => decide (low few ≤ x)).map fun k => few ++ [k]).length < 100000 := by
              have := step_part has2 (show rng 0 c = pre3 ++ x :: post3 from has3)
              omega
            refine v_app w7 rfl ((ml3.go s6).go s7) nl0 hl (er_catT (r := rInt) (er_var rfl ((rTup rInt).mono s7.fr hf6)) (er_tup (eal_cons (er_vi rfl) eal_nil) (by show 1 ≤ 100000; decide)) (by rw [mem_len hfew]; show _ + 1 ≤ _; omega)) fun G8 H8 w8 s8 m8 => ?_
            refine ⟨G8, w8, (eGu.trans s7.fr).trans s8.fr, some (.int x), ((e5.trans s6.fr).trans s7.fr).trans s8.fr, (rTup rInt).mono (s7.fr.trans s8.fr) hf6, ?_, rfl⟩
            rw [t3, if_pos hb, ← List.append_assoc]
            exact m8
          · refine ⟨G6, w7, eGu.trans s7.fr, some (.int x), (e5.trans s6.fr).trans s7.fr, (rTup rInt).mono s7.fr hf6, ?_, rfl⟩
            rw [t3, if_neg (by rw [hb]; decide), List.append_nil]
            exact (ml3.go s6).go s7
        · obtain ⟨x6, e5, hf3, ml3, rfl⟩ := hP3
          refine ⟨G', w6, eGt.trans e5, some zf, x6, (e4.trans s5.fr).trans e5, ?_, rfl⟩
          rw [step_app, step_one]
          exact ml3
      · obtain ⟨x5, x6, e4, ml2, rfl⟩ := hP2
        -- found = list(longer)
        obtain ⟨G6, w6, e6, rl, o6⟩ := ml2.froz w5 nl0
        refine v_asgN (r := rTup rInt) w6 (en_listL (er_var rfl rl)) fun y2 G7 H7 w7 s7 m7 n7 => ?_
        refine ⟨G7, w7, ?_, y2, some z, some (.ref l), x5, x6, back_none w6.up n7, ?_, rfl⟩
        · exact ((((eGs.trans e23).trans s4.fr).trans e4).trans e6).trans s7.fr
        · rw [List.length_append, List.length_singleton]
          exact m7
    · obtain ⟨y, x3, x4, x5, x6, ny, my, rfl⟩ := hP
      rw [rng_len, Int.toNat_natCast] at my
      exact v_retM w2 rfl my ny fun n => q y H' w2.up n
end
end K98
set_option Elab.async false
set_option linter.all false
set_option maxRecDepth 100000
set_option maxHeartbeats 4000000
namespace K98
open PySem PySem.Spec PyProof.Rows L2 Evl DL
abbrev s_all_asks : Stmt := topS 4
theorem sc_all_asks : GScope ["count", "most", "size", "ask"] ["count", "most"] (defScope s_all_asks) := ⟨rfl, rfl, rfl, by decide +kernel, rfl, by decide +kernel, by decide +kernel⟩
def wAsks : (Hp → List V → Prop) → List (List Int) → Prop := fun P b => ∃ c n : Nat, P = A2 rInt rInt (c : Int) (n : Int) ∧ c ≤ 12 ∧ n ≤ 3 ∧ b = upTo c (n + 1)
section
variable {P : Program} {w : World} {K : PySem.W.Frag} {mg : Str → Option Value} {base : Heap}
theorem ok_law_is_lot {f : Addr} {fd : FuncData} (D : DefAt K mg "_law_is_lot" s_law_is_lot ["given", "count"] f fd) (mB_range : mg "range" = none) (mB_len : mg "len" = none) : FnOk P w K mg base CX0 1 f fd ["given", "count"] (spV rBl wLot) := by
  refine D.F.ok sc_law_is_lot (fun vs H Q E h => ?_) (fun cdv A outer s H vs Q E hr h => ?_)
  · obtain ⟨F, Pp, b, _, _, ⟨t, c, rfl, _⟩, ⟨v, w, rfl, _⟩, _⟩ := h
    rfl
  · obtain ⟨F, Pp, b, eF, _, ⟨t, c, rfl, hl, rfl⟩, ⟨v, w', rfl, hv, hw⟩, q⟩ := h
    cases (show w' = V.int c from hw)
    refine ⟨_, (pss_cons (ps_for PassesOwn.never rfl (pi_range1 (by rfl) mB_range (pa_cons (pe_callB (r := rLenQ K) call_len_seq (by rfl) mB_len (by decide +kernel) (pa_cons (pv 0) pa_nil)) pa_nil)) (pg_name (i := 2) sc_law_is_lot.nd rfl (by first | exact Or.inl rfl | exact Or.inr rfl))
    (pss_cons (ps_if (PW.pt (pw_or (pt_cmpR op_lt (pe_ix (r := rIxT K) ix_tup (pv 0) (pv 2) (fun _ _ => rfl)) pe_int (nomark _)) (pw_or1 (pt_cmpR op_ge (pe_ix (r := rIxT K) ix_tup (pv 0) (pv 2) (fun _ _ => rfl)) (pv 1) (nomark _)))))
    (pss_one (ps_ret pe_bl))
    pss_nil)
  (pss_one (ps_if (PW.pt (pw_and (pt_cmpR op_gt (pv 2) pe_int (nomark _)) (pw_and1 (pt_cmpR op_le (pe_ix (r := rIxT K) ix_tup (pv 0) (pv 2) (fun _ _ => rfl)) (pe_ix (r := rIxT K) ix_tup (pv 0) (pe_op op_sub (pv 2) pe_int) (fun _ _ => rfl)) (nomark _)))))
    (pss_one (ps_ret pe_bl))
    pss_nil))))
  (pss_one (ps_ret pe_bl))), ?_⟩
    rw [lot_same] at q
    refine w_for (Wd.start eF) (src_rng1 (ea1 (er_lenT (r := rInt) (er_var rfl hv))) (by omega)) tgt_n mono_sn (fun pre σ' G' H' => ∃ (x2 : Option V), (∀ k < pre.length, lotAt t c k = true) ∧ (rTup rInt).rel G' v t ∧
      σ' = [some v, some (.int c), x2]) (fun G2 H2 w2 s2 => ⟨none, fun k h => absurd h (Nat.not_lt_zero k), (rTup rInt).mono s2.fr hv, rfl⟩) (fun Gs pre a post σ' σ2 G' H' G2 H2 has hP s2 w2 eGs hS => ?_) (fun σ' G' H' w2 hP => ?_)
    · obtain ⟨x2, hk, hv2, rfl⟩ := hP
      obtain ⟨z, hz, rfl⟩ := hS
      cases (show z = V.int a from hz)
      have hv3 := (rTup rInt).mono s2.fr hv2
      have hlen : pre.length < t.length := by
        have l := congrArg List.length has
        rw [rng_len, List.length_append, List.length_cons] at l
        omega
      have ea : a = (pre.length : Int) := by
        have g := congrArg (fun l => l[pre.length]?) has
        simp only [List.getElem?_append_right (Nat.le_refl _), Nat.sub_self, List.getElem?_cons_zero] at g
        rw [rng_get (by omega)] at g
        have := Option.some.inj g
        omega
      subst ea
      have hx : t[pre.length]? = some t[pre.length] := List.getElem?_eq_getElem hlen
      have er0 : ∀ {σ3 : L2.St} {G3 : Hp}, Ex G2 G3 → σ3[0]? = some (some v) → σ3[2]? = some (some (.int (pre.length : Int))) → Er rInt (tOp (rIxT K) (tVar 0) (tVar 2)) σ3 G3 t[pre.length] := fun e h0 h2 => er_ixT (r := rInt) (er_var h0 ((rTup rInt).mono e hv3)) (er_vi h2) (atI_nat hx)
      have bad : lotAt t c pre.length = false → ((List.range t.length).all fun k => lotAt t c k) = false := fun hb => by
        cases hall : ((List.range t.length).all fun k => lotAt t c k) with
        | false => rfl
        | true =>
          rw [List.all_eq_true.mp hall pre.length (List.mem_range.mpr hlen)] at hb
          cases hb
      refine w_when w2 (et_or (DL.et_test (er_cmp0 (er0 (Ex.refl _) rfl rfl) er_int)) fun _ => DL.et_test (er_cmp0 (f := fun i j => decide (i ≥ j)) (er0 (Ex.refl _) rfl rfl) (er_vi rfl))) (fun hb H3 w3 s3 => ?_) (fun hb H3 w3 s3 => ?_)
      · have hb2 : lotAt t c pre.length = false := by
          unfold lotAt
          rw [hx]
          show (!(decide (t[pre.length] < 0) || decide (t[pre.length] ≥ c)) && _) = false
          rw [hb]
          rfl
        rw [bad hb2] at q
        exact v_retB w3 er_bl fun H4 e4 => q _ H4 e4 rfl
      have hpre1 : 0 < pre.length → (t[pre.length - 1]? = some (t[pre.length - 1]'(by omega))) := fun h => List.getElem?_eq_getElem (by omega)
      by_cases h0 : 0 < pre.length
      · have hp1 := hpre1 h0
        refine v_when w3 (et_and (b := decide (t[pre.length] ≤ t[pre.length - 1]'(by omega))) (DL.et_test (er_cmp0 (f := fun i j => decide (i > j)) (er_vi rfl) er_int)) fun _ => DL.et_test (er_cmp0 (er0 s3.fr rfl rfl) (er_ixT (r := rInt) (er_var rfl ((rTup rInt).mono s3.fr hv3)) (er_I0 (er_vi rfl) er_int) ?_))) (fun hb3 H4 w4 s4 => ?_) (fun hb3 H4 w4 s4 => ?_)
        · have : (pre.length : Int) - 1 = ((pre.length - 1 : Nat) : Int) := by omega
          rw [this]
          exact atI_nat hp1
        · have hb2 : lotAt t c pre.length = false := by
            unfold lotAt
            rw [hx, hp1]
            show (_ && !(decide (0 < pre.length) && decide (t[pre.length] ≤ t[pre.length - 1]'(by omega)))) = false
            simp only [Bool.and_eq_true, decide_eq_true_eq] at hb3
            rw [decide_eq_true h0, decide_eq_true hb3.2]
            exact Bool.and_false _
          rw [bad hb2] at q
          exact v_retB w4 er_bl fun H5 e5 => q _ H5 e5 rfl
        · refine ⟨G2, w4, eGs, some (.int (pre.length : Int)), fun k hk2 => ?_, hv3, rfl⟩
          by_cases hkk : k < pre.length
          · exact hk k hkk
          · have : k = pre.length := by
              rw [List.length_append, List.length_singleton] at hk2
              omega
            subst this
            unfold lotAt
            rw [hx, hp1]
            show (!(decide (t[pre.length] < 0) || decide (t[pre.length] ≥ c)) && !(decide (0 < pre.length) && decide (t[pre.length] ≤ t[pre.length - 1]'(by omega)))) = true
            rw [hb, decide_eq_true h0, Bool.true_and]
            have h1 : decide ((pre.length : Int) > 0) = true := decide_eq_true (by omega)
            rw [h1, Bool.true_and] at hb3
            rw [hb3]
            rfl
      · refine v_no w3 (et_and (b := false) (DL.et_test (er_cmp0 (f := fun i j => decide (i > j)) (er_vi rfl) er_int)) fun hb => ?_) ?_ fun H4 w4 s4 => ?_
        · have := of_decide_eq_true hb
          omega
        · exact Bool.and_false _
        · refine ⟨G2, w4, eGs, some (.int (pre.length : Int)), fun k hk2 => ?_, hv3, rfl⟩
          have : k = pre.length := by
            rw [List.length_append, List.length_singleton] at hk2
            omega
          subst this
          unfold lotAt
          rw [hx]
          show (!(decide (t[pre.length] < 0) || decide (t[pre.length] ≥ c)) && !(decide (0 < pre.length) && _)) = true
          rw [hb, decide_eq_false h0]
          rfl
    · obtain ⟨x2, hk, hv2, rfl⟩ := hP
      have hall : ((List.range t.length).all fun k => lotAt t c k) = true := List.all_eq_true.mpr fun k hk2 => hk k (by
        rw [rng_len]
        have := List.mem_range.mp hk2
        omega)
      rw [hall] at q
      exact v_retB w2 er_bl fun H4 e4 => q _ H4 e4 rfl
theorem ok_all_asks {f fC : Addr} {fd fdC : FuncData} (D : DefAt K mg "all_asks" s_all_asks ["count", "most"] f fd) (D_choices : DefAt K mg "choices" s_choices ["count", "size"] fC fdC) (mB_range : mg "range" = none) : GFn P w K mg base 2 f fd ["count", "most"] (spG (rTup rInt) wAsks) := by
  have G_choices : FnOk P w K mg base CX0 1 fC fdC ["count", "size"] (spN (rTup rInt) wTuples) := ok_choices D_choices mB_range
  obtain ⟨oc, od, kV, doc, pm, an, cdv, ct, osl, rfl, lk, hcd⟩ := D.F.ex
  refine gfn_of lk hcd sc_all_asks (fun vs H Q E h => ?_) (fun A outer s H vs Q E pn hr h => ?_)
  · obtain ⟨F, Pp, b, _, _, ⟨t, c, rfl, _⟩, ⟨v, w, rfl, _⟩, _⟩ := h
    rfl
  · obtain ⟨F, Pp, b, eF, _, ⟨c, n, rfl, hc, hn, rfl⟩, ⟨v, w', rfl, hv, hw⟩, q⟩ := h
    cases (show v = V.int c from hv)
    cases (show w' = V.int n from hw)
    refine ⟨_, gss_cons (gs_for owns_gcx rfl (pi_range1 (by rfl) mB_range (pa_cons (pe_op op_add (pv 1) pe_int) pa_nil)) (pg_name (i := 2) sc_all_asks.nd rfl (by first | exact Or.inl rfl | exact Or.inr rfl))
      (gss_cons (gs_for owns_gcx rfl (pi_listK (K := K) (pe_call G_choices (hr.mono (by decide)) (by rfl) D_choices.g D_choices.F.kp D_choices.b .nil pass0 (pa_cons (pv 0) (pa_cons (pv 2) pa_nil)))) (pg_name (i := 3) sc_all_asks.nd rfl (by first | exact Or.inl rfl | exact Or.inr rfl))
        (gss_cons (gs_yield (pv 3)) gss_nil)) gss_nil)) gss_nil, ?_⟩
    refine g_for (src_rng1 (n := (n : Int) + 1) (ea1 (er_I0 (er_vi rfl) er_int)) (by omega)) tgt_n eF (fun G pre ys σ' H' => ∃ (x2 x3 : Option V), Ex H H' ∧ Ex G H' ∧ Al ((rTup rInt).rel (part F H H')) ys (upTo c pre.length) ∧ σ' = [some (.int (c : Int)), some (.int (n : Int)), x2, x3]) (fun G pre ys σ' H' ⟨_, _, h1, h2, _⟩ => h2) (fun H1 e1 => ?_) (fun G pre a post ys σ' H' H2 σ2 has hP e2 hS => ?_) (fun G ys σ' H' hP => ?_)
    · exact ⟨none, none, e1, part_sub (eF.trans e1), .nil, rfl⟩
    · obtain ⟨x2, x3, h1, h2, h3, rfl⟩ := hP
      obtain ⟨z, hz, rfl⟩ := hS
      cases (show z = V.int a from hz)
      have hlen : pre.length < n + 1 := by
        have l := congrArg List.length has
        rw [rng_len, List.length_append, List.length_cons] at l
        omega
      have ea : a = (pre.length : Int) := by
        have g := congrArg (fun l => l[pre.length]?) has
        simp only [List.getElem?_append_right (Nat.le_refl _), Nat.sub_self, List.getElem?_cons_zero] at g
        rw [rng_get (by omega)] at g
        have := Option.some.inj g
        omega
      subst ea
      have e12 := h1.trans e2
      refine g_for (r := rTup rInt) (as := tuples c pre.length) (src_list (En.er (en_call (ea2 (er_vi rfl) (er_vi rfl)) mono2 ⟨c, pre.length, rfl, hc, by omega, rfl⟩))) tgt_n (eF.trans e12) (fun G3 pre2 ys σ' H' => ∃ (x3 : Option V), Ex H2 H' ∧ Ex G3 H' ∧ Ex G3 (part F H H') ∧ Al ((rTup rInt).rel (part F H H')) ys (upTo c pre.length ++ pre2) ∧ σ' = [some (.int (c : Int)), some (.int (n : Int)), some (.int (pre.length : Int)), x3]) (fun G pre ys σ' H' ⟨_, h1, h2, _⟩ => h2) (fun H3 e3 => ?_) (fun G3 pre2 a2 post2 ys σ' H' H3 σ2 has2 hP2 e3 hS2 => ?_) (fun G3 ys σ' H' hP2 => ?_)
      · refine ⟨_, e3, part_sub ((eF.trans e12).trans e3), part_back e12, ?_, rfl⟩
        rw [List.append_nil]
        exact h3.imp fun _ _ k => (rTup rInt).mono (part_up (e2.trans e3)) k
      · obtain ⟨x3, k1, k2, k4, k3, rfl⟩ := hP2
        obtain ⟨z2, hz2, rfl⟩ := hS2
        have hys : ys.length < sizeLine := by
          have l1 := k3.len
          have l2 := upTo_len hc (n := pre.length) (by omega)
          have l3 := tuples_small hc (n := pre.length) (by omega)
          rw [has2, List.length_append, List.length_cons] at l3
          rw [List.length_append] at l1
          refine Nat.lt_of_lt_of_le (m := 400000) ?_ (by decide)
          omega
        refine ⟨hys, _, rfl, ?_⟩
        refine ⟨some z2, k1.trans e3, k2.trans e3, k4.trans (part_up e3), ?_, rfl⟩
        rw [← List.append_assoc]
        refine Al.snoc (k3.imp fun _ _ k => (rTup rInt).mono (part_up e3) k) ((rTup rInt).mono (part_into k4 eF (e12.trans k1) e3) hz2)
      · obtain ⟨x3, k1, k2, k4, k3, rfl⟩ := hP2
        refine ⟨_, x3, e12.trans k1, (h2.trans e2).trans k1, ?_, rfl⟩
        rw [List.length_append, List.length_singleton]
        exact k3
    · obtain ⟨x2, x3, h1, h2, h3, rfl⟩ := hP
      rw [rng_len, show ((n : Int) + 1).toNat = n + 1 by omega] at h3
      exact q ys H' h1 h3
end
end K98
set_option Elab.async false
set_option linter.all false
set_option maxRecDepth 100000
set_option maxHeartbeats 4000000
namespace K98
open PySem PySem.Spec PyProof.Rows L2 Evl DL
abbrev s_law : Stmt := topS 15
theorem sc_law : FnScope ["script", "drawn", "due", "told", "asks", "k", "picks", "given", "marks", "one", "other", "rest", "pair", "number", "x"] ["script"] (defScope s_law) := ⟨rfl, rfl, rfl, by decide +kernel, rfl, by decide +kernel, by decide +kernel⟩
/- 0 script, 1 drawn, 2 due, 3 told, 4 asks, 5 k, 6 picks, 7 given, 8 marks, 9 one, 10 other, 11 rest, 12 pair, 13 number, 14 x -/
theorem apart_iff {a b : List Int} : apartB a b = decide ((a.filter fun x => decide (x ∈ b)) = []) := by
  unfold apartB
  by_cases h : (a.filter fun x => decide (x ∈ b)) = []
  · rw [decide_eq_true h]
    have : ((a.map fun x => decide (x ∈ b)).any id) = false := by
      cases hh : ((a.map fun x => decide (x ∈ b)).any id) with
      | false => rfl
      | true =>
        obtain ⟨k, hk, hk2⟩ := List.any_eq_true.mp hh
        obtain ⟨x, hx, rfl⟩ := List.mem_map.mp hk
        have : x ∈ a.filter fun x => decide (x ∈ b) := List.mem_filter.mpr ⟨hx, hk2⟩
        rw [h] at this
        cases this
    rw [this]
    rfl
  · rw [decide_eq_false h]
    obtain ⟨x, hx⟩ := List.exists_mem_of_ne_nil _ h
    have hx2 := List.mem_filter.mp hx
    have : ((a.map fun x => decide (x ∈ b)).any id) = true := List.any_eq_true.mpr ⟨true, List.mem_map.mpr ⟨x, hx2.1, hx2.2⟩, rfl⟩
    rw [this]
    rfl
section
variable {P : Program} {w : World} {K : PySem.W.Frag} {mg : Str → Option Value} {base : Heap}
theorem ok_law_pair {f fA fJ fW : Addr} {fd fdA fdJ fdW : FuncData} (D : DefAt K mg "_law_pair" s_law_pair ["one", "other"] f fd) (D_apart : DefAt K mg "apart" s_apart ["lot", "other"] fA fdA) (D_joined : DefAt K mg "joined" s_joined ["lot", "other"] fJ fdJ) (D_without : DefAt K mg "without" s_without ["lot", "other"] fW fdW)
    (mB_any : mg "any" = none) (mB_tuple : mg "tuple" = none) (mB_sorted : mg "sorted" = none) (mB_range : mg "range" = none) : FnOk P w K mg base CX0 3 f fd ["one", "other"] (spV rBl wPair) := by
  have G_apart : FnOk P w K mg base CX0 1 fA fdA ["lot", "other"] (spV rBl wApart) := ok_apart D_apart mB_any
  have G_joined : FnOk P w K mg base CX0 2 fJ fdJ ["lot", "other"] (spV (rOpt (rTup rInt)) wJoined) := ok_joined D_joined D_apart mB_any mB_tuple mB_sorted
  have G_without : FnOk P w K mg base CX0 1 fW fdW ["lot", "other"] (spV (rTup rInt) wWithout) := ok_without D_without mB_tuple
  refine D.F.ok sc_law_pair (fun vs H Q E h => ?_) (fun cdv A outer s H vs Q E hr h => ?_)
  · obtain ⟨F, Pp, b, _, _, ⟨t, c, rfl, _⟩, ⟨v, w, rfl, _⟩, _⟩ := h
    rfl
  · obtain ⟨F, Pp, k, eF, _, ⟨a, b, rfl, ha, hb, hla, hlb, rfl⟩, ⟨v, w', rfl, hv, hw⟩, q⟩ := h
    refine ⟨_, (pss_cons (ps_setLc (i := 2) (own := [("x", 4)]) (g := gName 4) rfl sc_law_pair.nd rfl rfl (sw_true rfl rfl rfl (by decide +kernel)) (pi_tupK (K := K) (pv 0)) (blkOk_by (own := [("x", 4)]) (N := ["one", "other", "shared", "told", "x"]) (sc := defScope s_law_pair) (by decide +kernel)) (fun _ _ _ _ _ => (pg_name (i := 4) sc_law_pair.nd rfl (by first | exact Or.inl rfl | exact Or.inr rfl))) (fun _ _ _ _ _ => pts_one (pt_cmpR (r := rIn K false) op_in_seq (pv 4) (pv 1) (by rfl))) (fun _ _ _ _ _ => (pv 4)))
  (pss_cons (ps_if (pt_cmpR op_ne (pe_call G_apart (hr.mono (by decide)) (by rfl) D_apart.g D_apart.F.kp D_apart.b .nil pass0 (pa_cons (pv 0) (pa_cons (pv 1) pa_nil))) (pe_cmpR (r := rEqD K) (op_eqD hr.units) (pv 2) (pe_lst pa_nil) (nomark _)) (nomark _))
    (pss_one (ps_ret pe_bl))
    pss_nil)
  (pss_cons (ps_set (i := 3) sc_law_pair.nd rfl (by first | exact Or.inl rfl | exact Or.inr rfl) (pe_call G_joined (hr.mono (by decide)) (by rfl) D_joined.g D_joined.F.kp D_joined.b .nil pass0 (pa_cons (pv 0) (pa_cons (pv 1) pa_nil))))
  (pss_cons (ps_if (PW.pt (pw_and (pt_cmpR (r := rNeD K) (op_neD hr.units) (pv 2) (pe_lst pa_nil) (nomark _)) (pw_and1 (pt_cmpR (r := rNotNq) op_notN (pv 3) pe_non (nomark _)))))
    (pss_one (ps_ret pe_bl))
    pss_nil)
  (pss_cons (ps_if (PW.pt (pw_and (pt_cmpR (r := rEqD K) (op_eqD hr.units) (pv 2) (pe_lst pa_nil) (nomark _)) (pw_and1 (pt_cmpR (r := rNeD K) (op_neD hr.units) (pv 3) (pe_callTy (r := rTupQ K) call_tuple_of (by rfl) mB_tuple (by decide +kernel) (pa_cons (pe_lc (own := [("x", 4)]) (g := gName 4) rfl sc_law_pair.nd (pi_range1 (by rfl) mB_range (pa_cons pe_int pa_nil)) (blkOk_by (own := [("x", 4)]) (N := ["one", "other", "shared", "told", "x"]) (sc := defScope s_law_pair) (by decide +kernel)) (fun _ _ _ _ _ => (pg_name (i := 4) sc_law_pair.nd rfl (by first | exact Or.inl rfl | exact Or.inr rfl))) (fun _ _ _ _ _ => pts_one (PW.pt (pw_or (pt_cmpR (r := rIn K false) op_in_seq (pv 4) (pv 0) (by rfl)) (pw_or1 (pt_cmpR (r := rIn K false) op_in_seq (pv 4) (pv 1) (by rfl)))))) (fun _ _ _ _ _ => (pv 4))) pa_nil)) (nomark _)))))
    (pss_one (ps_ret pe_bl))
    pss_nil)
  (pss_one (ps_ret (pe_cmpR (r := rEqD K) (op_eqD hr.units) (pe_call G_without (hr.mono (by decide)) (by rfl) D_without.g D_without.F.kp D_without.b .nil pass0 (pa_cons (pv 0) (pa_cons (pv 1) pa_nil))) (pe_callTy (r := rTupQ K) call_tuple_of (by rfl) mB_tuple (by decide +kernel) (pa_cons (pe_lc (own := [("x", 4)]) (g := gName 4) rfl sc_law_pair.nd (pi_tupK (K := K) (pv 0)) (blkOk_by (own := [("x", 4)]) (N := ["one", "other", "shared", "told", "x"]) (sc := defScope s_law_pair) (by decide +kernel)) (fun _ _ _ _ _ => (pg_name (i := 4) sc_law_pair.nd rfl (by first | exact Or.inl rfl | exact Or.inr rfl))) (fun _ _ _ _ _ => pts_one (pt_cmpR (r := rIn K true) op_notIn_seq (pv 4) (pv 1) (by rfl))) (fun _ _ _ _ _ => (pv 4))) pa_nil)) (nomark _))))))))), ?_⟩
    -- shared
    refine w_asg (r := rLst rInt) (Wd.start eF) (En.er (en_is (en_lc (s := rInt) (fun x => decide (x ∈ b)) (fun x => x) (src_tup (er_var rfl hv)) tgt_n (by omega) (fun x hx G σ2 eG hS => ?_)) (List.map_id' _))) fun vs G1 H1 w1 s1 hs => ?_
    · obtain ⟨z, hz, rfl⟩ := hS
      cases (show z = V.int x from hz)
      exact ⟨rfl, DL.et_test (er_inT (er_vi rfl) (er_var rfl ((rTup rInt).mono eG hw))), fun _ => er_vi rfl⟩
    have hv1 := (rTup rInt).mono s1.fr hv
    have hw1 := (rTup rInt).mono s1.fr hw
    refine w_no w1 (DL.et_test (er_neB (er_call (s := rBl) (b := apartB a b) (ea2 (er_var rfl hv1) (er_var rfl hw1)) mono2 ⟨a, b, rfl, by omega, rfl⟩) (er_eqD (eLst eInt) (Nat.le_of_ble_eq_true rfl) (er_var rfl hs) (En.er (en_lst eal_nil (Nat.zero_le _)))))) (by rw [apart_iff]; simp) fun H2 w2 s2 => ?_
    -- told
    refine w_asg (r := rOpt (rTup rInt)) w2 (er_call (ea2 (er_var rfl hv1) (er_var rfl hw1)) mono2 ⟨a, b, rfl, ha, hb, hla, hlb, rfl⟩) fun vt G3 H3 w3 s3 ht => ?_
    have hs3 := (rLst rInt).mono s3.fr hs
    have hv3 := (rTup rInt).mono s3.fr hv1
    have hw3 := (rTup rInt).mono s3.fr hw1
    refine w_no w3 (et_and (DL.et_test (er_neD (eLst eInt) (Nat.le_of_ble_eq_true rfl) (er_var rfl hs3) (En.er (en_lst eal_nil (Nat.zero_le _))))) fun _ => DL.et_test (er_notN sol_tup (er_var rfl ht))) (by rw [apart_iff]; by_cases h : (a.filter fun x => decide (x ∈ b)) = [] <;> simp [h]) fun H4 w4 s4 => ?_
    have tups : ∀ {σ3 : L2.St} {G5 : Hp}, σ3[4]? = some none → σ3[0]? = some (some v) → σ3[1]? = some (some w') → Ex G3 G5 → True := fun _ _ _ _ => trivial
    refine w_no w4 (et_and (b := false) (DL.et_test (er_eqD (eLst eInt) (Nat.le_of_ble_eq_true rfl) (er_var rfl hs3) (En.er (en_lst eal_nil (Nat.zero_le _))))) fun hb0 => ?_) (Bool.and_false _) fun H5 w5 s5 => ?_
    · have hab : apartB a b = true := by
        rw [apart_iff]
        exact hb0
      rw [hab, if_pos rfl] at ht
      have ht2 : (rTup rInt).rel G3 vt (both a b) := ht
      refine et_is (DL.et_test (er_neD (eTup eInt) (Nat.le_of_ble_eq_true rfl) (er_var rfl ht2) (er_tupOf (En.er (en_is (en_lc (s := rInt) (fun x => decide (x ∈ a) || decide (x ∈ b)) (fun x => x) (src_rng1 (n := 12) (ea1 er_int) (by omega)) tgt_n (by rw [rng_len]; decide) (fun x hx G σ2 eG hS => ?_)) (List.map_id' _)))))) ?_
      · obtain ⟨z, hz, rfl⟩ := hS
        cases (show z = V.int x from hz)
        exact ⟨rfl, et_or (DL.et_test (er_inT (er_vi rfl) (er_var rfl ((rTup rInt).mono eG hv3)))) fun _ => DL.et_test (er_inT (er_vi rfl) (er_var rfl ((rTup rInt).mono eG hw3))), fun _ => er_vi rfl⟩
      · show (!decide (both a b = both a b)) = false
        rw [decide_eq_true rfl]
        rfl
    · refine v_retB w5 (er_is (er_eqD (eTup eInt) (Nat.le_of_ble_eq_true rfl) (er_call (ea2 (er_var rfl hv3) (er_var rfl hw3)) mono2 ⟨a, b, rfl, by omega, rfl⟩) (er_tupOf (En.er (en_is (en_lc (s := rInt) (fun x => !decide (x ∈ b)) (fun x => x) (src_tup (er_var rfl hv3)) tgt_n (by omega) (fun x hx G σ2 eG hS => ?_)) (List.map_id' _))))) (decide_eq_true rfl)) fun H6 e6 => q _ H6 e6 rfl
      obtain ⟨z, hz, rfl⟩ := hS
      cases (show z = V.int x from hz)
      exact ⟨rfl, DL.et_test (er_niT (er_vi rfl) (er_var rfl ((rTup rInt).mono eG hw3))), fun _ => er_vi rfl⟩
end
end K98
set_option Elab.async false
set_option linter.all false
set_option maxRecDepth 100000
set_option maxHeartbeats 8000000
namespace K98
open PySem PySem.Spec PyProof.Rows L2 Evl DL
theorem list6 {α : Type} : ∀ {l : List α}, l.length = 6 → ∃ a b c d e f, l = [a, b, c, d, e, f]
  | [a, b, c, d, e, f], _ => ⟨a, b, c, d, e, f, rfl⟩
theorem draw_at {c : Int} {ms ds : List Int} (h : drawn c ms = ds) (hp : ∀ x ∈ ms, 0 < x) {i : Nat} {m d : Int} (hm : ms[i]? = some m) (hd : ds[i]? = some d) : 0 ≤ d ∧ d < m := by
  obtain ⟨x, h1, h2, h3⟩ := draws_get ms (if 10 ^ 18 ≤ c then c - 10 ^ 18 else 0) (c * 48271 % 2147483647) i m hp hm
  have h4 : (drawn c ms)[i]? = some x := h1
  rw [h, hd] at h4
  cases h4
  exact ⟨h2, h3⟩
def spLaw (K : PySem.W.Frag) : Sp := fun vs H Q _ => ∃ (a : Addr) (ns : List Int), vs = [.ref a] ∧ SqL K H a (ns.map V.int) ∧ ns.length ≤ 63 ∧ ∀ H', Q (.bl true) H'
def mark (ms : List Int) (p : Int → Bool) (x : Int) : Bool := match ms[x.toNat]? with
  | some m => p m
  | none => false
theorem er_rep16 {σ : L2.St} {F : Hp} {tb : TE} {n : Nat} (hb : Er rInt tb σ F (n : Int)) (hn : n ≤ 100) : En rInt (tOp rRep (tLst (tCons (tC (.int 16)) tNil)) tb) σ F (List.replicate n [(16 : Int)]).flatten := by
  have h := en_rep (r := rInt) (En.er (en_lst (r := rInt) (as := [16]) (eal_cons er_int eal_nil) (by decide))) hb (by omega) (by rw [Int.toNat_natCast]; show 1 * n ≤ _; omega)
  rw [Int.toNat_natCast] at h
  exact h
section
variable {P : Program} {w : World} {K : PySem.W.Frag} {mg : Str → Option Value} {base : Heap}
theorem ok_law {f f1 f2 f3 f4 f5 f6 f7 f8 f9 f10 f11 : Addr} {fd d1 d2 d3 d4 d5 d6 d7 d8 d9 d10 d11 : FuncData} {tA tB : Tok} (D : DefAt K mg "law" s_law ["script"] f fd)
    (D_choices : DefAt K mg "choices" s_choices ["count", "size"] f1 d1) (D_all_asks : DefAt K mg "all_asks" s_all_asks ["count", "most"] f2 d2) (D_is_lot : DefAt K mg "is_lot" s_is_lot ["lot", "count"] f3 d3)
    (D_apart : DefAt K mg "apart" s_apart ["lot", "other"] f4 d4) (D_joined : DefAt K mg "joined" s_joined ["lot", "other"] f5 d5) (D_without : DefAt K mg "without" s_without ["lot", "other"] f6 d6)
    (D_law_cell : DefAt K mg "_law_cell" s_law_cell ["script", "k"] f7 d7) (D_law_draws : DefAt K mg "_law_draws" s_law_draws ["cell", "limits"] f8 d8) (D_law_tuples : DefAt K mg "_law_tuples" s_law_tuples ["count", "size"] f9 d9)
    (D_law_is_lot : DefAt K mg "_law_is_lot" s_law_is_lot ["given", "count"] f10 d10) (D_law_pair : DefAt K mg "_law_pair" s_law_pair ["one", "other"] f11 d11)
    (c_MOST_THINGS : mg "MOST_THINGS" = some (.int 12 tA)) (c_MOST_WORTH : mg "MOST_WORTH" = some (.int 1000000 tB))
    (mB_range : mg "range" = none) (mB_len : mg "len" = none) (mB_list : mg "list" = none) (mB_any : mg "any" = none) (mB_tuple : mg "tuple" = none) (mB_sorted : mg "sorted" = none) (mB_int : mg "int" = none) (mB_isinstance : mg "isinstance" = none) :
    FnOk P w K mg base CX0 7 f fd ["script"] (spLaw K) := by
  have G_choices : FnOk P w K mg base CX0 1 f1 d1 ["count", "size"] (spN (rTup rInt) wTuples) := ok_choices D_choices mB_range
  have G_all_asks : GFn P w K mg base 2 f2 d2 ["count", "most"] (spG (rTup rInt) wAsks) := ok_all_asks D_all_asks D_choices mB_range
  have G_is_lot : FnOk P w K mg base CX0 1 f3 d3 ["lot", "count"] (spV rBl wLot) := ok_is_lot D_is_lot
  have G_law_cell : FnOk P w K mg base CX0 1 f7 d7 ["script", "k"] (spV rInt (wCell K)) := ok_law_cell D_law_cell mB_len
  have G_law_draws : FnOk P w K mg base CX0 1 f8 d8 ["cell", "limits"] (spN rInt wDraws) := ok_law_draws D_law_draws mB_int
  have G_law_tuples : FnOk P w K mg base CX0 1 f9 d9 ["count", "size"] (spN (rTup rInt) wTuples) := ok_law_tuples D_law_tuples mB_range mB_len mB_list
  have G_law_is_lot : FnOk P w K mg base CX0 1 f10 d10 ["given", "count"] (spV rBl wLot) := ok_law_is_lot D_law_is_lot mB_range mB_len
  have G_law_pair : FnOk P w K mg base CX0 3 f11 d11 ["one", "other"] (spV rBl wPair) := ok_law_pair D_law_pair D_apart D_joined D_without mB_any mB_tuple mB_sorted mB_range
  refine D.F.ok sc_law (fun vs H Q E h => ?_) (fun cdv A outer s H vs Q E hr h => ?_)
  · obtain ⟨a, ns, rfl, _⟩ := h
    rfl
  · obtain ⟨adr, ns, rfl, hS, hlen, q⟩ := h
    refine ⟨_, (pss_cons (ps_set (i := 1) sc_law.nd rfl (by first | exact Or.inl rfl | exact Or.inr rfl) (pe_call G_law_draws (hr.mono (by decide)) (by rfl) D_law_draws.g D_law_draws.F.kp D_law_draws.b .nil pass0 (pa_cons (pe_call G_law_cell (hr.mono (by decide)) (by rfl) D_law_cell.g D_law_cell.F.kp D_law_cell.b .nil pass0 (pa_cons (pv 0) (pa_cons pe_int pa_nil))) (pa_cons (pe_lst (pa_cons pe_int (pa_cons pe_int (pa_cons pe_int (pa_cons pe_int (pa_cons pe_int (pa_cons pe_int pa_nil))))))) pa_nil))))
  (pss_cons (ps_set (i := 2) sc_law.nd rfl (by first | exact Or.inl rfl | exact Or.inr rfl) (pe_call G_law_tuples (hr.mono (by decide)) (by rfl) D_law_tuples.g D_law_tuples.F.kp D_law_tuples.b .nil pass0 (pa_cons (pe_ix (r := rIxL K) ix_list (pv 1) pe_int (fun _ _ => rfl)) (pa_cons (pe_ix (r := rIxL K) ix_list (pv 1) pe_int (fun _ _ => rfl)) pa_nil))))
  (pss_cons (ps_set (i := 3) sc_law.nd rfl (by first | exact Or.inl rfl | exact Or.inr rfl) (pe_call G_choices (hr.mono (by decide)) (by rfl) D_choices.g D_choices.F.kp D_choices.b .nil pass0 (pa_cons (pe_ix (r := rIxL K) ix_list (pv 1) pe_int (fun _ _ => rfl)) (pa_cons (pe_ix (r := rIxL K) ix_list (pv 1) pe_int (fun _ _ => rfl)) pa_nil))))
  (pss_cons (ps_if (PW.pt (pw_or (pt_not (pt_val (pe_callB (r := rIsi K) call_isi (by rfl) mB_isinstance (by decide +kernel) (pa_cons (pv 3) (pa_cons (pe_bltn (v := .ty "list") (by rfl) mB_list (by decide +kernel) rfl) pa_nil))))) (pw_or1 (pt_cmpR (r := rNeD K) (op_neD hr.units) (pv 3) (pv 2) (nomark _)))))
    (pss_one (ps_ret pe_bl))
    pss_nil)
  (pss_cons (ps_expr (pe_bm PySem.F.plainAttrs_list PySem.F.slot_list_append PySem.F.type_list_append mt_append (pv 3) (pa_cons (pe_tup (pa_cons pe_int pa_nil)) pa_nil)))
  (pss_cons (ps_asg (pe_tup pa_nil) (pg_sub (pv 3) pe_int set_list))
  (pss_cons (ps_if (pt_cmpR (r := rNeD K) (op_neD hr.units) (pe_call G_choices (hr.mono (by decide)) (by rfl) D_choices.g D_choices.F.kp D_choices.b .nil pass0 (pa_cons (pe_ix (r := rIxL K) ix_list (pv 1) pe_int (fun _ _ => rfl)) (pa_cons (pe_ix (r := rIxL K) ix_list (pv 1) pe_int (fun _ _ => rfl)) pa_nil))) (pv 2) (nomark _))
    (pss_one (ps_ret pe_bl))
    pss_nil)
  (pss_cons (ps_set (i := 4) sc_law.nd rfl (by first | exact Or.inl rfl | exact Or.inr rfl) (pe_lst pa_nil))
  (pss_cons (ps_for PassesOwn.never rfl (pi_range1 (by rfl) mB_range (pa_cons (pe_op op_add (pe_ix (r := rIxL K) ix_list (pv 1) pe_int (fun _ _ => rfl)) pe_int) pa_nil)) (pg_name (i := 5) sc_law.nd rfl (by first | exact Or.inl rfl | exact Or.inr rfl))
    (pss_one (ps_set (i := 4) sc_law.nd rfl (by first | exact Or.inl rfl | exact Or.inr rfl) (pe_op (r := rCat) op_cat (pv 4) (pe_call G_law_tuples (hr.mono (by decide)) (by rfl) D_law_tuples.g D_law_tuples.F.kp D_law_tuples.b .nil pass0 (pa_cons (pe_ix (r := rIxL K) ix_list (pv 1) pe_int (fun _ _ => rfl)) (pa_cons (pv 5) pa_nil)))))))
  (pss_cons (ps_if (pt_cmpR (r := rNeD K) (op_neD hr.units) (pe_listG (pgen_call G_all_asks (hr.mono (by decide)) (by rfl) D_all_asks.g D_all_asks.F.kp D_all_asks.b .nil (pa_cons (pe_ix (r := rIxL K) ix_list (pv 1) pe_int (fun _ _ => rfl)) (pa_cons (pe_ix (r := rIxL K) ix_list (pv 1) pe_int (fun _ _ => rfl)) pa_nil))) passG (fun _ _ _ z => z.elim) (hr.mono (by decide)) (by rfl) mB_list (by decide +kernel)) (pv 4) (nomark _))
    (pss_one (ps_ret pe_bl))
    pss_nil)
  (pss_cons (ps_setLc (i := 6) (own := [("number", 13)]) (g := gName 13) rfl sc_law.nd rfl rfl (sw_true rfl rfl rfl (by decide +kernel)) (pi_listK (K := K) (pe_call G_law_draws (hr.mono (by decide)) (by rfl) D_law_draws.g D_law_draws.F.kp D_law_draws.b .nil pass0 (pa_cons (pe_call G_law_cell (hr.mono (by decide)) (by rfl) D_law_cell.g D_law_cell.F.kp D_law_cell.b .nil pass0 (pa_cons (pv 0) (pa_cons pe_int pa_nil))) (pa_cons (pe_op op_rep (pe_lst (pa_cons pe_int pa_nil)) (pe_ix (r := rIxL K) ix_list (pv 1) pe_int (fun _ _ => rfl))) pa_nil)))) (blkOk_by (own := [("number", 13)]) (N := ["script", "drawn", "due", "told", "asks", "k", "picks", "given", "marks", "one", "other", "rest", "pair", "number", "x"]) (sc := defScope s_law) (by decide +kernel)) (fun _ _ _ _ _ => (pg_name (i := 13) sc_law.nd rfl (by first | exact Or.inl rfl | exact Or.inr rfl))) (fun _ _ _ _ _ => pts_nil) (fun _ _ _ _ _ => (pe_op op_sub (pv 13) pe_int)))
  (pss_cut (ps_if (pt_cmpR op_eq (pe_ix (r := rIxL K) ix_list (pv 1) pe_int (fun _ _ => rfl)) pe_int (nomark _))
    (pss_one (ps_set (i := 6) sc_law.nd rfl (by first | exact Or.inl rfl | exact Or.inr rfl) (pe_callB (r := rSortedI K) cr_sortedI (by rfl) mB_sorted (by decide +kernel) (pa_cons (pv 6) pa_nil))))
    pss_nil)
  (pss_cons (ps_set (i := 7) sc_law.nd rfl (by first | exact Or.inl rfl | exact Or.inr rfl) (pe_callTy (r := rTupQ K) call_tuple_of (by rfl) mB_tuple (by decide +kernel) (pa_cons (pv 6) pa_nil)))
  (pss_cons (ps_if (PW.pt (pw_or (pt_cmpR op_ne (pe_call G_is_lot (hr.mono (by decide)) (by rfl) D_is_lot.g D_is_lot.F.kp D_is_lot.b .nil pass0 (pa_cons (pv 7) (pa_cons (pe_ix (r := rIxL K) ix_list (pv 1) pe_int (fun _ _ => rfl)) pa_nil))) (pe_call G_law_is_lot (hr.mono (by decide)) (by rfl) D_law_is_lot.g D_law_is_lot.F.kp D_law_is_lot.b .nil pass0 (pa_cons (pv 7) (pa_cons (pe_ix (r := rIxL K) ix_list (pv 1) pe_int (fun _ _ => rfl)) pa_nil))) (nomark _)) (pw_or1 (pt_cmpR op_ne (pe_call G_is_lot (hr.mono (by decide)) (by rfl) D_is_lot.g D_is_lot.F.kp D_is_lot.b .nil pass0 (pa_cons (pv 7) (pa_cons pe_int pa_nil))) (pe_call G_law_is_lot (hr.mono (by decide)) (by rfl) D_law_is_lot.g D_law_is_lot.F.kp D_law_is_lot.b .nil pass0 (pa_cons (pv 7) (pa_cons pe_int pa_nil))) (nomark _)))))
    (pss_one (ps_ret pe_bl))
    pss_nil)
  (pss_cons (ps_set (i := 8) sc_law.nd rfl (by first | exact Or.inl rfl | exact Or.inr rfl) (pe_call G_law_draws (hr.mono (by decide)) (by rfl) D_law_draws.g D_law_draws.F.kp D_law_draws.b .nil pass0 (pa_cons (pe_call G_law_cell (hr.mono (by decide)) (by rfl) D_law_cell.g D_law_cell.F.kp D_law_cell.b .nil pass0 (pa_cons (pv 0) (pa_cons pe_int pa_nil))) (pa_cons (pe_op op_rep (pe_lst (pa_cons pe_int pa_nil)) pe_int) pa_nil))))
  (pss_cons (ps_set (i := 9) sc_law.nd rfl (by first | exact Or.inl rfl | exact Or.inr rfl) (pe_callTy (r := rTupQ K) call_tuple_of (by rfl) mB_tuple (by decide +kernel) (pa_cons (pe_lc (own := [("x", 14)]) (g := gName 14) rfl sc_law.nd (pi_range1 (by rfl) mB_range (pa_cons pe_int pa_nil)) (blkOk_by (own := [("x", 14)]) (N := ["script", "drawn", "due", "told", "asks", "k", "picks", "given", "marks", "one", "other", "rest", "pair", "number", "x"]) (sc := defScope s_law) (by decide +kernel)) (fun _ _ _ _ _ => (pg_name (i := 14) sc_law.nd rfl (by first | exact Or.inl rfl | exact Or.inr rfl))) (fun _ _ _ _ _ => pts_one (PW.pt (pw_or (pt_cmpR op_eq (pe_ix (r := rIxL K) ix_list (pv 8) (pv 14) (fun _ _ => rfl)) pe_int (nomark _)) (pw_or1 (pt_cmpR op_eq (pe_ix (r := rIxL K) ix_list (pv 8) (pv 14) (fun _ _ => rfl)) pe_int (nomark _)))))) (fun _ _ _ _ _ => (pv 14))) pa_nil)))
  (pss_cons (ps_set (i := 10) sc_law.nd rfl (by first | exact Or.inl rfl | exact Or.inr rfl) (pe_callTy (r := rTupQ K) call_tuple_of (by rfl) mB_tuple (by decide +kernel) (pa_cons (pe_lc (own := [("x", 14)]) (g := gName 14) rfl sc_law.nd (pi_range1 (by rfl) mB_range (pa_cons pe_int pa_nil)) (blkOk_by (own := [("x", 14)]) (N := ["script", "drawn", "due", "told", "asks", "k", "picks", "given", "marks", "one", "other", "rest", "pair", "number", "x"]) (sc := defScope s_law) (by decide +kernel)) (fun _ _ _ _ _ => (pg_name (i := 14) sc_law.nd rfl (by first | exact Or.inl rfl | exact Or.inr rfl))) (fun _ _ _ _ _ => pts_one (PW.pt (pw_or (pt_cmpR op_eq (pe_ix (r := rIxL K) ix_list (pv 8) (pv 14) (fun _ _ => rfl)) pe_int (nomark _)) (pw_or1 (pt_cmpR op_eq (pe_ix (r := rIxL K) ix_list (pv 8) (pv 14) (fun _ _ => rfl)) pe_int (nomark _)))))) (fun _ _ _ _ _ => (pv 14))) pa_nil)))
  (pss_cons (ps_set (i := 11) sc_law.nd rfl (by first | exact Or.inl rfl | exact Or.inr rfl) (pe_callTy (r := rTupQ K) call_tuple_of (by rfl) mB_tuple (by decide +kernel) (pa_cons (pe_lc (own := [("x", 14)]) (g := gName 14) rfl sc_law.nd (pi_range1 (by rfl) mB_range (pa_cons pe_int pa_nil)) (blkOk_by (own := [("x", 14)]) (N := ["script", "drawn", "due", "told", "asks", "k", "picks", "given", "marks", "one", "other", "rest", "pair", "number", "x"]) (sc := defScope s_law) (by decide +kernel)) (fun _ _ _ _ _ => (pg_name (i := 14) sc_law.nd rfl (by first | exact Or.inl rfl | exact Or.inr rfl))) (fun _ _ _ _ _ => pts_one (pt_cmpR op_eq (pe_ix (r := rIxL K) ix_list (pv 8) (pv 14) (fun _ _ => rfl)) pe_int (nomark _))) (fun _ _ _ _ _ => (pv 14))) pa_nil)))
  (pss_cons (ps_for PassesOwn.never rfl (pi_listK (K := K) (pe_lst (pa_cons (pe_tup (pa_cons (pv 9) (pa_cons (pv 10) pa_nil))) (pa_cons (pe_tup (pa_cons (pv 10) (pa_cons (pv 9) pa_nil))) (pa_cons (pe_tup (pa_cons (pv 9) (pa_cons (pv 11) pa_nil))) (pa_cons (pe_tup (pa_cons (pv 11) (pa_cons (pv 10) pa_nil))) (pa_cons (pe_tup (pa_cons (pv 9) (pa_cons (pv 9) pa_nil))) (pa_cons (pe_tup (pa_cons (pe_tup pa_nil) (pa_cons (pv 9) pa_nil))) (pa_cons (pe_tup (pa_cons (pv 11) (pa_cons (pe_tup pa_nil) pa_nil))) pa_nil))))))))) (pg_name (i := 12) sc_law.nd rfl (by first | exact Or.inl rfl | exact Or.inr rfl))
    (pss_one (ps_if (pt_not (pt_val (pe_call G_law_pair (hr.mono (by decide)) (by rfl) D_law_pair.g D_law_pair.F.kp D_law_pair.b .nil pass0 (pa_cons (pe_ix (r := rIxT K) ix_tup (pv 12) pe_int (fun _ _ => rfl)) (pa_cons (pe_ix (r := rIxT K) ix_tup (pv 12) pe_int (fun _ _ => rfl)) pa_nil)))))
    (pss_one (ps_ret pe_bl))
    pss_nil)))
  (pss_one (ps_ret (pe_and (pe_cmpR op_eq (pe_glob (v := .int 12) rfl c_MOST_THINGS ⟨_, rfl⟩) pe_int (nomark _)) (pe_one (pe_cmpR op_eq (pe_glob (v := .int 1000000) rfl c_MOST_WORTH ⟨_, rfl⟩) pe_int (nomark _))))))))))))))))))))))))), ?_⟩
    have cellE : ∀ {σ3 : L2.St} {G3 : Hp} {i : Nat}, Ex H G3 → σ3[0]? = some (some (.ref adr)) → i ≤ 1000 → Er rInt (tCall (spV rInt (wCell K)) [] E0 (tCons (tVar 0) (tCons (tC (.int (i : Int))) tNil))) σ3 G3 (cell ns i) :=
      fun e h0 hi => er_call (ea2 (r := rFro K) (er_var h0 ⟨adr, rfl, ex_l e hS⟩) er_int) mono2 ⟨ns, _, rfl, hlen, hi, rfl⟩
    -- drawn
    refine w_asg (r := rLst rInt) (Wd.start (Ex.refl H)) (En.er (en_call (ea2 (cellE (i := 0) (Ex.refl H) rfl (by decide)) (En.er (en_lst (r := rInt) (as := [13, 5, 9, 4, 7, 2]) (eal_cons er_int (eal_cons er_int (eal_cons er_int (eal_cons er_int (eal_cons er_int (eal_cons er_int eal_nil)))))) (by decide)))) mono2 ⟨cell ns 0, [13, 5, 9, 4, 7, 2], rfl, by decide, by decide, rfl⟩)) fun vd G1 H1 w1 s1 hd => ?_
    obtain ⟨e0, e1, e2, e3, e4, e5, hds⟩ := list6 (l := drawn (cell ns 0) [13, 5, 9, 4, 7, 2]) drawn_len
    rw [hds] at hd
    have b0 := draw_at hds (by decide) (i := 0) rfl rfl
    have b1 := draw_at hds (by decide) (i := 1) rfl rfl
    have b2 := draw_at hds (by decide) (i := 2) rfl rfl
    have b3 := draw_at hds (by decide) (i := 3) rfl rfl
    have b4 := draw_at hds (by decide) (i := 4) rfl rfl
    obtain ⟨n0, rfl⟩ := Int.eq_ofNat_of_zero_le b0.1
    obtain ⟨n1, rfl⟩ := Int.eq_ofNat_of_zero_le b1.1
    obtain ⟨n2, rfl⟩ := Int.eq_ofNat_of_zero_le b2.1
    obtain ⟨n3, rfl⟩ := Int.eq_ofNat_of_zero_le b3.1
    obtain ⟨n4, rfl⟩ := Int.eq_ofNat_of_zero_le b4.1
    have dE : ∀ {σ3 : L2.St} {G3 : Hp} {i x : Int}, Ex G1 G3 → σ3[1]? = some (some vd) → L2.atI [(n0 : Int), n1, n2, n3, n4, e5] i = some x → Er rInt (tOp (rIxL K) (tVar 1) (tC (.int i))) σ3 G3 x := fun e h1 hi => er_ixL (er_var h1 ((rLst rInt).mono e hd)) er_int hi
    -- due
    refine w_asg (r := rLst (rTup rInt)) w1 (En.er (en_call (ea2 (dE (Ex.refl _) rfl rfl) (dE (Ex.refl _) rfl rfl)) mono2 ⟨n0, n1, rfl, by omega, by omega, rfl⟩)) fun vu G2 H2 w2 s2 hu => ?_
    -- told
    refine w_asgN (r := rTup rInt) w2 (en_call (ea2 (dE s2.fr rfl rfl) (dE s2.fr rfl rfl)) mono2 ⟨n0, n1, rfl, by omega, by omega, rfl⟩) fun pt G3 H3 w3 s3 mt nt => ?_
    have nt0 : H pt = none := back_none w2.up nt
    have hu3 := (rLst (rTup rInt)).mono s3.fr hu
    obtain ⟨Gf, wf, ef, rf, _⟩ := mt.froz w3 nt0
    refine w_noF w3 wf.sub (et_or (a := false) (b := false) (et_not (a := true) (DL.et_B (er_isiV (r := rLst (rTup rInt)) (er_var rfl rf) (fun _ _ h => ty_lst h) (kit_ty (by decide +kernel))))) fun _ => et_is (DL.et_test (er_neD (eLst (eTup eInt)) (Nat.le_of_ble_eq_true rfl) (er_var rfl rf) (er_var rfl ((rLst (rTup rInt)).mono ef hu3)))) (by rw [decide_eq_true rfl]; rfl)) rfl fun H4 w4 s4 => ?_
    -- told.append((99,)), told[0] = ()
    have hsm := tuples_small (c := n0) (n := n1) (by omega) (by omega)
    refine w_app w4 rfl (mt.go s4) nt0 (by omega) (er_tup (eal_cons (er_int (i := 99)) eal_nil) (by show 1 ≤ 100000; decide)) fun G5 H5 w5 s5 mt5 => ?_
    refine w_put (j := 0) w5 (er_tup (r := rInt) eal_nil (Nat.zero_le _)) rfl mt5 nt0 er_int (by rw [List.length_append, List.length_singleton]; omega) fun G6 H6 w6 s6 mt6 => ?_
    have fr6 : Ex G3 G6 := (s4.fr.trans s5.fr).trans s6.fr
    have fr16 : Ex G1 G6 := s2.fr.trans (s3.fr.trans fr6)
    have hu6 := (rLst (rTup rInt)).mono fr6 hu3
    refine w_no w6 (DL.et_test (er_neD (eLst (eTup eInt)) (Nat.le_of_ble_eq_true rfl) (En.er (en_call (ea2 (dE fr16 rfl rfl) (dE fr16 rfl rfl)) mono2 ⟨n0, n1, rfl, by omega, by omega, rfl⟩)) (er_var rfl hu6))) (by rw [decide_eq_true rfl]; rfl) fun H7 w7 s7 => ?_
    -- asks
    refine w_asg (r := rLst (rTup rInt)) w7 (En.er (en_lst (r := rTup rInt) eal_nil (Nat.zero_le _))) fun va G8 H8 w8 s8 ha => ?_
    refine w_for w8 (src_rng1 (n := (n3 : Int) + 1) (ea1 (er_I0 (dE (fr16.trans s8.fr) rfl rfl) er_int)) (by omega)) tgt_n mono_sn (fun pre σ' G' H' => ∃ (va : V) (x5 : Option V), Ex G8 G' ∧ (rLst (rTup rInt)).rel G' va (upTo n2 pre.length) ∧
      σ' = [some (.ref adr), some vd, some vu, some (.ref pt), some va, x5, none, none, none, none, none, none, none, none, none]) (fun G9 H9 w9 s9 => ⟨va, none, s9.fr, (rLst (rTup rInt)).mono s9.fr ha, rfl⟩) (fun Gs pre a post σ' σ2 G' H' G9 H9 has hP s9 w9 eGs hS => ?_) (fun σ' G9 H9 w9 hP => ?_)
    · obtain ⟨va, x5, g1, ra, rfl⟩ := hP
      obtain ⟨z, hz, rfl⟩ := hS
      cases (show z = V.int a from hz)
      have hlen2 : pre.length < n3 + 1 := by
        have l := congrArg List.length has
        rw [rng_len, List.length_append, List.length_cons] at l
        omega
      have ea : a = (pre.length : Int) := by
        have g := congrArg (fun l => l[pre.length]?) has
        simp only [List.getElem?_append_right (Nat.le_refl _), Nat.sub_self, List.getElem?_cons_zero] at g
        rw [rng_get (by omega)] at g
        have := Option.some.inj g
        omega
      subst ea
      have l2 := upTo_len (c := n2) (by omega) (n := pre.length) (by omega)
      have l3 := tuples_small (c := n2) (n := pre.length) (by omega) (by omega)
      refine v_asg (r := rLst (rTup rInt)) w9 (En.er (en_catL (er_var rfl ((rLst (rTup rInt)).mono s9.fr ra)) (En.er (en_call (ea2 (dE ((fr16.trans s8.fr).trans (g1.trans s9.fr)) rfl rfl) (er_vi rfl)) mono2 ⟨n2, pre.length, rfl, by omega, by omega, rfl⟩)) (by omega))) fun va2 G10 H10 w10 s10 ha2 => ?_
      refine ⟨G10, w10, eGs.trans s10.fr, va2, some (.int (pre.length : Int)), (g1.trans s9.fr).trans s10.fr, ?_, rfl⟩
      rw [List.length_append, List.length_singleton]
      exact ha2
    obtain ⟨va2, x5, g89, ra, rfl⟩ := hP
    rw [rng_len, show ((n3 : Int) + 1).toNat = n3 + 1 by omega] at ra
    have fr19 : Ex G1 G9 := (fr16.trans s8.fr).trans g89
    refine w_no w9 (DL.et_test (er_neD (eLst (eTup eInt)) (Nat.le_of_ble_eq_true rfl) (En.er (en_listG (ea2 (dE fr19 rfl rfl) (dE fr19 rfl rfl)) mono2 ⟨n2, n3, rfl, by omega, by omega, rfl⟩)) (er_var rfl ra))) (by rw [decide_eq_true rfl]; rfl) fun H10 w10 s10 => ?_
    have frH9 : Ex H G9 := w9.old
    -- picks
    have hms : ∀ m ∈ (List.replicate n4 [(16 : Int)]).flatten, 0 < m ∧ m < 2 ^ 100 := fun m hm => by
      obtain ⟨l, hl, hml⟩ := List.mem_flatten.mp hm
      rw [List.eq_of_mem_replicate hl] at hml
      rw [List.mem_singleton.mp hml]
      decide
    have hml : ∀ n : Nat, (List.replicate n [(16 : Int)]).flatten.length = n := fun n => by
      induction n with
      | zero => rfl
      | succ n ih => rw [List.replicate_succ, List.flatten_cons, List.length_append, ih, List.length_singleton, Nat.add_comm]
    have hdl : (drawn (cell ns 1) (List.replicate n4 [(16 : Int)]).flatten).length = n4 := by rw [drawn_len, hml]
    refine w_asg (r := rLst rInt) w10 (En.er (en_lc (s := rInt) (fun _ => true) (fun x => x - 2) (src_list (En.er (en_call (ea2 (cellE (i := 1) frH9 rfl (by decide)) (En.er (er_rep16 (dE fr19 rfl rfl) (by omega)))) mono2 ⟨cell ns 1, (List.replicate n4 [(16 : Int)]).flatten, rfl, by rw [hml]; omega, hms, rfl⟩))) tgt_n (by rw [hdl]; omega) (fun x hx G σ2 eG hS => ?_))) fun vp G11 H11 w11 s11 hp => ?_
    · obtain ⟨z, hz, rfl⟩ := hS
      cases (show z = V.int x from hz)
      exact ⟨rfl, fun H1 _ Q q => q H1 (Ex.refl _), fun _ => er_I0 (er_vi rfl) er_int⟩
    have fr1B : Ex G1 G11 := fr19.trans s11.fr
    have frHB : Ex H G11 := frH9.trans s11.fr
    -- if drawn[5] == 0: picks = sorted(picks)
    refine ⟨fun σ' H' => ∃ (G' : Hp) (vp2 : V) (ps : List Int), Wd H H G' H' ∧ Ex G11 G' ∧ (rLst rInt).rel G' vp2 ps ∧ ps.length ≤ 6 ∧
      σ' = [some (.ref adr), some vd, some vu, some (.ref pt), some va2, x5, some vp2, none, none, none, none, none, none, none, none], ?_, fun σ' H' ⟨G12, vp2, ps, w12, s12, hps, lps, hσ⟩ => ?_⟩
    · have lp : (((drawn (cell ns 1) (List.replicate n4 [(16 : Int)]).flatten).filter fun _ => true).map fun x => x - 2).length ≤ 6 := by
        rw [List.length_map, List.filter_eq_self.mpr fun _ _ => rfl, hdl]
        omega
      refine v_when w11 (DL.et_test (er_eqI (dE fr1B rfl rfl) er_int)) (fun hb H12 w12 s12 => ?_) (fun hb H12 w12 s12 => ⟨G11, vp, _, w12, Ex.refl _, hp, lp, rfl⟩)
      refine v_asg (r := rLst rInt) w12 (En.er (en_sortI (ms := List.mergeSort (((drawn (cell ns 1) (List.replicate n4 [(16 : Int)]).flatten).filter fun _ => true).map fun x => x - 2) fun a b => decide (a ≤ b)) (er_var rfl hp) fun ns' h1 h2 => ?_)) fun vp2 G13 H13 w13 s13 hp2 => ⟨G13, vp2, _, w13, s13.fr, hp2, ?_, rfl⟩
      · refine sorted_eq (h1.trans (List.mergeSort_perm _ _).symm) h2 ((List.pairwise_mergeSort (fun a b c h1 h2 => ?_) (fun a b => ?_) _).imp fun h => of_decide_eq_true h)
        · have := of_decide_eq_true h1
          have := of_decide_eq_true h2
          exact decide_eq_true (by omega)
        · by_cases h : a ≤ b
          · rw [decide_eq_true h]
            rfl
          · rw [decide_eq_true (show b ≤ a by omega), Bool.or_true]
      · rw [List.length_mergeSort]
        exact lp
    subst hσ
    have fr1C : Ex G1 G12 := fr1B.trans s12
    have frHC : Ex H G12 := w12.old
    -- given
    refine w_asg (r := rTup rInt) w12 (er_tupOf (er_var rfl hps)) fun vg G13 H13 w13 s13 hg => ?_
    refine w_no w13 (et_or (a := false) (b := false) (et_is (DL.et_test (er_neB (er_call (s := rBl) (ea2 (er_var rfl hg) (dE (fr1C.trans s13.fr) rfl rfl)) mono2 ⟨ps, _, rfl, by omega, rfl⟩) (er_call (s := rBl) (ea2 (er_var rfl hg) (dE (fr1C.trans s13.fr) rfl rfl)) mono2 ⟨ps, _, rfl, by omega, rfl⟩))) (by rw [decide_eq_true rfl]; rfl))
      fun _ => et_is (DL.et_test (er_neB (er_call (s := rBl) (ea2 (er_var rfl hg) (er_int (i := 12))) mono2 ⟨ps, 12, rfl, by omega, rfl⟩) (er_call (s := rBl) (ea2 (er_var rfl hg) (er_int (i := 12))) mono2 ⟨ps, 12, rfl, by omega, rfl⟩))) (by rw [decide_eq_true rfl]; rfl)) rfl fun H14 w14 s14 => ?_
    -- marks
    refine w_asg (r := rLst rInt) w14 (En.er (en_call (ea2 (cellE (i := 2) w14.old rfl (by decide)) (En.er (en_rep (r := rInt) (k := 12) (En.er (en_lst (r := rInt) (as := [4]) (eal_cons er_int eal_nil) (by decide))) er_int (by omega) (by decide)))) mono2 ⟨cell ns 2, (List.replicate (12 : Int).toNat [(4 : Int)]).flatten, rfl, by decide, by decide, rfl⟩)) fun vm G15 H15 w15 s15 hm => ?_
    have lm : (drawn (cell ns 2) (List.replicate (12 : Int).toNat [(4 : Int)]).flatten).length = 12 := by
      rw [drawn_len]
      decide
    generalize hms2 : drawn (cell ns 2) (List.replicate (12 : Int).toNat [(4 : Int)]).flatten = ms at hm lm
    have mE : ∀ {σ3 : L2.St} {G3 : Hp} {x : Int}, Ex G15 G3 → x ∈ rng 0 12 → σ3[8]? = some (some vm) → σ3[14]? = some (some (.int x)) → ∃ m, ms[x.toNat]? = some m ∧ Er rInt (tOp (rIxL K) (tVar 8) (tVar 14)) σ3 G3 m := fun {σ3 G3 x} e hx h1 h2 => by
      have hr := mem_rng.mp hx
      have hg : ms[x.toNat]? = some (ms[x.toNat]'(by omega)) := List.getElem?_eq_getElem (by omega)
      refine ⟨_, hg, er_ixL (er_var h1 ((rLst rInt).mono e hm)) (er_vi h2) ?_⟩
      have := atI_nat hg
      rw [Int.toNat_of_nonneg hr.1] at this
      exact this
    have two : ∀ (p q : Int) {σ3 : L2.St} {G3 : Hp} {x : Int}, Ex G15 G3 → x ∈ rng 0 12 → σ3[8]? = some (some vm) → σ3[14]? = some (some (.int x)) →
        EvT (tOr (tTest (tOp rEq (tOp (rIxL K) (tVar 8) (tVar 14)) (tC (.int p)))) (tTest (tOp rEq (tOp (rIxL K) (tVar 8) (tVar 14)) (tC (.int q))))) σ3 G3 (mark ms (fun m => decide (m = p) || decide (m = q)) x) := fun p q {σ3 G3 x} e hx h1 h2 => by
      obtain ⟨m, h3, h4⟩ := mE e hx h1 h2
      unfold mark
      rw [h3]
      exact et_or (DL.et_test (er_eqI h4 er_int)) fun _ => DL.et_test (er_eqI h4 er_int)
    have three : ∀ {σ3 : L2.St} {G3 : Hp} {x : Int}, Ex G15 G3 → x ∈ rng 0 12 → σ3[8]? = some (some vm) → σ3[14]? = some (some (.int x)) →
        EvT (tTest (tOp rEq (tOp (rIxL K) (tVar 8) (tVar 14)) (tC (.int 3)))) σ3 G3 (mark ms (fun m => decide (m = 3)) x) := fun {σ3 G3 x} e hx h1 h2 => by
      obtain ⟨m, h3, h4⟩ := mE e hx h1 h2
      unfold mark
      rw [h3]
      exact DL.et_test (er_eqI h4 er_int)
    refine w_asg (r := rTup rInt) w15 (er_tupOf (En.er (en_is (en_lc (s := rInt) (mark ms fun m => decide (m = 0) || decide (m = 1)) (fun x => x) (src_rng1 (n := 12) (ea1 er_int) (by omega)) tgt_n (by rw [rng_len]; decide) (fun x hx G σ2 eG hS => ?_)) (List.map_id' _)))) fun v1 G16 H16 w16 s16 h1 => ?_
    · obtain ⟨z, hz, rfl⟩ := hS
      cases (show z = V.int x from hz)
      exact ⟨rfl, two 0 1 eG hx rfl rfl, fun _ => er_vi rfl⟩
    refine w_asg (r := rTup rInt) w16 (er_tupOf (En.er (en_is (en_lc (s := rInt) (mark ms fun m => decide (m = 2) || decide (m = 1)) (fun x => x) (src_rng1 (n := 12) (ea1 er_int) (by omega)) tgt_n (by rw [rng_len]; decide) (fun x hx G σ2 eG hS => ?_)) (List.map_id' _)))) fun v2 G17 H17 w17 s17 h2 => ?_
    · obtain ⟨z, hz, rfl⟩ := hS
      cases (show z = V.int x from hz)
      exact ⟨rfl, two 2 1 (s16.fr.trans eG) hx rfl rfl, fun _ => er_vi rfl⟩
    refine w_asg (r := rTup rInt) w17 (er_tupOf (En.er (en_is (en_lc (s := rInt) (mark ms fun m => decide (m = 3)) (fun x => x) (src_rng1 (n := 12) (ea1 er_int) (by omega)) tgt_n (by rw [rng_len]; decide) (fun x hx G σ2 eG hS => ?_)) (List.map_id' _)))) fun v3 G18 H18 w18 s18 h3 => ?_
    · obtain ⟨z, hz, rfl⟩ := hS
      cases (show z = V.int x from hz)
      exact ⟨rfl, three ((s16.fr.trans s17.fr).trans eG) hx rfl rfl, fun _ => er_vi rfl⟩
    have h1b := (rTup rInt).mono (s17.fr.trans s18.fr) h1
    have h2b := (rTup rInt).mono s18.fr h2
    have lot := fun f => lot12_filter f
    have len12 : ∀ f : Int → Bool, ((rng 0 12).filter f).length ≤ 12 := fun f => by
      have := List.length_filter_le f (rng 0 12)
      rw [rng_len] at this
      exact this
    generalize ht1 : (rng 0 (12 : Int).toNat).filter (mark ms fun m => decide (m = 0) || decide (m = 1)) = t1 at h1b
    generalize ht2 : (rng 0 (12 : Int).toNat).filter (mark ms fun m => decide (m = 2) || decide (m = 1)) = t2 at h2b
    generalize ht3 : (rng 0 (12 : Int).toNat).filter (mark ms fun m => decide (m = 3)) = t3 at h3
    have g1 : Lot12 t1 ∧ t1.length ≤ 12 := ht1 ▸ ⟨lot _, len12 _⟩
    have g2 : Lot12 t2 ∧ t2.length ≤ 12 := ht2 ▸ ⟨lot _, len12 _⟩
    have g3 : Lot12 t3 ∧ t3.length ≤ 12 := ht3 ▸ ⟨lot _, len12 _⟩
    have g0 : Lot12 ([] : List Int) ∧ ([] : List Int).length ≤ 12 := ⟨Lot12.nil, Nat.zero_le _⟩
    -- for pair in [..]
    refine w_for w18 (r := rPair (rTup rInt) (rTup rInt)) (as := [(t1, t2), (t2, t1), (t1, t3), (t3, t2), (t1, t1), ([], t1), (t3, [])]) (src_list (En.er (en_lst (eal_cons (er_pair (ea2 (er_var rfl h1b) (er_var rfl h2b))) (eal_cons (er_pair (ea2 (er_var rfl h2b) (er_var rfl h1b))) (eal_cons (er_pair (ea2 (er_var rfl h1b) (er_var rfl h3))) (eal_cons (er_pair (ea2 (er_var rfl h3) (er_var rfl h2b)))
      (eal_cons (er_pair (ea2 (er_var rfl h1b) (er_var rfl h1b))) (eal_cons (er_pair (ea2 (er_tup (r := rInt) eal_nil (Nat.zero_le _)) (er_var rfl h1b))) (eal_cons (er_pair (ea2 (er_var rfl h3) (er_tup (r := rInt) eal_nil (Nat.zero_le _)))) eal_nil))))))) (by show 7 ≤ 100000; decide)))) tgt_n mono_sn (fun pre σ' G' H' => ∃ (x12 : Option V),
      σ' = [some (.ref adr), some vd, some vu, some (.ref pt), some va2, x5, some vp2, some vg, some vm, some v1, some v2, some v3, x12, none, none]) (fun G19 H19 w19 s19 => ⟨none, rfl⟩) (fun Gs pre pr post σ' σ2 G' H' G19 H19 has hP s19 w19 eGs hS => ?_) (fun σ' G19 H19 w19 hP => ?_)
    · obtain ⟨x12, rfl⟩ := hP
      obtain ⟨z, hz, rfl⟩ := hS
      have hpr : pr ∈ [(t1, t2), (t2, t1), (t1, t3), (t3, t2), (t1, t1), ([], t1), (t3, [])] := by
        rw [has]
        exact List.mem_append_right _ List.mem_cons_self
      have good : (Lot12 pr.1 ∧ pr.1.length ≤ 12) ∧ (Lot12 pr.2 ∧ pr.2.length ≤ 12) := by
        simp only [List.mem_cons, List.not_mem_nil, or_false] at hpr
        rcases hpr with rfl | rfl | rfl | rfl | rfl | rfl | rfl
        · exact ⟨g1, g2⟩
        · exact ⟨g2, g1⟩
        · exact ⟨g1, g3⟩
        · exact ⟨g3, g2⟩
        · exact ⟨g1, g1⟩
        · exact ⟨g0, g1⟩
        · exact ⟨g3, g0⟩
      refine v_no w19 (et_not (a := true) (DL.et_B (er_call (s := rBl) (ea2 (er_fst (er_var rfl hz) er_int) (er_snd (er_var rfl hz) er_int)) mono2 ⟨pr.1, pr.2, rfl, good.1.1, good.2.1, good.1.2, good.2.2, rfl⟩))) rfl fun H20 w20 s20 => ?_
      exact ⟨G19, w20, eGs, some z, rfl⟩
    · obtain ⟨x12, rfl⟩ := hP
      exact v_retB w19 (er_is (er_andV (er_eqI er_int er_int) fun _ => er_eqI er_int er_int) rfl) fun H20 e20 => q H20
end
end K98
set_option Elab.async false
set_option linter.all false
set_option maxRecDepth 100000
set_option maxHeartbeats 8000000
namespace K98
open PySem PySem.Spec PyProof.Rows L2 Evl DL
theorem all_mk {l : PySem.W.OpenLaw} {w : World} {K : PySem.W.Frag} {h : Heap} {mg : Str → Option Value} {fa : Addr} (X : K.In h) (G : h.Ns mainGlobals mg) (hfa : mg "law" = some (.ref fa))
    {f_choices : Addr} {od_choices an_choices : Option Addr} {sl_choices : Array (Option Value)} {oc_choices kV_choices dc_choices pm_choices cd_choices ct_choices : Value}
    (a_choices : PySem.W.nsIn K mainGlobals "choices" = some (some (.ref f_choices)))
    (l_choices : K.lookup f_choices = some ⟨oc_choices, od_choices, .func (PySem.W.fnOf "choices" "choices" (defArgs s_choices) (defBody s_choices) (defScope s_choices) .none kV_choices dc_choices pm_choices an_choices cd_choices ct_choices), sl_choices⟩)
    (c_choices : PySem.W.codeIn K cd_choices "choices" = true) (k_choices : PySem.W.keepIn K (.ref f_choices) = true)
    {f_all_asks : Addr} {od_all_asks an_all_asks : Option Addr} {sl_all_asks : Array (Option Value)} {oc_all_asks kV_all_asks dc_all_asks pm_all_asks cd_all_asks ct_all_asks : Value}
    (a_all_asks : PySem.W.nsIn K mainGlobals "all_asks" = some (some (.ref f_all_asks)))
    (l_all_asks : K.lookup f_all_asks = some ⟨oc_all_asks, od_all_asks, .func (PySem.W.fnOf "all_asks" "all_asks" (defArgs s_all_asks) (defBody s_all_asks) (defScope s_all_asks) .none kV_all_asks dc_all_asks pm_all_asks an_all_asks cd_all_asks ct_all_asks), sl_all_asks⟩)
    (c_all_asks : PySem.W.codeIn K cd_all_asks "all_asks" = true) (k_all_asks : PySem.W.keepIn K (.ref f_all_asks) = true)
    {f_is_lot : Addr} {od_is_lot an_is_lot : Option Addr} {sl_is_lot : Array (Option Value)} {oc_is_lot kV_is_lot dc_is_lot pm_is_lot cd_is_lot ct_is_lot : Value}
    (a_is_lot : PySem.W.nsIn K mainGlobals "is_lot" = some (some (.ref f_is_lot)))
    (l_is_lot : K.lookup f_is_lot = some ⟨oc_is_lot, od_is_lot, .func (PySem.W.fnOf "is_lot" "is_lot" (defArgs s_is_lot) (defBody s_is_lot) (defScope s_is_lot) .none kV_is_lot dc_is_lot pm_is_lot an_is_lot cd_is_lot ct_is_lot), sl_is_lot⟩)
    (c_is_lot : PySem.W.codeIn K cd_is_lot "is_lot" = true) (k_is_lot : PySem.W.keepIn K (.ref f_is_lot) = true)
    {f_apart : Addr} {od_apart an_apart : Option Addr} {sl_apart : Array (Option Value)} {oc_apart kV_apart dc_apart pm_apart cd_apart ct_apart : Value}
    (a_apart : PySem.W.nsIn K mainGlobals "apart" = some (some (.ref f_apart)))
    (l_apart : K.lookup f_apart = some ⟨oc_apart, od_apart, .func (PySem.W.fnOf "apart" "apart" (defArgs s_apart) (defBody s_apart) (defScope s_apart) .none kV_apart dc_apart pm_apart an_apart cd_apart ct_apart), sl_apart⟩)
    (c_apart : PySem.W.codeIn K cd_apart "apart" = true) (k_apart : PySem.W.keepIn K (.ref f_apart) = true)
    {f_joined : Addr} {od_joined an_joined : Option Addr} {sl_joined : Array (Option Value)} {oc_joined kV_joined dc_joined pm_joined cd_joined ct_joined : Value}
    (a_joined : PySem.W.nsIn K mainGlobals "joined" = some (some (.ref f_joined)))
    (l_joined : K.lookup f_joined = some ⟨oc_joined, od_joined, .func (PySem.W.fnOf "joined" "joined" (defArgs s_joined) (defBody s_joined) (defScope s_joined) .none kV_joined dc_joined pm_joined an_joined cd_joined ct_joined), sl_joined⟩)
    (c_joined : PySem.W.codeIn K cd_joined "joined" = true) (k_joined : PySem.W.keepIn K (.ref f_joined) = true)
    {f_without : Addr} {od_without an_without : Option Addr} {sl_without : Array (Option Value)} {oc_without kV_without dc_without pm_without cd_without ct_without : Value}
    (a_without : PySem.W.nsIn K mainGlobals "without" = some (some (.ref f_without)))
    (l_without : K.lookup f_without = some ⟨oc_without, od_without, .func (PySem.W.fnOf "without" "without" (defArgs s_without) (defBody s_without) (defScope s_without) .none kV_without dc_without pm_without an_without cd_without ct_without), sl_without⟩)
    (c_without : PySem.W.codeIn K cd_without "without" = true) (k_without : PySem.W.keepIn K (.ref f_without) = true)
    {f_law_cell : Addr} {od_law_cell an_law_cell : Option Addr} {sl_law_cell : Array (Option Value)} {oc_law_cell kV_law_cell dc_law_cell pm_law_cell cd_law_cell ct_law_cell : Value}
    (a_law_cell : PySem.W.nsIn K mainGlobals "_law_cell" = some (some (.ref f_law_cell)))
    (l_law_cell : K.lookup f_law_cell = some ⟨oc_law_cell, od_law_cell, .func (PySem.W.fnOf "_law_cell" "_law_cell" (defArgs s_law_cell) (defBody s_law_cell) (defScope s_law_cell) .none kV_law_cell dc_law_cell pm_law_cell an_law_cell cd_law_cell ct_law_cell), sl_law_cell⟩)
    (c_law_cell : PySem.W.codeIn K cd_law_cell "_law_cell" = true) (k_law_cell : PySem.W.keepIn K (.ref f_law_cell) = true)
    {f_law_draws : Addr} {od_law_draws an_law_draws : Option Addr} {sl_law_draws : Array (Option Value)} {oc_law_draws kV_law_draws dc_law_draws pm_law_draws cd_law_draws ct_law_draws : Value}
    (a_law_draws : PySem.W.nsIn K mainGlobals "_law_draws" = some (some (.ref f_law_draws)))
    (l_law_draws : K.lookup f_law_draws = some ⟨oc_law_draws, od_law_draws, .func (PySem.W.fnOf "_law_draws" "_law_draws" (defArgs s_law_draws) (defBody s_law_draws) (defScope s_law_draws) .none kV_law_draws dc_law_draws pm_law_draws an_law_draws cd_law_draws ct_law_draws), sl_law_draws⟩)
    (c_law_draws : PySem.W.codeIn K cd_law_draws "_law_draws" = true) (k_law_draws : PySem.W.keepIn K (.ref f_law_draws) = true)
    {f_law_tuples : Addr} {od_law_tuples an_law_tuples : Option Addr} {sl_law_tuples : Array (Option Value)} {oc_law_tuples kV_law_tuples dc_law_tuples pm_law_tuples cd_law_tuples ct_law_tuples : Value}
    (a_law_tuples : PySem.W.nsIn K mainGlobals "_law_tuples" = some (some (.ref f_law_tuples)))
    (l_law_tuples : K.lookup f_law_tuples = some ⟨oc_law_tuples, od_law_tuples, .func (PySem.W.fnOf "_law_tuples" "_law_tuples" (defArgs s_law_tuples) (defBody s_law_tuples) (defScope s_law_tuples) .none kV_law_tuples dc_law_tuples pm_law_tuples an_law_tuples cd_law_tuples ct_law_tuples), sl_law_tuples⟩)
    (c_law_tuples : PySem.W.codeIn K cd_law_tuples "_law_tuples" = true) (k_law_tuples : PySem.W.keepIn K (.ref f_law_tuples) = true)
    {f_law_is_lot : Addr} {od_law_is_lot an_law_is_lot : Option Addr} {sl_law_is_lot : Array (Option Value)} {oc_law_is_lot kV_law_is_lot dc_law_is_lot pm_law_is_lot cd_law_is_lot ct_law_is_lot : Value}
    (a_law_is_lot : PySem.W.nsIn K mainGlobals "_law_is_lot" = some (some (.ref f_law_is_lot)))
    (l_law_is_lot : K.lookup f_law_is_lot = some ⟨oc_law_is_lot, od_law_is_lot, .func (PySem.W.fnOf "_law_is_lot" "_law_is_lot" (defArgs s_law_is_lot) (defBody s_law_is_lot) (defScope s_law_is_lot) .none kV_law_is_lot dc_law_is_lot pm_law_is_lot an_law_is_lot cd_law_is_lot ct_law_is_lot), sl_law_is_lot⟩)
    (c_law_is_lot : PySem.W.codeIn K cd_law_is_lot "_law_is_lot" = true) (k_law_is_lot : PySem.W.keepIn K (.ref f_law_is_lot) = true)
    {f_law_pair : Addr} {od_law_pair an_law_pair : Option Addr} {sl_law_pair : Array (Option Value)} {oc_law_pair kV_law_pair dc_law_pair pm_law_pair cd_law_pair ct_law_pair : Value}
    (a_law_pair : PySem.W.nsIn K mainGlobals "_law_pair" = some (some (.ref f_law_pair)))
    (l_law_pair : K.lookup f_law_pair = some ⟨oc_law_pair, od_law_pair, .func (PySem.W.fnOf "_law_pair" "_law_pair" (defArgs s_law_pair) (defBody s_law_pair) (defScope s_law_pair) .none kV_law_pair dc_law_pair pm_law_pair an_law_pair cd_law_pair ct_law_pair), sl_law_pair⟩)
    (c_law_pair : PySem.W.codeIn K cd_law_pair "_law_pair" = true) (k_law_pair : PySem.W.keepIn K (.ref f_law_pair) = true)
    {f_law : Addr} {od_law an_law : Option Addr} {sl_law : Array (Option Value)} {oc_law kV_law dc_law pm_law cd_law ct_law : Value}
    (a_law : PySem.W.nsIn K mainGlobals "law" = some (some (.ref f_law)))
    (l_law : K.lookup f_law = some ⟨oc_law, od_law, .func (PySem.W.fnOf "law" "law" (defArgs s_law) (defBody s_law) (defScope s_law) .none kV_law dc_law pm_law an_law cd_law ct_law), sl_law⟩)
    (c_law : PySem.W.codeIn K cd_law "law" = true) (k_law : PySem.W.keepIn K (.ref f_law) = true)
    {t_MOST_THINGS : Tok} (g_MOST_THINGS : PySem.W.nsIn K mainGlobals "MOST_THINGS" = some (some (.int 12 t_MOST_THINGS)))
    {t_MOST_WORTH : Tok} (g_MOST_WORTH : PySem.W.nsIn K mainGlobals "MOST_WORTH" = some (some (.int 1000000 t_MOST_WORTH)))
    (z_range : PySem.W.nsIn K mainGlobals "range" = some none)
    (z_len : PySem.W.nsIn K mainGlobals "len" = some none)
    (z_list : PySem.W.nsIn K mainGlobals "list" = some none)
    (z_any : PySem.W.nsIn K mainGlobals "any" = some none)
    (z_tuple : PySem.W.nsIn K mainGlobals "tuple" = some none)
    (z_sorted : PySem.W.nsIn K mainGlobals "sorted" = some none)
    (z_int : PySem.W.nsIn K mainGlobals "int" = some none)
    (z_isinstance : PySem.W.nsIn K mainGlobals "isinstance" = some none)
    : ∃ fd : FuncData, (∀ (s : Shared) (v : Value), BindsTo s fd ⟨[v], []⟩ [("script", v)]) ∧ ∀ base : Heap, K.In base → base.Ns mainGlobals mg → FnOk l.prog w K mg base CX0 7 fa fd ["script"] (spLaw K) := by
  have e := hfa.symm.trans (PySem.W.mg_of X G a_law)
  cases e
  have F_choices := fun_mk (st := s_choices) l_choices c_choices k_choices
  have D_choices : DefAt K mg "choices" s_choices ["count", "size"] _ _ := ⟨F_choices, PySem.W.mg_of X G a_choices, F_choices.binds (ps := ["count", "size"]) fun _ _ _ _ _ _ us hl => match us, hl with | [_, _], _ => rfl⟩
  have F_all_asks := fun_mk (st := s_all_asks) l_all_asks c_all_asks k_all_asks
  have D_all_asks : DefAt K mg "all_asks" s_all_asks ["count", "most"] _ _ := ⟨F_all_asks, PySem.W.mg_of X G a_all_asks, F_all_asks.binds (ps := ["count", "most"]) fun _ _ _ _ _ _ us hl => match us, hl with | [_, _], _ => rfl⟩
  have F_is_lot := fun_mk (st := s_is_lot) l_is_lot c_is_lot k_is_lot
  have D_is_lot : DefAt K mg "is_lot" s_is_lot ["lot", "count"] _ _ := ⟨F_is_lot, PySem.W.mg_of X G a_is_lot, F_is_lot.binds (ps := ["lot", "count"]) fun _ _ _ _ _ _ us hl => match us, hl with | [_, _], _ => rfl⟩
  have F_apart := fun_mk (st := s_apart) l_apart c_apart k_apart
  have D_apart : DefAt K mg "apart" s_apart ["lot", "other"] _ _ := ⟨F_apart, PySem.W.mg_of X G a_apart, F_apart.binds (ps := ["lot", "other"]) fun _ _ _ _ _ _ us hl => match us, hl with | [_, _], _ => rfl⟩
  have F_joined := fun_mk (st := s_joined) l_joined c_joined k_joined
  have D_joined : DefAt K mg "joined" s_joined ["lot", "other"] _ _ := ⟨F_joined, PySem.W.mg_of X G a_joined, F_joined.binds (ps := ["lot", "other"]) fun _ _ _ _ _ _ us hl => match us, hl with | [_, _], _ => rfl⟩
  have F_without := fun_mk (st := s_without) l_without c_without k_without
  have D_without : DefAt K mg "without" s_without ["lot", "other"] _ _ := ⟨F_without, PySem.W.mg_of X G a_without, F_without.binds (ps := ["lot", "other"]) fun _ _ _ _ _ _ us hl => match us, hl with | [_, _], _ => rfl⟩
  have F_law_cell := fun_mk (st := s_law_cell) l_law_cell c_law_cell k_law_cell
  have D_law_cell : DefAt K mg "_law_cell" s_law_cell ["script", "k"] _ _ := ⟨F_law_cell, PySem.W.mg_of X G a_law_cell, F_law_cell.binds (ps := ["script", "k"]) fun _ _ _ _ _ _ us hl => match us, hl with | [_, _], _ => rfl⟩
  have F_law_draws := fun_mk (st := s_law_draws) l_law_draws c_law_draws k_law_draws
  have D_law_draws : DefAt K mg "_law_draws" s_law_draws ["cell", "limits"] _ _ := ⟨F_law_draws, PySem.W.mg_of X G a_law_draws, F_law_draws.binds (ps := ["cell", "limits"]) fun _ _ _ _ _ _ us hl => match us, hl with | [_, _], _ => rfl⟩
  have F_law_tuples := fun_mk (st := s_law_tuples) l_law_tuples c_law_tuples k_law_tuples
  have D_law_tuples : DefAt K mg "_law_tuples" s_law_tuples ["count", "size"] _ _ := ⟨F_law_tuples, PySem.W.mg_of X G a_law_tuples, F_law_tuples.binds (ps := ["count", "size"]) fun _ _ _ _ _ _ us hl => match us, hl with | [_, _], _ => rfl⟩
  have F_law_is_lot := fun_mk (st := s_law_is_lot) l_law_is_lot c_law_is_lot k_law_is_lot
  have D_law_is_lot : DefAt K mg "_law_is_lot" s_law_is_lot ["given", "count"] _ _ := ⟨F_law_is_lot, PySem.W.mg_of X G a_law_is_lot, F_law_is_lot.binds (ps := ["given", "count"]) fun _ _ _ _ _ _ us hl => match us, hl with | [_, _], _ => rfl⟩
  have F_law_pair := fun_mk (st := s_law_pair) l_law_pair c_law_pair k_law_pair
  have D_law_pair : DefAt K mg "_law_pair" s_law_pair ["one", "other"] _ _ := ⟨F_law_pair, PySem.W.mg_of X G a_law_pair, F_law_pair.binds (ps := ["one", "other"]) fun _ _ _ _ _ _ us hl => match us, hl with | [_, _], _ => rfl⟩
  have F_law := fun_mk (st := s_law) l_law c_law k_law
  have D_law : DefAt K mg "law" s_law ["script"] _ _ := ⟨F_law, PySem.W.mg_of X G a_law, F_law.binds (ps := ["script"]) fun _ _ _ _ _ _ us hl => match us, hl with | [_], _ => rfl⟩
  exact ⟨PySem.W.fnOf "law" "law" (defArgs s_law) (defBody s_law) (defScope s_law) .none kV_law dc_law pm_law an_law cd_law ct_law, fun s v => .of_eq rfl, fun base _ _ => ok_law D_law D_choices D_all_asks D_is_lot D_apart D_joined D_without D_law_cell D_law_draws D_law_tuples D_law_is_lot D_law_pair (PySem.W.mg_of X G g_MOST_THINGS) (PySem.W.mg_of X G g_MOST_WORTH) (PySem.W.mg_none_of X G z_range) (PySem.W.mg_none_of X G z_len) (PySem.W.mg_none_of X G z_list) (PySem.W.mg_none_of X G z_any) (PySem.W.mg_none_of X G z_tuple) (PySem.W.mg_none_of X G z_sorted) (PySem.W.mg_none_of X G z_int) (PySem.W.mg_none_of X G z_isinstance)⟩
end K98
open PySem PySem.W PyProof.Rows
set_option maxHeartbeats 0 in
theorem PySem.Challenge.cw_fewserve_k98_lots_and_choices_holds : PySem.Challenge.rw_fewserve_k98_lots_and_choices.Holds := by
  w_on; o_law; k_head; (case hw => w_witness2)
  k_fill
  refine L2.walk_of (l := PySem.Challenge.rw_fewserve_k98_lots_and_choices) (n := 63) (k := 7) (x := "script") (CX := fun _ => L2.CX0) (sp := fun w => K98.spLaw _) rfl (by decide) rfl ⟨rfl, by decide, by decide⟩ (fun w h Y => PySem.W.kIn_of Y) ?F (fun _ _ a ns hl _ hS => ⟨a, ns, rfl, hS, hl, fun _ => rfl⟩) (fun _ _ _ _ _ h => h)
  case F =>
    intro w mg fa h KX G hmg
    refine' K98.all_mk KX G hmg ?a_choices ?l_choices ?c_choices ?k_choices ?a_all_asks ?l_all_asks ?c_all_asks ?k_all_asks ?a_is_lot ?l_is_lot ?c_is_lot ?k_is_lot ?a_apart ?l_apart ?c_apart ?k_apart ?a_joined ?l_joined ?c_joined ?k_joined ?a_without ?l_without ?c_without ?k_without ?a_law_cell ?l_law_cell ?c_law_cell ?k_law_cell ?a_law_draws ?l_law_draws ?c_law_draws ?k_law_draws ?a_law_tuples ?l_law_tuples ?c_law_tuples ?k_law_tuples ?a_law_is_lot ?l_law_is_lot ?c_law_is_lot ?k_law_is_lot ?a_law_pair ?l_law_pair ?c_law_pair ?k_law_pair ?a_law ?l_law ?c_law ?k_law ?g_MOST_THINGS ?g_MOST_WORTH ?z_range ?z_len ?z_list ?z_any ?z_tuple ?z_sorted ?z_int ?z_isinstance
    (case a_choices => k_is)
    (case l_choices => k_is)
    (case c_choices => k_is)
    (case k_choices => k_is)
    (case a_all_asks => k_is)
    (case l_all_asks => k_is)
    (case c_all_asks => k_is)
    (case k_all_asks => k_is)
    (case a_is_lot => k_is)
    (case l_is_lot => k_is)
    (case c_is_lot => k_is)
    (case k_is_lot => k_is)
    (case a_apart => k_is)
    (case l_apart => k_is)
    (case c_apart => k_is)
    (case k_apart => k_is)
    (case a_joined => k_is)
    (case l_joined => k_is)
    (case c_joined => k_is)
    (case k_joined => k_is)
    (case a_without => k_is)
    (case l_without => k_is)
    (case c_without => k_is)
    (case k_without => k_is)
    (case a_law_cell => k_is)
    (case l_law_cell => k_is)
    (case c_law_cell => k_is)
    (case k_law_cell => k_is)
    (case a_law_draws => k_is)
    (case l_law_draws => k_is)
    (case c_law_draws => k_is)
    (case k_law_draws => k_is)
    (case a_law_tuples => k_is)
    (case l_law_tuples => k_is)
    (case c_law_tuples => k_is)
    (case k_law_tuples => k_is)
    (case a_law_is_lot => k_is)
    (case l_law_is_lot => k_is)
    (case c_law_is_lot => k_is)
    (case k_law_is_lot => k_is)
    (case a_law_pair => k_is)
    (case l_law_pair => k_is)
    (case c_law_pair => k_is)
    (case k_law_pair => k_is)
    (case a_law => k_is)
    (case l_law => k_is)
    (case c_law => k_is)
    (case k_law => k_is)
    (case g_MOST_THINGS => k_is)
    (case g_MOST_WORTH => k_is)
    (case z_range => k_is)
    (case z_len => k_is)
    (case z_list => k_is)
    (case z_any => k_is)
    (case z_tuple => k_is)
    (case z_sorted => k_is)
    (case z_int => k_is)
    (case z_isinstance => k_is)
