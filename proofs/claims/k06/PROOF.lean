import PyProof.Rows.All
import Wide.All
import OpenK.AllK
import Wide.FinOn
import HandS.ForMost
import HandS.Evl
import HandS.TupAny
import HandS.Walk
import HandS.Wide
import HandS.SortInts
import HandS.GenYield
import HandS.GenList
import HandS.IsInst
import PyProof.Rows.SortShell
import PyProof.Rows.SortWalk
import PyProof.EqAt
import PyProof.EqKinds
import PyProof.TupleCall
import HandS.SortKw
import HandS.Ends
import KE.SortKeyHeap
import KE.SortData
import HandS.More
import PySem.Challenge.RW_fewserve_k06_grown_lots
set_option Elab.async false
set_option linter.all false
set_option maxRecDepth 100000
set_option maxHeartbeats 2000000
/-! DL: typed data over the layer: what a value stands for (Rep), what an expression gives (Er, En), promises of pure defs -/
namespace DL
open PySem L2 Evl

/-! ### heaps: a frame F within the heap, and what is new -/
def part (F H1 H2 : Hp) : Hp := fun q => match F q with
  | some o => some o
  | none => match H1 q with
    | some _ => none
    | none => H2 q
section
variable {F G H H1 H2 H3 H4 : Hp} {p q : Addr} {o : HO}
theorem part_in (h : F q = some o) : part F H1 H2 q = some o := by
  unfold part
  rw [h]
theorem part_old (h : F q = none) (h1 : H1 q = some o) : part F H1 H2 q = none := by
  unfold part
  rw [h, h1]
theorem part_new (h : F q = none) (h1 : H1 q = none) : part F H1 H2 q = H2 q := by
  unfold part
  rw [h, h1]
theorem part_ex : Ex F (part F H1 H2) := fun q o h => part_in h
theorem back_none (e : Ex H H1) (h : H1 p = none) : H p = none := by
  cases h1 : H p with
  | none => rfl
  | some o =>
    rw [e p o h1] at h
    cases h
theorem part_sub (e : Ex F H2) : Ex (part F H1 H2) H2 := fun q o h => by
  cases hf : F q with
  | some u =>
    rw [part_in hf] at h
    rw [← h]
    exact e q u hf
  | none =>
    cases h1 : H1 q with
    | some u =>
      rw [part_old hf h1] at h
      cases h
    | none =>
      rw [part_new hf h1] at h
      exact h
theorem part_up (e : Ex H2 H3) : Ex (part F H1 H2) (part F H1 H3) := fun q o h => by
  cases hf : F q with
  | some u =>
    rw [part_in hf] at h ⊢
    exact h
  | none =>
    cases h1 : H1 q with
    | some u =>
      rw [part_old hf h1] at h
      cases h
    | none =>
      rw [part_new hf h1] at h ⊢
      exact e q o h
theorem part_back (e : Ex H1 H2) : Ex (part F H2 H3) (part F H1 H3) := fun q o h => by
  cases hf : F q with
  | some u =>
    rw [part_in hf] at h ⊢
    exact h
  | none =>
    cases h2 : H2 q with
    | some u =>
      rw [part_old hf h2] at h
      cases h
    | none =>
      rw [part_new hf h2] at h
      rw [part_new hf (back_none e h2)]
      exact h
/-- a later evaluation over the frame that an earlier one has left -/
theorem part_part (e1 : Ex H1 H2) (e2 : Ex H2 H3) (e3 : Ex H3 H4) : Ex (part (part F H1 H2) H3 H4) (part F H1 H4) := fun q o h => by
  cases hp : part F H1 H2 q with
  | some u =>
    rw [part_in hp] at h
    rw [← h]
    exact part_up (e2.trans e3) q u hp
  | none =>
    cases h3 : H3 q with
    | some u =>
      rw [part_old hp h3] at h
      cases h
    | none =>
      rw [part_new hp h3] at h
      have n1 : H1 q = none := back_none (e1.trans e2) h3
      cases hf : F q with
      | some u =>
        rw [part_in hf] at hp
        cases hp
      | none =>
        rw [part_new hf n1]
        exact h
/-- a greater frame within the old heap -/
theorem part_frame (e : Ex F G) (e1 : Ex G H1) : Ex (part F H1 H2) (part G H1 H2) := fun q o h => by
  cases hf : F q with
  | some u =>
    rw [part_in hf] at h
    rw [part_in (e q u hf)]
    exact h
  | none =>
    cases h1 : H1 q with
    | some u =>
      rw [part_old hf h1] at h
      cases h
    | none =>
      rw [part_new hf h1] at h
      rw [part_new (back_none e1 h1) h1]
      exact h
/-- without the object at D -/
def mns (H : Hp) (D : Addr) : Hp := fun q => if q = D then none else H q
theorem mns_at {D : Addr} : mns H D D = none := by
  unfold mns
  rw [if_pos rfl]
theorem mns_ne {D : Addr} (h : q ≠ D) : mns H D q = H q := by
  unfold mns
  rw [if_neg h]
theorem mns_sub {D : Addr} : Ex (mns H D) H := fun q o h => by
  by_cases e : q = D
  · rw [e, mns_at] at h
    cases h
  · rw [mns_ne e] at h
    exact h
theorem ex_mns {D : Addr} (e : Ex F H) (h : F D = none) : Ex F (mns H D) := fun q o hq => by
  rw [mns_ne (ne_of_none hq h)]
  exact e q o hq
theorem mns_up {D : Addr} (e : Ex H H1) : Ex (mns H D) (mns H1 D) := ex_mns (mns_sub.trans e) mns_at
theorem mns_upd {D : Addr} {u : HO} : mns (upd H D u) D = mns H D := by
  funext q
  by_cases e : q = D
  · rw [e, mns_at, mns_at]
  · rw [mns_ne e, mns_ne e, upd_ne e]
/-- a turn of a loop that fills D: what was made in the turn, over the frame, is not D -/
theorem part_turn {D : Addr} (e0 : Ex F H1) (e1 : Ex H1 H2) (hD : H2 D = none) (e2 : Ex H2 H3) (h3 : H3 D = some o) (e3 : Ex H3 H4) : Ex (part (part F H1 H2) H3 H4) (mns (part F H1 H4) D) := by
  refine ex_mns (part_part e1 e2 e3) ?_
  have hf : F D = none := back_none (e0.trans e1) hD
  have hp : part F H1 H2 D = none := by
    rw [part_new hf (back_none e1 hD)]
    exact hD
  exact part_old hp h3
end

/-! ### data -/
inductive Al {α : Type} (R : V → α → Prop) : List V → List α → Prop
  | nil : Al R [] []
  | cons {v : V} {a : α} {vs : List V} {as : List α} : R v a → Al R vs as → Al R (v :: vs) (a :: as)
section
variable {α : Type} {R R' : V → α → Prop} {vs ws : List V} {as bs : List α}
theorem Al.imp (f : ∀ v a, R v a → R' v a) : ∀ {vs : List V} {as : List α}, Al R vs as → Al R' vs as
  | _, _, .nil => .nil
  | _, _, .cons h t => .cons (f _ _ h) (Al.imp f t)
theorem Al.len : ∀ {vs : List V} {as : List α}, Al R vs as → vs.length = as.length
  | _, _, .nil => rfl
  | _, _, .cons _ t => by rw [List.length_cons, List.length_cons, Al.len t]
theorem Al.app : ∀ {vs : List V} {as : List α}, Al R vs as → Al R ws bs → Al R (vs ++ ws) (as ++ bs)
  | _, _, .nil, h => h
  | _, _, .cons h t, k => .cons h (Al.app t k)
theorem Al.snoc {v : V} {a : α} (h : Al R vs as) (k : R v a) : Al R (vs ++ [v]) (as ++ [a]) := h.app (.cons k .nil)
theorem Al.get : ∀ {vs : List V} {as : List α} {i : Nat} {v : V}, Al R vs as → vs[i]? = some v → ∃ a, as[i]? = some a ∧ R v a
  | _, _, i, v, .nil, h => by simp at h
  | _, _, 0, v, .cons h t, e => by
    cases e
    exact ⟨_, rfl, h⟩
  | _, _, i + 1, v, .cons h t, e => by
    obtain ⟨a, e1, e2⟩ := Al.get t (show _ = some v from e)
    exact ⟨a, e1, e2⟩
theorem Al.at : ∀ {vs : List V} {as : List α} {i : Nat} {a : α}, Al R vs as → as[i]? = some a → ∃ v, vs[i]? = some v ∧ R v a
  | _, _, i, v, .nil, h => by simp at h
  | _, _, 0, v, .cons h t, e => by
    cases e
    exact ⟨_, rfl, h⟩
  | _, _, i + 1, v, .cons h t, e => by
    obtain ⟨a, e1, e2⟩ := Al.at t (show _ = some v from e)
    exact ⟨a, e1, e2⟩
theorem Al.take : ∀ {vs : List V} {as : List α} (n : Nat), Al R vs as → Al R (vs.take n) (as.take n)
  | _, _, 0, _ => .nil
  | _, _, n + 1, .nil => .nil
  | _, _, n + 1, .cons h t => .cons h (Al.take n t)
theorem Al.drop : ∀ {vs : List V} {as : List α} (n : Nat), Al R vs as → Al R (vs.drop n) (as.drop n)
  | _, _, 0, h => h
  | _, _, n + 1, .nil => .nil
  | _, _, n + 1, .cons h t => Al.drop n t
theorem Al.set {v : V} {a : α} (k : R v a) : ∀ {vs : List V} {as : List α} (i : Nat), Al R vs as → Al R (vs.set i v) (as.set i a)
  | _, _, _, .nil => .nil
  | _, _, 0, .cons _ t => .cons k t
  | _, _, i + 1, .cons h t => .cons h (Al.set k i t)
theorem Al.map {β : Type} {S : V → β → Prop} {f : α → β} (h : ∀ v a, R v a → S v (f a)) : ∀ {vs : List V} {as : List α}, Al R vs as → Al S vs (as.map f)
  | _, _, .nil => .nil
  | _, _, .cons x t => .cons (h _ _ x) (Al.map h t)
end
/-- what a value stands for, in a heap; more objects change nothing -/
structure Rep (α : Type) where
  rel : Hp → V → α → Prop
  mono : ∀ {H H' : Hp} {v : V} {a : α}, Ex H H' → rel H v a → rel H' v a
def rInt : Rep Int := ⟨fun _ v i => v = .int i, fun _ h => h⟩
def rBl : Rep Bool := ⟨fun _ v i => v = .bl i, fun _ h => h⟩
def rStr : Rep Str := ⟨fun _ v i => v = .str i, fun _ h => h⟩
def rNon : Rep Unit := ⟨fun _ v _ => v = .non, fun _ h => h⟩
section
variable {α β γ : Type} (K : PySem.W.Frag)
def rLst (r : Rep α) : Rep (List α) := ⟨fun H v as => ∃ p xs, v = .ref p ∧ H p = some (.lst xs) ∧ Al (r.rel H) xs as, fun e ⟨p, xs, h, s, a⟩ => ⟨p, xs, h, e p _ s, a.imp fun _ _ k => r.mono e k⟩⟩
def rTup (r : Rep α) : Rep (List α) := ⟨fun H v as => ∃ p xs, v = .ref p ∧ H p = some (.tup xs) ∧ Al (r.rel H) xs as, fun e ⟨p, xs, h, s, a⟩ => ⟨p, xs, h, e p _ s, a.imp fun _ _ k => r.mono e k⟩⟩
def rPair (r : Rep α) (s : Rep β) : Rep (α × β) := ⟨fun H v c => ∃ p x y, v = .ref p ∧ H p = some (.tup [x, y]) ∧ r.rel H x c.1 ∧ s.rel H y c.2, fun e ⟨p, x, y, h, t, a, b⟩ => ⟨p, x, y, h, e p _ t, r.mono e a, s.mono e b⟩⟩
/-- the script: a list that is only read -/
def rFro : Rep (List Int) := ⟨fun H v ns => ∃ p, v = .ref p ∧ SqL K H p (ns.map V.int), fun e ⟨p, h, s⟩ => ⟨p, h, ex_l e s⟩⟩
end
def rOpt {α : Type} (r : Rep α) : Rep (Option α) := ⟨fun H v o => match o with | none => v = .non | some a => r.rel H v a, fun {H H' v o} e h => by
  cases o with
  | none => exact h
  | some a => exact r.mono e h⟩
theorem rel_ints {H : Hp} : ∀ {xs : List V} {ns : List Int}, Al (rInt.rel H) xs ns → xs = ns.map V.int
  | _, _, .nil => rfl
  | _, _, .cons h t => by
    rw [show _ = V.int _ from h, rel_ints t]
    rfl
theorem ints_rel {H : Hp} : ∀ (ns : List Int), Al (rInt.rel H) (ns.map V.int) ns
  | [] => .nil
  | n :: ns => .cons rfl (ints_rel ns)

/-! ### what an expression gives -/
section
variable {α β γ δ : Type} {K : PySem.W.Frag}
/-- a value that stands for a | a new list of what stands for as -/
def Er (r : Rep α) (te : TE) (σ : L2.St) (F : Hp) (a : α) : Prop := ∀ H1, Ex F H1 → ∀ Q : VK, (∀ v H2, Ex H1 H2 → r.rel (part F H1 H2) v a → Q v H2) → te σ H1 Q
def New (r : Rep α) (as : List α) (F H1 H2 : Hp) (p : Addr) : Prop := H1 p = none ∧ ∃ xs, H2 p = some (.lst xs) ∧ Al (r.rel (mns (part F H1 H2) p)) xs as
def En (r : Rep α) (te : TE) (σ : L2.St) (F : Hp) (as : List α) : Prop := ∀ H1, Ex F H1 → ∀ Q : VK, (∀ p H2, Ex H1 H2 → New r as F H1 H2 p → Q (.ref p) H2) → te σ H1 Q
def Ea (P : Hp → List V → Prop) (ta : TA) (σ : L2.St) (F : Hp) : Prop := ∀ H1, Ex F H1 → ∀ Q : List V → Hp → Prop, (∀ vs H2, Ex H1 H2 → P (part F H1 H2) vs → Q vs H2) → ta σ H1 Q
variable {σ : L2.St} {F G H H1 H2 H3 : Hp} {ta tb te tx : TE} {t u : TT} {v : V} {r : Rep α} {s : Rep β} {a : α} {b : β} {as : List α}
theorem New.rel {p : Addr} (h : New r as F H1 H2 p) (e0 : Ex F H1) : (rLst r).rel (part F H1 H2) (.ref p) as := by
  obtain ⟨h1, xs, h2, h3⟩ := h
  refine ⟨p, xs, rfl, ?_, h3.imp fun _ _ k => r.mono mns_sub k⟩
  rw [part_new (back_none e0 h1) h1]
  exact h2
theorem En.er (h : En r te σ F as) : Er (rLst r) te σ F as := fun H1 e Q q => h H1 e Q fun p H2 e2 n => q _ H2 e2 (n.rel e)
theorem Er.mono (e : Ex F G) (h : Er r te σ F a) : Er r te σ G a := fun H1 e1 Q q => h H1 (e.trans e1) Q fun v H2 e2 k => q v H2 e2 (r.mono (part_frame e e1) k)
theorem En.mono (e : Ex F G) (h : En r te σ F as) : En r te σ G as := fun H1 e1 Q q => h H1 (e.trans e1) Q fun p H2 e2 ⟨k1, xs, k2, k3⟩ => q p H2 e2 ⟨k1, xs, k2, k3.imp fun _ _ k => r.mono (mns_up (part_frame e e1)) k⟩
theorem er_is {a' : α} (h : Er r te σ F a) (e : a = a') : Er r te σ F a' := e ▸ h
theorem en_is {as' : List α} (h : En r te σ F as) (e : as = as') : En r te σ F as' := e ▸ h
theorem er_to (h : Er r te σ F a) (f : ∀ H v, r.rel H v a → s.rel H v b) : Er s te σ F b := fun H1 e Q q => h H1 e Q fun v H2 e2 k => q v H2 e2 (f _ _ k)
theorem er_var {i : Nat} (h : σ[i]? = some (some v)) (hr : r.rel F v a) : Er r (tVar i) σ F a := fun H1 _ _ q => ⟨v, h, q v H1 (Ex.refl H1) (r.mono part_ex hr)⟩
theorem er_vi {i : Nat} {n : Int} (h : σ[i]? = some (some (.int n))) : Er rInt (tVar i) σ F n := er_var h rfl
theorem er_int {i : Int} : Er rInt (tC (.int i)) σ F i := fun H1 _ _ q => q _ H1 (Ex.refl H1) rfl
theorem er_bl {i : Bool} : Er rBl (tC (.bl i)) σ F i := fun H1 _ _ q => q _ H1 (Ex.refl H1) rfl
theorem er_str {i : Str} : Er rStr (tC (.str i)) σ F i := fun H1 _ _ q => q _ H1 (Ex.refl H1) rfl
theorem er_nonO : Er (rOpt r) (tC .non) σ F none := fun H1 _ _ q => q _ H1 (Ex.refl H1) rfl
theorem er_some (h : Er r te σ F a) : Er (rOpt r) te σ F (some a) := er_to h fun _ _ k => k
/-- two in their order -/
theorem er_two {R : V → V → Hp → Prop} (ha : Er r ta σ F a) (hb : Er s tb σ F b) (e : Ex F H1) (q : ∀ x y H3, Ex H1 H3 → r.rel (part F H1 H3) x a → s.rel (part F H1 H3) y b → R x y H3) : ta σ H1 fun x H2 => tb σ H2 fun y H3 => R x y H3 :=
  ha H1 e _ fun x H2 e2 k1 => hb H2 (e.trans e2) _ fun y H3 e3 k2 => q x y H3 (e2.trans e3) (r.mono (part_up e3) k1) (s.mono (part_back e2) k2)
theorem er_I0 {f : Int → Int → Int} {i j : Int} (ha : Er rInt ta σ F i) (hb : Er rInt tb σ F j) : Er rInt (tOp (rI0 fun i j => .int (f i j)) ta tb) σ F (f i j) := fun H1 e Q q =>
  er_two ha hb e fun x y H3 e3 k1 k2 => ⟨i, j, k1, k2, q _ H3 e3 rfl⟩
theorem er_I {C : Int → Int → Prop} {f : Int → Int → Int} {i j : Int} (ha : Er rInt ta σ F i) (hb : Er rInt tb σ F j) (hc : C i j) : Er rInt (tOp (rI C fun i j => .int (f i j)) ta tb) σ F (f i j) := fun H1 e Q q =>
  er_two ha hb e fun x y H3 e3 k1 k2 => ⟨i, j, k1, k2, hc, q _ H3 e3 rfl⟩
theorem er_cmp0 {f : Int → Int → Bool} {i j : Int} (ha : Er rInt ta σ F i) (hb : Er rInt tb σ F j) : Er rBl (tOp (rI0 fun i j => .bl (f i j)) ta tb) σ F (f i j) := fun H1 e Q q =>
  er_two ha hb e fun x y H3 e3 k1 k2 => ⟨i, j, k1, k2, q _ H3 e3 rfl⟩
theorem er_neg {i : Int} (ha : Er rInt ta σ F i) : Er rInt (tUn (rU fun i => .int (-i)) ta) σ F (-i) := fun H1 e Q q => ha H1 e _ fun x H2 e2 k => ⟨i, k, q _ H2 e2 rfl⟩
theorem er_eqI {i j : Int} (ha : Er rInt ta σ F i) (hb : Er rInt tb σ F j) : Er rBl (tOp rEq ta tb) σ F (decide (i = j)) := fun H1 e Q q =>
  er_two ha hb e fun x y H3 e3 k1 k2 => by
    cases (show x = V.int i from k1)
    cases (show y = V.int j from k2)
    refine ⟨rfl, ?_⟩
    rw [show decide (V.int i = V.int j) = decide (i = j) from decide_eq_decide.mpr ⟨fun z => V.int.inj z, fun z => congrArg V.int z⟩]
    exact q _ H3 e3 rfl
theorem er_neI {i j : Int} (ha : Er rInt ta σ F i) (hb : Er rInt tb σ F j) : Er rBl (tOp rNe ta tb) σ F (!decide (i = j)) := fun H1 e Q q =>
  er_two ha hb e fun x y H3 e3 k1 k2 => by
    cases (show x = V.int i from k1)
    cases (show y = V.int j from k2)
    refine ⟨rfl, ?_⟩
    rw [show decide (V.int i = V.int j) = decide (i = j) from decide_eq_decide.mpr ⟨fun z => V.int.inj z, fun z => congrArg V.int z⟩]
    exact q _ H3 e3 rfl
theorem er_eqB {i j : Bool} (ha : Er rBl ta σ F i) (hb : Er rBl tb σ F j) : Er rBl (tOp rEq ta tb) σ F (decide (i = j)) := fun H1 e Q q =>
  er_two ha hb e fun x y H3 e3 k1 k2 => by
    cases (show x = V.bl i from k1)
    cases (show y = V.bl j from k2)
    refine ⟨rfl, ?_⟩
    rw [show decide (V.bl i = V.bl j) = decide (i = j) from decide_eq_decide.mpr ⟨fun z => V.bl.inj z, fun z => congrArg V.bl z⟩]
    exact q _ H3 e3 rfl
theorem er_neB {i j : Bool} (ha : Er rBl ta σ F i) (hb : Er rBl tb σ F j) : Er rBl (tOp rNe ta tb) σ F (!decide (i = j)) := fun H1 e Q q =>
  er_two ha hb e fun x y H3 e3 k1 k2 => by
    cases (show x = V.bl i from k1)
    cases (show y = V.bl j from k2)
    refine ⟨rfl, ?_⟩
    rw [show decide (V.bl i = V.bl j) = decide (i = j) from decide_eq_decide.mpr ⟨fun z => V.bl.inj z, fun z => congrArg V.bl z⟩]
    exact q _ H3 e3 rfl
theorem et_test {b : Bool} (h : Er rBl te σ F b) : EvT (tTest te) σ F b := fun H1 e _ q => h H1 e _ fun v H2 e2 k => ⟨b, k, q H2 e2⟩
theorem et_B {b : Bool} (h : Er rBl te σ F b) : EvT (tB te) σ F b := fun H1 e _ q => h H1 e _ fun v H2 e2 k => ⟨b, k, q H2 e2⟩
theorem er_if {b : Bool} (h : EvT t σ F b) (h1 : b = true → Er r ta σ F a) (h2 : b = false → Er r tb σ F a) : Er r (tIf t ta tb) σ F a := fun H1 e Q q => h H1 e _ fun H2 e2 => by
  cases b with
  | true =>
    show ta σ H2 Q
    exact h1 rfl H2 (e.trans e2) Q fun v H3 e3 k => q v H3 (e2.trans e3) (r.mono (part_back e2) k)
  | false =>
    show tb σ H2 Q
    exact h2 rfl H2 (e.trans e2) Q fun v H3 e3 k => q v H3 (e2.trans e3) (r.mono (part_back e2) k)
theorem er_andV {a b : Bool} (h1 : Er rBl ta σ F a) (h2 : a = true → Er rBl tb σ F b) : Er rBl (tAndV ta tb) σ F (a && b) := fun H1 e Q q => h1 H1 e _ fun v H2 e2 k => ⟨a, k, by
  cases a with
  | true =>
    show tb σ H2 Q
    exact h2 rfl H2 (e.trans e2) Q fun v H3 e3 k => q v H3 (e2.trans e3) k
  | false =>
    show Q (.bl false) H2
    exact q _ H2 e2 rfl⟩
theorem er_orV {a b : Bool} (h1 : Er rBl ta σ F a) (h2 : a = false → Er rBl tb σ F b) : Er rBl (tOrV ta tb) σ F (a || b) := fun H1 e Q q => h1 H1 e _ fun v H2 e2 k => ⟨a, k, by
  cases a with
  | true =>
    show Q (.bl true) H2
    exact q _ H2 e2 rfl
  | false =>
    show tb σ H2 Q
    exact h2 rfl H2 (e.trans e2) Q fun v H3 e3 k => q v H3 (e2.trans e3) k⟩
theorem er_notV {a : Bool} (h1 : Er rBl ta σ F a) : Er rBl (tNotV ta) σ F (!a) := fun H1 e Q q => h1 H1 e _ fun v H2 e2 k => ⟨a, k, q _ H2 e2 rfl⟩
/-! arguments -/
theorem ea_nil : Ea (fun _ vs => vs = []) tNil σ F := fun H1 _ _ q => q [] H1 (Ex.refl H1) rfl
def HCons (r : Rep α) (a : α) (P : Hp → List V → Prop) : Hp → List V → Prop := fun G vs => ∃ v ws, vs = v :: ws ∧ r.rel G v a ∧ P G ws
def MonoP (P : Hp → List V → Prop) : Prop := ∀ {G G' : Hp} {vs : List V}, Ex G G' → P G vs → P G' vs
theorem ea_cons {tr : TA} {P : Hp → List V → Prop} (h : Er r ta σ F a) (hr : Ea P tr σ F) (hP : MonoP P) : Ea (HCons r a P) (tCons ta tr) σ F := fun H1 e _ q =>
  h H1 e _ fun v H2 e2 k => hr H2 (e.trans e2) _ fun ws H3 e3 k3 => q _ H3 (e2.trans e3) ⟨v, ws, rfl, r.mono (part_up e3) k, hP (part_back e2) k3⟩
theorem mono_nil : MonoP (fun _ vs => vs = []) := fun _ h => h
theorem mono_cons {P : Hp → List V → Prop} (hP : MonoP P) : MonoP (HCons r a P) := fun e ⟨v, ws, h, k, p⟩ => ⟨v, ws, h, r.mono e k, hP e p⟩
def A1 (r : Rep α) (a : α) : Hp → List V → Prop := fun G vs => ∃ v, vs = [v] ∧ r.rel G v a
def A2 (r : Rep α) (s : Rep β) (a : α) (b : β) : Hp → List V → Prop := fun G vs => ∃ v w, vs = [v, w] ∧ r.rel G v a ∧ s.rel G w b
def A3 (r : Rep α) (s : Rep β) (t : Rep γ) (a : α) (b : β) (c : γ) : Hp → List V → Prop := fun G vs => ∃ v w x, vs = [v, w, x] ∧ r.rel G v a ∧ s.rel G w b ∧ t.rel G x c
theorem ea1 (h : Er r ta σ F a) : Ea (A1 r a) (tCons ta tNil) σ F := fun H1 e _ q => h H1 e _ fun v H2 e2 k => q _ H2 e2 ⟨v, rfl, k⟩
theorem ea2 (h : Er r ta σ F a) (h2 : Er s tb σ F b) : Ea (A2 r s a b) (tCons ta (tCons tb tNil)) σ F := fun H1 e _ q => er_two h h2 e fun x y H3 e3 k1 k2 => q _ H3 e3 ⟨x, y, rfl, k1, k2⟩
theorem ea3 {tz : TE} {z : Rep γ} {c : γ} (h : Er r ta σ F a) (h2 : Er s tb σ F b) (h3 : Er z tz σ F c) : Ea (A3 r s z a b c) (tCons ta (tCons tb (tCons tz tNil))) σ F := fun H1 e _ q =>
  er_two (R := fun x y H3 => tz σ H3 fun w H4 => _) h h2 e fun x y H3 e3 k1 k2 => h3 H3 (e.trans e3) _ fun w H4 e4 k3 => q _ H4 (e3.trans e4) ⟨x, y, w, rfl, r.mono (part_up e4) k1, s.mono (part_up e4) k2, z.mono (part_back e3) k3⟩
theorem mono1 : MonoP (A1 r a) := fun e ⟨v, h, k⟩ => ⟨v, h, r.mono e k⟩
theorem mono2 : MonoP (A2 r s a b) := fun e ⟨v, w, h, k, l⟩ => ⟨v, w, h, r.mono e k, s.mono e l⟩
theorem mono3 {z : Rep γ} {c : γ} : MonoP (A3 r s z a b c) := fun e ⟨v, w, x, h, k, l, m⟩ => ⟨v, w, x, h, r.mono e k, s.mono e l, z.mono e m⟩
/-! promises: P says what the arguments stand for; a value | a new list -/
def spV (s : Rep β) (W : (Hp → List V → Prop) → β → Prop) : Sp := fun vs H Q _ => ∃ F P b, Ex F H ∧ MonoP P ∧ W P b ∧ P F vs ∧ ∀ v H2, Ex H H2 → s.rel (part F H H2) v b → Q v H2
def spN (s : Rep β) (W : (Hp → List V → Prop) → List β → Prop) : Sp := fun vs H Q _ => ∃ F P b, Ex F H ∧ MonoP P ∧ W P b ∧ P F vs ∧ ∀ p H2, Ex H H2 → New s b F H H2 p → Q (.ref p) H2
theorem er_call {W : (Hp → List V → Prop) → β → Prop} {P : Hp → List V → Prop} {E : XK} {tr : TA} (h : Ea P tr σ F) (hP : MonoP P) (w : W P b) : Er s (tCall (spV s W) [] E tr) σ F b := fun H1 e Q q =>
  h H1 e _ fun vs H2 e2 k => ⟨part F H1 H2, P, b, part_sub (e.trans e2), hP, w, by rw [List.append_nil]; exact k, fun v H3 e3 k3 => q v H3 (e2.trans e3) (s.mono (part_part e2 (Ex.refl H2) e3) k3)⟩
theorem en_call {W : (Hp → List V → Prop) → List β → Prop} {P : Hp → List V → Prop} {bs : List β} {E : XK} {tr : TA} (h : Ea P tr σ F) (hP : MonoP P) (w : W P bs) : En s (tCall (spN s W) [] E tr) σ F bs := fun H1 e Q q =>
  h H1 e _ fun vs H2 e2 k => ⟨part F H1 H2, P, bs, part_sub (e.trans e2), hP, w, by rw [List.append_nil]; exact k, fun p H3 e3 ⟨k1, xs, k2, k3⟩ => q p H3 (e2.trans e3) ⟨back_none e2 k1, xs, k2, k3.imp fun _ _ k => s.mono (mns_up (part_part e2 (Ex.refl H2) e3)) k⟩⟩
end
end DL
set_option Elab.async false
set_option linter.all false
set_option maxRecDepth 100000
set_option maxHeartbeats 2000000
namespace DL
open PySem L2 Evl
/-! ### sources of loops -/
section
variable {α β γ δ : Type} {K : PySem.W.Frag} {σ σ2 : L2.St} {F G H H1 H2 H3 : Hp} {ta tb te tl tx : TE} {t u : TT} {v : V} {r : Rep α} {s : Rep β} {a : α} {b : β} {as : List α} {bs : List β}
def YD (G : Hp) (r : Rep α) (as : List α) : Nat → Hp → V → Hp → Prop := fun i H x H' => Ex H H' ∧ ∃ a, as[i]? = some a ∧ r.rel (part G H H') x a
def Src (wi : TI) (σ : L2.St) (F : Hp) (r : Rep α) (as : List α) : Prop :=
  ∀ H1, Ex F H1 → ∀ R : It → Hp → Prop, (∀ J H2, Ex H1 H2 → Walk J as.length (fun H => Ex (part F H1 H2) H) (YD (part F H1 H2) r as) → R J H2) → wi σ H1 R
theorem Src.mono {wi : TI} (e : Ex F G) (h : Src wi σ F r as) : Src wi σ G r as := fun H1 e1 R k => h H1 (e.trans e1) R fun J H2 e2 w => k J H2 e2 (w.mono (fun H hh => (part_frame e e1).trans hh) fun i H x H' hi hG ⟨y1, a, y2, y3⟩ => ⟨y1, a, y2, r.mono (part_frame (part_frame e e1) hG) y3⟩)
theorem src_is {wi : TI} {as' : List α} (h : Src wi σ F r as) (e : as = as') : Src wi σ F r as' := e ▸ h
theorem walkL {p : Addr} {xs : List V} (hp : G p = some (.lst xs)) (ha : Al (r.rel G) xs as) : Walk (Itl K p) as.length (fun H => Ex G H) (YD G r as) := by
  have w := walk_list (K := K) (a := p) (xs := xs)
  rw [ha.len] at w
  refine w.mono (fun H e => SqL.of (e p _ hp)) fun i H x H' hi e ⟨y1, y2⟩ => ?_
  subst y1
  obtain ⟨a, h1, h2⟩ := ha.get y2
  exact ⟨Ex.refl _, a, h1, r.mono part_ex h2⟩
theorem src_list (h : Er (rLst r) tl σ F as) : Src (iList K tl) σ F r as := fun H1 e R k => h H1 e _ fun v H2 e2 ⟨p, xs, hv, hp, ha⟩ =>
  ⟨p, hv, ⟨xs, SqL.of (part_sub (e.trans e2) p _ hp)⟩, k _ H2 e2 (walkL hp ha)⟩
theorem src_tup (h : Er (rTup r) tl σ F as) : Src (iTup K tl) σ F r as := fun H1 e R k => h H1 e _ fun v H2 e2 ⟨p, xs, hv, hp, ha⟩ => by
  refine ⟨p, hv, ⟨xs, SqT.of (part_sub (e.trans e2) p _ hp)⟩, k _ H2 e2 ?_⟩
  have w := walk_tup (K := K) (a := p) (xs := xs)
  rw [ha.len] at w
  refine w.mono (fun H e => SqT.of (e p _ hp)) fun i H x H' hi e ⟨y1, y2⟩ => ?_
  subst y1
  obtain ⟨a, h1, h2⟩ := ha.get y2
  exact ⟨Ex.refl _, a, h1, r.mono part_ex h2⟩
theorem src_fro {ns : List Int} (h : Er (rFro K) tl σ F ns) : Src (iList K tl) σ F rInt ns := fun H1 e R k => h H1 e _ fun v H2 e2 ⟨p, hv, hp⟩ => by
  refine ⟨p, hv, ⟨_, ex_l (part_sub (e.trans e2)) hp⟩, k _ H2 e2 ?_⟩
  have w := walk_list (K := K) (a := p) (xs := ns.map V.int)
  rw [List.length_map] at w
  refine w.mono (fun H e => ex_l e hp) fun i H x H' hi e ⟨y1, y2⟩ => ?_
  subst y1
  rw [List.getElem?_map] at y2
  cases hn : ns[i]? with
  | none => rw [hn] at y2; cases y2
  | some n =>
    rw [hn] at y2
    exact ⟨Ex.refl _, n, hn, (Option.some.inj y2).symm⟩
/-- lo, lo + 1, .. -/
def rng (lo : Int) (n : Nat) : List Int := (List.range n).map fun (i : Nat) => lo + (i : Int)
theorem rng_len {lo : Int} {n : Nat} : (rng lo n).length = n := by
  unfold rng
  rw [List.length_map, List.length_range]
theorem rng_get {lo : Int} {n i : Nat} (h : i < n) : (rng lo n)[i]? = some (lo + (i : Int)) := by
  unfold rng
  rw [List.getElem?_map, List.getElem?_range h]
  rfl
theorem mem_rng {lo x : Int} {n : Nat} : x ∈ rng lo n ↔ lo ≤ x ∧ x < lo + (n : Int) := by
  unfold rng
  rw [List.mem_map]
  constructor
  · rintro ⟨i, hi, rfl⟩
    have := List.mem_range.mp hi
    omega
  · rintro ⟨h1, h2⟩
    exact ⟨(x - lo).toNat, List.mem_range.mpr (by omega), by omega⟩
theorem walkR {lo : Int} {n : Nat} : Walk (Itr lo n) (rng lo n).length (fun H => Ex G H) (YD G rInt (rng lo n)) := by
  rw [rng_len]
  refine walk_range.mono (fun _ _ => trivial) fun i H x H' hi e ⟨y1, y2⟩ => ?_
  subst y1
  exact ⟨Ex.refl _, _, rng_get hi, y2⟩
theorem src_rng1 {ta : TA} {n : Int} (h : Ea (A1 rInt n) ta σ F) (hn : -1000000 ≤ n ∧ n ≤ 1000000) : Src (iRng1 ta) σ F rInt (rng 0 n.toNat) := fun H1 e R k => h H1 e _ fun vs H2 e2 ⟨v, hv, hr⟩ => by
  cases (show v = V.int n from hr)
  exact ⟨n, hv, by omega, by omega, k _ H2 e2 walkR⟩
theorem src_rng2 {ta : TA} {lo n : Int} (h : Ea (A2 rInt rInt lo n) ta σ F) (hn : -1000000 ≤ lo ∧ lo ≤ 1000000 ∧ -1000000 ≤ n ∧ n ≤ 1000000) : Src (iRng2 ta) σ F rInt (rng lo (n - lo).toNat) := fun H1 e R k => h H1 e _ fun vs H2 e2 ⟨v, w, hv, hr, hw⟩ => by
  cases (show v = V.int lo from hr)
  cases (show w = V.int n from hw)
  exact ⟨lo, n, hv, by omega, k _ H2 e2 walkR⟩
theorem pair_new {T : Addr} {x y : V} {a : α} {b : β} (eG : Ex G H) (hT : H T = none) (hx : r.rel G x a) (hy : s.rel G y b) : (rPair r s).rel (part G H (upd H T (.tup [x, y]))) (.ref T) (a, b) := by
  refine ⟨T, x, y, rfl, ?_, r.mono part_ex hx, s.mono part_ex hy⟩
  rw [part_new (back_none eG hT) hT]
  exact upd_same
theorem src_enum {ta : TA} (h : Ea (A1 (rLst r) as) ta σ F) : Src (iEnum K ta) σ F (rPair rInt r) (List.zip (rng 0 as.length) as) := fun H1 e R k => h H1 e _ fun vs H2 e2 ⟨v, hv, p, xs, hv2, hp, ha⟩ => by
  subst hv2
  refine ⟨p, xs, hv, SqL.of (part_sub (e.trans e2) p _ hp), k _ H2 e2 ?_⟩
  have w := walk_enum (K := K) (a := p) (xs := xs)
  rw [ha.len] at w
  rw [List.length_zip, rng_len, Nat.min_self]
  refine w.mono (fun H e => SqL.of (e p _ hp)) fun i H x H' hi e ⟨T, y, z, y1, y2, y3, y4, y5⟩ => ?_
  subst y1
  subst y3
  obtain ⟨a, h1, h2⟩ := ha.get y5
  refine ⟨Ex.new y2, ((0 : Int) + (i : Int), a), ?_, pair_new e y2 ?_ h2⟩
  · rw [List.getElem?_zip_eq_some]
    exact ⟨rng_get hi, h1⟩
  · show y = V.int ((0 : Int) + (i : Int))
    rw [Int.zero_add]
    exact (Option.some.inj y4).symm
theorem src_zip {ta : TA} (h : Ea (A2 (rLst r) (rLst s) as bs) ta σ F) : Src (iZip K ta) σ F (rPair r s) (List.zip as bs) := fun H1 e R k => h H1 e _ fun vs H2 e2 ⟨v, w, hv, ⟨p, xs, hv2, hp, ha⟩, ⟨q, ys, hw2, hq, hb⟩⟩ => by
  subst hv2 hw2
  refine ⟨p, q, xs, ys, hv, SqL.of (part_sub (e.trans e2) p _ hp), SqL.of (part_sub (e.trans e2) q _ hq), k _ H2 e2 ?_⟩
  have w := walk_zip (K := K) (a := p) (b := q) (xs := xs) (ys := ys) (n := (List.zip as bs).length) (by rw [List.length_zip, ha.len, hb.len])
  refine w.mono (fun H e => ⟨SqL.of (e p _ hp), SqL.of (e q _ hq)⟩) fun i H x H' hi e ⟨T, y, z, y1, y2, y3, y4, y5⟩ => ?_
  subst y1
  subst y3
  obtain ⟨a, h1, h2⟩ := ha.get y4
  obtain ⟨b, h3, h4⟩ := hb.get y5
  refine ⟨Ex.new y2, (a, b), ?_, pair_new e y2 h2 h4⟩
  rw [List.getElem?_zip_eq_some]
  exact ⟨h1, h3⟩
/-! ### targets -/
def Tgt (g : TG) (r : Rep α) (S : Hp → α → L2.St → L2.St → Prop) : Prop := ∀ G H x a σ (Q : L2.St → Hp → Prop), Ex G H → r.rel G x a → (∀ σ2, S G a σ σ2 → Q σ2 H) → g x σ H Q
def SN (r : Rep α) (j : Nat) : Hp → α → L2.St → L2.St → Prop := fun G a σ σ2 => ∃ x, r.rel G x a ∧ σ2 = σ.set j (some x)
def SPr (r : Rep α) (s : Rep β) (i j : Nat) : Hp → α × β → L2.St → L2.St → Prop := fun G c σ σ2 => ∃ x y, r.rel G x c.1 ∧ s.rel G y c.2 ∧ σ2 = (σ.set i (some x)).set j (some y)
theorem tgt_n {j : Nat} : Tgt (gName j) r (SN r j) := fun G H x a σ Q _ hx k => k _ ⟨x, hx, rfl⟩
theorem tgt_p {i j : Nat} : Tgt (gTup K 2 (gCons (gName i) (gCons (gName j) gNil))) (rPair r s) (SPr r s i j) := fun G H x c σ Q e ⟨p, y, z, hx, ht, h1, h2⟩ k =>
  ⟨p, [y, z], hx, SqT.of (e p _ ht), rfl, y, [z], rfl, z, [], rfl, rfl, k _ ⟨y, z, h1, h2, rfl⟩⟩
/-! ### loops -/
/-- for: Pv by the frame (what stands still), the items taken, the slots and the heap -/
theorem d_for {wi : TI} {g : TG} {tb : TS} {D : Ends} {S : Hp → α → L2.St → L2.St → Prop} (h : Src wi σ F r as) (hg : Tgt g r S) (e : Ex F H) (Pv : Hp → List α → L2.St → Hp → Prop)
    (hG : ∀ G pre σ' H', Pv G pre σ' H' → Ex G H') (h0 : ∀ H1, Ex H H1 → Pv (part F H H1) [] σ H1)
    (hs : ∀ G pre a post σ' H' H'' σ2, as = pre ++ a :: post → Pv G pre σ' H' → Ex H' H'' → S (part G H' H'') a σ' σ2 → tb { D with nx := Pv G (pre ++ [a]), ct := Pv G (pre ++ [a]), bk := D.nx } σ2 H'')
    (hd : ∀ G σ' H', Pv G as σ' H' → D.nx σ' H') : tFor wi g tb D σ H := h H e _ fun J H1 e1 w => by
  refine for_it w (fun i σ' H' => Pv (part F H H1) (as.take i) σ' H') (h0 H1 e1) (fun i σ' H' _ p => hG _ _ _ _ p) (fun i x σ' H' H'' hi p ⟨y1, a, y2, y3⟩ => ?_) (fun σ' H' p => ?_)
  · refine hg _ H'' x a σ' _ (part_sub ((hG _ _ _ _ p).trans y1)) y3 fun σ2 hS => ?_
    have hl : i < as.length := hi
    have et : as.take (i + 1) = as.take i ++ [a] := by
      rw [List.take_add_one, y2]
      rfl
    have q := hs (part F H H1) (as.take i) a (as.drop (i + 1)) σ' H' H'' σ2 (by
      rw [List.getElem?_eq_getElem hl] at y2
      cases y2
      rw [← List.drop_eq_getElem_cons hl, List.take_append_drop]) p y1 hS
    rw [← et] at q
    exact q
  · rw [List.take_length] at p
    exact hd _ _ _ p
/-! ### comprehensions -/
theorem en_lc {wi : TI} {g : TG} {S : Hp → α → L2.St → L2.St → Prop} {tt : TT} {vs : List Nat} (f : α → Bool) (m : α → β) (h : Src wi σ F r as) (hg : Tgt g r S) (hn : as.length < 100000)
    (hw : ∀ a ∈ as, ∀ G σ2, Ex F G → S G a (wipe σ vs) σ2 → wipe σ2 vs = wipe σ vs ∧ EvT tt σ2 G (f a) ∧ (f a = true → Er s te σ2 G (m a))) :
    En s (tLc wi g tt te vs) σ F ((as.filter f).map m) := fun H1 e Q q => h H1 e _ fun J H2 e2 w D hD => by
  have mem : ∀ i a, as[i]? = some a → a ∈ as := fun i a h => List.mem_of_getElem? h
  have tk : ∀ i a, as[i]? = some a → as.take (i + 1) = as.take i ++ [a] := fun i a h => by
    rw [List.take_add_one, h]
    rfl
  refine lc_it w (fun i H' => ∃ acc, H' D = some (.lst acc) ∧ Ex H2 (mns H' D) ∧ Al (s.rel (mns (part F H1 H') D)) acc (((as.take i).filter f).map m)) ?_ ?_ ?_ ?_
  · refine ⟨[], upd_same, ?_, .nil⟩
    rw [mns_upd]
    exact ex_mns (Ex.refl _) hD
  · rintro i H' _ ⟨acc, h1, h2, _⟩
    exact (part_sub (e.trans e2)).trans (h2.trans mns_sub)
  · rintro i x H' H'' hi ⟨acc, h1, h2, h3⟩ ⟨y1, a, y2, y3⟩
    have hlen : acc.length < 100000 := by
      have l1 := h3.len
      rw [List.length_map] at l1
      have l2 := List.length_filter_le f (as.take i)
      rw [List.length_take] at l2
      omega
    have eF : Ex F H'' := (e.trans e2).trans ((h2.trans mns_sub).trans y1)
    have eG : Ex (part F H1 H2) H' := (part_sub (e.trans e2)).trans (h2.trans mns_sub)
    refine hg _ H'' x a _ _ (part_sub (eG.trans y1)) y3 fun σ2 hS => ?_
    obtain ⟨hwp, ht, he⟩ := hw a (mem _ _ y2) _ σ2 (part_ex.trans part_ex) hS
    refine ⟨hwp, ht H'' (part_sub (eG.trans y1)) _ fun H3 e3 => ?_⟩
    have e12 : Ex H2 H3 := (h2.trans mns_sub).trans (y1.trans e3)
    cases hf : f a with
    | false =>
      refine ⟨acc, e3 D _ (y1 D _ h1), ex_mns e12 hD, ?_⟩
      rw [tk i a y2, List.filter_append, List.filter_cons, if_neg (by rw [hf]; decide), List.filter_nil, List.append_nil]
      exact h3.imp fun _ _ k => s.mono (mns_up (part_up (y1.trans e3))) k
    | true =>
      refine he hf H3 ((part_sub (eG.trans y1)).trans e3) _ fun z H4 e4 rz => ?_
      refine ⟨acc, e4 D _ (e3 D _ (y1 D _ h1)), sz_lt hlen, acc ++ [z], upd_same, ?_, ?_⟩
      · rw [mns_upd]
        exact ex_mns (e12.trans e4) hD
      · rw [tk i a y2, List.filter_append, List.filter_cons, if_pos hf, List.filter_nil, List.map_append]
        have up : Ex (mns (part F H1 H4) D) (mns (part F H1 (upd H4 D (.lst (acc ++ [z])))) D) := fun q o hq => by
          have nq : q ≠ D := fun e => by
            rw [e, mns_at] at hq
            cases hq
          rw [mns_ne nq] at hq ⊢
          cases hF : F q with
          | some u => rw [part_in hF] at hq ⊢; exact hq
          | none =>
            cases hH : H1 q with
            | some u => rw [part_old hF hH] at hq; cases hq
            | none =>
              rw [part_new hF hH] at hq ⊢
              rw [upd_ne nq]
              exact hq
        refine Al.snoc (h3.imp fun _ _ k => s.mono ((mns_up (part_up (y1.trans (e3.trans e4)))).trans up) k) (s.mono (Ex.trans ?_ up) rz)
        -- what the turn made lies beside D
        have a1 : Ex (part (part (part F H1 H2) H' H'') H3 H4) (part F H1 H4) := fun q o hq => by
          cases hp : part (part F H1 H2) H' H'' q with
          | some u =>
            rw [part_in hp] at hq
            rw [← hq]
            exact part_up (e3.trans e4) q u (part_part e2 (h2.trans mns_sub) y1 q u hp)
          | none =>
            cases h3' : H3 q with
            | some u => rw [part_old hp h3'] at hq; cases hq
            | none =>
              rw [part_new hp h3'] at hq
              have n1 : H1 q = none := back_none (e2.trans e12) h3'
              rw [part_new (back_none e n1) n1]
              exact hq
        refine ex_mns a1 ?_
        have d2 : part F H1 H2 D = none := by
          have dF : F D = none := back_none (e.trans e2) hD
          rw [part_new dF (back_none e2 hD)]
          exact hD
        have d3 : part (part F H1 H2) H' H'' D = none := part_old d2 h1
        exact part_old d3 (e3 D _ (y1 D _ h1))
  · rintro H' ⟨acc, h1, h2, h3⟩
    rw [List.take_length] at h3
    exact q D H' (e2.trans (h2.trans mns_sub)) ⟨back_none e2 hD, acc, h1, h3⟩
end
end DL
set_option Elab.async false
set_option linter.all false
set_option maxRecDepth 100000
set_option maxHeartbeats 2000000
namespace DL
open PySem L2 Evl
section
variable {α β γ δ : Type} {K : PySem.W.Frag} {σ σ2 : L2.St} {F G H H1 H2 H3 : Hp} {ta tb te tl tx : TE} {t u : TT} {v : V} {r : Rep α} {s : Rep β} {a : α} {b : β} {as as' : List α} {bs : List β} {p q : Addr}
/-! ### mutable lists of the def's own -/
/-- at p a list of its own, beside the frame, whose items stand in the frame -/
def Mu (r : Rep α) (as : List α) (F H : Hp) (p : Addr) : Prop := F p = none ∧ ∃ xs, H p = some (.lst xs) ∧ Al (r.rel F) xs as
theorem New.mu (h : New r as F H1 H2 p) : Mu r as (mns (part F H1 H2) p) H2 p := ⟨mns_at, h.2⟩
theorem New.ex (h : New r as F H1 H2 p) (e : Ex F H1) : Ex F (mns (part F H1 H2) p) := ex_mns part_ex (back_none e h.1)
theorem New.sub (h : New r as F H1 H2 p) (e : Ex F H1) (e2 : Ex H1 H2) : Ex (mns (part F H1 H2) p) H2 := mns_sub.trans (part_sub (e.trans e2))
theorem Mu.up (h : Mu r as F H p) (e : Ex F G) (hG : G p = none) (e2 : Ex H H2) : Mu r as G H2 p := by
  obtain ⟨h1, xs, h2, h3⟩ := h
  exact ⟨hG, xs, e2 p _ h2, h3.imp fun _ _ k => r.mono e k⟩
/-- the frame of what was made is beside p -/
theorem Mu.part (h : Mu r as F H p) (e2 : Ex H H2) : Mu r as (part F H H2) H2 p := by
  obtain ⟨h1, xs, h2, h3⟩ := id h
  exact h.up part_ex (part_old h1 h2) e2
theorem Mu.freeze (h : Mu r as F H p) (e : Ex F H) : ∃ G, Ex F G ∧ Ex G H ∧ (rLst r).rel G (.ref p) as := by
  obtain ⟨h1, xs, h2, h3⟩ := h
  refine ⟨upd F p (.lst xs), Ex.new h1, fun q o hq => ?_, p, xs, rfl, upd_same, h3.imp fun _ _ k => r.mono (Ex.new h1) k⟩
  by_cases hqp : q = p
  · subst hqp
    rw [upd_same] at hq
    rw [← hq]
    exact h2
  · rw [upd_ne hqp] at hq
    exact e q o hq
/-! ### items -/
theorem Al.atI {R : V → α → Prop} {xs : List V} {i : Int} (h : Al R xs as) (ha : L2.atI as i = some a) : ∃ v, L2.atI xs i = some v ∧ R v a := by
  unfold L2.atI at ha ⊢
  rw [h.len]
  cases hx : ixN as.length i with
  | none => rw [hx] at ha; cases ha
  | some j =>
    rw [hx] at ha
    obtain ⟨v, h1, h2⟩ := h.at (show as[j]? = some a from ha)
    exact ⟨v, h1, h2⟩
theorem er_ixL {i : Int} (ha : Er (rLst r) ta σ F as) (hb : Er rInt tb σ F i) (h : L2.atI as i = some a) : Er r (tOp (rIxL K) ta tb) σ F a := fun H1 e Q q =>
  er_two ha hb e fun x y H3 e3 ⟨p, xs, hx, hp, hal⟩ k2 => by
    obtain ⟨v, h1, h2⟩ := hal.atI h
    exact ⟨p, xs, i, v, hx, k2, SqL.of (part_sub (e.trans e3) p _ hp), h1, q v H3 e3 h2⟩
theorem er_ixT {i : Int} (ha : Er (rTup r) ta σ F as) (hb : Er rInt tb σ F i) (h : L2.atI as i = some a) : Er r (tOp (rIxT K) ta tb) σ F a := fun H1 e Q q =>
  er_two ha hb e fun x y H3 e3 ⟨p, xs, hx, hp, hal⟩ k2 => by
    obtain ⟨v, h1, h2⟩ := hal.atI h
    exact ⟨p, xs, i, v, hx, k2, SqT.of (part_sub (e.trans e3) p _ hp), h1, q v H3 e3 h2⟩
theorem er_ixF {i n : Int} {ns : List Int} (ha : Er (rFro K) ta σ F ns) (hb : Er rInt tb σ F i) (h : L2.atI ns i = some n) : Er rInt (tOp (rIxL K) ta tb) σ F n := fun H1 e Q q =>
  er_two ha hb e fun x y H3 e3 ⟨p, hx, hp⟩ k2 => by
    obtain ⟨v, h1, h2⟩ := (ints_rel (H := F) ns).atI h
    exact ⟨p, _, i, v, hx, k2, ex_l (part_sub (e.trans e3)) hp, h1, q v H3 e3 h2⟩
theorem er_fst {c : α × β} (ha : Er (rPair r s) ta σ F c) (hb : Er rInt tb σ F 0) : Er r (tOp (rIxT K) ta tb) σ F c.1 := fun H1 e Q q =>
  er_two ha hb e fun x y H3 e3 ⟨p, x1, y1, hx, hp, h1, h2⟩ k2 => ⟨p, [x1, y1], 0, x1, hx, k2, SqT.of (part_sub (e.trans e3) p _ hp), rfl, q _ H3 e3 h1⟩
theorem er_snd {c : α × β} (ha : Er (rPair r s) ta σ F c) (hb : Er rInt tb σ F 1) : Er s (tOp (rIxT K) ta tb) σ F c.2 := fun H1 e Q q =>
  er_two ha hb e fun x y H3 e3 ⟨p, x1, y1, hx, hp, h1, h2⟩ k2 => ⟨p, [x1, y1], 1, y1, hx, k2, SqT.of (part_sub (e.trans e3) p _ hp), rfl, q _ H3 e3 h2⟩
/-! ### displays -/
def EaL (r : Rep α) (ta : TA) (σ : L2.St) (F : Hp) (as : List α) : Prop := Ea (fun G vs => Al (r.rel G) vs as) ta σ F
theorem eal_nil : EaL r tNil σ F [] := fun H1 _ _ q => q [] H1 (Ex.refl H1) .nil
theorem eal_cons {tr : TA} (h : Er r ta σ F a) (hr : EaL r tr σ F as) : EaL r (tCons ta tr) σ F (a :: as) := fun H1 e _ q =>
  h H1 e _ fun v H2 e2 k => hr H2 (e.trans e2) _ fun ws H3 e3 k3 => q _ H3 (e2.trans e3) (.cons (r.mono (part_up e3) k) (k3.imp fun _ _ k => r.mono (part_back e2) k))
theorem new_at {xs : List V} (e0 : Ex F H1) (e : Ex H1 H2) (hp : H2 p = none) (h : Al (r.rel (part F H1 H2)) xs as) : New r as F H1 (upd H2 p (.lst xs)) p := by
  refine ⟨back_none e hp, xs, upd_same, h.imp fun _ _ k => r.mono (ex_mns ?_ ?_) k⟩
  · exact part_up (Ex.new hp)
  · rw [part_new (back_none (e0.trans e) hp) (back_none e hp)]
    exact hp
theorem en_lst {ta : TA} (h : EaL r ta σ F as) (hl : as.length ≤ 100000) : En r (tLst ta) σ F as := fun H1 e _ q => h H1 e _ fun vs H2 e2 k =>
  ⟨by rw [k.len]; exact sz_of hl, fun p hp => q p _ (e2.trans (Ex.new hp)) (new_at e e2 hp k)⟩
theorem part_upd {o : HO} (e0 : Ex F H1) (e : Ex H1 H2) (hp : H2 p = none) : part F H1 (upd H2 p o) p = some o := by
  rw [part_new (back_none (e0.trans e) hp) (back_none e hp)]
  exact upd_same
theorem er_tup {ta : TA} (h : EaL r ta σ F as) (hl : as.length ≤ 100000) : Er (rTup r) (tTup ta) σ F as := fun H1 e _ q => h H1 e _ fun vs H2 e2 k =>
  ⟨by rw [k.len]; exact sz_of hl, fun p hp => q _ _ (e2.trans (Ex.new hp)) ⟨p, vs, rfl, part_upd e e2 hp, k.imp fun _ _ k => r.mono (part_up (Ex.new hp)) k⟩⟩
theorem er_pair {ta : TA} (h : Ea (A2 r s a b) ta σ F) : Er (rPair r s) (tTup ta) σ F (a, b) := fun H1 e _ q => h H1 e _ fun vs H2 e2 ⟨x, y, hv, hx, hy⟩ => by
  subst hv
  exact ⟨by show 2 ≤ sizeLine; decide, fun p hp => q _ _ (e2.trans (Ex.new hp)) ⟨p, x, y, rfl, part_upd e e2 hp, r.mono (part_up (Ex.new hp)) hx, s.mono (part_up (Ex.new hp)) hy⟩⟩
/-! ### sequences -/
theorem Al.nil_iff {R : V → α → Prop} {xs : List V} (h : Al R xs as) : xs = [] ↔ as = [] := by
  cases h with
  | nil => exact ⟨fun _ => rfl, fun _ => rfl⟩
  | cons _ _ => exact ⟨fun z => (nomatch z), fun z => (nomatch z)⟩
theorem er_catT (ha : Er (rTup r) ta σ F as) (hb : Er (rTup r) tb σ F as') (hl : as.length + as'.length ≤ 100000) : Er (rTup r) (tOp (rCatA K) ta tb) σ F (as ++ as') := fun H1 e Q q =>
  er_two ha hb e fun x y H3 e3 ⟨p, xs, hx, hp, h1⟩ ⟨p', ys, hy, hp', h2⟩ => by
    refine ⟨p, p', xs, ys, hx, hy, SqT.of (part_sub (e.trans e3) p _ hp), SqT.of (part_sub (e.trans e3) p' _ hp'), by rw [h1.len, h2.len]; exact sz_of hl, fun z => ?_, fun z z2 => ?_, fun _ _ c hc => ?_⟩
    · refine q _ H3 e3 ?_
      rw [h1.nil_iff.mp z]
      exact ⟨p', ys, rfl, hp', h2⟩
    · refine q _ H3 e3 ?_
      rw [h2.nil_iff.mp z2, List.append_nil]
      exact ⟨p, xs, rfl, hp, h1⟩
    · exact q _ _ (e3.trans (Ex.new hc)) ⟨c, _, rfl, part_upd e e3 hc, (h1.app h2).imp fun _ _ k => r.mono (part_up (Ex.new hc)) k⟩
theorem en_catL (ha : Er (rLst r) ta σ F as) (hb : Er (rLst r) tb σ F as') (hl : as.length + as'.length ≤ 100000) : En r (tOp rCat ta tb) σ F (as ++ as') := fun H1 e Q q =>
  er_two ha hb e fun x y H3 e3 ⟨p, xs, hx, hp, h1⟩ ⟨p', ys, hy, hp', h2⟩ =>
    ⟨p, p', xs, ys, hx, hy, part_sub (e.trans e3) p _ hp, part_sub (e.trans e3) p' _ hp', by rw [h1.len, h2.len]; exact sz_of hl, fun c hc => q c _ (e3.trans (Ex.new hc)) (new_at e e3 hc (h1.app h2))⟩
theorem Al.rep {R : V → α → Prop} {xs : List V} (h : Al R xs as) : ∀ n : Nat, Al R (List.replicate n xs).flatten (List.replicate n as).flatten
  | 0 => .nil
  | n + 1 => by
    rw [List.replicate_succ, List.replicate_succ, List.flatten_cons, List.flatten_cons]
    exact h.app (Al.rep h n)
theorem en_rep {k : Int} (ha : Er (rLst r) ta σ F as) (hb : Er rInt tb σ F k) (h1 : -100000 ≤ k ∧ k ≤ 100000) (hl : as.length * k.toNat ≤ 100000) : En r (tOp rRep ta tb) σ F (List.replicate k.toNat as).flatten := fun H1 e Q q =>
  er_two ha hb e fun x y H3 e3 ⟨p, xs, hx, hp, h2⟩ hy =>
    ⟨p, k, xs, hx, hy, part_sub (e.trans e3) p _ hp, by omega, by omega, by rw [h2.len]; exact sz_of hl, fun c hc => q c _ (e3.trans (Ex.new hc)) (new_at e e3 hc (h2.rep _))⟩
def cutA (as : List α) (lo hi : Option Int) : List α := (as.drop (HT.sIx as.length 0 lo)).take (HT.sIx as.length as.length hi - HT.sIx as.length 0 lo)
theorem eo_part {i : Int} (h : Er rInt te σ F i) : EvO (tPart te) σ F (some i) := fun H1 e _ q => h H1 e _ fun v H2 e2 k => ⟨i, k, q H2 e2⟩
theorem en_sl {tl th : TO} {lo hi : Option Int} (h : Er (rLst r) te σ F as) (h1 : EvO tl σ F lo) (h2 : EvO th σ F hi) : En r (tSl (rSlL K) te tl th) σ F (cutA as lo hi) := fun H1 e _ q =>
  h H1 e _ fun v H2 e2 ⟨p, xs, hx, hp, hal⟩ => h1 H2 (e.trans e2) _ fun H3 e3 => h2 H3 ((e.trans e2).trans e3) _ fun H4 e4 => by
    refine ⟨p, xs, hx, SqL.of (part_sub (e.trans (e2.trans (e3.trans e4))) p _ (part_up (e3.trans e4) p _ hp)), fun c hc => q c _ ((e2.trans (e3.trans e4)).trans (Ex.new hc)) (new_at e (e2.trans (e3.trans e4)) hc ?_)⟩
    unfold cutV cutA
    rw [hal.len]
    exact ((hal.drop _).take _).imp fun _ _ k => r.mono (part_up (e3.trans e4)) k
theorem er_slT {tl th : TO} {lo hi : Option Int} (h : Er (rTup r) te σ F as) (h1 : EvO tl σ F lo) (h2 : EvO th σ F hi) : Er (rTup r) (tSl (rSlA K) te tl th) σ F (cutA as lo hi) := fun H1 e _ q =>
  h H1 e _ fun v H2 e2 ⟨p, xs, hx, hp, hal⟩ => h1 H2 (e.trans e2) _ fun H3 e3 => h2 H3 ((e.trans e2).trans e3) _ fun H4 e4 => by
    have ee := e2.trans (e3.trans e4)
    refine ⟨p, xs, hx, SqT.of (part_sub (e.trans ee) p _ (part_up (e3.trans e4) p _ hp)), fun hw => ?_, fun hw c hc => ?_⟩
    · have ec : cutA as lo hi = as := by
        unfold cutA
        rw [hal.len] at hw
        rw [hw.1, hw.2, List.drop_zero, Nat.sub_zero, List.take_length]
      refine q _ H4 ee ?_
      rw [ec]
      exact ⟨p, xs, rfl, part_up (e3.trans e4) p _ hp, hal.imp fun _ _ k => r.mono (part_up (e3.trans e4)) k⟩
    · refine q _ _ (ee.trans (Ex.new hc)) ⟨c, _, rfl, part_upd e ee hc, ?_⟩
      unfold cutV cutA
      rw [hal.len]
      exact ((hal.drop _).take _).imp fun _ _ k => r.mono ((part_up (e3.trans e4)).trans (part_up (Ex.new hc))) k
/-! ### built-ins -/
def rLenQ (K : PySem.W.Frag) : List V → Hp → VK → Prop := fun xs H Q => ∃ p ys, xs = [.ref p] ∧ (SqL K H p ys ∨ SqT K H p ys) ∧ Q (.int ys.length) H
theorem er_lenL (h : Er (rLst r) ta σ F as) : Er rInt (tCB (rLenQ K) (tCons ta tNil)) σ F (as.length : Int) := fun H1 e Q q => h H1 e _ fun v H2 e2 ⟨p, xs, hx, hp, hal⟩ =>
  ⟨p, xs, congrArg (· :: []) hx, .inl (SqL.of (part_sub (e.trans e2) p _ hp)), by rw [hal.len]; exact q _ H2 e2 rfl⟩
theorem er_lenT (h : Er (rTup r) ta σ F as) : Er rInt (tCB (rLenQ K) (tCons ta tNil)) σ F (as.length : Int) := fun H1 e Q q => h H1 e _ fun v H2 e2 ⟨p, xs, hx, hp, hal⟩ =>
  ⟨p, xs, congrArg (· :: []) hx, .inr (SqT.of (part_sub (e.trans e2) p _ hp)), by rw [hal.len]; exact q _ H2 e2 rfl⟩
theorem er_lenF {ns : List Int} (h : Er (rFro K) ta σ F ns) : Er rInt (tCB (rLenQ K) (tCons ta tNil)) σ F (ns.length : Int) := fun H1 e Q q => h H1 e _ fun v H2 e2 ⟨p, hx, hp⟩ => by
  refine ⟨p, _, congrArg (· :: []) hx, .inl (ex_l (part_sub (e.trans e2)) hp), ?_⟩
  rw [List.length_map]
  exact q _ H2 e2 rfl
def rTupQ (K : PySem.W.Frag) : List V → Hp → VK → Prop := fun xs H Q => ∃ p ys, xs = [.ref p] ∧ ((SqL K H p ys ∧ ∀ l, H l = none → Q (.ref l) (upd H l (.tup ys))) ∨ (SqT K H p ys ∧ Q (.ref p) H))
theorem er_tupOf (h : Er (rLst r) ta σ F as) : Er (rTup r) (tCB (rTupQ K) (tCons ta tNil)) σ F as := fun H1 e Q q => h H1 e _ fun v H2 e2 ⟨p, xs, hx, hp, hal⟩ =>
  ⟨p, xs, congrArg (· :: []) hx, .inl ⟨SqL.of (part_sub (e.trans e2) p _ hp), fun l hl => q _ _ (e2.trans (Ex.new hl)) ⟨l, xs, rfl, part_upd e e2 hl, hal.imp fun _ _ k => r.mono (part_up (Ex.new hl)) k⟩⟩⟩
def rLstQ (K : PySem.W.Frag) : List V → Hp → VK → Prop := fun xs H Q => ∃ p ys, xs = [.ref p] ∧ (SqL K H p ys ∨ SqT K H p ys) ∧ ∀ l, H l = none → Q (.ref l) (upd H l (.lst ys))
theorem en_listL (h : Er (rLst r) ta σ F as) : En r (tCB (rLstQ K) (tCons ta tNil)) σ F as := fun H1 e Q q => h H1 e _ fun v H2 e2 ⟨p, xs, hx, hp, hal⟩ =>
  ⟨p, xs, congrArg (· :: []) hx, .inl (SqL.of (part_sub (e.trans e2) p _ hp)), fun l hl => q l _ (e2.trans (Ex.new hl)) (new_at e e2 hl hal)⟩
theorem en_listT (h : Er (rTup r) ta σ F as) : En r (tCB (rLstQ K) (tCons ta tNil)) σ F as := fun H1 e Q q => h H1 e _ fun v H2 e2 ⟨p, xs, hx, hp, hal⟩ =>
  ⟨p, xs, congrArg (· :: []) hx, .inr (SqT.of (part_sub (e.trans e2) p _ hp)), fun l hl => q l _ (e2.trans (Ex.new hl)) (new_at e e2 hl hal)⟩
def rInt1 : List V → Hp → VK → Prop := fun xs H Q => (∃ i, xs = [.int i] ∧ Q (.int i) H) ∨ ∃ k, xs = [.bl k] ∧ Q (.int (if k then 1 else 0)) H
theorem er_int1 {i : Int} (h : Er rInt ta σ F i) : Er rInt (tCB rInt1 (tCons ta tNil)) σ F i := fun H1 e Q q => h H1 e _ fun v H2 e2 hv => .inl ⟨i, congrArg (· :: []) hv, q _ H2 e2 rfl⟩
theorem er_int1B {k : Bool} (h : Er rBl ta σ F k) : Er rInt (tCB rInt1 (tCons ta tNil)) σ F (if k then 1 else 0) := fun H1 e Q q => h H1 e _ fun v H2 e2 hv => .inr ⟨k, congrArg (· :: []) hv, q _ H2 e2 rfl⟩
theorem rel_bls {H : Hp} : ∀ {xs : List V} {ns : List Bool}, Al (rBl.rel H) xs ns → xs = ns.map V.bl
  | _, _, .nil => rfl
  | _, _, .cons h t => by
    rw [show _ = V.bl _ from h, rel_bls t]
    rfl
theorem er_any {ks : List Bool} (h : Er (rLst rBl) ta σ F ks) : Er rBl (tCB (rAny K) (tCons ta tNil)) σ F (ks.any id) := fun H1 e Q q => h H1 e _ fun v H2 e2 ⟨p, xs, hx, hp, hal⟩ => by
  rw [rel_bls hal] at hp
  exact ⟨p, ks, congrArg (· :: []) hx, SqL.of (part_sub (e.trans e2) p _ hp), q _ H2 e2 rfl⟩
theorem er_all {ks : List Bool} (h : Er (rLst rBl) ta σ F ks) : Er rBl (tCB (rAll K) (tCons ta tNil)) σ F (ks.all id) := fun H1 e Q q => h H1 e _ fun v H2 e2 ⟨p, xs, hx, hp, hal⟩ => by
  rw [rel_bls hal] at hp
  exact ⟨p, ks, congrArg (· :: []) hx, SqL.of (part_sub (e.trans e2) p _ hp), q _ H2 e2 rfl⟩
theorem inV_ints {n : Int} : ∀ {ns : List Int}, inV (.int n) (ns.map V.int) = decide (n ∈ ns)
  | [] => rfl
  | m :: ns => by
    show (m == n || inV (.int n) (ns.map V.int)) = _
    rw [inV_ints]
    by_cases h : m = n
    · subst h; simp
    · have h2 : ¬ n = m := fun z => h z.symm
      simp [h, h2]
theorem flat_ints : ∀ {ns : List Int}, (ns.map V.int).all flatV = true
  | [] => rfl
  | _ :: ns => by
    show (true && (ns.map V.int).all flatV) = true
    rw [flat_ints]
    rfl
end
end DL
set_option Elab.async false
set_option linter.all false
set_option maxRecDepth 100000
set_option maxHeartbeats 2000000
namespace DL
open PySem L2 Evl
section
variable {α β γ δ : Type} {K : PySem.W.Frag} {σ σ2 : L2.St} {F G H H1 H2 H3 : Hp} {ta tb te tl tx : TE} {t u : TT} {v : V} {r : Rep α} {s : Rep β} {a : α} {b : β} {as as' : List α} {bs : List β} {p q : Addr}
theorem er_inT {n : Int} {ns : List Int} (ha : Er rInt ta σ F n) (hb : Er (rTup rInt) tb σ F ns) : Er rBl (tOp (rIn K false) ta tb) σ F (decide (n ∈ ns)) := fun H1 e Q q =>
  er_two ha hb e fun x y H3 e3 hx ⟨p, xs, hy, hp, hal⟩ => by
    cases (show x = V.int n from hx)
    rw [rel_ints hal] at hp
    refine ⟨p, _, hy, .inr (SqT.of (part_sub (e.trans e3) p _ hp)), rfl, flat_ints, ?_⟩
    rw [inV_ints]
    exact q _ H3 e3 rfl
theorem er_niT {n : Int} {ns : List Int} (ha : Er rInt ta σ F n) (hb : Er (rTup rInt) tb σ F ns) : Er rBl (tOp (rIn K true) ta tb) σ F (!decide (n ∈ ns)) := fun H1 e Q q =>
  er_two ha hb e fun x y H3 e3 hx ⟨p, xs, hy, hp, hal⟩ => by
    cases (show x = V.int n from hx)
    rw [rel_ints hal] at hp
    refine ⟨p, _, hy, .inr (SqT.of (part_sub (e.trans e3) p _ hp)), rfl, flat_ints, ?_⟩
    rw [inV_ints]
    exact q _ H3 e3 rfl
theorem er_inL {n : Int} {ns : List Int} (ha : Er rInt ta σ F n) (hb : Er (rLst rInt) tb σ F ns) : Er rBl (tOp (rIn K false) ta tb) σ F (decide (n ∈ ns)) := fun H1 e Q q =>
  er_two ha hb e fun x y H3 e3 hx ⟨p, xs, hy, hp, hal⟩ => by
    cases (show x = V.int n from hx)
    rw [rel_ints hal] at hp
    refine ⟨p, _, hy, .inl (SqL.of (part_sub (e.trans e3) p _ hp)), rfl, flat_ints, ?_⟩
    rw [inV_ints]
    exact q _ H3 e3 rfl
theorem er_niL {n : Int} {ns : List Int} (ha : Er rInt ta σ F n) (hb : Er (rLst rInt) tb σ F ns) : Er rBl (tOp (rIn K true) ta tb) σ F (!decide (n ∈ ns)) := fun H1 e Q q =>
  er_two ha hb e fun x y H3 e3 hx ⟨p, xs, hy, hp, hal⟩ => by
    cases (show x = V.int n from hx)
    rw [rel_ints hal] at hp
    refine ⟨p, _, hy, .inl (SqL.of (part_sub (e.trans e3) p _ hp)), rfl, flat_ints, ?_⟩
    rw [inV_ints]
    exact q _ H3 e3 rfl
/-- sorted(xs) of ints -/
theorem en_sortI {ns ms : List Int} (h : Er (rLst rInt) ta σ F ns) (hm : ∀ ns' : List Int, ns'.Perm ns → ns'.Pairwise (· ≤ ·) → ns' = ms) : En rInt (tCB (rSortedI K) (tCons ta tNil)) σ F ms := fun H1 e Q q => h H1 e _ fun v H2 e2 ⟨p, xs, hx, hp, hal⟩ => by
  rw [rel_ints hal] at hp
  refine ⟨p, ns, congrArg (· :: []) hx, SqL.of (part_sub (e.trans e2) p _ hp), fun ns' c h1 h2 hc => ?_⟩
  rw [hm ns' h1 h2]
  exact q c _ (e2.trans (Ex.new hc)) (new_at e e2 hc (ints_rel ms))
/-! ### None -/
def rIsNq : R2 := fun x y H Q => y = .non ∧ Q (.bl (decide (x = .non))) H
def rNotNq : R2 := fun x y H Q => y = .non ∧ Q (.bl (!decide (x = .non))) H
def Sol (r : Rep α) : Prop := ∀ H a, ¬ r.rel H .non a
theorem sol_int : Sol rInt := fun _ _ h => by cases (show V.non = V.int _ from h)
theorem sol_lst : Sol (rLst r) := fun _ _ ⟨_, _, h, _⟩ => by cases h
theorem sol_tup : Sol (rTup r) := fun _ _ ⟨_, _, h, _⟩ => by cases h
theorem sol_pair : Sol (rPair r s) := fun _ _ ⟨_, _, _, h, _⟩ => by cases h
theorem opt_non {o : Option α} (hs : Sol r) (h : (rOpt r).rel F v o) : decide (v = V.non) = o.isNone := by
  cases o with
  | none =>
    rw [show v = V.non from h]
    rfl
  | some a =>
    refine decide_eq_false fun z => ?_
    rw [z] at h
    exact hs _ _ h
theorem er_isN {o : Option α} (hs : Sol r) (ha : Er (rOpt r) ta σ F o) : Er rBl (tOp rIsNq ta (tC .non)) σ F o.isNone := fun H1 e Q q => ha H1 e _ fun v H2 e2 k => ⟨rfl, by rw [opt_non hs k]; exact q _ H2 e2 rfl⟩
theorem er_notN {o : Option α} (hs : Sol r) (ha : Er (rOpt r) ta σ F o) : Er rBl (tOp rNotNq ta (tC .non)) σ F (!o.isNone) := fun H1 e Q q => ha H1 e _ fun v H2 e2 k => ⟨rfl, by rw [opt_non hs k]; exact q _ H2 e2 rfl⟩
/-! ### truth of a list, a tuple -/
def tTru (K : PySem.W.Frag) (te : TE) : TT := fun σ H R => te σ H fun v H2 => ∃ b, TruV K v H2 b ∧ R b H2
theorem et_lst (h : Er (rLst r) ta σ F as) : EvT (tTru K ta) σ F (!as.isEmpty) := fun H1 e Q q => h H1 e _ fun v H2 e2 ⟨p, xs, hx, hp, hal⟩ => by
  subst hx
  refine ⟨!as.isEmpty, .inl ⟨xs, SqL.of (part_sub (e.trans e2) p _ hp), ?_⟩, q H2 e2⟩
  cases hal <;> rfl
theorem et_tup (h : Er (rTup r) ta σ F as) : EvT (tTru K ta) σ F (!as.isEmpty) := fun H1 e Q q => h H1 e _ fun v H2 e2 ⟨p, xs, hx, hp, hal⟩ => by
  subst hx
  refine ⟨!as.isEmpty, .inr (.inl ⟨xs, SqT.of (part_sub (e.trans e2) p _ hp), ?_⟩), q H2 e2⟩
  cases hal <;> rfl
/-! ### equality of data -/
structure Enc (K : PySem.W.Frag) (r : Rep α) [DecidableEq α] where
  enc : α → PyData
  d : Nat
  dp : ∀ {H : Hp} {v : V} {a : α}, r.rel H v a → Dp K H v (enc a)
  eqv : ∀ a b, PyData.eqv (enc a) (enc b) = decide (a = b)
  can : ∀ a, (enc a).canLay0 = true
  dep : ∀ a, (enc a).depth ≤ d
theorem Enc.shaped [DecidableEq α] (E : Enc K r) (h : E.d ≤ 64) (a : α) : SeqAt.shaped (E.enc a) = true := by
  unfold SeqAt.shaped
  rw [E.can, decide_eq_true (Nat.le_trans (E.dep a) h)]
  rfl
def eInt : Enc K rInt where
  enc := .int
  d := 0
  dp := fun h => by
    cases h
    exact .int _
  eqv := fun a b => by
    show (a == b) = _
    by_cases h : a = b
    · subst h; simp
    · simp [h]
  can := fun _ => rfl
  dep := fun _ => Nat.zero_le _
def eBl : Enc K rBl where
  enc := .bool
  d := 0
  dp := fun h => by
    cases h
    exact .bl _
  eqv := fun a b => by cases a <;> cases b <;> rfl
  can := fun _ => rfl
  dep := fun _ => Nat.zero_le _
section
variable [DecidableEq α] [DecidableEq β] (E : Enc K r) (E' : Enc K s)
theorem Enc.all {H : Hp} : ∀ {xs : List V} {as : List α}, Al (r.rel H) xs as → DpAll K H xs (as.map E.enc)
  | _, _, .nil => .nil
  | _, _, .cons h t => .cons (E.dp h) (Enc.all t)
theorem Enc.eqvAll : ∀ as bs : List α, PyData.eqvAll (as.map E.enc) (bs.map E.enc) = decide (as = bs)
  | [], [] => rfl
  | [], _ :: _ => rfl
  | _ :: _, [] => rfl
  | a :: as, b :: bs => by
    show (PyData.eqv (E.enc a) (E.enc b) && PyData.eqvAll (as.map E.enc) (bs.map E.enc)) = _
    rw [E.eqv, Enc.eqvAll as bs]
    by_cases h : a = b <;> by_cases h2 : as = bs <;> simp [h, h2]
theorem Enc.canAll : ∀ as : List α, PyData.canLayAll0 (as.map E.enc) = true
  | [] => rfl
  | a :: as => by
    show ((E.enc a).canLay0 && PyData.canLayAll0 (as.map E.enc)) = true
    rw [E.can, Enc.canAll as]
    rfl
theorem Enc.depAll : ∀ as : List α, PyData.depthAll (as.map E.enc) ≤ E.d
  | [] => Nat.zero_le _
  | a :: as => Nat.max_le.mpr ⟨E.dep a, Enc.depAll as⟩
def eLst : Enc K (rLst r) where
  enc := fun as => .list (as.map E.enc)
  d := E.d + 1
  dp := fun ⟨p, xs, h, hp, hal⟩ => by
    subst h
    exact .lst (SqL.of hp) (E.all hal)
  eqv := fun a b => E.eqvAll a b
  can := fun a => E.canAll a
  dep := fun a => Nat.succ_le_succ (E.depAll a)
def eTup : Enc K (rTup r) where
  enc := fun as => .tuple (as.map E.enc)
  d := E.d + 1
  dp := fun ⟨p, xs, h, hp, hal⟩ => by
    subst h
    exact .tup (SqT.of hp) (E.all hal)
  eqv := fun a b => E.eqvAll a b
  can := fun a => E.canAll a
  dep := fun a => Nat.succ_le_succ (E.depAll a)
def ePair : Enc K (rPair r s) where
  enc := fun c => .tuple [E.enc c.1, E'.enc c.2]
  d := max E.d E'.d + 1
  dp := fun ⟨p, x, y, h, hp, h1, h2⟩ => by
    subst h
    exact .tup (SqT.of hp) (.cons (E.dp h1) (.cons (E'.dp h2) .nil))
  eqv := fun a b => by
    show (PyData.eqv (E.enc a.1) (E.enc b.1) && (PyData.eqv (E'.enc a.2) (E'.enc b.2) && true)) = _
    rw [E.eqv, E'.eqv]
    obtain ⟨a1, a2⟩ := a
    obtain ⟨b1, b2⟩ := b
    by_cases h : a1 = b1 <;> by_cases h2 : a2 = b2 <;> simp [h, h2]
  can := fun a => by
    show ((E.enc a.1).canLay0 && ((E'.enc a.2).canLay0 && true)) = true
    rw [E.can, E'.can]
    rfl
  dep := fun a => by
    show max (E.enc a.1).depth (max (E'.enc a.2).depth 0) + 1 ≤ _
    have h1 := E.dep a.1
    have h2 := E'.dep a.2
    omega
end
theorem er_eqD [DecidableEq α] {a a' : α} (E : Enc K r) (hd : E.d ≤ 64) (ha : Er r ta σ F a) (hb : Er r tb σ F a') : Er rBl (tOp (rEqD K) ta tb) σ F (decide (a = a')) := fun H1 e Q q =>
  er_two ha hb e fun x y H3 e3 hx hy => by
    refine ⟨E.enc a, E.enc a', E.dp (r.mono (part_sub (e.trans e3)) hx), E.dp (r.mono (part_sub (e.trans e3)) hy), E.shaped hd a, E.shaped hd a', ?_⟩
    rw [E.eqv]
    exact q _ H3 e3 rfl
theorem er_neD [DecidableEq α] {a a' : α} (E : Enc K r) (hd : E.d ≤ 64) (ha : Er r ta σ F a) (hb : Er r tb σ F a') : Er rBl (tOp (rNeD K) ta tb) σ F (!decide (a = a')) := fun H1 e Q q =>
  er_two ha hb e fun x y H3 e3 hx hy => by
    refine ⟨E.enc a, E.enc a', E.dp (r.mono (part_sub (e.trans e3)) hx), E.dp (r.mono (part_sub (e.trans e3)) hy), E.shaped hd a, E.shaped hd a', ?_⟩
    rw [E.eqv]
    exact q _ H3 e3 rfl
/-! ### statements -/
variable {D : Ends} {tu tw tz : TS} {g : TG} {i : Nat}
theorem q_asg (h : Er r te σ F a) (e : Ex F H) (k : ∀ v H2, Ex H H2 → r.rel (part F H H2) v a → tz D (σ.set i (some v)) H2) : tSeq (tAsg te (gName i)) tz D σ H := h H e _ k
theorem q_asgN (h : En r te σ F as) (e : Ex F H) (k : ∀ p H2, Ex H H2 → New r as F H H2 p → tz D (σ.set i (some (.ref p))) H2) : tSeq (tAsg te (gName i)) tz D σ H := h H e _ k
theorem q_asgI {n : Int} (h : Er rInt te σ F n) (e : Ex F H) (k : ∀ H2, Ex H H2 → tz D (σ.set i (some (.int n))) H2) : tSeq (tAsg te (gName i)) tz D σ H := h H e _ fun v H2 e2 hv => by
  rw [show v = V.int n from hv]
  exact k H2 e2
theorem s_asg (h : Er r te σ F a) (e : Ex F H) (k : ∀ v H2, Ex H H2 → r.rel (part F H H2) v a → D.nx (σ.set i (some v)) H2) : tAsg te (gName i) D σ H := h H e _ k
theorem s_asgN (h : En r te σ F as) (e : Ex F H) (k : ∀ p H2, Ex H H2 → New r as F H H2 p → D.nx (σ.set i (some (.ref p))) H2) : tAsg te (gName i) D σ H := h H e _ k
theorem s_asgI {n : Int} (h : Er rInt te σ F n) (e : Ex F H) (k : ∀ H2, Ex H H2 → D.nx (σ.set i (some (.int n))) H2) : tAsg te (gName i) D σ H := h H e _ fun v H2 e2 hv => by
  rw [show v = V.int n from hv]
  exact k H2 e2
theorem s_ret (h : Er r te σ F a) (e : Ex F H) (k : ∀ v H2, Ex H H2 → r.rel (part F H H2) v a → D.rt v H2) : tRet te D σ H := h H e _ k
theorem s_retN (h : En r te σ F as) (e : Ex F H) (k : ∀ p H2, Ex H H2 → New r as F H H2 p → D.rt (.ref p) H2) : tRet te D σ H := h H e _ k
theorem s_retB {b : Bool} (h : Er rBl te σ F b) (e : Ex F H) (k : ∀ H2, Ex H H2 → D.rt (.bl b) H2) : tRet te D σ H := h H e _ fun v H2 e2 hv => by
  rw [show v = V.bl b from hv]
  exact k H2 e2
theorem s_retI {b : Int} (h : Er rInt te σ F b) (e : Ex F H) (k : ∀ H2, Ex H H2 → D.rt (.int b) H2) : tRet te D σ H := h H e _ fun v H2 e2 hv => by
  rw [show v = V.int b from hv]
  exact k H2 e2
theorem s_if {b : Bool} (h : EvT t σ F b) (e : Ex F H) (h1 : b = true → ∀ H2, Ex H H2 → tu D σ H2) (h2 : b = false → ∀ H2, Ex H H2 → tw D σ H2) : tIfS t tu tw D σ H := h H e _ fun H2 e2 => by
  cases b with
  | true =>
    show tu D σ H2
    exact h1 rfl H2 e2
  | false =>
    show tw D σ H2
    exact h2 rfl H2 e2
theorem q_if {b : Bool} (h : EvT t σ F b) (e : Ex F H) (h1 : b = true → ∀ H2, Ex H H2 → tu { D with nx := tz D } σ H2) (h2 : b = false → ∀ H2, Ex H H2 → tw { D with nx := tz D } σ H2) : tSeq (tIfS t tu tw) tz D σ H := s_if (D := { D with nx := tz D }) h e h1 h2
theorem q_when {b : Bool} (h : EvT t σ F b) (e : Ex F H) (h1 : b = true → ∀ H2, Ex H H2 → tu { D with nx := tz D } σ H2) (h2 : b = false → ∀ H2, Ex H H2 → tz D σ H2) : tSeq (tIfS t tu tNext) tz D σ H := s_if (D := { D with nx := tz D }) h e h1 h2
/-- p.append(e), p a list of its own -/
theorem s_app (hi : σ[i]? = some (some (.ref p))) (hm : Mu r as F H p) (hl : as.length < 100000) (h : Er r te σ F a) (e : Ex F H)
    (k : ∀ o H2 G, Ex H H2 → Ex F G → Ex G (upd H2 p o) → Mu r (as ++ [a]) G (upd H2 p o) p → (∀ c u, H c = some u → F c = none → G c = none) → D.nx σ (upd H2 p o)) : tDrop (tBM K "list" rAppend (tVar i) (tCons te tNil)) D σ H := by
  obtain ⟨h1, xs, h2, h3⟩ := hm
  refine ⟨_, hi, Or.inl ⟨rfl, xs, SqL.of h2⟩, h H e _ fun v H2 e2 hv => ⟨p, xs, v, rfl, rfl, e2 p _ h2, by rw [h3.len]; exact sz_lt hl, ?_⟩⟩
  have hG : part F H H2 p = none := part_old h1 h2
  exact k (.lst (xs ++ [v])) H2 (part F H H2) e2 part_ex (Ex.mut (part_sub (e.trans e2)) hG) ⟨hG, _, upd_same, Al.snoc (h3.imp fun _ _ k => r.mono part_ex k) hv⟩ fun c o hc hF => part_old hF hc
theorem q_app (hi : σ[i]? = some (some (.ref p))) (hm : Mu r as F H p) (hl : as.length < 100000) (h : Er r te σ F a) (e : Ex F H)
    (k : ∀ o H2 G, Ex H H2 → Ex F G → Ex G (upd H2 p o) → Mu r (as ++ [a]) G (upd H2 p o) p → (∀ c u, H c = some u → F c = none → G c = none) → tz D σ (upd H2 p o)) : tSeq (tDrop (tBM K "list" rAppend (tVar i) (tCons te tNil))) tz D σ H := s_app (D := { D with nx := tz D }) hi hm hl h e k
end
end DL
set_option Elab.async false
set_option linter.all false
set_option maxRecDepth 100000
set_option maxHeartbeats 4000000
/-! a for within a generator's body -/
namespace DL
open PySem PySem.Spec PyProof.Rows L2 GenW
section
variable {X : Cx}
def tGFor (wi : TI) (g : TG) (tb : TGn) : TGn := fun D ys σ H => wi σ H fun J H1 => ∃ W : Nat → Nat → List V → L2.St → Hp → Prop, (∃ m, W 0 m ys σ H1) ∧ ∀ i m ys σ H, W i m ys σ H →
  (J.stop i H ∧ D.nx ys σ H) ∨ (J.go i H ∧ ∃ N : List V → L2.St → Hp → Prop, (∀ ys' σ' H', N ys' σ' H' → ∃ m', m' < m ∧ W (i + 1) m' ys' σ' H') ∧ ∀ x H', J.yld i H x H' → g x σ H' fun σ2 H2 => tb { D with nx := N, ct := N, bk := D.nx } ys σ2 H2)
theorem seg_runOwn {M : Model} {A : Around} {R : GenEnd} {Y : Protocol} {n : Nat} {s₀ : Shared} {c c' : Code} {fs : List Frame} {s : Shared} {env : Env} {K : Flow → Sem PySem.Fin} {H : Value → Sem PySem.Fin} {gd : Bool → Bool} {lv : List Value → List Value}
    (h : ∀ p, Seg M A R Y n s₀ c' (M.den c') (.ret (fun r => ((match r with | .ok f => (.pure f : Sem Flow) | .error e => .raise e).onRaise (cameBack env)).wrap K H gd lv) none (gd false) (lv []) c p [] :: fs) s) :
    Seg M A R Y n s₀ c ((runOwn c' env).wrap K H gd lv) fs s := seg_call h
theorem gs_for {tg iter : Expr} {body : List Stmt} {wi : TI} {g : TG} {tb : TGn} {pos : Pos} (hp : PassesOwn (model X.prog X.w) X.A X.env X.xe) (hc : X.calm = true) (hi : PI X tg iter wi) (hg : PG X tg g) (hb : GSs X body tb)
    (hs : ∀ x, foldedSetIterable iter X.env x = pure x := by intro _; rfl) : GS X (.For tg iter body [] pos) (tGFor wi g tb) := by
  refine ⟨fun A S ip R n ys s₀ c fs K Jx gd lv s σ H D gc hn k hI ht => ?_⟩
  rw [exec_For]
  refine seg_bind_wrap (wpAny_standAt ?_)
  obtain ⟨acc, cc, r, I⟩ := hI
  refine seg_bind_wrap ?_
  rw [gc.over]
  refine wpAny_mono (hi.run _ s σ H _ I ht) (fun v s1 h1 => ?_) fun x s' hx => k.exc n s₀ x s' hx
  refine seg_bind_wrap (wpAny_of_eq (hs v) ?_)
  refine seg_bind_wrap (wpAny_standAt ?_)
  refine seg_bind_wrap ?_
  rw [gc.over]
  refine wpAny_holding (wpAny_mono h1 (fun itv s2 h2 => ?_) fun x s' hx => k.exc n s₀ x s' hx)
  obtain ⟨it, fp, tn, J, H2, eit, I2, T, st2, f2, W, ⟨m0, w0⟩, turn⟩ := h2
  subst eit
  refine seg_runOwn fun p => ?_
  have gl := fun (ip' : List (Addr × Obj)) (hip : ∀ p ∈ ip', p.1 ≠ S) (kk : Result → Sem PySem.Fin) => gc_loop (k := kk) (c' := .forLoop tg (.ref it) body [] X.env) (l := lv []) (kp := []) (p := p) (ip := ip') ⟨gc.pn, hip, gc.apart, gc.over, gc.split, gc.guard, gc.gd⟩ rfl rfl
  have stat : ∀ {H' : Hp} {acc' : Array Value} {c' : Nat}, (∀ b ∈ fp, H' b = none) → ∀ b ∈ fp, FpOk X ((S, lstObj acc' c') :: ip) H' b := fun hn b hb => by
    obtain ⟨_, q2, q3, q4, q5, q6⟩ := f2 b hb
    refine ⟨hn b hb, q2, q3, q4, q5, fun p hp => ?_⟩
    rcases List.mem_append.mp hp with hp | hp
    · exact q6 p (List.mem_append_left _ hp)
    · rcases List.mem_cons.mp hp with hp | hp
      · rw [hp]
        exact q6 (S, lstObj acc cc) (List.mem_append_right _ List.mem_cons_self)
      · exact q6 p (List.mem_append_right _ (List.mem_cons_of_mem _ hp))
  have hfS : ∀ b ∈ fp, b ≠ S := fun b hb z => by
    obtain ⟨_, _, _, _, _, q6⟩ := f2 b hb
    exact q6 (S, lstObj acc cc) (List.mem_append_right _ List.mem_cons_self) z.symm
  have loop : ∀ (m i n : Nat) (ys : List V) (s₀ s : Shared) (σ : L2.St) (H : Hp), n + ys.length = sizeLine → W i m ys σ H → GI X S ip ys σ H s → tn i s.heap → (∀ b ∈ fp, H b = none) →
      Seg (model X.prog X.w) A R (GY X S) n s₀ (.forLoop tg (.ref it) body [] X.env) ((model X.prog X.w).den (.forLoop tg (.ref it) body [] X.env))
        (.ret (fun r => ((match r with | .ok f => (.pure f : Sem Flow) | .error e => .raise e).onRaise (cameBack X.env)).wrap K Jx gd lv) none (gd false) (lv []) c p [] :: fs) s := by
    intro m
    induction m using Nat.strongRecOn with
    | ind m ih =>
      intro i n ys s₀ s σ H hn w hI st fr
      have ee : ∀ (n : Nat) (s₀ : Shared) (x : Value) (s' : Shared), X.xe x s' → Seg (model X.prog X.w) A R (GY X S) n s₀ (.forLoop tg (.ref it) body [] X.env)
          ((do noteFrame x X.env; theTreesLotGoes x : Sem Unit).wrap (fun _ => .raise x) .raise id id)
          (.ret (fun r => ((match r with | .ok f => (.pure f : Sem Flow) | .error e => .raise e).onRaise (cameBack X.env)).wrap K Jx gd lv) none (gd false) (lv []) c p [] :: fs) s' := fun n s₀ x s' hx => by
        refine seg_wrap ?_
        rw [(gl ip gc.ip _).over]
        refine wpAny_bind (wpAny_mono (hp x s' hx) (fun _ sb back => wpAny_theTreesLotGoes ?_) fun y sb back => ?_)
        · exact seg_leaf (.error x) (seg_cameBack gc k back)
        · exact seg_leaf (.error y) (seg_cameBack gc k back)
      have ee2 : ∀ (n : Nat) (s₀ : Shared) (x : Value) (s' : Shared), X.xe x s' → Seg (model X.prog X.w) A R (GY X S) n s₀ (.forLoop tg (.ref it) body [] X.env)
          ((do noteFrame x X.env; theTreesLotGoes x : Sem Unit).bind (fun _ => .raise x))
          (.ret (fun r => ((match r with | .ok f => (.pure f : Sem Flow) | .error e => .raise e).onRaise (cameBack X.env)).wrap K Jx gd lv) none (gd false) (lv []) c p [] :: fs) s' := fun n s₀ x s' hx => by
        rw [Sem.bind_eq_wrap]
        exact ee n s₀ x s' hx
      obtain ⟨acc, cc, r, I⟩ := hI
      show Seg _ A R (GY X S) n s₀ _ ((forTurn tg (.ref it) body [] X.env).onRaise (fun x => do noteFrame x X.env; theTreesLotGoes x)) _ s
      unfold forTurn
      rw [Sem.onRaise_eq_wrap]
      refine seg_bind_wrap (wpAny_standAt ?_)
      refine seg_bind_wrap ?_
      rw [(gl ip gc.ip _).over]
      refine wpAny_onRaise ?_
      rcases turn i m ys σ H w with ⟨stop, qn⟩ | ⟨go, N, hN, step⟩
      · refine wpAny_mono (T.done X rfl rfl rfl hc i _ s σ H X.xe I (stat fr) st stop) (fun r' s4 ⟨hr, I4⟩ => ?_) fun x s' hx => wpAny_standAt (ee2 n s₀ x s' hx)
        subst hr
        refine seg_again rfl ?_
        exact seg_leaf (.ok .next) (k.ok n ys s₀ s4 .next hn ⟨σ, H, ⟨acc, cc, r, I4⟩, qn⟩)
      · refine wpAny_mono (T.item X rfl rfl rfl hc i _ s σ H X.xe I (stat fr) st go) (fun r' s4 ⟨u, hr, h4⟩ => ?_) fun x s' hx => wpAny_standAt (ee2 n s₀ x s' hx)
        subst hr
        refine seg_bind_wrap ?_
        rw [(gl ip gc.ip _).over]
        refine wpAny_mono h4 (fun _ s5 ⟨x, H5, I5, r5, y5, st5, fr5⟩ => ?_) fun x s' hx => ee2 n s₀ x s' hx
        have J5 := I5.pinned (stat fr5) (T.obj _ _ st5)
        refine seg_bind_wrap ?_
        rw [(gl ip gc.ip _).over]
        refine wpAny_mono (hg.run _ s5 σ H5 x u _ J5 r5 (step x H5 y5)) (fun _ s6 ⟨σ6, H6, I6, q6⟩ => ?_) fun x s' hx => ee2 n s₀ x s' hx
        rw [Sem.bind_eq_wrap', Sem.wrap_wrap]
        have hip : ∀ p ∈ ip ++ pinsAt fp s5.heap, p.1 ≠ S := fun p hp => by
          rcases List.mem_append.mp hp with hp | hp
          · exact gc.ip p hp
          · exact hfS _ (of_pinsAt hp).1
        have back : ∀ {ys7 : List V} {σ7 : L2.St} {H7 : Hp} {s7 : Shared}, GI X S (ip ++ pinsAt fp s5.heap) ys7 σ7 H7 s7 → GI X S ip ys7 σ7 H7 s7 ∧ tn (i + 1) s7.heap ∧ ∀ b ∈ fp, H7 b = none := fun {ys7 σ7 H7 s7} hI7 => by
          obtain ⟨acc7, cc7, r7, I7⟩ := hI7
          have mem : ∀ {b : Addr} {o : Obj}, b ∈ fp → s5.heap.get? b = some o → (b, o) ∈ X.pn ++ (S, lstObj acc7 cc7) :: (ip ++ pinsAt fp s5.heap) := fun hb e => List.mem_append_right _ (List.mem_cons_of_mem _ (List.mem_append_right _ (mem_pinsAt hb e)))
          refine ⟨⟨acc7, cc7, r7, I7.pins_of fun p hp => I7.pin p ?_⟩, T.keep _ _ _ st5 fun b hb o e => (I7.pin (b, o) (mem hb e)).1, fun b hb => ?_⟩
          · rcases List.mem_cons.mp hp with hp | hp
            · rw [hp]
              exact List.mem_append_right _ List.mem_cons_self
            · exact List.mem_append_right _ (List.mem_cons_of_mem _ (List.mem_append_left _ hp))
          · obtain ⟨o, e, d⟩ := T.obj _ _ st5 b hb
            exact (I7.pin (b, o) (mem hb e)).2.1
        refine hb.run A S (ip ++ pinsAt fp s5.heap) R n ys s₀ _ _ _ _ id id s6 σ6 H6 { D with nx := N, ct := N, bk := D.nx } (gl _ hip _) hn ⟨fun n' ys' s₀' s3 f hn' hs => ?_, fun n' s₀' x s3 hx => ee2 n' s₀' x s3 hx⟩ ⟨acc, cc, r, I6⟩ q6
        cases f with
        | next =>
          obtain ⟨σ3, H3, I3, n3⟩ := hs
          obtain ⟨m', less, w3⟩ := hN ys' σ3 H3 n3
          obtain ⟨b1, b2, b3⟩ := back I3
          exact seg_again rfl (ih m' less (i + 1) n' ys' s₀' s3 σ3 H3 hn' w3 b1 b2 b3)
        | cont =>
          obtain ⟨σ3, H3, I3, n3⟩ := hs
          obtain ⟨m', less, w3⟩ := hN ys' σ3 H3 n3
          obtain ⟨b1, b2, b3⟩ := back I3
          exact seg_again rfl (ih m' less (i + 1) n' ys' s₀' s3 σ3 H3 hn' w3 b1 b2 b3)
        | brk =>
          obtain ⟨σ3, H3, I3, n3⟩ := hs
          exact seg_leaf (.ok .next) (k.ok n' ys' s₀' s3 .next hn' ⟨σ3, H3, (back I3).1, n3⟩)
        | ret v =>
          obtain ⟨v3, σ3, H3, I3, r3, n3⟩ := hs
          exact seg_leaf (.ok (.ret v)) (k.ok n' ys' s₀' s3 (.ret v) hn' ⟨v3, σ3, H3, (back I3).1, r3, n3⟩)
  exact loop m0 0 n ys s₀ s2 σ H2 hn w0 ⟨acc, cc, r, I2⟩ st2 fun b hb => (f2 b hb).1
end
end DL
set_option Elab.async false
set_option linter.all false
set_option maxRecDepth 100000
set_option maxHeartbeats 4000000
namespace DL
open PySem L2 Evl
section
variable {α β γ δ : Type} {K : PySem.W.Frag} {σ σ2 : L2.St} {F G H H1 H2 H3 H4 Hc : Hp} {ta tb te tl tx : TE} {t u : TT} {v : V} {r : Rep α} {s : Rep β} {r1 : Rep γ} {a : α} {b : β} {as as' : List α} {bs : List β} {p q D : Addr}
theorem part_elem {o : HO} (eG : Ex G (part F H1 Hc)) (e0 : Ex F H1) (e1 : Ex H1 Hc) (e : Ex Hc H4) (hD : Hc D = some o) (hG : G D = none) : Ex (part G Hc H4) (mns (part F H1 H4) D) := fun q u hq => by
  cases hg : G q with
  | some x =>
    rw [part_in hg] at hq
    have nq : q ≠ D := ne_of_none hg hG
    rw [mns_ne nq, ← hq]
    exact part_up e q x (eG q x hg)
  | none =>
    cases hc : Hc q with
    | some x => rw [part_old hg hc] at hq; cases hq
    | none =>
      rw [part_new hg hc] at hq
      have nq : q ≠ D := fun z => by
        rw [z, hD] at hc
        cases hc
      have n1 : H1 q = none := back_none e1 hc
      rw [mns_ne nq, part_new (back_none e0 n1) n1]
      exact hq
theorem part_put {o : HO} : Ex (mns (part F H1 H4) D) (mns (part F H1 (upd H4 D o)) D) := fun q u hq => by
  have nq : q ≠ D := fun e => by
    rw [e, mns_at] at hq
    cases hq
  rw [mns_ne nq] at hq ⊢
  cases hF : F q with
  | some x => rw [part_in hF] at hq ⊢; exact hq
  | none =>
    cases hH : H1 q with
    | some x => rw [part_old hF hH] at hq; cases hq
    | none =>
      rw [part_new hF hH] at hq ⊢
      rw [upd_ne nq]
      exact hq
theorem part_ins : Ex (part F H1 H2) (part F H1 H2) := Ex.refl _
/-! ### two fors in a comprehension -/
theorem en_lc2 {wi wi1 : TI} {g g1 : TG} {S : Hp → α → L2.St → L2.St → Prop} {S1 : Hp → γ → L2.St → L2.St → Prop} {tt tt1 : TT} {vs vs1 : List Nat} (f : α → Bool) (cs : α → List γ) (f1 : α → γ → Bool) (m : α → γ → β)
    (h : Src wi σ F r as) (hg : Tgt g r S) (hg1 : Tgt g1 r1 S1) (hn : ((as.filter f).flatMap fun a => ((cs a).filter (f1 a)).map (m a)).length < 100000)
    (hw : ∀ a ∈ as, ∀ G σ2, Ex F G → S G a (wipe σ vs) σ2 → wipe σ2 vs = wipe σ vs ∧ EvT tt σ2 G (f a) ∧ (f a = true → Src wi1 σ2 G r1 (cs a) ∧
      ∀ c ∈ cs a, ∀ G' σ3, Ex G G' → S1 G' c (wipe σ2 vs1) σ3 → wipe σ3 vs1 = wipe σ2 vs1 ∧ EvT tt1 σ3 G' (f1 a c) ∧ (f1 a c = true → Er s te σ3 G' (m a c)))) :
    En s (tLc2 wi g tt wi1 g1 tt1 te vs vs1) σ F ((as.filter f).flatMap fun a => ((cs a).filter (f1 a)).map (m a)) := fun H1 e Q q => h H1 e _ fun J H2 e2 w D hD => by
  have mem : ∀ {δ : Type} {l : List δ} {i : Nat} {a : δ}, l[i]? = some a → a ∈ l := fun h => List.mem_of_getElem? h
  have tk : ∀ {δ : Type} {l : List δ} {i : Nat} {a : δ}, l[i]? = some a → l.take (i + 1) = l.take i ++ [a] := fun h => by
    rw [List.take_add_one, h]
    rfl
  let out := fun (l : List α) => (l.filter f).flatMap fun a => ((cs a).filter (f1 a)).map (m a)
  have out_snoc : ∀ l a, out (l ++ [a]) = out l ++ (if f a = true then ((cs a).filter (f1 a)).map (m a) else []) := fun l a => by
    show ((l ++ [a]).filter f).flatMap _ = _
    rw [List.filter_append, List.flatMap_append, List.filter_cons]
    split
    · rw [List.filter_nil, List.flatMap_cons, List.flatMap_nil, List.append_nil]
    · rw [List.filter_nil, List.flatMap_nil]
  have out_le : ∀ i, (out (as.take i)).length ≤ (out as).length := fun i => by
    have : out as = out (as.take i) ++ out (as.drop i) := by
      show (as.filter f).flatMap _ = _
      conv => lhs; rw [← List.take_append_drop i as, List.filter_append, List.flatMap_append]
    rw [this, List.length_append]
    omega
  have dF : F D = none := back_none (e.trans e2) hD
  have d2 : part F H1 H2 D = none := by
    rw [part_new dF (back_none e2 hD)]
    exact hD
  let P := fun (i : Nat) (H' : Hp) => ∃ acc, H' D = some (.lst acc) ∧ Ex H2 (mns H' D) ∧ Al (s.rel (mns (part F H1 H') D)) acc (out (as.take i))
  refine ⟨fun i k H' => k = as.length - i ∧ i ≤ as.length ∧ P i H', ⟨as.length, by omega, Nat.zero_le _, [], upd_same, ?_, .nil⟩, ?_⟩
  · rw [mns_upd]
    exact ex_mns (Ex.refl _) hD
  rintro i k H' ⟨rfl, hi, acc, h1, h2, h3⟩
  have eG : Ex (part F H1 H2) H' := (part_sub (e.trans e2)).trans (h2.trans mns_sub)
  by_cases hlt' : ¬ i < as.length
  · have ei : i = as.length := by omega
    subst ei
    refine .inl ⟨w.stops H' eG, ?_⟩
    rw [List.take_length] at h3
    exact q D H' (e2.trans (h2.trans mns_sub)) ⟨back_none e2 hD, acc, h1, h3⟩
  have hlt : i < as.length := Decidable.not_not.mp hlt'
  refine .inr ⟨w.goes i H' hlt eG, P (i + 1), fun H'' p => ⟨as.length - (i + 1), by omega, rfl, hlt, p⟩, fun x H'' yl => ?_⟩
  obtain ⟨y1, a, y2, y3⟩ := w.yields i H' x H'' hlt eG yl
  refine hg _ H'' x a _ _ (part_sub (eG.trans y1)) y3 fun σ2 hS => ?_
  obtain ⟨hwp, ht, he⟩ := hw a (mem y2) _ σ2 (part_ex.trans part_ex) hS
  refine ⟨hwp, ht H'' (part_sub (eG.trans y1)) _ fun H3 e3 => ?_⟩
  have e12 : Ex H2 H3 := (h2.trans mns_sub).trans (y1.trans e3)
  have hD3 : H3 D = some (.lst acc) := e3 D _ (y1 D _ h1)
  -- the frame of the turn
  have d3 : part (part F H1 H2) H' H'' D = none := part_old d2 h1
  have gsub : Ex (part (part F H1 H2) H' H'') (part F H1 H3) := (part_part e2 (h2.trans mns_sub) y1).trans (part_up e3)
  cases hf : f a with
  | false =>
    refine ⟨acc, hD3, ex_mns e12 hD, ?_⟩
    rw [tk y2, out_snoc, hf, if_neg (by decide), List.append_nil]
    exact h3.imp fun _ _ k => s.mono (mns_up (part_up (y1.trans e3))) k
  | true =>
    obtain ⟨hs1, hin⟩ := he hf
    refine hs1 H3 ((part_sub (eG.trans y1)).trans e3) _ fun J1 H4 e4 w1 => ?_
    have hD4 : H4 D = some (.lst acc) := e4 D _ hD3
    have d4 : part (part (part F H1 H2) H' H'') H3 H4 D = none := part_old d3 hD3
    have gsub4 : Ex (part (part (part F H1 H2) H' H'') H3 H4) (part F H1 H4) := fun q o hq => part_elem gsub e (e2.trans e12) e4 hD3 d3 q o hq |> mns_sub q o
    let P1 := fun (j : Nat) (Hj : Hp) => ∃ acc', Hj D = some (.lst acc') ∧ Ex (mns H4 D) (mns Hj D) ∧ Al (s.rel (mns (part F H1 Hj) D)) acc' (out (as.take i) ++ (((cs a).take j).filter (f1 a)).map (m a))
    refine ⟨fun j k Hj => k = (cs a).length - j ∧ j ≤ (cs a).length ∧ P1 j Hj, ⟨(cs a).length, by omega, Nat.zero_le _, acc, hD4, Ex.refl _, ?_⟩, ?_⟩
    · rw [List.take_zero, List.filter_nil, List.map_nil, List.append_nil]
      exact h3.imp fun _ _ k => s.mono (mns_up (part_up (y1.trans (e3.trans e4)))) k
    rintro j k Hj ⟨rfl, hj, acc', g1', g2', g3'⟩
    have e4j : Ex (part (part (part F H1 H2) H' H'') H3 H4) Hj := (ex_mns (part_sub ((part_sub (eG.trans y1)).trans (e3.trans e4))) d4).trans (g2'.trans mns_sub)
    have e2j : Ex H2 (mns Hj D) := (ex_mns (e12.trans e4) hD).trans g2'
    by_cases hlj' : ¬ j < (cs a).length
    · have ej : j = (cs a).length := by omega
      subst ej
      refine .inl ⟨w1.stops Hj e4j, acc', g1', e2j, ?_⟩
      rw [List.take_length] at g3'
      rw [tk y2, out_snoc, if_pos hf]
      exact g3'
    have hlj : j < (cs a).length := Decidable.not_not.mp hlj'
    refine .inr ⟨w1.goes j Hj hlj e4j, P1 (j + 1), fun H'' p => ⟨(cs a).length - (j + 1), by omega, rfl, hlj, p⟩, fun x1 Hk yl1 => ?_⟩
    obtain ⟨z1, c, z2, z3⟩ := w1.yields j Hj x1 Hk hlj e4j yl1
    refine hg1 _ Hk x1 c _ _ (part_sub (e4j.trans z1)) z3 fun σ3 hS1 => ?_
    obtain ⟨hwp1, ht1, he1⟩ := hin c (mem z2) _ σ3 (part_ex.trans part_ex) hS1
    refine ⟨hwp1, ht1 Hk (part_sub (e4j.trans z1)) _ fun H6 e6 => ?_⟩
    have hD6 : H6 D = some (.lst acc') := e6 D _ (z1 D _ g1')
    have t1 : out (as.take i) ++ (((cs a).take (j + 1)).filter (f1 a)).map (m a) = (out (as.take i) ++ (((cs a).take j).filter (f1 a)).map (m a)) ++ (if f1 a c = true then [m a c] else []) := by
      rw [tk z2, List.filter_append, List.map_append, List.filter_cons, List.append_assoc]
      split
      · rfl
      · rfl
    cases hf1 : f1 a c with
    | false =>
      refine ⟨acc', hD6, g2'.trans (mns_up (z1.trans e6)), ?_⟩
      rw [t1, hf1, if_neg (by decide), List.append_nil]
      exact g3'.imp fun _ _ k => s.mono (mns_up (part_up (z1.trans e6))) k
    | true =>
      refine he1 hf1 H6 ((part_sub (e4j.trans z1)).trans e6) _ fun y H7 e7 ry => ?_
      have hl : acc'.length < 100000 := by
        have l1 := g3'.len
        rw [List.length_append, List.length_map] at l1
        have l2 := out_le (i + 1)
        rw [tk y2, out_snoc, if_pos hf, List.length_append, List.length_map] at l2
        have l3 : (((cs a).take j).filter (f1 a)).length ≤ ((cs a).filter (f1 a)).length := by
          conv => rhs; rw [← List.take_append_drop j (cs a), List.filter_append, List.length_append]
          omega
        have : (out as).length < 100000 := hn
        omega
      refine ⟨acc', e7 D _ hD6, sz_lt hl, acc' ++ [y], upd_same, ?_, ?_⟩
      · rw [mns_upd]
        exact g2'.trans (mns_up (z1.trans (e6.trans e7)))
      · rw [t1, if_pos hf1]
        refine Al.snoc (g3'.imp fun _ _ k => s.mono ((mns_up (part_up (z1.trans (e6.trans e7)))).trans part_put) k) (s.mono (Ex.trans ?_ part_put) ry)
        -- what the turn made lies beside D
        have hj4 : Ex H1 Hj := (e2.trans e2j).trans mns_sub
        have gj : Ex (part (part (part F H1 H2) H' H'') H3 H4) (part F H1 Hj) := fun q o hq => by
          have nq : q ≠ D := fun z => by
            rw [z, d4] at hq
            cases hq
          have hq4 := gsub4 q o hq
          cases hF : F q with
          | some u => rw [part_in hF] at hq4 ⊢; exact hq4
          | none =>
            cases hH : H1 q with
            | some u => rw [part_old hF hH] at hq4; cases hq4
            | none =>
              rw [part_new hF hH] at hq4 ⊢
              have := g2' q o (by rw [mns_ne nq]; exact hq4)
              rw [mns_ne nq] at this
              exact this
        have gk : Ex (part (part (part (part F H1 H2) H' H'') H3 H4) Hj Hk) (part F H1 Hk) := fun q o hq => part_elem gj e hj4 z1 g1' d4 q o hq |> mns_sub q o
        exact part_elem (gk.trans (part_up e6)) e (hj4.trans (z1.trans e6)) e7 hD6 (part_old d4 g1')
/-! ### generators -/
variable {D0 : GEnds} {tu tw tz : TGn} {ys : List V}
theorem g_for {wi : TI} {g : TG} {tb : TGn} {D : GEnds} {S : Hp → α → L2.St → L2.St → Prop} (h : Src wi σ F r as) (hg : Tgt g r S) (e : Ex F H) (Pv : Hp → List α → List V → L2.St → Hp → Prop)
    (hG : ∀ G pre ys σ' H', Pv G pre ys σ' H' → Ex G H') (h0 : ∀ H1, Ex H H1 → Pv (part F H H1) [] ys σ H1)
    (hs : ∀ G pre a post ys σ' H' H'' σ2, as = pre ++ a :: post → Pv G pre ys σ' H' → Ex H' H'' → S (part G H' H'') a σ' σ2 → tb { D with nx := Pv G (pre ++ [a]), ct := Pv G (pre ++ [a]), bk := D.nx } ys σ2 H'')
    (hd : ∀ G ys σ' H', Pv G as ys σ' H' → D.nx ys σ' H') : tGFor wi g tb D ys σ H := h H e _ fun J H1 e1 w => by
  refine ⟨fun i k ys σ' H' => k = as.length - i ∧ i ≤ as.length ∧ Pv (part F H H1) (as.take i) ys σ' H', ⟨as.length, by omega, Nat.zero_le _, h0 H1 e1⟩, ?_⟩
  rintro i k ys σ' H' ⟨rfl, hi, p⟩
  have eG := hG _ _ _ _ _ p
  by_cases hlt : i < as.length
  · refine .inr ⟨w.goes i H' hlt eG, Pv (part F H H1) (as.take (i + 1)), fun ys' σ'' H'' p' => ⟨as.length - (i + 1), by omega, rfl, hlt, p'⟩, fun x H'' yl => ?_⟩
    obtain ⟨y1, a, y2, y3⟩ := w.yields i H' x H'' hlt eG yl
    refine hg _ H'' x a σ' _ (part_sub (eG.trans y1)) y3 fun σ2 hS => ?_
    have et : as.take (i + 1) = as.take i ++ [a] := by
      rw [List.take_add_one, y2]
      rfl
    rw [et]
    exact hs (part F H H1) (as.take i) a (as.drop (i + 1)) ys σ' H' H'' σ2 (by
      rw [List.getElem?_eq_getElem hlt] at y2
      cases y2
      rw [← List.drop_eq_getElem_cons hlt, List.take_append_drop]) p y1 hS
  · have ei : i = as.length := by omega
    subst ei
    rw [List.take_length] at p
    exact .inl ⟨w.stops H' eG, hd _ _ _ _ p⟩
/-- a generator def's promise: what it hands out -/
def spG (s : Rep β) (W : (Hp → List V → Prop) → List β → Prop) : SpG := fun vs H cont _ => ∃ F P b, Ex F H ∧ MonoP P ∧ W P b ∧ P F vs ∧ ∀ xs H2, Ex H H2 → Al (s.rel (part F H H2)) xs b → cont xs H2
theorem en_listG {W : (Hp → List V → Prop) → List β → Prop} {P : Hp → List V → Prop} {E : XK} {tr : TA} (h : Ea P tr σ F) (hP : MonoP P) (w : W P bs) : En s (tListG (tCallG (spG s W) [] E tr)) σ F bs := fun H1 e Q q =>
  h H1 e _ fun vs H2 e2 k => ⟨part F H1 H2, P, bs, part_sub (e.trans e2), hP, w, by rw [List.append_nil]; exact k, fun xs H3 e3 hx p hp => q p _ ((e2.trans e3).trans (Ex.new hp)) (new_at e (e2.trans e3) hp (hx.imp fun _ _ k => s.mono (part_part e2 (Ex.refl H2) e3) k))⟩
theorem passG {X : Cx} : Passes (CX X.prog X.w) X E0 := by
  intro pins σ H s e s' I hc
  obtain ⟨_, _, _, _, _, _, _, _, _, _, _, _, hE⟩ := hc
  exact hE.elim
/-! ### isinstance -/
theorem er_isiV {n : String} {ty : String} {k : Bool} (ha : Er r ta σ F a) (ht : ∀ (H : Hp) (v : V), r.rel H v a → TyX K H v (.type ty)) (hk : PySem.W.kitOne K (.type ty) (.type n) = some k) : Er rBl (tCB (rIsi K) (tCons ta (tCons (tC (.ty n)) tNil))) σ F k := fun H1 e Q q =>
  ha H1 e _ fun v H2 e2 hv => ⟨v, .ty n, .type ty, .type n, k, rfl, .ty n, ht _ _ (r.mono (part_sub (e.trans e2)) hv), hk, q _ H2 e2 rfl⟩
theorem ty_lst {H : Hp} (h : (rLst r).rel H v as) : TyX K H v (.type "list") := by
  obtain ⟨p, xs, rfl, hp, _⟩ := h
  exact .base (.lst hp)
theorem ty_tup {H : Hp} (h : (rTup r).rel H v as) : TyX K H v (.type "tuple") := by
  obtain ⟨p, xs, rfl, hp, _⟩ := h
  exact .base (.tup hp)
theorem ty_pair {H : Hp} {c : α × β} (h : (rPair r s).rel H v c) : TyX K H v (.type "tuple") := by
  obtain ⟨p, x, y, rfl, hp, _⟩ := h
  exact .base (.tup hp)
theorem ty_int {H : Hp} {n : Int} (h : rInt.rel H v n) : TyX K H v (.type "int") := by
  cases (show v = V.int n from h)
  exact .base (.int n)
theorem ty_bl {H : Hp} {n : Bool} (h : rBl.rel H v n) : TyX K H v (.type "bool") := by
  cases (show v = V.bl n from h)
  exact .base (.bl n)
/-! ### xs[i] = e, a list of one's own -/
variable {Dn : Ends} {zz : TS}
theorem q_setItem {i : Nat} {j : Nat} (h : Er r te σ F a) (e : Ex F H) (hi : σ[i]? = some (some (.ref p))) (hm : Mu r as F H p) (hj : Er rInt tb σ F (j : Int)) (hl : j < as.length)
    (k : ∀ o H2 G, Ex H H2 → Ex F G → Ex G (upd H2 p o) → Mu r (as.set j a) G (upd H2 p o) p → (∀ c u, H c = some u → F c = none → G c = none) → zz Dn σ (upd H2 p o)) : tSeq (tAsg te (gSub (tVar i) tb rSetL)) zz Dn σ H :=
  h H e _ fun v H2 e2 hv => ⟨.ref p, hi, hj H2 (e.trans e2) _ fun w H3 e3 hw => by
    obtain ⟨h1, xs, h2, h3⟩ := hm
    cases (show w = V.int (j : Int) from hw)
    have e23 := e2.trans e3
    have hG : part F H H3 p = none := part_old h1 h2
    exact ⟨p, xs, (j : Int), j, rfl, rfl, e23 p _ h2, ixN_nat (by rw [h3.len]; exact hl), k (.lst (xs.set j v)) H3 (part F H H3) e23 part_ex (Ex.mut (part_sub (e.trans e23)) hG)
      ⟨hG, _, upd_same, Al.set (r.mono (part_up e3) hv) j (h3.imp fun _ _ k => r.mono part_ex k)⟩ fun c o hc hF => part_old hF hc⟩⟩
end
/-! ### rules with the written part named -/
section
variable {X : Cx} {K : PySem.W.Frag} {tg l : Expr} {tl ta : TE}
theorem pi_listK (hl : PE X l tl) (hK : X.K = K := by rfl) : PI X tg l (iList K tl) := hK ▸ pi_list hl
theorem pi_tupK (hl : PE X l tl) (hK : X.K = K := by rfl) : PI X tg l (iTup K tl) := hK ▸ pi_tup hl
theorem pi_enumK {e : Expr} {ta : TA} {p pos tpos : Pos} {elts : List Expr} {kk : Nat} (hg : Gl X "enumerate") (hm : X.mg "enumerate" = none) (ha : PA X [e] ta) (hs : starEach [e] X.env = [(false, eval e X.env)] := by rfl) (hK : X.K = K := by rfl) :
    PI X (.Tuple elts kk tpos) (.Call (.Name "enumerate" p) [e] [] pos) (iEnum K ta) := hK ▸ pi_enum hg hm ha hs
theorem pi_zipK {e e2 : Expr} {ta : TA} {p pos tpos : Pos} {elts : List Expr} {kk : Nat} (hg : Gl X "zip") (hm : X.mg "zip" = none) (ha : PA X [e, e2] ta)
    (hs : starEach [e, e2] X.env = (false, eval e X.env) :: starEach [e2] X.env := by rfl) (hpl : (backTo pos (starEach [e2] X.env)).any (·.1) = false := by rfl) (hK : X.K = K := by rfl) :
    PI X (.Tuple elts kk tpos) (.Call (.Name "zip" p) [e, e2] [] pos) (iZip K ta) := hK ▸ pi_zip hg hm ha hs hpl
theorem pt_tru {a : Expr} (ha : PE X a ta) (he : ∀ whole, isTrue a X.env whole = (do let v ← whole; standAt a.pos; holding [v] (truthy v))) (hK : X.K = K := by rfl) : PT X a (tTru K ta) := hK ▸ pt_truth ha he
theorem pg_tupK {es : List Expr} {k : Nat} {t : TGs} {n : Nat} {pos : Pos} (hc : X.calm = true) (h : PGs X es t) (hn : (assignEach es X.env).length = n := by rfl) (hst : (assignEach es X.env).findIdx? (·.1) = none := by rfl) (hK : X.K = K := by rfl) : PG X (.Tuple es k pos) (gTup K n t) := by
  subst hK
  exact pg_tup hc h hn hst
end
end DL
set_option Elab.async false
set_option linter.all false
set_option maxRecDepth 100000
set_option maxHeartbeats 4000000
/-! sorted of a tuple of ints -/
namespace DL
open PySem PySem.Spec PyProof.Rows L2 Evl
section
variable {prog : Program} {w : World} {A : Around} {E : Value → Shared → Prop} {s : Shared}
/-- the heap behind the collecting of vs -/
abbrev gath (h : Heap) (vs : List Value) : Heap := (h.push (seqObj "list" #[] 0)).update h.objs.size (Obj.mapSeq (· ++ vs.toArray))
theorem gather_tup {t : Addr} {vs : List Value} {R : List Value → Shared → Prop} (ht : IsTup s.heap t vs.toArray) (k : R vs { s with heap := gath s.heap vs }) (fit : vs.length ≤ sizeLine) :
    wpAny (model prog w) A (collect (.ref t)) R E s := by
  obtain ⟨ob, at_t, cls_t, cnt, dat_t⟩ := id ht
  have at_t' : (s.heap.push (seqObj "list" #[] 0)).get? t = some ob := Heap.get?_push_of_some _ at_t
  have at_new : (s.heap.push (seqObj "list" #[] 0)).get? s.heap.objs.size = some (seqObj "list" #[] 0) := Heap.get?_push_size _ rfl
  unfold collect
  refine wpAny_bind (wpAny_runValue (codeAny_builtin entry_proto_collect' ?_))
  show wpAny _ _ (do again (.builtin "list.__iadd__" ⟨[← newList [], .ref t], []⟩)) _ _ s
  refine wpAny_bind (wpAny_newList (wpAny_pure ⟨Code.quiet_builtin _ (by decide +kernel), codeAny_builtin entry_list_iadd' ?_⟩))
  show wpAny _ _ (Builtin.List.listExtendWith (.ref s.heap.objs.size) (.ref t) (.ref s.heap.objs.size)) _ _ { s with heap := s.heap.push (seqObj "list" #[] 0) }
  unfold Builtin.List.listExtendWith
  refine wpAny_bind (wpAny_typeOf (T := "tuple") ⟨ob, at_t', cls_t⟩ ?_)
  have yes : (Value.type "tuple" == Value.type "tuple") = true := by rfl
  rw [if_pos (by rw [yes, Bool.or_true])]
  refine wpAny_bind (listItems_at at_t' dat_t ?_)
  refine wpAny_bind (listItems_at (xs := #[]) (n := 0) at_new rfl ?_)
  rw [if_neg (by simp)]
  refine wpAny_bind (listUpdate_at (xs := #[]) (n := 0) at_new rfl ?_ (Nat.zero_le _) (by
    show (#[] ++ vs.toArray).size ≤ sizeLine + 1
    simp only [Array.size_append, List.size_toArray, List.length_nil]
    omega))
  refine wpAny_pure ?_
  show wpAny (model prog w) A (do
      let o ← load s.heap.objs.size
      match o.data with
      | .seq xs _ => pure xs.toList
      | _ => unsupported "internal:collect") R E { s with heap := gath s.heap vs }
  refine wpAny_bind (wpAny_load (get?_update_seq at_new _) ?_)
  show wpAny _ _ (pure ((#[] : Array Value) ++ vs.toArray).toList) R E _
  have ev : ((#[] : Array Value) ++ vs.toArray).toList = vs := by simp
  rw [ev]
  exact wpAny_pure k
theorem sorted_tup {t : Addr} {vs : List Value} {ltv : Value → Value → Bool} {R : Value → Shared → Prop} (O : SrtO.Swo ltv) (ht : IsTup s.heap t vs.toArray) (fit : vs.length ≤ sizeLine)
    (hS : 2 ≤ vs.length → ∀ (h₁ : Heap) (a : Addr), SrtO.SortableO prog w A.in1.in1 { s with heap := h₁ } a vs ltv)
    (k : ∀ out : List Value, SrtO.Srtd ltv out → SrtO.Stb ltv out vs → R (.ref (s.heap.objs.size + 1)) { s with heap := sortedAll s.heap vs out.toArray }) :
    wpAny (model prog w) A (call (.builtin "sorted") [.ref t]) R E s := by
  refine Calls.call_function_entry kind_sorted plain_sorted entry_sorted (args_sorted1 _) ?_
  unfold Builtin.«sorted»
  refine wpAny_bind (m := checkCount "sorted" 1 1 _) (wpAny_pure ?_)
  refine wpAny_bind (gather_tup ht ?_ fit)
  refine wpAny_bind (wpAny_newList ?_ fit)
  have sz : (gath s.heap vs).objs.size = s.heap.objs.size + 1 := by
    show ((s.heap.push (seqObj "list" #[] 0)).update _ _).objs.size = _
    rw [Heap.size_update, size_push']
  have at_l : ((gath s.heap vs).push (seqObj "list" vs.toArray 0)).get? (s.heap.objs.size + 1) = some (seqObj "list" vs.toArray 0) := by
    rw [← sz]
    exact Heap.get?_push_size _ rfl
  show wpAny _ _ _ _ _ { s with heap := (gath s.heap vs).push (seqObj "list" vs.toArray 0) }
  rw [sz]
  refine wpAny_bind (wpAny_holding (wpAny_call_entry slot_list_sort ⟨_, at_l, rfl⟩ entry_list_sort (SrtO.list_sort_ord O at_l fit (fun h2 => hS h2 _ _) fun out hs hb => ⟨_, rfl, ?_⟩) (args_list_sort _)))
  exact wpAny_pure ⟨_, rfl, k out hs hb⟩
end
section
variable {X : Cx}
def rSortedT2 (K : PySem.W.Frag) : List V → Hp → VK → Prop := fun vs H Q => ∃ (a : Addr) (ns : List Int), vs = [V.ref a] ∧ SqT K H a (ns.map V.int) ∧
  ∀ (ms : List Int) (p : Addr), ms.Perm ns → ms.Pairwise (· ≤ ·) → H p = none → Q (.ref p) (upd H p (.lst (ms.map V.int)))
theorem cr_sortedT2 : CallR X (.builtin "sorted") (rSortedT2 X.K) := by
  intro pins s σ H vs us Q I r h
  obtain ⟨a, ns, rfl, hs, q⟩ := h
  obtain ⟨its, rv, ht, fit⟩ := I.tuple hs
  rw [Vals.ref1 r]
  have hints := rv.ints
  refine sorted_tup SrtO.swo_int ht (by rw [← rv.length]; exact fit) (fun h2 h₁ a' => SrtO.ints_sortable hints h2) fun out h1 h2 => ?_
  obtain ⟨k1, k2, k3⟩ := SrtO.ints_out hints h1 h2
  obtain ⟨ep, he⟩ := PyProof.Rows.sortedAll_at s.heap its out.toArray
  have len : ((out.map SrtO.iv).map V.int).length ≤ sizeLine := by
    rw [List.length_map, k2.length_eq]
    rw [List.length_map] at fit
    exact fit
  have new : H (s.heap.objs.size + 1) = none := I.hok.fresh (Nat.le_succ _)
  exact ⟨.ref _, upd H (s.heap.objs.size + 1) (.lst ((out.map SrtO.iv).map V.int)), I.laid (t' := s.toks) (fun _ _ => PyProof.Rows.sortedAll_old) (Nat.le_succ _) ⟨len, out, ep, vals_of_ints k1, he⟩, rfl, q _ _ k2 k3 new⟩
end
section
variable {K : PySem.W.Frag} {σ : L2.St} {F : Hp} {ta : TE}
theorem en_sortT {ns ms : List Int} (h : Er (rTup rInt) ta σ F ns) (hm : ∀ ns' : List Int, ns'.Perm ns → ns'.Pairwise (· ≤ ·) → ns' = ms) : En rInt (tCB (rSortedT2 K) (tCons ta tNil)) σ F ms := fun H1 e Q q => h H1 e _ fun v H2 e2 ⟨p, xs, hx, hp, hal⟩ => by
  rw [rel_ints hal] at hp
  refine ⟨p, ns, congrArg (· :: []) hx, SqT.of (part_sub (e.trans e2) p _ hp), fun ns' c h1 h2 hc => ?_⟩
  rw [hm ns' h1 h2]
  exact q c _ (e2.trans (Ex.new hc)) (new_at e e2 hc (ints_rel ms))
end
end DL
set_option Elab.async false
set_option linter.all false
set_option maxRecDepth 100000
set_option maxHeartbeats 4000000
/-! the world of a def's body: F0, H0 at its entry; G what stands still by now; H the heap by now -/
namespace DL
open PySem L2 Evl
structure Wd (F0 H0 G H : Hp) : Prop where
  old : Ex F0 G
  sub : Ex G H
  up : Ex H0 H
  nw : ∀ q u, G q = some u → F0 q = none → H0 q = none
/-- from one point to the next: but the object at x all that stood stands, nothing that was open has come into the frame -/
structure Stp (x : Option Addr) (G H G2 H2 : Hp) : Prop where
  fr : Ex G G2
  hp : ∀ c u, H c = some u → ∃ u2, H2 c = some u2 ∧ (some c ≠ x → u2 = u)
  nw : ∀ c u, H c = some u → G c = none → G2 c = none
section
variable {α β γ δ : Type} {K : PySem.W.Frag} {σ σ2 : L2.St} {F0 H0 F G G2 G3 H H1 H2 H3 : Hp} {ta tb te tl : TE} {t : TT} {v : V} {r : Rep α} {s : Rep β} {a : α} {b : β} {as : List α} {bs : List β} {p q : Addr} {x y : Option Addr}
theorem Stp.at (s : Stp x G H G2 H2) {c : Addr} {u : HO} (n : some c ≠ x) (h : H c = some u) : H2 c = some u := by
  obtain ⟨u2, h1, h2⟩ := s.hp c u h
  rw [h1, h2 n]
theorem Stp.ex (s : Stp none G H G2 H2) : Ex H H2 := fun c u h => s.at (fun z => nomatch z) h
theorem Stp.refl : Stp x G H G H := ⟨Ex.refl _, fun _ u h => ⟨u, h, fun _ => rfl⟩, fun _ _ _ h => h⟩
theorem Stp.trans (a : Stp x G H G2 H2) (b : Stp x G2 H2 G3 H3) : Stp x G H G3 H3 := ⟨a.fr.trans b.fr, fun c u h => by
  obtain ⟨u2, h1, h2⟩ := a.hp c u h
  obtain ⟨u3, h3, h4⟩ := b.hp c u2 h1
  exact ⟨u3, h3, fun n => (h4 n).trans (h2 n)⟩, fun c u h n => by
  obtain ⟨u2, h1, _⟩ := a.hp c u h
  exact b.nw c u2 h1 (a.nw c u h n)⟩
theorem Stp.any (a : Stp none G H G2 H2) : Stp x G H G2 H2 := ⟨a.fr, fun c u h => by
  obtain ⟨u2, h1, h2⟩ := a.hp c u h
  exact ⟨u2, h1, fun _ => h2 fun z => nomatch z⟩, a.nw⟩
theorem stp_ev (e : Ex H H2) : Stp none G H (part G H H2) H2 := ⟨part_ex, fun c u h => ⟨u, e c u h, fun _ => rfl⟩, fun c u h n => part_old n h⟩
theorem stp_same (e : Ex H H2) : Stp none G H G H2 := ⟨Ex.refl _, fun c u h => ⟨u, e c u h, fun _ => rfl⟩, fun _ _ _ n => n⟩
theorem stp_new (n : New r as G H H2 p) (e0 : Ex G H) (e : Ex H H2) : Stp none G H (mns (part G H H2) p) H2 := ⟨n.ex e0, fun c u h => ⟨u, e c u h, fun _ => rfl⟩, fun c u h g => by
  by_cases hc : c = p
  · rw [hc, mns_at]
  · rw [mns_ne hc, part_old g h]⟩
theorem stp_put {o : HO} : Stp (some p) G H G (upd H p o) := ⟨Ex.refl _, fun c u h => by
  by_cases hc : c = p
  · subst hc
    exact ⟨o, upd_same, fun n => absurd rfl n⟩
  · exact ⟨u, (upd_ne hc).trans h, fun _ => rfl⟩, fun _ _ _ n => n⟩
theorem part_into {F H1 Hc H4 G : Hp} (eG : Ex G (part F H1 Hc)) (e0 : Ex F H1) (e1 : Ex H1 Hc) (e : Ex Hc H4) : Ex (part G Hc H4) (part F H1 H4) := fun q u hq => by
  cases hg : G q with
  | some z =>
    rw [part_in hg] at hq
    rw [← hq]
    exact part_up e q z (eG q z hg)
  | none =>
    cases hc : Hc q with
    | some z => rw [part_old hg hc] at hq; cases hq
    | none =>
      rw [part_new hg hc] at hq
      have n1 : H1 q = none := back_none e1 hc
      rw [part_new (back_none e0 n1) n1]
      exact hq
/-! worlds -/
theorem Wd.start (e : Ex F H) : Wd F H F H := ⟨Ex.refl _, e, Ex.refl _, fun q u h n => by
  rw [h] at n
  cases n⟩
theorem Wd.step (w : Wd F0 H0 G H) (s : Stp none G H G2 H2) (sub : Ex G2 H2) : Wd F0 H0 G2 H2 := ⟨w.old.trans s.fr, sub, w.up.trans s.ex, fun q u h n => by
  cases h0 : H0 q with
  | none => rfl
  | some z =>
    have hq := w.up q z h0
    cases g : G q with
    | none =>
      rw [s.nw q z hq g] at h
      cases h
    | some y =>
      rw [w.nw q y g n] at h0
      cases h0⟩
theorem Wd.ev (w : Wd F0 H0 G H) (e : Ex H H2) : Wd F0 H0 (part G H H2) H2 := w.step (stp_ev e) (part_sub (w.sub.trans e))
theorem Wd.same (w : Wd F0 H0 G H) (e : Ex H H2) : Wd F0 H0 G H2 := w.step (stp_same e) (w.sub.trans e)
theorem Wd.new (w : Wd F0 H0 G H) (n : New r as G H H2 p) (e : Ex H H2) : Wd F0 H0 (mns (part G H H2) p) H2 := w.step (stp_new n w.sub e) (n.sub w.sub e)
theorem Wd.put (w : Wd F0 H0 G H) {o : HO} (hG : G p = none) (h0 : H0 p = none) : Wd F0 H0 G (upd H p o) := ⟨w.old, Ex.mut w.sub hG, Ex.mut w.up h0, w.nw⟩
theorem Wd.into (w : Wd F0 H0 G H) : Ex G (part F0 H0 H) := fun q u h => by
  cases f : F0 q with
  | some z =>
    rw [part_in f, ← h]
    exact (w.old q z f).symm
  | none =>
    rw [part_new f (w.nw q u h f)]
    exact w.sub q u h
/-- what stands there at the end, for the caller -/
theorem Wd.out (w : Wd F0 H0 G H) (h : r.rel (part G H H2) v a) (e : Ex H H2) : r.rel (part F0 H0 H2) v a := r.mono ((w.ev e).into) h
theorem Wd.outN (w : Wd F0 H0 G H) (n : New r as G H H2 p) (e : Ex H H2) : New r as F0 H0 H2 p := by
  obtain ⟨h1, xs, h2, h3⟩ := n
  exact ⟨back_none w.up h1, xs, h2, h3.imp fun _ _ k => r.mono (mns_up (w.ev e).into) k⟩
theorem Wd.outMu (w : Wd F0 H0 G H) (m : Mu r as G H p) (h0 : H0 p = none) : New r as F0 H0 H p := by
  obtain ⟨h1, xs, h2, h3⟩ := m
  exact ⟨h0, xs, h2, h3.imp fun _ _ k => r.mono (ex_mns w.into h1) k⟩
/-! lists of one's own -/
theorem Mu.step (h : Mu r as G H p) (s : Stp x G H G2 H2) (n : some p ≠ x) : Mu r as G2 H2 p := by
  obtain ⟨h1, xs, h2, h3⟩ := h
  exact ⟨s.nw p _ h2 h1, xs, s.at n h2, h3.imp fun _ _ k => r.mono s.fr k⟩
theorem Mu.go (h : Mu r as G H p) (s : Stp none G H G2 H2) : Mu r as G2 H2 p := h.step s fun z => nomatch z
/-! statements; w: something behind, v: the last -/
variable {D : Ends} {tu tw tz : TS} {g : TG} {i : Nat}
theorem v_asg (w : Wd F0 H0 G H) (h : Er r te σ G a) (k : ∀ v G2 H2, Wd F0 H0 G2 H2 → Stp none G H G2 H2 → r.rel G2 v a → D.nx (σ.set i (some v)) H2) : tAsg te (gName i) D σ H := h H w.sub _ fun v H2 e hv => k v _ H2 (w.ev e) (stp_ev e) hv
theorem w_asg (w : Wd F0 H0 G H) (h : Er r te σ G a) (k : ∀ v G2 H2, Wd F0 H0 G2 H2 → Stp none G H G2 H2 → r.rel G2 v a → tz D (σ.set i (some v)) H2) : tSeq (tAsg te (gName i)) tz D σ H := v_asg (D := { D with nx := tz D }) w h k
theorem v_asgI {n : Int} (w : Wd F0 H0 G H) (h : Er rInt te σ G n) (k : ∀ H2, Wd F0 H0 G H2 → Stp none G H G H2 → D.nx (σ.set i (some (.int n))) H2) : tAsg te (gName i) D σ H := h H w.sub _ fun v H2 e hv => by
  rw [show v = V.int n from hv]
  exact k H2 (w.same e) (stp_same e)
theorem w_asgI {n : Int} (w : Wd F0 H0 G H) (h : Er rInt te σ G n) (k : ∀ H2, Wd F0 H0 G H2 → Stp none G H G H2 → tz D (σ.set i (some (.int n))) H2) : tSeq (tAsg te (gName i)) tz D σ H := v_asgI (D := { D with nx := tz D }) w h k
theorem v_asgN (w : Wd F0 H0 G H) (h : En r te σ G as) (k : ∀ p G2 H2, Wd F0 H0 G2 H2 → Stp none G H G2 H2 → Mu r as G2 H2 p → H p = none → D.nx (σ.set i (some (.ref p))) H2) : tAsg te (gName i) D σ H := h H w.sub _ fun p H2 e n => k p _ H2 (w.new n e) (stp_new n w.sub e) n.mu n.1
theorem w_asgN (w : Wd F0 H0 G H) (h : En r te σ G as) (k : ∀ p G2 H2, Wd F0 H0 G2 H2 → Stp none G H G2 H2 → Mu r as G2 H2 p → H p = none → tz D (σ.set i (some (.ref p))) H2) : tSeq (tAsg te (gName i)) tz D σ H := v_asgN (D := { D with nx := tz D }) w h k
theorem v_ret (w : Wd F0 H0 G H) (h : Er r te σ G a) (k : ∀ v H2, Ex H0 H2 → r.rel (part F0 H0 H2) v a → D.rt v H2) : tRet te D σ H := h H w.sub _ fun v H2 e hv => k v H2 (w.up.trans e) (w.out hv e)
theorem v_retI {n : Int} (w : Wd F0 H0 G H) (h : Er rInt te σ G n) (k : ∀ H2, Ex H0 H2 → D.rt (.int n) H2) : tRet te D σ H := h H w.sub _ fun v H2 e hv => by
  rw [show v = V.int n from hv]
  exact k H2 (w.up.trans e)
theorem v_retB {n : Bool} (w : Wd F0 H0 G H) (h : Er rBl te σ G n) (k : ∀ H2, Ex H0 H2 → D.rt (.bl n) H2) : tRet te D σ H := h H w.sub _ fun v H2 e hv => by
  rw [show v = V.bl n from hv]
  exact k H2 (w.up.trans e)
theorem v_retN (w : Wd F0 H0 G H) (h : En r te σ G as) (k : ∀ p H2, Ex H0 H2 → New r as F0 H0 H2 p → D.rt (.ref p) H2) : tRet te D σ H := h H w.sub _ fun p H2 e n => k p H2 (w.up.trans e) (w.outN n e)
theorem v_retM (w : Wd F0 H0 G H) (hi : σ[i]? = some (some (.ref p))) (m : Mu r as G H p) (h0 : H0 p = none) (k : New r as F0 H0 H p → D.rt (.ref p) H) : tRet (tVar i) D σ H := ⟨_, hi, k (w.outMu m h0)⟩
theorem v_if {b : Bool} (w : Wd F0 H0 G H) (h : EvT t σ G b) (h1 : b = true → ∀ H2, Wd F0 H0 G H2 → Stp none G H G H2 → tu D σ H2) (h2 : b = false → ∀ H2, Wd F0 H0 G H2 → Stp none G H G H2 → tw D σ H2) : tIfS t tu tw D σ H := h H w.sub _ fun H2 e => by
  cases b with
  | true =>
    show tu D σ H2
    exact h1 rfl H2 (w.same e) (stp_same e)
  | false =>
    show tw D σ H2
    exact h2 rfl H2 (w.same e) (stp_same e)
theorem w_if {b : Bool} (w : Wd F0 H0 G H) (h : EvT t σ G b) (h1 : b = true → ∀ H2, Wd F0 H0 G H2 → Stp none G H G H2 → tu { D with nx := tz D } σ H2) (h2 : b = false → ∀ H2, Wd F0 H0 G H2 → Stp none G H G H2 → tw { D with nx := tz D } σ H2) : tSeq (tIfS t tu tw) tz D σ H := v_if (D := { D with nx := tz D }) w h h1 h2
theorem w_when {b : Bool} (w : Wd F0 H0 G H) (h : EvT t σ G b) (h1 : b = true → ∀ H2, Wd F0 H0 G H2 → Stp none G H G H2 → tu { D with nx := tz D } σ H2) (h2 : b = false → ∀ H2, Wd F0 H0 G H2 → Stp none G H G H2 → tz D σ H2) : tSeq (tIfS t tu tNext) tz D σ H := v_if (D := { D with nx := tz D }) w h h1 h2
theorem v_when {b : Bool} (w : Wd F0 H0 G H) (h : EvT t σ G b) (h1 : b = true → ∀ H2, Wd F0 H0 G H2 → Stp none G H G H2 → tu D σ H2) (h2 : b = false → ∀ H2, Wd F0 H0 G H2 → Stp none G H G H2 → D.nx σ H2) : tIfS t tu tNext D σ H := v_if w h h1 h2
/-- if c: return False, where c is false -/
theorem w_no {b : Bool} (w : Wd F0 H0 G H) (h : EvT t σ G b) (hb : b = false) (k : ∀ H2, Wd F0 H0 G H2 → Stp none G H G H2 → tz D σ H2) : tSeq (tIfS t tu tNext) tz D σ H := w_when w h (fun z => by rw [hb] at z; cases z) fun _ => k
theorem v_no {b : Bool} (w : Wd F0 H0 G H) (h : EvT t σ G b) (hb : b = false) (k : ∀ H2, Wd F0 H0 G H2 → Stp none G H G H2 → D.nx σ H2) : tIfS t tu tNext D σ H := v_when w h (fun z => by rw [hb] at z; cases z) fun _ => k
/-- the same, asked over another frame -/
theorem w_noF {b : Bool} (w : Wd F0 H0 G H) (e0 : Ex G2 H) (h : EvT t σ G2 b) (hb : b = false) (k : ∀ H2, Wd F0 H0 G H2 → Stp none G H G H2 → tz D σ H2) : tSeq (tIfS t tu tNext) tz D σ H := h H e0 _ fun H2 e => by
  subst hb
  show tz D σ H2
  exact k H2 (w.same e) (stp_same e)
/-- xs[i] = e, a list of one's own -/
theorem w_put {tb : TE} {j : Nat} (w : Wd F0 H0 G H) (h : Er r te σ G a) (hi : σ[i]? = some (some (.ref p))) (m : Mu r as G H p) (h0 : H0 p = none) (hj : Er rInt tb σ G (j : Int)) (hl : j < as.length)
    (k : ∀ G2 H2, Wd F0 H0 G2 H2 → Stp (some p) G H G2 H2 → Mu r (as.set j a) G2 H2 p → tz D σ H2) : tSeq (tAsg te (gSub (tVar i) tb rSetL)) tz D σ H :=
  h H w.sub _ fun v H2 e2 hv => ⟨.ref p, hi, hj H2 (w.sub.trans e2) _ fun x H3 e3 hx => by
    obtain ⟨h1, xs, h2, h3⟩ := m
    cases (show x = V.int (j : Int) from hx)
    have e23 := e2.trans e3
    have hG : part G H H3 p = none := part_old h1 h2
    exact ⟨p, xs, (j : Int), j, rfl, rfl, e23 p _ h2, ixN_nat (by rw [h3.len]; exact hl), k (part G H H3) _ ((w.ev e23).put hG h0) (Stp.trans (stp_ev e23).any stp_put)
      ⟨hG, _, upd_same, Al.set (r.mono (part_up e3) hv) j (h3.imp fun _ _ k => r.mono part_ex k)⟩⟩⟩
theorem v_app (w : Wd F0 H0 G H) (hi : σ[i]? = some (some (.ref p))) (m : Mu r as G H p) (h0 : H0 p = none) (hl : as.length < 100000) (h : Er r te σ G a)
    (k : ∀ G2 H2, Wd F0 H0 G2 H2 → Stp (some p) G H G2 H2 → Mu r (as ++ [a]) G2 H2 p → D.nx σ H2) : tDrop (tBM K "list" rAppend (tVar i) (tCons te tNil)) D σ H := by
  obtain ⟨h1, xs, h2, h3⟩ := m
  refine ⟨_, hi, Or.inl ⟨rfl, xs, SqL.of h2⟩, h H w.sub _ fun v H2 e2 hv => ⟨p, xs, v, rfl, rfl, e2 p _ h2, by rw [h3.len]; exact sz_lt hl, ?_⟩⟩
  have hG : part G H H2 p = none := part_old h1 h2
  exact k (part G H H2) _ ((w.ev e2).put hG h0) (Stp.trans (stp_ev e2).any stp_put) ⟨hG, _, upd_same, Al.snoc (h3.imp fun _ _ k => r.mono part_ex k) hv⟩
theorem w_app (w : Wd F0 H0 G H) (hi : σ[i]? = some (some (.ref p))) (m : Mu r as G H p) (h0 : H0 p = none) (hl : as.length < 100000) (h : Er r te σ G a)
    (k : ∀ G2 H2, Wd F0 H0 G2 H2 → Stp (some p) G H G2 H2 → Mu r (as ++ [a]) G2 H2 p → tz D σ H2) : tSeq (tDrop (tBM K "list" rAppend (tVar i) (tCons te tNil))) tz D σ H := v_app (D := { D with nx := tz D }) w hi m h0 hl h k
/-- a list of one's own, to be read as it stands -/
theorem Mu.froz (m : Mu r as G H p) (w : Wd F0 H0 G H) (h0 : H0 p = none) : ∃ G2, Wd F0 H0 G2 H ∧ Ex G G2 ∧ (rLst r).rel G2 (.ref p) as ∧ ∀ c, c ≠ p → G2 c = G c := by
  obtain ⟨h1, xs, h2, h3⟩ := m
  refine ⟨upd G p (.lst xs), ⟨w.old.trans (Ex.new h1), fun q o hq => ?_, w.up, fun q u hq hn => ?_⟩, Ex.new h1, ⟨p, xs, rfl, upd_same, h3.imp fun _ _ k => r.mono (Ex.new h1) k⟩, fun c hc => upd_ne hc⟩
  · by_cases hqp : q = p
    · subst hqp
      rw [upd_same] at hq
      rw [← hq]
      exact h2
    · rw [upd_ne hqp] at hq
      exact w.sub q o hq
  · by_cases hqp : q = p
    · subst hqp
      exact h0
    · rw [upd_ne hqp] at hq
      exact w.nw q u hq hn
def MonoS (S : Hp → α → L2.St → L2.St → Prop) : Prop := ∀ G G2 a σ σ2, Ex G G2 → S G a σ σ2 → S G2 a σ σ2
theorem mono_sn {j : Nat} : MonoS (SN r j) := fun _ _ _ _ _ e ⟨x, h, k⟩ => ⟨x, r.mono e h, k⟩
theorem mono_sp {i j : Nat} : MonoS (SPr r s i j) := fun _ _ _ _ _ e ⟨x, y, h, h2, k⟩ => ⟨x, y, r.mono e h, s.mono e h2, k⟩
/-- what is wanted between two turns of a loop: G1 the frame of what it goes through -/
def Nxt (F0 H0 G1 : Hp) (Pv : L2.St → Hp → Hp → Prop) : L2.St → Hp → Prop := fun σ H => ∃ G, Wd F0 H0 G H ∧ Ex G1 G ∧ Pv σ G H
/-- for: what holds between two turns, by the items taken -/
theorem v_for {wi : TI} {tb : TS} {S : Hp → α → L2.St → L2.St → Prop} (w : Wd F0 H0 G H) (h : Src wi σ G r as) (hg : Tgt g r S) (hm : MonoS S) (Pv : List α → L2.St → Hp → Hp → Prop)
    (h0 : ∀ G1 H1, Wd F0 H0 G1 H1 → Stp none G H G1 H1 → Pv [] σ G1 H1)
    (hs : ∀ G1 pre a post σ' σ2 G' H' G2 H2, as = pre ++ a :: post → Pv pre σ' G' H' → Stp none G' H' G2 H2 → Wd F0 H0 G2 H2 → Ex G1 G2 → S G2 a σ' σ2 →
      tb { D with nx := Nxt F0 H0 G1 (Pv (pre ++ [a])), ct := Nxt F0 H0 G1 (Pv (pre ++ [a])), bk := D.nx } σ2 H2)
    (hd : ∀ σ' G' H', Wd F0 H0 G' H' → Pv as σ' G' H' → D.nx σ' H') : tFor wi g tb D σ H := by
  refine d_for h hg w.sub (fun G1 pre => Nxt F0 H0 G1 (Pv pre)) (fun G1 pre σ' H' ⟨G', w', e', _⟩ => e'.trans w'.sub) (fun H1 e1 => ?_) (fun G1 pre a post σ' H' H2 σ2 has ⟨G', w', e', hP⟩ e2 hS => ?_) (fun G1 σ' H' ⟨G', w', _, hP⟩ => hd σ' G' H' w' hP)
  · exact ⟨_, w.ev e1, Ex.refl _, h0 _ H1 (w.ev e1) (stp_ev e1)⟩
  · exact hs G1 pre a post σ' σ2 G' H' (part G' H' H2) H2 has hP (stp_ev e2) (w'.ev e2) (e'.trans part_ex) (hm _ _ _ _ _ (part_frame e' w'.sub) hS)
theorem w_for {wi : TI} {S : Hp → α → L2.St → L2.St → Prop} (w : Wd F0 H0 G H) (h : Src wi σ G r as) (hg : Tgt g r S) (hm : MonoS S) (Pv : List α → L2.St → Hp → Hp → Prop)
    (h0 : ∀ G1 H1, Wd F0 H0 G1 H1 → Stp none G H G1 H1 → Pv [] σ G1 H1)
    (hs : ∀ G1 pre a post σ' σ2 G' H' G2 H2, as = pre ++ a :: post → Pv pre σ' G' H' → Stp none G' H' G2 H2 → Wd F0 H0 G2 H2 → Ex G1 G2 → S G2 a σ' σ2 →
      tu { D with nx := Nxt F0 H0 G1 (Pv (pre ++ [a])), ct := Nxt F0 H0 G1 (Pv (pre ++ [a])), bk := tz D } σ2 H2)
    (hd : ∀ σ' G' H', Wd F0 H0 G' H' → Pv as σ' G' H' → tz D σ' H') : tSeq (tFor wi g tu) tz D σ H := v_for (D := { D with nx := tz D }) w h hg hm Pv h0 hs hd
end
end DL
set_option Elab.async false
set_option linter.all false
set_option maxRecDepth 100000
set_option maxHeartbeats 4000000
namespace DL
open PySem PySem.Spec PySem.W PySem.Calls PyProof.Rows L2 Evl
/-! ### the key of an item: its worth negated, its lot -/
def rkA (p : Pos) : Arguments := { posonlyargs := [], args := [{ arg := "item", annotation := none, pos := p }], vararg := none, kwonlyargs := [], kw_defaults := [], kwarg := none, defaults := [] }
def rkB (k1 k2 : Nat) (p1 p2 p3 p4 p5 p6 p7 p8 p9 p10 : Pos) : List Stmt :=
  [.Assign [.Tuple [.Name "worth" p1, .Name "lot" p2] k1 p3] (.Name "item" p4) p5,
   .Return (some (.Tuple [.UnaryOp .USub (.Name "worth" p6) p7, .Name "lot" p8] k2 p9)) p10]
def rkS : Scope := { kind := .function, names := [(PySem.Str.ofString "item", .local), (PySem.Str.ofString "worth", .local), (PySem.Str.ofString "lot", .local)], isGenerator := false, isCoroutine := false, more := [] }
theorem ldK {M : Model} {s : Shared} {name : Str} {scope : Scope} {L a : Addr} {cd : Value} {m : Str → Option Value} {x : Str} {pos : Pos} {v : Value} {Q : Value → Shared → Prop} {A : Around} {E : Value → Shared → Prop} (hn : s.heap.Ns L m) (hv : m x = some v) (h : Q v s)
    (hk : scope.kind = .function := by rfl) (hl : (envOfC name scope L a cd).kindOf x = some .local := by rfl) (hd : (x == ("__debug__" : Str)) = false := by decide) :
    wpAny M A (eval (.Name x pos) (envOfC name scope L a cd)) Q E s := wpAny_Name (wpAny_loadName_local hk hl hn hv h) hd
def keyOf (w : Int) (ls : List Int) : PyData := .tuple [.int (-w), .tuple (ls.map .int)]
section
variable {prog : Program} {wo : World} {A : Around} {s : Shared} {K : Frag} {f : Addr} {fd : FuncData} {st : Stmt}
theorem rank_call {pa : Pos} {k1 k2 : Nat} {p1 p2 p3 p4 p5 p6 p7 p8 p9 p10 : Pos} (X : K.In s.heap) (hlim : s.heap.NoLimit) (F : Fun K "rank" "rank" st f fd) (ha : defArgs st = rkA pa) (hb : defBody st = rkB k1 k2 p1 p2 p3 p4 p5 p6 p7 p8 p9 p10) (hs : defScope st = rkS)
    (hh : A.handled = none) (hroom : A.depth < recursionLimit) {p q : Addr} {w : Int} {t : Nat} {ls : List Int} (hp : IsTup s.heap p #[.int w t, .ref q]) (hq : Reads s.heap (.ref q) (.tuple (ls.map .int)) []) :
    wpAny (model prog wo) A (call (.ref f) [.ref p]) (KeyPure (keyOf w ls) s) (fun _ _ => False) s := by
  obtain ⟨oc, od, kV, doc, pm, an, cdv, ct, osl, rfl, lk, hcd⟩ := F.ex
  rw [ha, hb, hs] at lk
  refine wpAny_call (Att.call_fn (binds := [("item", .ref p)]) X hlim lk hcd hroom (BindsTo.of_eq (by first | rfl | with_unfolding_all rfl)) (by first | rfl | decide | with_unfolding_all rfl) (fun s₁ IC => ?_) rfl rfl rfl)
  obtain ⟨h₁, tk₁, rfl⟩ := IC.toInCall.same
  have k : ∀ b o, s.heap.get? b = some o → h₁.get? b = some o := IC.toInCall.keep
  have hn := IC.toInCall.ns
  have z : s.heap.objs.size < h₁.objs.size := hn.lt
  show wpAny _ _ (execs (rkB k1 k2 p1 p2 p3 p4 p5 p6 p7 p8 p9 p10) _) _ _ _
  refine wpAny_execs_cons (Assign_Tuple ?_)
  refine ldK (v := .ref p) hn (by first | rfl | with_unfolding_all rfl | kernel_rfl) ?_
  refine assign_Tuple_tuple hh (hp.keeps k) rfl rfl fun h₂ he => ?_
  have k2 : ∀ b o, s.heap.get? b = some o → h₂.get? b = some o := fun b o e => he b o (Nat.ne_of_lt (Nat.lt_trans (Heap.lt_size e) z)) (k b o e)
  have hn2 := hn.extBut he (Nat.ne_of_lt z)
  refine assignInOrder_cons (wpAny_assign_Name (wpAny_storeName_local rfl hn2 fun h₃ hn3 sm => ?_))
  have k3 : ∀ b o, s.heap.get? b = some o → h₃.get? b = some o := fun b o e => sm.extBut b o (Nat.ne_of_lt (Heap.lt_size e)) (k2 b o e)
  refine assignInOrder_cons (wpAny_assign_Name (wpAny_storeName_local rfl hn3 fun h₄ hn4 sm4 => ?_))
  have k4 : ∀ b o, s.heap.get? b = some o → h₄.get? b = some o := fun b o e => sm4.extBut b o (Nat.ne_of_lt (Heap.lt_size e)) (k3 b o e)
  refine assignInOrder_nil ?_
  refine wpAny_execs_cons (wpAny_Return_some (wpAny_Tuple ?_))
  refine wpAny_items_cons (wpAny_UnaryOp (ldK (v := .int w t) hn4 (by first | rfl | with_unfolding_all rfl | kernel_rfl) (neg_int ?_)))
  refine wpAny_items_cons (ldK (v := .ref q) hn4 (by first | rfl | with_unfolding_all rfl | kernel_rfl) ?_)
  refine spliced_nil ⟨by rw [sizeLine_eq]; exact (by decide : 2 ≤ 16777216), ?_⟩
  refine ⟨_, _, rfl, fun b o e => Heap.get?_push_of_some _ (k4 b o e), ?_⟩
  exact .tuple (as := []) (Heap.get?_push_size _ rfl) rfl rfl (.cons (as := []) (bs := []) (.int _ _) (.cons (as := []) (bs := []) (PyProof.Rows.Reads.keeps (fun b o e => Heap.get?_push_of_some _ (k4 b o e)) hq) .nil))
end

/-! ### the order of items: the greater worth first, then the lesser lot -/
abbrev Itm := Int × List Int
def rkLt (x y : Itm) : Prop := y.1 < x.1 ∨ (x.1 = y.1 ∧ x.2 < y.2)
instance (x y : Itm) : Decidable (rkLt x y) := inferInstanceAs (Decidable (_ ∨ _))
def itKey (x : Itm) : PyData := keyOf x.1 x.2
theorem alike_key (x y : Itm) : alike (itKey x) (itKey y) = true := by
  unfold itKey keyOf
  simp [alike, alikeAll, alike_ints]
theorem eqv_intsT (xs ys : List Int) : PyData.eqv (.tuple (xs.map .int)) (.tuple (ys.map .int)) = decide (xs = ys) := Enc.eqvAll (K := []) eInt xs ys
theorem lt_key (x y : Itm) : dataLt (itKey x) (itKey y) = decide (rkLt x y) := by
  unfold itKey keyOf
  rw [dataLt_pair (by simp [alike]) (by simp [alike, alike_ints]), dataLt_int, dataLt_tuple]
  show (if PyData.eqv (.int (-x.1)) (.int (-y.1)) = true then (if PyData.eqv (.tuple (x.2.map .int)) (.tuple (y.2.map .int)) = true then false else rowLt (x.2.map .int) (y.2.map .int)) else decide (-x.1 < -y.1)) = _
  rw [eqv_intsT, dataLt_ints]
  simp only [PyData.eqv, beq_iff_eq]
  have hirr : ∀ l : List Int, ¬ l < l := fun l => List.lt_irrefl l
  rw [Bool.eq_iff_iff]
  rw [decide_eq_true_iff (p := rkLt x y)]
  by_cases h1 : -x.1 = -y.1
  · have h3 : x.1 = y.1 := by omega
    have h4 : rkLt x y ↔ x.2 < y.2 := ⟨fun h => h.elim (fun z => by omega) fun z => z.2, fun h => .inr ⟨h3, h⟩⟩
    rw [if_pos h1, h4]
    by_cases h2 : x.2 = y.2
    · rw [h2]
      simp [hirr]
    · simp [h2]
  · have h3 : ¬ x.1 = y.1 := by omega
    have h4 : rkLt x y ↔ -x.1 < -y.1 := ⟨fun h => h.elim (fun z => by omega) fun z => absurd z.1 h3, fun h => .inl (by omega)⟩
    rw [if_neg h1, h4]
    simp
def rkLe (x y : Itm) : Bool := !decide (rkLt y x)
theorem le_key : dataLe false itKey = rkLe := by
  funext x y
  show (!dataLt (itKey y) (itKey x)) = _
  rw [lt_key]
  rfl
def rankOf (bs : List Itm) : List Itm := bs.mergeSort rkLe
theorem rkLe_total : TotalLe rkLe := by
  rw [← le_key]
  exact sortLe_total _ _ _
theorem rankOf_perm (bs : List Itm) : (rankOf bs).Perm bs := List.mergeSort_perm bs rkLe
theorem rankOf_up (bs : List Itm) : (rankOf bs).Pairwise fun x y => rkLe x y = true := sort_pairwise rkLe_total bs
theorem depth_key (x : Itm) : (itKey x).depth = 2 := by
  unfold itKey keyOf
  simp [PyData.depth, PyData.depthAll, depth_ints]
/-! ### sorted(xs, key=rank) -/
abbrev rIt : Rep Itm := rPair rInt (rTup rInt)
def rSortRk (K : Frag) (f : Addr) : List V → List V → Hp → VK → Prop := fun vs zs H Q => ∃ (a : Addr) (xs : List V) (bs : List Itm) (G : Hp), vs = [.ref a] ∧ zs = [.ref f] ∧ Ex G H ∧ SqL K H a xs ∧ Al (rIt.rel G) xs bs ∧
  ∀ ys p, Al (rIt.rel G) ys (rankOf bs) → H p = none → Q (.ref p) (upd H p (.lst ys))
theorem each_al {R : V → Itm → Prop} : ∀ {xs : List V} {bs : List Itm} {us : List Value}, Al R xs bs → Vals xs us → EachIs (fun u b => ∃ x, RelV x u ∧ R x b) us bs
  | _, _, _, .nil, .nil => .nil
  | _, _, _, .cons h t, .cons r rs => .cons ⟨_, r, h⟩ (each_al t rs)
theorem al_each {R : V → Itm → Prop} : ∀ {us : List Value} {bs : List Itm}, EachIs (fun u b => ∃ x, RelV x u ∧ R x b) us bs → ∃ ys, Vals ys us ∧ Al R ys bs
  | _, _, .nil => ⟨[], .nil, .nil⟩
  | _, _, .cons ⟨x, r, h⟩ t => by
    obtain ⟨ys, h1, h2⟩ := al_each t
    exact ⟨x :: ys, .cons r h1, .cons h h2⟩
theorem reads_ints {h : Heap} : ∀ {us : List Value} {ns : List Int}, IntsAre us ns → ReadsAll h us (ns.map PyData.int) []
  | _, _, .nil => .nil
  | _, _, .cons n t r => .cons (as := []) (bs := []) (.int _ _) (reads_ints r)
theorem reads_tupI {h : Heap} {q : Addr} {us : List Value} {ns : List Int} (ht : IsTup h q us.toArray) (hi : IntsAre us ns) : Reads h (.ref q) (.tuple (ns.map .int)) [] := by
  obtain ⟨o, h1, h2, n, h3⟩ := ht
  exact .tuple h1 h2 h3 (by rw [List.toList_toArray]; exact reads_ints hi)
section
variable {X : Cx} {f : Addr} {fd : FuncData} {st : Stmt}
structure IsRank (K : Frag) (f : Addr) : Prop where
  ex : ∃ (st : Stmt) (fd : FuncData) (pa : Pos) (k1 k2 : Nat) (p1 p2 p3 p4 p5 p6 p7 p8 p9 p10 : Pos), Fun K "rank" "rank" st f fd ∧ defArgs st = rkA pa ∧ defBody st = rkB k1 k2 p1 p2 p3 p4 p5 p6 p7 p8 p9 p10 ∧ defScope st = rkS
theorem cr_sortRk {n : Nat} (hk : IsRank X.K f) (hr : Room n X.A) : CallRK X (.builtin "sorted") [Str.ofString "key"] (rSortRk X.K f) := by
  intro pins s σ H vs zs us ws Q I r rz h
  obtain ⟨a, xs, bs, G, rfl, rfl, eG, hs, hal, q⟩ := h
  obtain rfl := Vals.ref1 r
  obtain rfl := Vals.ref1 rz
  obtain ⟨its, rv, hl, hz⟩ := I.list hs
  obtain ⟨st, fd, pa, k1, k2, p1, p2, p3, p4, p5, p6, p7, p8, p9, p10, F, h1, h2, h3⟩ := hk.ex
  have hd := hr.dp
  have hu := hr.un
  have e := each_al hal rv
  have hlen : bs.length ≤ sizeLine := by rw [← hal.len]; exact hz
  refine sorted_key_data (b := false) itKey hl.isList e (AllAlike.of alike_key) (Sortable.tuples fun _ => ⟨_, _, rfl⟩) hlen (fun p _ => by rw [depth_key]; omega) (ksk_s1 _ _) (fun _ => ksk_l1 _ _) (fun _ => ksk_t1 _ _)
    (fun v b ⟨x, rx, p, y, z, ex, hp, hy, q2, zs2, ez, hq, hal2⟩ _ h tk kp => ?_) fun out c h' tk kp fr hD hlo eo => ?_
  · subst ex
    subst ez
    obtain rfl := show v = Value.ref p from rx
    have hy' : y = V.int b.1 := hy
    subst hy'
    rw [rel_ints hal2] at hq
    obtain ⟨i1, r1, t1, _⟩ := I.tuple (SqT.of (eG _ _ hp))
    obtain ⟨u1, u2, e1, ru1, ru2⟩ := vals2 r1
    subst e1
    obtain ⟨tt, rfl⟩ := (show ∃ t, u1 = Value.int b.1 t from ru1)
    obtain rfl := show u2 = Value.ref q2 from ru2
    obtain ⟨i2, r2, t2, _⟩ := I.tuple (SqT.of (eG _ _ hq))
    exact rank_call (A := X.A.in1.in1) (s := { s with heap := h, toks := tk }) (I.kIn.keeps kp) (I.nolimit.keeps kp) F h1 h2 h3 hr.hd (by show X.A.depth < _; omega) (t1.keeps kp) (reads_tupI (t2.keeps kp) r2.ints)
  · rw [le_key] at eo
    obtain ⟨ys, ry, hy⟩ := al_each eo
    have new : H (s.heap.objs.size + 1) = none := I.hok.fresh (Nat.le_succ _)
    refine ⟨.ref _, upd H (s.heap.objs.size + 1) (.lst ys), I.laid (t' := tk) kp (Nat.le_succ _) ⟨?_, out, c, ry, hD⟩, rfl, q _ _ hy new⟩
    rw [ry.length, hlo]
    exact hlen
end
section
variable {K : Frag} {σ : L2.St} {F : Hp} {ta : TE} {f : Addr}
theorem en_sortRk {bs : List Itm} (h : Er (rLst rIt) ta σ F bs) : En rIt (tCKw (rSortRk K f) (tCons ta tNil) (tCons (tC (.ref f)) tNil)) σ F (rankOf bs) := fun H1 e Q q => h H1 e _ fun v H2 e2 ⟨p, xs, hx, hp, hal⟩ => by
  refine ⟨p, xs, bs, part F H1 H2, congrArg (· :: []) hx, rfl, part_sub (e.trans e2), SqL.of (part_sub (e.trans e2) p _ hp), hal, fun ys c hy hc => q c _ (e2.trans (Ex.new hc)) (new_at e e2 hc hy)⟩
end
end DL
set_option Elab.async false
set_option linter.all false
set_option maxRecDepth 100000
set_option maxHeartbeats 4000000
/-! while, insert, tuples before one another, one list read as another -/
namespace DL
open PySem L2 Evl
section
variable {α β γ δ : Type} {K : PySem.W.Frag} {σ σ2 : L2.St} {F0 H0 F G G2 G3 H H1 H2 H3 : Hp} {ta tb te tl : TE} {t c : TT} {v : V} {r : Rep α} {s : Rep β} {a : α} {b : β} {as : List α} {bs : List β} {p q : Addr} {x y : Option Addr} {D : Ends} {tu tw tz : TS} {g : TG} {i : Nat}
/-- a greater frame was of use for a while -/
theorem Wd.back (w : Wd F0 H0 G H) (w2 : Wd F0 H0 G2 H2) (e : Ex G G2) : Wd F0 H0 G H2 := ⟨w.old, e.trans w2.sub, w2.up, w.nw⟩
theorem v_while {tb : TS} (w : Wd F0 H0 G H) (Pv : Nat → L2.St → Hp → Hp → Prop) (m0 : Nat) (h0 : Pv m0 σ G H)
    (hs : ∀ m σ' G' H', Wd F0 H0 G' H' → Ex G G' → Pv m σ' G' H' → ∃ b, EvT c σ' G' b ∧
      (b = true → ∀ H2, Wd F0 H0 G' H2 → Stp none G' H' G' H2 → tb { D with nx := Nxt F0 H0 G (fun σ2 G2 H2 => ∃ m2, m2 < m ∧ Pv m2 σ2 G2 H2), ct := Nxt F0 H0 G (fun σ2 G2 H2 => ∃ m2, m2 < m ∧ Pv m2 σ2 G2 H2), bk := D.nx } σ' H2) ∧
      (b = false → ∀ H2, Wd F0 H0 G' H2 → Stp none G' H' G' H2 → D.nx σ' H2)) : tWhile c tb D σ H := by
  refine ⟨fun m σ' H' => Nxt F0 H0 G (Pv m) σ' H', ⟨m0, G, w, Ex.refl _, h0⟩, ?_⟩
  rintro m σ' H' ⟨G', w', e', hP⟩
  obtain ⟨b, hb, h1, h2⟩ := hs m σ' G' H' w' e' hP
  refine hb H' w'.sub _ fun H2 e2 => ?_
  cases b with
  | true => exact ⟨_, fun σ3 H3 ⟨G3, w3, e3, m2, hm, hP3⟩ => ⟨m2, hm, G3, w3, e3, hP3⟩, h1 rfl H2 (w'.same e2) (stp_same e2)⟩
  | false => exact h2 rfl H2 (w'.same e2) (stp_same e2)
theorem w_while {tb : TS} (w : Wd F0 H0 G H) (Pv : Nat → L2.St → Hp → Hp → Prop) (m0 : Nat) (h0 : Pv m0 σ G H)
    (hs : ∀ m σ' G' H', Wd F0 H0 G' H' → Ex G G' → Pv m σ' G' H' → ∃ b, EvT c σ' G' b ∧
      (b = true → ∀ H2, Wd F0 H0 G' H2 → Stp none G' H' G' H2 → tb { D with nx := Nxt F0 H0 G (fun σ2 G2 H2 => ∃ m2, m2 < m ∧ Pv m2 σ2 G2 H2), ct := Nxt F0 H0 G (fun σ2 G2 H2 => ∃ m2, m2 < m ∧ Pv m2 σ2 G2 H2), bk := tz D } σ' H2) ∧
      (b = false → ∀ H2, Wd F0 H0 G' H2 → Stp none G' H' G' H2 → tz D σ' H2)) : tSeq (tWhile c tb) tz D σ H := v_while (D := { D with nx := tz D }) w Pv m0 h0 hs
/-- xs.insert(i, e), a list of one's own -/
def rIns : V → List V → Hp → VK → Prop := fun x vs H Q => ∃ (l : Addr) (xs : List V) (i : Int) (y : V), x = .ref l ∧ vs = [.int i, y] ∧ H l = some (.lst xs) ∧ xs.length < sizeLine ∧ 0 ≤ i ∧ i < 2 ^ 63 ∧
    Q .non (upd H l (.lst (xs.take i.toNat ++ [y] ++ xs.drop i.toNat)))
theorem mt_ins {X : Cx} : MtR X "list.insert" rIns := mt_insert
theorem Al.take' {R : V → α → Prop} : ∀ (n : Nat) {xs : List V} {as : List α}, Al R xs as → Al R (xs.take n) (as.take n)
  | 0, _, _, _ => by
    rw [List.take_zero, List.take_zero]
    exact .nil
  | n + 1, _, _, .nil => .nil
  | n + 1, _, _, .cons h t => .cons h (Al.take' n t)
theorem Al.drop' {R : V → α → Prop} : ∀ (n : Nat) {xs : List V} {as : List α}, Al R xs as → Al R (xs.drop n) (as.drop n)
  | 0, _, _, h => h
  | n + 1, _, _, .nil => .nil
  | n + 1, _, _, .cons h t => Al.drop' n t
theorem v_ins {n : Nat} {tp : TE} (w : Wd F0 H0 G H) (hi : σ[i]? = some (some (.ref p))) (m : Mu r as G H p) (h0 : H0 p = none) (hl : as.length < 100000) (hn : n ≤ 100000) (hp : Er rInt tp σ G (n : Int)) (h : Er r te σ G a)
    (k : ∀ G2 H2, Wd F0 H0 G2 H2 → Stp (some p) G H G2 H2 → Mu r (as.take n ++ [a] ++ as.drop n) G2 H2 p → D.nx σ H2) : tDrop (tBM K "list" rIns (tVar i) (tCons tp (tCons te tNil))) D σ H := by
  obtain ⟨h1, xs, h2, h3⟩ := m
  refine ⟨_, hi, Or.inl ⟨rfl, xs, SqL.of h2⟩, hp H w.sub _ fun u H1 e1 hu => h H1 (w.sub.trans e1) _ fun v H2 e2 hv => ?_⟩
  cases (show u = V.int (n : Int) from hu)
  have e12 := e1.trans e2
  refine ⟨p, xs, (n : Int), v, rfl, rfl, e12 p _ h2, by rw [h3.len]; exact sz_lt hl, by omega, by omega, ?_⟩
  have hG : part G H H2 p = none := part_old h1 h2
  refine k (part G H H2) _ ((w.ev e12).put hG h0) (Stp.trans (stp_ev e12).any stp_put) ⟨hG, _, upd_same, ?_⟩
  have h4 := h3.imp fun _ _ k => r.mono (part_ex (F := G) (H1 := H) (H2 := H2)) k
  exact Al.app (Al.app (Al.take' _ h4) (.cons (r.mono (part_back e1) hv) .nil)) (Al.drop' _ h4)
theorem w_ins {n : Nat} {tp : TE} (w : Wd F0 H0 G H) (hi : σ[i]? = some (some (.ref p))) (m : Mu r as G H p) (h0 : H0 p = none) (hl : as.length < 100000) (hn : n ≤ 100000) (hp : Er rInt tp σ G (n : Int)) (h : Er r te σ G a)
    (k : ∀ G2 H2, Wd F0 H0 G2 H2 → Stp (some p) G H G2 H2 → Mu r (as.take n ++ [a] ++ as.drop n) G2 H2 p → tz D σ H2) : tSeq (tDrop (tBM K "list" rIns (tVar i) (tCons tp (tCons te tNil)))) tz D σ H := v_ins (D := { D with nx := tz D }) w hi m h0 hl hn hp h k
/-- what stands for one thing stands for another -/
theorem Al.re {R : V → α → Prop} {S : V → β → Prop} {f : β → α} (h : ∀ v c, R v (f c) → S v c) : ∀ {xs : List V} {cs : List β}, Al R xs (cs.map f) → Al S xs cs
  | _, [], h1 => by
    cases h1
    exact .nil
  | _, c :: cs, h1 => by
    rw [List.map_cons] at h1
    cases h1 with
    | cons h2 t => exact .cons (h _ _ h2) (Al.re h t)
theorem er_re {f : β → α} {c : β} (h : Er r te σ F (f c)) (hf : ∀ H v c, r.rel H v (f c) → s.rel H v c) : Er s te σ F c := fun H1 e Q q => h H1 e Q fun v H2 e2 hv => q v H2 e2 (hf _ _ _ hv)
theorem en_re {f : β → α} (hf : ∀ H v c, r.rel H v (f c) → s.rel H v c) (h : En r te σ F (bs.map f)) : En s te σ F bs := fun H1 e Q q => h H1 e Q fun p H2 e2 ⟨h1, xs, h2, h3⟩ => q p H2 e2 ⟨h1, xs, h2, Al.re (fun v c => hf _ v c) h3⟩
theorem lexLt_dec : ∀ xs ys : List Int, HT.lexLt xs ys = decide (xs < ys)
  | [], [] => by simp [HT.lexLt]
  | [], y :: ys => by simp [HT.lexLt]
  | x :: xs, [] => by simp [HT.lexLt]
  | x :: xs, y :: ys => by
    rw [HT.lexLt_cons, lexLt_dec xs ys]
    by_cases h : x = y
    · subst h
      simp [List.cons_lt_cons_iff]
    · by_cases h2 : x < y
      · simp [List.cons_lt_cons_iff, h, h2]
      · simp [List.cons_lt_cons_iff, h, h2]
theorem er_ltT {xs ys : List Int} (ha : Er (rTup rInt) ta σ F xs) (hb : Er (rTup rInt) tb σ F ys) : Er rBl (tOp (rLtT K) ta tb) σ F (decide (xs < ys)) := fun H1 e Q q =>
  ha H1 e _ fun v H2 e2 ⟨p, zs, hx, hp, hal⟩ => hb H2 (e.trans e2) _ fun u H3 e3 ⟨p2, zs2, hx2, hp2, hal2⟩ => by
    rw [rel_ints hal] at hp
    rw [rel_ints hal2] at hp2
    have h1 := (part_sub (e.trans e2)) p _ hp
    have h2 := (part_sub (e.trans (e2.trans e3))) p2 _ hp2
    refine ⟨p, p2, xs, ys, hx, hx2, SqT.of (e3 _ _ h1), SqT.of h2, ?_⟩
    rw [lexLt_dec]
    exact q _ H3 (e2.trans e3) rfl
end
end DL
set_option Elab.async false
set_option linter.all false
set_option maxHeartbeats 1000000
namespace K98
open DL
/-! ### tuples -/
/-- the least number that may stand behind t -/
def low (t : List Int) : Int := match t.getLast? with
  | some x => x + 1
  | none => 0
theorem low_nil : low [] = 0 := rfl
theorem low_snoc (t : List Int) (k : Int) : low (t ++ [k]) = k + 1 := by
  unfold low
  rw [List.getLast?_append]
  rfl
def step (c : Nat) (found : List (List Int)) : List (List Int) := found.flatMap fun t => ((rng 0 c).filter fun x => decide (low t ≤ x)).map fun k => t ++ [k]
def tuples (c : Nat) : Nat → List (List Int)
  | 0 => [[]]
  | n + 1 => step c (tuples c n)
theorem rng_succ (lo : Int) (n : Nat) : rng lo (n + 1) = rng lo n ++ [lo + (n : Int)] := by
  unfold rng
  rw [List.range_succ, List.map_append]
  rfl
theorem rng_zero (lo : Int) : rng lo 0 = [] := rfl
theorem rng_low (lo : Int) (h : 0 ≤ lo) : ∀ c : Nat, ((rng 0 c).filter fun x => decide (lo ≤ x)) = rng lo ((c : Int) - lo).toNat
  | 0 => by
    have : (((0 : Nat) : Int) - lo).toNat = 0 := by omega
    rw [this]
    rfl
  | c + 1 => by
    rw [rng_succ, List.filter_append, rng_low lo h c, Int.zero_add]
    by_cases hc : lo ≤ (c : Int)
    · have e : (((c + 1 : Nat) : Int) - lo).toNat = ((c : Int) - lo).toNat + 1 := by omega
      rw [e, rng_succ, List.filter_cons, if_pos (by simpa using hc)]
      have e2 : lo + ((((c : Int) - lo).toNat : Nat) : Int) = (c : Int) := by omega
      rw [e2]
      rfl
    · have e : (((c + 1 : Nat) : Int) - lo).toNat = ((c : Int) - lo).toNat := by omega
      rw [e, List.filter_cons, if_neg (by simpa using hc), List.filter_nil, List.append_nil]
theorem step_app (c : Nat) (a b : List (List Int)) : step c (a ++ b) = step c a ++ step c b := List.flatMap_append
theorem step_one (c : Nat) (t : List Int) : step c [t] = ((rng 0 c).filter fun x => decide (low t ≤ x)).map fun k => t ++ [k] := List.flatMap_singleton _ _
theorem step_part {c : Nat} {l pre post : List (List Int)} {t : List Int} {p3 q3 : List Int} (h : l = pre ++ t :: post) (h3 : rng 0 c = p3 ++ q3) :
    (step c pre ++ (p3.filter fun x => decide (low t ≤ x)).map fun k => t ++ [k]).length ≤ (step c l).length := by
  rw [h, show pre ++ t :: post = pre ++ [t] ++ post by simp, step_app, step_app, step_one, h3, List.filter_append, List.map_append]
  simp only [List.length_append]
  omega
theorem low_nonneg {c : Nat} : ∀ {n : Nat} {t : List Int}, t ∈ tuples c n → 0 ≤ low t
  | 0, t, h => by
    rw [List.mem_singleton.mp h, low_nil]
    omega
  | n + 1, t, h => by
    obtain ⟨u, hu, h2⟩ := List.mem_flatMap.mp h
    obtain ⟨k, hk, rfl⟩ := List.mem_map.mp h2
    have h3 := low_nonneg hu
    have h4 := of_decide_eq_true (List.mem_filter.mp hk).2
    rw [low_snoc]
    omega
theorem low_le {c : Nat} : ∀ {n : Nat} {t : List Int}, t ∈ tuples c n → low t ≤ (c : Int)
  | 0, t, h => by
    rw [List.mem_singleton.mp h, low_nil]
    omega
  | n + 1, t, h => by
    obtain ⟨u, hu, h2⟩ := List.mem_flatMap.mp h
    obtain ⟨k, hk, rfl⟩ := List.mem_map.mp h2
    have := mem_rng.mp (List.mem_filter.mp hk).1
    rw [low_snoc]
    omega
theorem mem_len {c : Nat} : ∀ {n : Nat} {t : List Int}, t ∈ tuples c n → t.length = n
  | 0, t, h => by
    rw [List.mem_singleton.mp h]
    rfl
  | n + 1, t, h => by
    obtain ⟨u, hu, h2⟩ := List.mem_flatMap.mp h
    obtain ⟨k, hk, rfl⟩ := List.mem_map.mp h2
    rw [List.length_append, mem_len hu]
    rfl
theorem step_len (c : Nat) : ∀ found : List (List Int), (step c found).length ≤ found.length * c
  | [] => by
    show 0 ≤ _
    omega
  | t :: found => by
    have ih := step_len c found
    show ((((rng 0 c).filter fun x => decide (low t ≤ x)).map fun k => t ++ [k]) ++ step c found).length ≤ _
    rw [List.length_append, List.length_map, List.length_cons, Nat.succ_mul]
    have h2 := List.length_filter_le (fun x => decide (low t ≤ x)) (rng 0 c)
    rw [rng_len] at h2
    omega
theorem tuples_len {c : Nat} (hc : c ≤ 12) : ∀ n : Nat, (tuples c n).length ≤ 12 ^ n
  | 0 => Nat.le_refl _
  | n + 1 => by
    have h1 := step_len c (tuples c n)
    have h2 := tuples_len hc n
    have h3 : (tuples c n).length * c ≤ 12 ^ n * 12 := Nat.mul_le_mul h2 hc
    rw [Nat.pow_succ]
    exact Nat.le_trans h1 h3
theorem tuples_small {c n : Nat} (hc : c ≤ 12) (hn : n ≤ 4) : (tuples c n).length ≤ 20736 := Nat.le_trans (tuples_len hc n) (Nat.le_trans (Nat.pow_le_pow_right (by decide) hn) (by decide))
/-- as choices makes them -/
theorem step_rng {c n : Nat} : (tuples c n).flatMap (fun t => (rng (low t) ((c : Int) - low t).toNat).map fun k => t ++ [k]) = tuples c (n + 1) := by
  show _ = (tuples c n).flatMap _
  have : ∀ l : List (List Int), (∀ t ∈ l, 0 ≤ low t) → l.flatMap (fun t => (rng (low t) ((c : Int) - low t).toNat).map fun k => t ++ [k]) = l.flatMap fun t => ((rng 0 c).filter fun x => decide (low t ≤ x)).map fun k => t ++ [k] := by
    intro l
    induction l with
    | nil => intro _; rfl
    | cons t l ih =>
      intro h
      rw [List.flatMap_cons, List.flatMap_cons, ih fun u hu => h u (List.mem_cons_of_mem _ hu), rng_low (low t) (h t List.mem_cons_self)]
  exact this _ fun t ht => low_nonneg ht
def upTo (c : Nat) : Nat → List (List Int)
  | 0 => []
  | n + 1 => upTo c n ++ tuples c n
theorem upTo_len {c : Nat} (hc : c ≤ 12) : ∀ {n : Nat}, n ≤ 5 → (upTo c n).length ≤ n * 20736
  | 0, _ => Nat.le_refl _
  | n + 1, h => by
    have h1 := upTo_len hc (n := n) (by omega)
    have h2 := tuples_small hc (n := n) (by omega)
    show (upTo c n ++ tuples c n).length ≤ _
    rw [List.length_append]
    omega
/-! ### lots -/
def lotFrom (c : Int) : Int → List Int → Bool
  | _, [] => true
  | b, x :: xs => if x ≤ b ∨ x ≥ c then false else lotFrom c x xs
def isLot (t : List Int) (c : Int) : Bool := lotFrom c (-1) t
/-- as the law says it, place by place -/
def lotAt (t : List Int) (c : Int) (k : Nat) : Bool := match t[k]? with
  | none => true
  | some x => !(decide (x < 0) || decide (x ≥ c)) && !(decide (0 < k) && (match t[k - 1]? with | none => false | some y => decide (x ≤ y)))
theorem lot_all (c : Int) : ∀ (t : List Int) (b : Int), -1 ≤ b → (lotFrom c b t = true ↔ ∀ k x, t[k]? = some x → (x < c ∧ (k = 0 → b < x) ∧ ∀ y, 0 < k → t[k - 1]? = some y → y < x))
  | [], b, _ => by simp [lotFrom]
  | x :: xs, b, hb => by
    unfold lotFrom
    by_cases h : x ≤ b ∨ x ≥ c
    · rw [if_pos h]
      constructor
      · intro z; cases z
      · intro q
        have := q 0 x rfl
        have q2 := this.2.1 rfl
        omega
    · rw [if_neg h, lot_all c xs x (by omega)]
      constructor
      · intro q k y hy
        cases k with
        | zero =>
          cases hy
          exact ⟨by omega, fun _ => by omega, fun y h0 => absurd h0 (by omega)⟩
        | succ k =>
          have h1 := q k y hy
          refine ⟨h1.1, fun z => by omega, fun z _ hz => ?_⟩
          cases k with
          | zero =>
            cases hz
            exact h1.2.1 rfl
          | succ k => exact h1.2.2 z (by omega) hz
      · intro q k y hy
        have h1 := q (k + 1) y hy
        refine ⟨h1.1, fun z => ?_, fun z h0 hz => h1.2.2 z (by omega) ?_⟩
        · subst z
          exact h1.2.2 x (by omega) rfl
        · cases k with
          | zero => omega
          | succ k => exact hz
theorem lot_same (t : List Int) (c : Int) : isLot t c = (List.range t.length).all fun k => lotAt t c k := by
  have key : isLot t c = true ↔ ((List.range t.length).all fun k => lotAt t c k) = true := by
    unfold isLot
    rw [lot_all c t (-1) (by omega), List.all_eq_true]
    constructor
    · intro q k hk
      have hk := List.mem_range.mp hk
      have hx : t[k]? = some t[k] := List.getElem?_eq_getElem hk
      have h1 := q k _ hx
      -- all before k are not below nought
      have pos : ∀ j y, j ≤ k → t[j]? = some y → 0 ≤ y := by
        intro j
        induction j with
        | zero =>
          intro y _ hy
          have := (q 0 y hy).2.1 rfl
          omega
        | succ j ih =>
          intro y hj hy
          have hjl : j < t.length := by omega
          have h2 := ih t[j] (by omega) (List.getElem?_eq_getElem hjl)
          have := (q (j + 1) y hy).2.2 t[j] (by omega) (by rw [Nat.add_sub_cancel]; exact List.getElem?_eq_getElem hjl)
          omega
      have h0 := pos k t[k] (Nat.le_refl _) hx
      unfold lotAt
      rw [hx]
      have a1 : decide (t[k] < 0) = false := decide_eq_false (by omega)
      have a2 : decide (t[k] ≥ c) = false := decide_eq_false (by omega)
      simp only [a1, a2]
      by_cases hk0 : 0 < k
      · have hp : t[k - 1]? = some (t[k - 1]'(by omega)) := List.getElem?_eq_getElem (by omega)
        rw [hp]
        have := h1.2.2 _ hk0 hp
        have a3 : decide (t[k] ≤ t[k - 1]'(by omega)) = false := decide_eq_false (by omega)
        simp only [a3]
        simp
      · have a4 : decide (0 < k) = false := decide_eq_false hk0
        simp [a4]
    · intro q k x hx
      have hk : k < t.length := (List.getElem?_eq_some_iff.mp hx).1
      have h1 := q k (List.mem_range.mpr hk)
      unfold lotAt at h1
      rw [hx] at h1
      simp only [Bool.and_eq_true, Bool.not_eq_true', Bool.or_eq_false_iff, decide_eq_false_iff_not] at h1
      refine ⟨by omega, fun _ => by omega, fun y h0 hy => ?_⟩
      have h2 := h1.2
      rw [hy, decide_eq_true h0] at h2
      simp only [Bool.true_and, decide_eq_false_iff_not] at h2
      omega
  cases h1 : isLot t c with
  | true => exact (key.mp h1).symm
  | false =>
    cases h2 : ((List.range t.length).all fun k => lotAt t c k) with
    | false => rfl
    | true => rw [key.mpr h2] at h1; cases h1
/-! ### marks -/
/-- two lists of one of 0 .. 11 each, in order -/
theorem rng_sorted (lo : Int) : ∀ n : Nat, (rng lo n).Pairwise (· < ·)
  | 0 => .nil
  | n + 1 => by
    rw [rng_succ, List.pairwise_append]
    refine ⟨rng_sorted lo n, List.pairwise_singleton _ _, fun a ha b hb => ?_⟩
    rw [List.mem_singleton.mp hb]
    have := mem_rng.mp ha
    omega
theorem sorted_eq : ∀ {l₁ l₂ : List Int}, l₁.Perm l₂ → l₁.Pairwise (· ≤ ·) → l₂.Pairwise (· ≤ ·) → l₁ = l₂
  | [], l₂, p, _, _ => (List.Perm.nil_eq p)
  | a :: l₁, [], p, _, _ => absurd p.length_eq (by simp)
  | a :: l₁, b :: l₂, p, h1, h2 => by
    have hab : a = b := by
      have ha : a ∈ b :: l₂ := p.mem_iff.mp List.mem_cons_self
      have hb : b ∈ a :: l₁ := p.mem_iff.mpr List.mem_cons_self
      rcases List.mem_cons.mp ha with e | ha
      · exact e
      · rcases List.mem_cons.mp hb with e | hb
        · exact e.symm
        · have q1 := (List.pairwise_cons.mp h1).1 b hb
          have q2 := (List.pairwise_cons.mp h2).1 a ha
          omega
    subst hab
    rw [sorted_eq (List.Perm.cons_inv p) (List.pairwise_cons.mp h1).2 (List.pairwise_cons.mp h2).2]
/-- lists of things in order -/
structure Lot12 (t : List Int) : Prop where
  asc : t.Pairwise (· < ·)
  mem : ∀ x ∈ t, 0 ≤ x ∧ x < 12
theorem lot12_filter (f : Int → Bool) : Lot12 ((rng 0 12).filter f) := ⟨(rng_sorted 0 12).filter f, fun x hx => by
  have := mem_rng.mp (List.mem_filter.mp hx).1
  omega⟩
theorem Lot12.nil : Lot12 [] := ⟨.nil, fun x hx => by cases hx⟩
theorem asc_nodup : ∀ {t : List Int}, t.Pairwise (· < ·) → t.Nodup := fun h => h.imp fun h => by omega
theorem join_sorted {a b ms : List Int} (ha : Lot12 a) (hb : Lot12 b) (hd : ∀ x ∈ a, x ∉ b) (hp : ms.Perm (a ++ b)) (hs : ms.Pairwise (· ≤ ·)) : ms = (rng 0 12).filter fun x => decide (x ∈ a) || decide (x ∈ b) := by
  refine sorted_eq ?_ hs (((rng_sorted 0 12).filter _).imp fun h => by omega)
  refine hp.trans ?_
  refine (List.perm_ext_iff_of_nodup ?_ (asc_nodup ((rng_sorted 0 12).filter _))).mpr fun x => ?_
  · refine List.nodup_append.mpr ⟨asc_nodup ha.asc, asc_nodup hb.asc, fun x hx y hy e => ?_⟩
    subst e
    exact hd x hx hy
  · rw [List.mem_append, List.mem_filter, mem_rng, Bool.or_eq_true, decide_eq_true_iff, decide_eq_true_iff]
    constructor
    · intro h
      refine ⟨?_, h⟩
      rcases h with h | h
      · have := ha.mem x h
        omega
      · have := hb.mem x h
        omega
    · intro h
      exact h.2
end K98
set_option Elab.async false
set_option linter.all false
set_option maxRecDepth 100000
set_option maxHeartbeats 2000000
/-! items by rank, without repetition -/
namespace K06
open DL K98
theorem lt_tri (x y : List Int) : x < y ∨ x = y ∨ y < x := by
  by_cases h1 : x < y
  · exact .inl h1
  · by_cases h2 : y < x
    · exact .inr (.inr h2)
    · exact .inr (.inl (List.le_antisymm (List.not_lt.mp h2) (List.not_lt.mp h1)))
theorem rk_irr (x : Itm) : ¬ rkLt x x := fun h => h.elim (fun z => absurd z (Int.lt_irrefl _)) fun z => List.lt_irrefl _ z.2
theorem rk_tr {x y z : Itm} (h1 : rkLt x y) (h2 : rkLt y z) : rkLt x z := by
  rcases h1 with a | ⟨a, b⟩
  · rcases h2 with c | ⟨c, d⟩
    · exact .inl (by omega)
    · exact .inl (by omega)
  · rcases h2 with c | ⟨c, d⟩
    · exact .inl (by omega)
    · exact .inr ⟨by omega, List.lt_trans b d⟩
theorem rk_tri (x y : Itm) : rkLt x y ∨ x = y ∨ rkLt y x := by
  obtain ⟨a, b⟩ := x
  obtain ⟨c, d⟩ := y
  by_cases h : a = c
  · subst h
    rcases lt_tri b d with h | h | h
    · exact .inl (.inr ⟨rfl, h⟩)
    · exact .inr (.inl (by rw [h]))
    · exact .inr (.inr (.inr ⟨rfl, h⟩))
  · by_cases h2 : c < a
    · exact .inl (.inl h2)
    · exact .inr (.inr (.inl (by show a < c; omega)))
theorem rk_asym {x y : Itm} (h1 : rkLt x y) (h2 : rkLt y x) : False := rk_irr x (rk_tr h1 h2)
theorem rkLe_iff {x y : Itm} : rkLe x y = true ↔ ¬ rkLt y x := by
  unfold rkLe
  simp
def ddA (acc : List Itm) : List Itm → List Itm
  | [] => acc
  | x :: xs => if acc.getLast? = some x then ddA acc xs else ddA (acc ++ [x]) xs
theorem ddA_spec : ∀ (xs acc : List Itm), acc.Pairwise rkLt → xs.Pairwise (fun a b => rkLe a b = true) → (∀ a ∈ acc, ∀ x ∈ xs, ¬ rkLt x a) → (ddA acc xs).Pairwise rkLt ∧ ∀ z, z ∈ ddA acc xs ↔ z ∈ acc ∨ z ∈ xs
  | [], acc, h1, _, _ => ⟨h1, fun z => by simp [ddA]⟩
  | x :: xs, acc, h1, h2, h3 => by
    rw [List.pairwise_cons] at h2
    unfold ddA
    by_cases h : acc.getLast? = some x
    · rw [if_pos h]
      obtain ⟨k1, k2⟩ := ddA_spec xs acc h1 h2.2 fun a ha y hy => h3 a ha y (List.mem_cons_of_mem _ hy)
      refine ⟨k1, fun z => (k2 z).trans ⟨fun q => q.elim .inl fun q => .inr (List.mem_cons_of_mem _ q), fun q => q.elim .inl fun q => ?_⟩⟩
      rcases List.mem_cons.mp q with e | q
      · rw [e]
        exact .inl (List.mem_of_getLast? h)
      · exact .inr q
    · rw [if_neg h]
      have lt : ∀ a ∈ acc, rkLt a x := fun a ha => by
        rcases rk_tri a x with q | q | q
        · exact q
        · exfalso
          subst q
          cases hl : acc.getLast? with
          | none =>
            rw [List.getLast?_eq_none_iff] at hl
            rw [hl] at ha
            cases ha
          | some l =>
            obtain ⟨ys, e⟩ := List.getLast?_eq_some_iff.mp hl
            rw [e] at ha h1
            rcases List.mem_append.mp ha with q | q
            · exact h3 l (by rw [e]; simp) a List.mem_cons_self ((List.pairwise_append.mp h1).2.2 a q l (by simp))
            · rw [List.mem_singleton] at q
              rw [hl, q] at h
              exact h rfl
        · exact absurd q (h3 a ha x List.mem_cons_self)
      obtain ⟨k1, k2⟩ := ddA_spec xs (acc ++ [x]) (List.pairwise_append.mpr ⟨h1, List.pairwise_singleton _ _, fun a ha b hb => by
        rw [List.mem_singleton] at hb
        rw [hb]
        exact lt a ha⟩) h2.2 fun a ha y hy => by
          rcases List.mem_append.mp ha with q | q
          · exact h3 a q y (List.mem_cons_of_mem _ hy)
          · rw [List.mem_singleton] at q
            rw [q]
            exact rkLe_iff.mp (h2.1 y hy)
      refine ⟨k1, fun z => (k2 z).trans ?_⟩
      rw [List.mem_append, List.mem_singleton, List.mem_cons, or_assoc]
theorem strict_uniq : ∀ {l m : List Itm}, l.Pairwise rkLt → m.Pairwise rkLt → (∀ z, z ∈ l ↔ z ∈ m) → l = m
  | [], [], _, _, _ => rfl
  | [], y :: m, _, _, h => absurd ((h y).mpr List.mem_cons_self) (by simp)
  | x :: l, [], _, _, h => absurd ((h x).mp List.mem_cons_self) (by simp)
  | x :: l, y :: m, h1, h2, h => by
    rw [List.pairwise_cons] at h1 h2
    have e : x = y := by
      rcases List.mem_cons.mp ((h x).mp List.mem_cons_self) with e | q
      · exact e
      · rcases List.mem_cons.mp ((h y).mpr List.mem_cons_self) with e | q2
        · exact e.symm
        · exact (rk_asym (h2.1 x q) (h1.1 y q2)).elim
    subst e
    rw [strict_uniq h1.2 h2.2 fun z => ⟨fun q => ?_, fun q => ?_⟩]
    · rcases List.mem_cons.mp ((h z).mp (List.mem_cons_of_mem _ q)) with e | q2
      · rw [e] at q
        exact (rk_irr _ (h1.1 _ q)).elim
      · exact q2
    · rcases List.mem_cons.mp ((h z).mpr (List.mem_cons_of_mem _ q)) with e | q2
      · rw [e] at q
        exact (rk_irr _ (h2.1 _ q)).elim
      · exact q2
def RK (xs : List Itm) : List Itm := ddA [] (rankOf xs)
theorem RK_spec (xs : List Itm) : (RK xs).Pairwise rkLt ∧ ∀ z, z ∈ RK xs ↔ z ∈ xs := by
  obtain ⟨h1, h2⟩ := ddA_spec (rankOf xs) [] .nil (rankOf_up xs) fun a ha => by cases ha
  refine ⟨h1, fun z => (h2 z).trans ?_⟩
  rw [(rankOf_perm xs).mem_iff]
  simp
theorem RK_of {l xs : List Itm} (h : l.Pairwise rkLt) (m : ∀ z, z ∈ l ↔ z ∈ xs) : l = RK xs := strict_uniq h (RK_spec xs).1 fun z => (m z).trans ((RK_spec xs).2 z).symm
theorem RK_congr {xs ys : List Itm} (m : ∀ z, z ∈ xs ↔ z ∈ ys) : RK xs = RK ys := RK_of (RK_spec xs).1 fun z => ((RK_spec xs).2 z).trans (m z)
theorem dd_len : ∀ (xs acc : List Itm), (ddA acc xs).length ≤ acc.length + xs.length
  | [], acc => Nat.le_refl _
  | x :: xs, acc => by
    unfold ddA
    split
    · have := dd_len xs acc
      rw [List.length_cons]
      omega
    · have := dd_len xs (acc ++ [x])
      rw [List.length_append, List.length_singleton] at this
      rw [List.length_cons]
      omega
theorem RK_len (xs : List Itm) : (RK xs).length ≤ xs.length := by
  have := dd_len (rankOf xs) []
  rw [(rankOf_perm xs).length_eq] at this
  show (ddA [] (rankOf xs)).length ≤ _
  simpa using this
theorem ins_spec {as : List Itm} {x : Itm} {k : Nat} (hp : as.Pairwise rkLt) (hk : ∀ j y, j < k → as[j]? = some y → rkLt y x) (hs : ∀ y, as[k]? = some y → ¬ rkLt y x) (hn : as[k]? ≠ some x) :
    (as.take k ++ [x] ++ as.drop k).Pairwise rkLt ∧ ∀ z, z ∈ as.take k ++ [x] ++ as.drop k ↔ z ∈ as ∨ z = x := by
  have ht : ∀ y ∈ as.take k, rkLt y x := fun y hy => by
    obtain ⟨j, hj⟩ := List.getElem?_of_mem hy
    rw [List.getElem?_take] at hj
    split at hj
    · exact hk j y ‹_› hj
    · cases hj
  have hd : ∀ y ∈ as.drop k, rkLt x y := fun y hy => by
    cases e : as.drop k with
    | nil =>
      rw [e] at hy
      cases hy
    | cons u us =>
      have hu : as[k]? = some u := by
        have : (as.drop k)[0]? = some u := by rw [e]; rfl
        rw [List.getElem?_drop] at this
        exact this
      have xu : rkLt x u := by
        rcases rk_tri x u with q | q | q
        · exact q
        · rw [q] at hn
          exact absurd hu hn
        · exact absurd q (hs u hu)
      rw [e] at hy
      rcases List.mem_cons.mp hy with q | q
      · rw [q]
        exact xu
      · have hp2 : (u :: us).Pairwise rkLt := by
          rw [← e]
          exact hp.sublist (List.drop_sublist k as)
        exact rk_tr xu ((List.pairwise_cons.mp hp2).1 y q)
  refine ⟨List.pairwise_append.mpr ⟨List.pairwise_append.mpr ⟨hp.sublist (List.take_sublist k as), List.pairwise_singleton _ _, fun a ha b hb => ?_⟩, hp.sublist (List.drop_sublist k as), fun a ha b hb => ?_⟩, fun z => ?_⟩
  · rw [List.mem_singleton] at hb
    rw [hb]
    exact ht a ha
  · rcases List.mem_append.mp ha with q | q
    · exact rk_tr (ht a q) (hd b hb)
    · rw [List.mem_singleton] at q
      rw [q]
      exact hd b hb
  · have e : z ∈ as ↔ z ∈ as.take k ∨ z ∈ as.drop k := by
      rw [← List.mem_append, List.take_append_drop]
    rw [List.mem_append, List.mem_append, List.mem_singleton, e]
    constructor
    · rintro ((a | a) | a)
      · exact .inl (.inl a)
      · exact .inr a
      · exact .inl (.inr a)
    · rintro ((a | a) | a)
      · exact .inl (.inl a)
      · exact .inr a
      · exact .inl (.inr a)
end K06
set_option Elab.async false
set_option linter.all false
set_option maxRecDepth 100000
set_option maxHeartbeats 4000000
namespace K06
open PySem PySem.Spec PyProof.Rows L2 Evl DL
def topS (i : Nat) : Stmt := PySem.Challenge.pw_fewserve_k06_grown_lots.main.body.getD i (.Pass ⟨0, 0, 0, 0⟩)
structure DefAt (K : PySem.W.Frag) (mg : Str → Option Value) (x : Str) (st : Stmt) (ps : List Str) (f : Addr) (fd : FuncData) : Prop where
  F : Fun K x x st f fd
  g : mg x = some (.ref f)
  b : Binds K fd ps []
/-! ### the mathematics -/
def cell (ns : List Int) (k : Nat) : Int := match ns[k]? with
  | some n => n
  | none => 7919 * (k : Int) + 104729
def draws (rest state : Int) : List Int → List Int
  | [] => []
  | m :: ms =>
    let st := (state * 16807 + 10007) % 2147483647
    if 0 < rest then rest % m :: draws (rest / m) st ms else st / 64 % m :: draws rest st ms
def drawn (c : Int) (ms : List Int) : List Int := draws (if 10 ^ 18 ≤ c then c - 10 ^ 18 else 0) (c * 48271 % 2147483647) ms
theorem draws_len : ∀ (ms : List Int) (r s : Int), (draws r s ms).length = ms.length
  | [], _, _ => rfl
  | m :: ms, r, s => by
    unfold draws
    dsimp only
    split
    · rw [List.length_cons, List.length_cons, draws_len ms]
    · rw [List.length_cons, List.length_cons, draws_len ms]
theorem drawn_len {c : Int} {ms : List Int} : (drawn c ms).length = ms.length := draws_len ms _ _
theorem draws_get : ∀ (ms : List Int) (r s : Int) (i : Nat) (m : Int), (∀ x ∈ ms, 0 < x) → ms[i]? = some m → ∃ x, (draws r s ms)[i]? = some x ∧ 0 ≤ x ∧ x < m
  | [], _, _, i, m, _, h => by simp at h
  | m :: ms, r, s, 0, m', hp, h => by
    cases h
    have h0 := hp m List.mem_cons_self
    unfold draws
    dsimp only
    split
    · exact ⟨_, rfl, Int.emod_nonneg _ (by omega), Int.emod_lt_of_pos _ h0⟩
    · exact ⟨_, rfl, Int.emod_nonneg _ (by omega), Int.emod_lt_of_pos _ h0⟩
  | m :: ms, r, s, i + 1, m', hp, h => by
    unfold draws
    dsimp only
    split
    · exact draws_get ms _ _ i m' (fun x hx => hp x (List.mem_cons_of_mem _ hx)) h
    · exact draws_get ms _ _ i m' (fun x hx => hp x (List.mem_cons_of_mem _ hx)) h
/-! ### the law's cells and draws -/
abbrev s_law_cell : Stmt := topS 9
theorem sc_law_cell : FnScope ["script", "k"] ["script", "k"] (defScope s_law_cell) := ⟨rfl, rfl, rfl, by decide +kernel, rfl, by decide +kernel, by decide +kernel⟩
/- 0 script, 1 k -/
abbrev s_law_draws : Stmt := topS 10
theorem sc_law_draws : FnScope ["cell", "limits", "rest", "state", "drawn", "limit"] ["cell", "limits"] (defScope s_law_draws) := ⟨rfl, rfl, rfl, by decide +kernel, rfl, by decide +kernel, by decide +kernel⟩
/- 0 cell, 1 limits, 2 rest, 3 state, 4 drawn, 5 limit -/
def wCell (K : PySem.W.Frag) : (Hp → List V → Prop) → Int → Prop := fun P b => ∃ (ns : List Int) (k : Nat), P = A2 (rFro K) rInt ns (k : Int) ∧ ns.length ≤ 63 ∧ k ≤ 1000 ∧ b = cell ns k
def wDraws : (Hp → List V → Prop) → List Int → Prop := fun P b => ∃ (c : Int) (ms : List Int), P = A2 rInt (rLst rInt) c ms ∧ ms.length ≤ 1000 ∧ (∀ m ∈ ms, 0 < m ∧ m < 2 ^ 100) ∧ b = drawn c ms
section
variable {P : Program} {w : World} {K : PySem.W.Frag} {mg : Str → Option Value} {base : Heap}
theorem ok_law_cell {f : Addr} {fd : FuncData} (D : DefAt K mg "_law_cell" s_law_cell ["script", "k"] f fd) (mB_len : mg "len" = none) : FnOk P w K mg base CX0 1 f fd ["script", "k"] (spV rInt (wCell K)) := by
  refine D.F.ok sc_law_cell (fun vs H Q E h => ?_) (fun cdv A outer s H vs Q E hr h => ?_)
  · obtain ⟨F, Pp, b, _, _, ⟨ns, k, rfl, _⟩, ⟨v, w, rfl, _⟩, _⟩ := h
    rfl
  · obtain ⟨F, Pp, b, eF, _, ⟨ns, k, rfl, hl, hk, rfl⟩, ⟨v, w', rfl, hv, hw⟩, q⟩ := h
    cases (show w' = V.int k from hw)
    refine ⟨_, (pss_cons (ps_if (pt_cmpR op_lt (pv 1) (pe_callB (r := rLenQ K) call_len_seq (by rfl) mB_len (by decide +kernel) (pa_cons (pv 0) pa_nil)) (nomark _))
    (pss_one (ps_ret (pe_ix (r := rIxL K) ix_list (pv 0) (pv 1) (fun _ _ => rfl))))
    pss_nil)
  (pss_one (ps_ret (pe_op op_add (pe_op op_mul pe_int (pv 1)) pe_int)))), ?_⟩
    have e0 : Er (rFro K) (tVar 0) [some v, some (.int (k : Int))] F ns := er_var rfl hv
    refine q_when (F := F) (et_test (er_cmp0 (er_vi rfl) (er_lenF e0))) eF (fun hb H2 e2 => ?_) (fun hb H2 e2 => ?_)
    · have hb := of_decide_eq_true hb
      have hg : ns[k]? = some ns[k] := List.getElem?_eq_getElem (by omega)
      refine s_retI (F := F) (er_ixF e0 (er_vi rfl) (atI_nat hg)) (eF.trans e2) fun H3 e3 => ?_
      have ec : cell ns k = ns[k] := by
        unfold cell
        rw [hg]
      rw [ec] at q
      exact q _ H3 (e2.trans e3) rfl
    · have hb := of_decide_eq_false hb
      have hg : ns[k]? = none := List.getElem?_eq_none (by omega)
      refine s_retI (F := F) (er_I0 (er_I er_int (er_vi rfl) (Or.inl (by decide))) er_int) (eF.trans e2) fun H3 e3 => ?_
      have ec : cell ns k = 7919 * (k : Int) + 104729 := by
        unfold cell
        rw [hg]
      rw [ec] at q
      exact q _ H3 (e2.trans e3) rfl
theorem ok_law_draws {f : Addr} {fd : FuncData} (D : DefAt K mg "_law_draws" s_law_draws ["cell", "limits"] f fd) (mB_int : mg "int" = none) : FnOk P w K mg base CX0 1 f fd ["cell", "limits"] (spN rInt wDraws) := by
  refine D.F.ok sc_law_draws (fun vs H Q E h => ?_) (fun cdv A outer s H vs Q E hr h => ?_)
  · obtain ⟨F, Pp, b, _, _, ⟨c, ms, rfl, _⟩, ⟨v, w, rfl, _⟩, _⟩ := h
    rfl
  · obtain ⟨F, Pp, b, eF, _, ⟨c, ms, rfl, hl, hm, rfl⟩, ⟨v, w', rfl, hv, hw⟩, q⟩ := h
    cases (show v = V.int c from hv)
    refine ⟨_, (pss_cons (ps_set (i := 2) sc_law_draws.nd rfl (by first | exact Or.inl rfl | exact Or.inr rfl) pe_int)
  (pss_cut (ps_if (pt_cmpR op_ge (pv 0) (pe_op op_pow pe_int pe_int) (nomark _))
    (pss_one (ps_set (i := 2) sc_law_draws.nd rfl (by first | exact Or.inl rfl | exact Or.inr rfl) (pe_op op_sub (pv 0) (pe_op op_pow pe_int pe_int))))
    pss_nil)
  (pss_cons (ps_set (i := 3) sc_law_draws.nd rfl (by first | exact Or.inl rfl | exact Or.inr rfl) (pe_op op_mod (pe_op op_mul (pe_callTy (r := rInt1) call_int1 (by rfl) mB_int (by decide +kernel) (pa_cons (pv 0) pa_nil)) pe_int) pe_int))
  (pss_cons (ps_set (i := 4) sc_law_draws.nd rfl (by first | exact Or.inl rfl | exact Or.inr rfl) (pe_lst pa_nil))
  (pss_cons (ps_for PassesOwn.never rfl (pi_listK (K := K) (pv 1)) (pg_name (i := 5) sc_law_draws.nd rfl (by first | exact Or.inl rfl | exact Or.inr rfl))
    (pss_cons (ps_set (i := 3) sc_law_draws.nd rfl (by first | exact Or.inl rfl | exact Or.inr rfl) (pe_op op_mod (pe_op op_add (pe_op op_mul (pv 3) pe_int) pe_int) pe_int))
  (pss_one (ps_if (pt_cmpR op_gt (pv 2) pe_int (nomark _))
    (pss_cons (ps_expr (pe_bm PySem.F.plainAttrs_list PySem.F.slot_list_append PySem.F.type_list_append mt_append (pv 4) (pa_cons (pe_op op_mod (pv 2) (pv 5)) pa_nil)))
  (pss_one (ps_set (i := 2) sc_law_draws.nd rfl (by first | exact Or.inl rfl | exact Or.inr rfl) (pe_op op_fdivW (pv 2) (pv 5)))))
    (pss_one (ps_expr (pe_bm PySem.F.plainAttrs_list PySem.F.slot_list_append PySem.F.type_list_append mt_append (pv 4) (pa_cons (pe_op op_mod (pe_op op_fdivW (pv 3) pe_int) (pv 5)) pa_nil))))))))
  (pss_one (ps_ret (pv 4)))))))), ?_⟩
    -- rest = 0; if cell >= 10 ** 18: rest = cell - 10 ** 18
    refine q_asgI (F := F) er_int eF fun H1 e1 => ?_
    refine ⟨fun σ' H' => Ex H H' ∧ σ' = [some (.int c), some w', some (.int (if 10 ^ 18 ≤ c then c - 10 ^ 18 else 0)), none, none, none], ?_, fun σ2 H2 ⟨e2, hσ⟩ => ?_⟩
    · refine s_if (F := F) (et_test (er_cmp0 (er_vi rfl) (er_I (C := CPow) er_int er_int ⟨by decide, by decide, by decide⟩))) (eF.trans e1) (fun hb H2 e2 => ?_) (fun hb H2 e2 => ?_)
      · have hb : (10 : Int) ^ 18 ≤ c := of_decide_eq_true hb
        refine s_asgI (F := F) (er_I0 (er_vi rfl) (er_I (C := CPow) er_int er_int ⟨by decide, by decide, by decide⟩)) (eF.trans (e1.trans e2)) fun H3 e3 => ?_
        refine ⟨e1.trans (e2.trans e3), ?_⟩
        rw [if_pos hb]
        rfl
      · have hb : ¬ (10 : Int) ^ 18 ≤ c := of_decide_eq_false hb
        refine ⟨e1.trans e2, ?_⟩
        rw [if_neg hb]
        rfl
    subst hσ
    -- state, drawn
    refine q_asgI (F := F) (er_I (er_I (er_int1 (er_vi rfl)) er_int (Or.inr (by decide))) er_int (by decide)) (eF.trans e2) fun H3 e3 => ?_
    refine q_asgN (F := F) (r := rInt) (en_lst eal_nil (Nat.zero_le _)) (eF.trans (e2.trans e3)) fun p H4 e4 hp => ?_
    have eF3 := eF.trans (e2.trans e3)
    have e0 : Er (rLst rInt) (tVar 1) [some (.int c), some w', some (.int (if 10 ^ 18 ≤ c then c - 10 ^ 18 else 0)), some (.int (c * 48271 % 2147483647)), some (.ref p), none] F ms := er_var rfl hw
    have nF : F p = none := back_none eF3 hp.1
    -- the loop
    refine d_for (F := mns (part F H3 H4) p) (S := SN rInt 5) (src_list (e0.mono (hp.ex eF3))) tgt_n (hp.sub eF3 e4) (fun G pre σ' H' => ∃ (G' : Hp) (r s : Int) (ds : List Int) (x : Option V), Ex G G' ∧ Ex G' H' ∧ Ex H3 (mns H' p) ∧ Mu rInt ds G' H' p ∧ ds.length = pre.length ∧
      σ' = [some (.int c), some w', some (.int r), some (.int s), some (.ref p), x] ∧ ds ++ draws r s (ms.drop pre.length) = drawn c ms) (fun G pre σ' H' ⟨G', _, _, _, _, h1, h2, _⟩ => h1.trans h2) (fun H5 e5 => ?_) (fun G pre a post σ' H' H'' σ2 has hP e5 hS => ?_) (fun G σ' H' hP => ?_)
    · refine ⟨part (mns (part F H3 H4) p) H4 H5, _, _, [], none, Ex.refl _, part_sub ((hp.sub eF3 e4).trans e5), ?_, ?_, rfl, rfl, rfl⟩
      · exact ex_mns (e4.trans e5) hp.1
      · exact (hp.mu).part e5
    · obtain ⟨G', r, s, ds, x, g1, g2, g3, g4, g5, rfl, g6⟩ := hP
      obtain ⟨y, hy, rfl⟩ := hS
      cases (show y = V.int a from hy)
      have hma := hm a (by rw [has]; exact List.mem_append_right _ List.mem_cons_self)
      have hd : ms.drop pre.length = a :: post := by
        rw [has, List.drop_left]
      have hd2 : ms.drop (pre ++ [a]).length = post := by
        rw [has, List.length_append, show pre ++ a :: post = (pre ++ [a]) ++ post by simp, ← List.length_append, List.drop_left]
      have hlen : ds.length < 100000 := by
        have : pre.length ≤ ms.length := by
          rw [has, List.length_append]
          omega
        omega
      rw [hd] at g6
      unfold draws at g6
      dsimp only at g6
      -- state = ..
      refine q_asgI (F := G') (er_I (er_I0 (er_I (er_vi rfl) er_int (Or.inr (by decide))) er_int) er_int (by decide)) (g2.trans e5) fun H6 e6 => ?_
      have m6 := g4.up (Ex.refl _) g4.1 (e5.trans e6)
      refine s_if (F := G') (et_test (er_cmp0 (er_vi rfl) er_int)) (g2.trans (e5.trans e6)) (fun hb H7 e7 => ?_) (fun hb H7 e7 => ?_)
      · have hb := of_decide_eq_true hb
        rw [if_pos hb] at g6
        refine q_app (F := G') rfl (m6.up (Ex.refl _) g4.1 e7) hlen (er_I (er_vi rfl) (er_vi rfl) hma.1) (g2.trans (e5.trans (e6.trans e7))) fun o H8 G2 e8 i1 i2 i3 i4 => ?_
        refine s_asgI (F := G2) (er_I (C := CDivW) (er_vi rfl) (er_vi rfl) (wide_div hma.1 (b := 101) (by omega) (by decide) (by decide))) i2 fun H9 e9 => ?_
        refine ⟨G2, r / a, _, ds ++ [r % a], _, g1.trans i1, i2.trans e9, ?_, i3.up (Ex.refl _) i3.1 e9, ?_, rfl, ?_⟩
        · refine (ex_mns ((g3.trans mns_sub).trans (e5.trans (e6.trans (e7.trans e8)))) hp.1).trans ?_
          rw [← mns_upd (u := o)]
          exact mns_up e9
        · rw [List.length_append, List.length_append, g5]
          rfl
        · rw [hd2, List.append_assoc]
          exact g6
      · have hb := of_decide_eq_false hb
        rw [if_neg hb] at g6
        refine s_app (F := G') rfl (m6.up (Ex.refl _) g4.1 e7) hlen (er_I (er_I (C := CDivW) (er_vi rfl) er_int (wide_div (by decide) (b := 101) (by decide) (by decide) (by decide))) (er_vi rfl) hma.1) (g2.trans (e5.trans (e6.trans e7))) fun o H8 G2 e8 i1 i2 i3 i4 => ?_
        refine ⟨G2, r, _, ds ++ [_], _, g1.trans i1, i2, ?_, i3, ?_, rfl, ?_⟩
        · rw [mns_upd]
          exact ex_mns ((g3.trans mns_sub).trans (e5.trans (e6.trans (e7.trans e8)))) hp.1
        · rw [List.length_append, List.length_append, g5]
          rfl
        · rw [hd2, List.append_assoc]
          exact g6
    · obtain ⟨G', r, s, ds, x, g1, g2, g3, g4, g5, rfl, g6⟩ := hP
      rw [List.drop_length, show draws r s [] = [] from rfl, List.append_nil] at g6
      subst g6
      obtain ⟨h1, xs, h2, h3⟩ := g4
      refine ⟨_, rfl, q p H' (e2.trans (e3.trans (g3.trans mns_sub))) ⟨back_none (e2.trans e3) hp.1, xs, h2, h3.imp fun _ _ k => k⟩⟩
end
end K06
set_option Elab.async false
set_option linter.all false
set_option maxRecDepth 100000
set_option maxHeartbeats 4000000
namespace K06
open PySem PySem.Spec PyProof.Rows L2 Evl DL K98
abbrev s_apart : Stmt := topS 1
theorem sc_apart : FnScope ["lot", "other", "thing"] ["lot", "other"] (defScope s_apart) := ⟨rfl, rfl, rfl, by decide +kernel, rfl, by decide +kernel, by decide +kernel⟩
/- 0 lot, 1 other, 2 thing -/
abbrev s_joined : Stmt := topS 2
theorem sc_joined : FnScope ["lot", "other"] ["lot", "other"] (defScope s_joined) := ⟨rfl, rfl, rfl, by decide +kernel, rfl, by decide +kernel, by decide +kernel⟩
/- 0 lot, 1 other -/
abbrev s_rank : Stmt := topS 3
theorem sc_rank : FnScope ["item", "worth", "lot"] ["item"] (defScope s_rank) := ⟨rfl, rfl, rfl, by decide +kernel, rfl, by decide +kernel, by decide +kernel⟩
/- 0 item, 1 worth, 2 lot -/
abbrev s_ranked : Stmt := topS 4
theorem sc_ranked : FnScope ["items", "found", "item"] ["items"] (defScope s_ranked) := ⟨rfl, rfl, rfl, by decide +kernel, rfl, by decide +kernel, by decide +kernel⟩
/- 0 items, 1 found, 2 item -/
abbrev s_grow : Stmt := topS 6
theorem sc_grow : FnScope ["items", "thing", "worth"] ["items", "thing", "worth"] (defScope s_grow) := ⟨rfl, rfl, rfl, by decide +kernel, rfl, by decide +kernel, by decide +kernel⟩
/- 0 items, 1 thing, 2 worth -/
abbrev s_grow_all : Stmt := topS 7
theorem sc_grow_all : FnScope ["items", "others", "joins", "worth", "lot", "more", "other", "item"] ["items", "others"] (defScope s_grow_all) := ⟨rfl, rfl, rfl, by decide +kernel, rfl, by decide +kernel, by decide +kernel⟩
/- 0 items, 1 others, 2 joins, 3 worth, 4 lot, 5 more, 6 other, 7 item -/
abbrev s_law_before : Stmt := topS 12
theorem sc_law_before : FnScope ["one", "other"] ["one", "other"] (defScope s_law_before) := ⟨rfl, rfl, rfl, by decide +kernel, rfl, by decide +kernel, by decide +kernel⟩
/- 0 one, 1 other -/
abbrev s_law_by_rank : Stmt := topS 13
theorem sc_law_by_rank : FnScope ["items", "found", "item", "place"] ["items"] (defScope s_law_by_rank) := ⟨rfl, rfl, rfl, by decide +kernel, rfl, by decide +kernel, by decide +kernel⟩
/- 0 items, 1 found, 2 item, 3 place -/
abbrev s_law_items : Stmt := topS 14
theorem sc_law_items : FnScope ["script", "first", "span", "large", "items", "k", "drawn", "lot", "x", "worth"] ["script", "first", "span", "large"] (defScope s_law_items) := ⟨rfl, rfl, rfl, by decide +kernel, rfl, by decide +kernel, by decide +kernel⟩
/- 0 script, 1 first, 2 span, 3 large, 4 items, 5 k, 6 drawn, 7 lot, 8 x, 9 worth -/
abbrev s_law_grown : Stmt := topS 15
theorem sc_law_grown : FnScope ["items", "thing", "worth", "found", "item", "lot", "x"] ["items", "thing", "worth"] (defScope s_law_grown) := ⟨rfl, rfl, rfl, by decide +kernel, rfl, by decide +kernel, by decide +kernel⟩
/- 0 items, 1 thing, 2 worth, 3 found, 4 item, 5 lot, 6 x -/
abbrev s_law_joins : Stmt := topS 16
theorem sc_law_joins : FnScope ["items", "others", "found", "item", "other", "x"] ["items", "others"] (defScope s_law_joins) := ⟨rfl, rfl, rfl, by decide +kernel, rfl, by decide +kernel, by decide +kernel⟩
/- 0 items, 1 others, 2 found, 3 item, 4 other, 5 x -/
abbrev s_law_grow_right : Stmt := topS 17
theorem sc_law_grow_right : FnScope ["items", "thing", "worth", "due", "given", "told", "one"] ["items", "thing", "worth"] (defScope s_law_grow_right) := ⟨rfl, rfl, rfl, by decide +kernel, rfl, by decide +kernel, by decide +kernel⟩
/- 0 items, 1 thing, 2 worth, 3 due, 4 given, 5 told, 6 one -/
abbrev s_law_join_right : Stmt := topS 18
theorem sc_law_join_right : FnScope ["items", "others", "due", "given", "more", "told"] ["items", "others"] (defScope s_law_join_right) := ⟨rfl, rfl, rfl, by decide +kernel, rfl, by decide +kernel, by decide +kernel⟩
/- 0 items, 1 others, 2 due, 3 given, 4 more, 5 told -/
abbrev s_law : Stmt := topS 19
theorem sc_law : FnScope ["script", "drawn", "span", "large", "items", "others", "worth", "thing", "given"] ["script"] (defScope s_law) := ⟨rfl, rfl, rfl, by decide +kernel, rfl, by decide +kernel, by decide +kernel⟩
/- 0 script, 1 drawn, 2 span, 3 large, 4 items, 5 others, 6 worth, 7 thing, 8 given -/
def apartB (a b : List Int) : Bool := !((a.map fun x => decide (x ∈ b)).any id)
def wApart : (Hp → List V → Prop) → Bool → Prop := fun P k => ∃ a b : List Int, P = A2 (rTup rInt) (rTup rInt) a b ∧ a.length ≤ 1000 ∧ k = apartB a b
def both (a b : List Int) : List Int := (rng 0 12).filter fun x => decide (x ∈ a) || decide (x ∈ b)
def wJoined : (Hp → List V → Prop) → Option (List Int) → Prop := fun P k => ∃ a b : List Int, P = A2 (rTup rInt) (rTup rInt) a b ∧ Lot12 a ∧ Lot12 b ∧ a.length ≤ 12 ∧ b.length ≤ 12 ∧ k = if apartB a b then some (both a b) else none
section
variable {P : Program} {w : World} {K : PySem.W.Frag} {mg : Str → Option Value} {base : Heap}
theorem ok_apart {f : Addr} {fd : FuncData} (D : DefAt K mg "apart" s_apart ["lot", "other"] f fd) (mB_any : mg "any" = none) : FnOk P w K mg base CX0 1 f fd ["lot", "other"] (spV rBl wApart) := by
  refine D.F.ok sc_apart (fun vs H Q E h => ?_) (fun cdv A outer s H vs Q E hr h => ?_)
  · obtain ⟨F, Pp, b, _, _, ⟨t, c, rfl, _⟩, ⟨v, w, rfl, _⟩, _⟩ := h
    rfl
  · obtain ⟨F, Pp, k, eF, _, ⟨a, b, rfl, hl, rfl⟩, ⟨v, w', rfl, hv, hw⟩, q⟩ := h
    refine ⟨_, (pss_one (ps_ret (pe_not (pe_callB (r := rAny K) (cr_any rfl) (by rfl) mB_any (by decide +kernel) (pa_cons (pe_lc (own := [("thing", 2)]) (g := gName 2) rfl sc_apart.nd (pi_tupK (K := K) (pv 0)) (blkOk_by (own := [("thing", 2)]) (N := ["lot", "other", "thing"]) (sc := defScope s_apart) (by decide +kernel)) (fun _ _ _ _ _ => (pg_name (i := 2) sc_apart.nd rfl (by first | exact Or.inl rfl | exact Or.inr rfl))) (fun _ _ _ _ _ => pts_nil) (fun _ _ _ _ _ => (pe_cmpR (r := rIn K false) op_in_seq (pv 2) (pv 1) (by rfl)))) pa_nil))))), ?_⟩
    refine s_ret (F := F) (er_notV (er_any (En.er (en_is (en_lc (s := rBl) (fun _ => true) (fun x => decide (x ∈ b)) (src_tup (er_var rfl hv)) tgt_n (by omega) (fun x hx G σ2 eG hS => ?_)) ?_)))) eF fun v2 H2 e2 hv2 => q v2 H2 e2 hv2
    · obtain ⟨z, hz, rfl⟩ := hS
      cases (show z = V.int x from hz)
      exact ⟨rfl, fun H1 _ Q q => q H1 (Ex.refl _), fun _ => er_inT (er_vi rfl) (er_var rfl ((rTup rInt).mono eG hw))⟩
    · rw [List.filter_eq_self.mpr fun _ _ => rfl]
theorem ok_joined {f fA : Addr} {fd fdA : FuncData} (D : DefAt K mg "joined" s_joined ["lot", "other"] f fd) (D_apart : DefAt K mg "apart" s_apart ["lot", "other"] fA fdA) (mB_any : mg "any" = none) (mB_tuple : mg "tuple" = none) (mB_sorted : mg "sorted" = none) : FnOk P w K mg base CX0 2 f fd ["lot", "other"] (spV (rOpt (rTup rInt)) wJoined) := by
  have G_apart : FnOk P w K mg base CX0 1 fA fdA ["lot", "other"] (spV rBl wApart) := ok_apart D_apart mB_any
  refine D.F.ok sc_joined (fun vs H Q E h => ?_) (fun cdv A outer s H vs Q E hr h => ?_)
  · obtain ⟨F, Pp, b, _, _, ⟨t, c, rfl, _⟩, ⟨v, w, rfl, _⟩, _⟩ := h
    rfl
  · obtain ⟨F, Pp, k, eF, _, ⟨a, b, rfl, ha, hb, hla, hlb, rfl⟩, ⟨v, w', rfl, hv, hw⟩, q⟩ := h
    refine ⟨_, (pss_cons (ps_if (pt_not (pt_val (pe_call G_apart (hr.mono (by decide)) (by rfl) D_apart.g D_apart.F.kp D_apart.b .nil pass0 (pa_cons (pv 0) (pa_cons (pv 1) pa_nil)))))
    (pss_one (ps_ret pe_non))
    pss_nil)
  (pss_one (ps_ret (pe_callTy (r := rTupQ K) call_tuple_of (by rfl) mB_tuple (by decide +kernel) (pa_cons (pe_callB (r := rSortedT2 K) cr_sortedT2 (by rfl) mB_sorted (by decide +kernel) (pa_cons (pe_op (r := rCatA K) op_catA (pv 0) (pv 1)) pa_nil)) pa_nil))))), ?_⟩
    refine q_when (F := F) (et_not (DL.et_B (er_call (s := rBl) (b := apartB a b) (ea2 (er_var rfl hv) (er_var rfl hw)) mono2 ⟨a, b, rfl, by omega, rfl⟩))) eF (fun hk H2 e2 => ?_) (fun hk H2 e2 => ?_)
    · have hk : apartB a b = false := by simpa using hk
      rw [hk, if_neg (by decide)] at q
      exact s_ret (F := F) (er_nonO (r := rTup rInt)) (eF.trans e2) fun v3 H3 e3 hv3 => q v3 H3 (e2.trans e3) ((rOpt (rTup rInt)).mono (part_back e2) hv3)
    · have hk : apartB a b = true := by simpa using hk
      rw [hk, if_pos rfl] at q
      have hd : ∀ x ∈ a, x ∉ b := fun x hx hxb => by
        unfold apartB at hk
        have : ((a.map fun x => decide (x ∈ b)).any id) = true := List.any_eq_true.mpr ⟨true, List.mem_map.mpr ⟨x, hx, decide_eq_true hxb⟩, rfl⟩
        rw [this] at hk
        cases hk
      refine s_ret (F := F) (er_some (er_tupOf (En.er (en_sortT (ms := both a b) (er_catT (er_var rfl hv) (er_var rfl hw) (by omega)) fun ns' h1 h2 => join_sorted ha hb hd h1 h2)))) (eF.trans e2) fun v3 H3 e3 hv3 => q v3 H3 (e2.trans e3) ((rOpt (rTup rInt)).mono (part_back e2) hv3)

def wRanked : (Hp → List V → Prop) → List Itm → Prop := fun Pp b => ∃ xs : List Itm, Pp = A1 (rLst rIt) xs ∧ xs.length ≤ 10000 ∧ b = RK xs
theorem isRank {f : Addr} {fd : FuncData} (D : DefAt K mg "rank" s_rank ["item"] f fd) : IsRank K f := ⟨_, _, _, _, _, _, _, _, _, _, _, _, _, _, _, D.F, rfl, rfl, rfl⟩
theorem dd_snoc (x : Itm) : ∀ (xs acc : List Itm), ddA acc (xs ++ [x]) = if (ddA acc xs).getLast? = some x then ddA acc xs else ddA acc xs ++ [x]
  | [], acc => rfl
  | y :: xs, acc => by
    rw [List.cons_append]
    unfold ddA
    split
    · exact dd_snoc x xs acc
    · exact dd_snoc x xs (acc ++ [y])
def eIt : Enc K rIt := ePair eInt (eTup eInt)
theorem eIt_d : (eIt (K := K)).d ≤ 64 := by
  show max 0 (0 + 1) + 1 ≤ 64
  decide
theorem ok_ranked {f f_rank : Addr} {fd fdR : FuncData} (D : DefAt K mg "ranked" s_ranked ["items"] f fd) (D_rank : DefAt K mg "rank" s_rank ["item"] f_rank fdR) (mB_sorted : mg "sorted" = none) : FnOk P w K mg base CX0 1 f fd ["items"] (spN rIt wRanked) := by
  have IS_rank := isRank D_rank
  have g_rank := D_rank.g
  refine D.F.ok sc_ranked (fun vs H Q E h => ?_) (fun cdv A outer s H vs Q E hr h => ?_)
  · obtain ⟨F, Pp, b, _, _, ⟨xs, rfl, _⟩, ⟨v, rfl, _⟩, _⟩ := h
    rfl
  · obtain ⟨F, Pp, b, eF, _, ⟨xs, rfl, hl, rfl⟩, ⟨v, rfl, hv⟩, q⟩ := h
    refine ⟨_, (pss_cons (ps_set (i := 1) sc_ranked.nd rfl (by first | exact Or.inl rfl | exact Or.inr rfl) (pe_lst pa_nil))
  (pss_cons (ps_for PassesOwn.never rfl (pi_listK (K := K) (pe_callBK (r := rSortRk K f_rank) (cr_sortRk IS_rank hr) (by rfl) mB_sorted (by decide +kernel) (pa_cons (pv 0) pa_nil) (pk_cons (pe_glob (v := .ref f_rank) (by rfl) g_rank rfl) pk_nil))) (pg_name (i := 2) sc_ranked.nd rfl (by first | exact Or.inl rfl | exact Or.inr rfl))
    (pss_one (ps_if (PW.pt (pw_or (pt_not (pt_tru (K := K) (pv 1) (by intro _; rfl))) (pw_or1 (pt_cmpR (r := rNeD K) (op_neD hr.units) (pe_ix (r := rIxL K) ix_list (pv 1) (pe_un un_neg pe_int) (fun _ _ => rfl)) (pv 2) (nomark _)))))
    (pss_one (ps_expr (pe_bm PySem.F.plainAttrs_list PySem.F.slot_list_append PySem.F.type_list_append mt_append (pv 1) (pa_cons (pv 2) pa_nil))))
    pss_nil)))
  (pss_one (ps_ret (pv 1))))), ?_⟩
    refine w_asgN (r := rIt) (Wd.start eF) (en_lst eal_nil (Nat.zero_le _)) fun p G1 H1 w1 s1 mp np => ?_
    refine w_for w1 (src_list (En.er (en_sortRk (er_var rfl ((rLst rIt).mono s1.fr hv))))) tgt_n mono_sn (fun pre σ' G' H' => ∃ (x2 : Option V), Mu rIt (ddA [] pre) G' H' p ∧ σ' = [some v, some (.ref p), x2])
      (fun G2 H2 w2 s2 => ⟨none, mp.go s2, rfl⟩) (fun Gs pre a post σ' σ2 G' H' G2 H2 has hP s2 w2 eGs hS => ?_) (fun σ' G' H' w2 hP => ?_)
    · obtain ⟨x2, mp2, rfl⟩ := hP
      obtain ⟨z, hz, rfl⟩ := hS
      have m3 := mp2.go s2
      obtain ⟨G3, w3, e23, ry, o3⟩ := m3.froz w2 np
      have hlen : (ddA [] pre).length < 100000 := by
        have h1 := dd_len pre []
        have h2 := congrArg List.length has
        rw [(rankOf_perm xs).length_eq, List.length_append, List.length_cons] at h2
        rw [List.length_nil] at h1
        omega
      have eF2 : Er (rLst rIt) (tVar 1) [some v, some (.ref p), some z] G3 (ddA [] pre) := er_var rfl ry
      have ez : Er rIt (tVar 2) [some v, some (.ref p), some z] G3 a := er_var rfl (rIt.mono e23 hz)
      cases hlast : (ddA [] pre).getLast? with
      | none =>
        have hnil : ddA [] pre = [] := List.getLast?_eq_none_iff.mp hlast
        refine v_when w3 (et_is (b := true) (et_or (b := true) (et_not (et_lst eF2)) fun hb => ?_) ?_) (fun _ H4 w4 s4 => ?_) (fun hb => by cases hb)
        · rw [hnil] at hb
          cases hb
        · rw [hnil]
          rfl
        · have s4' : Stp none G2 H2 G2 H4 := ⟨Ex.refl _, s4.hp, fun _ _ _ n => n⟩
          refine v_app (w2.back w4 e23) rfl (m3.go s4') np hlen (er_var rfl hz) fun G5 H5 w5 s5 m5 => ?_
          refine ⟨G5, w5, eGs.trans s5.fr, some z, ?_, rfl⟩
          rw [dd_snoc, hlast, if_neg (by simp)]
          exact m5
      | some l =>
        obtain ⟨ys, hys⟩ := List.getLast?_eq_some_iff.mp hlast
        have hat : atI (ddA [] pre) (-1) = some l := by
          rw [hys]
          exact atI_last _ _
        refine v_when w3 (et_or (b := !decide (l = a)) (et_not (et_lst eF2)) fun hb => et_test (er_neD eIt eIt_d (er_ixL eF2 (er_neg er_int) hat) ez)) (fun hb H4 w4 s4 => ?_) (fun hb H4 w4 s4 => ?_)
        · have hne : l ≠ a := by
            intro e
            rw [hys, e] at hb
            simp at hb
          have s4' : Stp none G2 H2 G2 H4 := ⟨Ex.refl _, s4.hp, fun _ _ _ n => n⟩
          refine v_app (w2.back w4 e23) rfl (m3.go s4') np hlen (er_var rfl hz) fun G5 H5 w5 s5 m5 => ?_
          refine ⟨G5, w5, eGs.trans s5.fr, some z, ?_, rfl⟩
          rw [dd_snoc, hlast, if_neg (fun e => hne (Option.some.inj e))]
          exact m5
        · have he : l = a := by
            by_cases e : l = a
            · exact e
            · rw [decide_eq_false e] at hb
              simp at hb
          have s4' : Stp none G2 H2 G2 H4 := ⟨Ex.refl _, s4.hp, fun _ _ _ n => n⟩
          refine ⟨G2, w2.back w4 e23, eGs, some z, ?_, rfl⟩
          rw [dd_snoc, hlast, if_pos (by rw [he])]
          exact m3.go s4'
    · obtain ⟨x2, mp2, rfl⟩ := hP
      exact v_retM w2 rfl mp2 (back_none (Ex.refl _) np) fun n => q p H' w2.up n
end
end K06
set_option Elab.async false
set_option linter.all false
set_option maxRecDepth 100000
set_option maxHeartbeats 4000000
namespace K06
open PySem PySem.Spec PyProof.Rows L2 Evl DL K98
structure Good (xs : List Itm) : Prop where
  len : xs.length ≤ 64
  lot : ∀ x ∈ xs, Lot12 x.2 ∧ x.2.length ≤ 12
def gaL (xs ys : List Itm) : List Itm := xs.flatMap fun x => (ys.filter fun y => apartB x.2 y.2).map fun y => (x.1 + y.1, both x.2 y.2)
def mkJ (x y : Itm) : Int × Option (List Int) := (x.1 + y.1, if apartB x.2 y.2 then some (both x.2 y.2) else none)
theorem one_eq (x : Itm) : ∀ ys : List Itm, (ys.map (mkJ x)).filter (fun c => !c.2.isNone) = ((ys.filter fun y => apartB x.2 y.2).map fun y => ((x.1 + y.1, both x.2 y.2) : Itm)).map fun c => (c.1, some c.2)
  | [] => rfl
  | y :: ys => by
    rw [List.map_cons, List.filter_cons, List.filter_cons]
    by_cases h : apartB x.2 y.2 = true
    · have e : mkJ x y = (x.1 + y.1, some (both x.2 y.2)) := by
        unfold mkJ
        rw [if_pos h]
      rw [e, if_pos h, if_pos (show (!(x.1 + y.1, some (both x.2 y.2)).2.isNone) = true from rfl), List.map_cons, List.map_cons, one_eq x ys]
    · have e : mkJ x y = (x.1 + y.1, none) := by
        unfold mkJ
        rw [if_neg h]
      rw [e, if_neg h, if_neg (by simp), one_eq x ys]
theorem jn_eq (ys : List Itm) : ∀ xs : List Itm, (xs.flatMap fun x => ys.map (mkJ x)).filter (fun c => !c.2.isNone) = (gaL xs ys).map fun c => (c.1, some c.2)
  | [] => rfl
  | x :: xs => by
    rw [List.flatMap_cons, List.filter_append, jn_eq ys xs, one_eq]
    unfold gaL
    rw [List.flatMap_cons, List.map_append]
theorem gaL_mem {xs ys : List Itm} {z : Itm} : z ∈ gaL xs ys ↔ ∃ x ∈ xs, ∃ y ∈ ys, apartB x.2 y.2 = true ∧ z = (x.1 + y.1, both x.2 y.2) := by
  unfold gaL
  rw [List.mem_flatMap]
  constructor
  · rintro ⟨x, hx, h⟩
    obtain ⟨y, hy, rfl⟩ := List.mem_map.mp h
    obtain ⟨h1, h2⟩ := List.mem_filter.mp hy
    exact ⟨x, hx, y, h1, h2, rfl⟩
  · rintro ⟨x, hx, y, hy, h, rfl⟩
    exact ⟨x, hx, List.mem_map.mpr ⟨y, List.mem_filter.mpr ⟨hy, h⟩, rfl⟩⟩
theorem gaL_len (ys : List Itm) : ∀ xs : List Itm, (gaL xs ys).length ≤ xs.length * ys.length
  | [] => Nat.zero_le _
  | x :: xs => by
    have h1 := gaL_len ys xs
    have e : gaL (x :: xs) ys = ((ys.filter fun y => apartB x.2 y.2).map fun y => ((x.1 + y.1, both x.2 y.2) : Itm)) ++ gaL xs ys := by
      unfold gaL
      rw [List.flatMap_cons]
    rw [e, List.length_append, List.length_map, List.length_cons, Nat.add_mul, Nat.one_mul]
    have h2 := List.length_filter_le (fun y : Itm => apartB x.2 y.2) ys
    omega
theorem jn_len (ys : List Itm) : ∀ xs : List Itm, (xs.flatMap fun x => ys.map (mkJ x)).length = xs.length * ys.length
  | [] => by simp
  | x :: xs => by
    rw [List.flatMap_cons, List.length_append, jn_len ys xs, List.length_map, List.length_cons, Nat.add_mul, Nat.one_mul]
    omega
theorem Good.small {xs ys : List Itm} (h : Good xs) (k : Good ys) : xs.length * ys.length ≤ 4096 := Nat.mul_le_mul h.len k.len
def wAll : (Hp → List V → Prop) → List Itm → Prop := fun Pp b => ∃ xs ys : List Itm, Pp = A2 (rLst rIt) (rLst rIt) xs ys ∧ Good xs ∧ Good ys ∧ b = RK (gaL xs ys)
def wGrow : (Hp → List V → Prop) → List Itm → Prop := fun Pp b => ∃ (xs : List Itm) (t w : Int), Pp = A3 (rLst rIt) rInt rInt xs t w ∧ Good xs ∧ 0 ≤ t ∧ t < 12 ∧ b = RK (gaL xs [(w, [t])])
theorem lot_one {t : Int} (h0 : 0 ≤ t) (h1 : t < 12) : Lot12 [t] := ⟨List.pairwise_singleton _ _, fun x hx => by
  rw [List.mem_singleton] at hx
  omega⟩
theorem good_one {t w : Int} (h0 : 0 ≤ t) (h1 : t < 12) : Good [(w, [t])] := ⟨by show 1 ≤ 64; decide, fun x hx => by
  rw [List.mem_singleton] at hx
  rw [hx]
  exact ⟨lot_one h0 h1, by show 1 ≤ 12; decide⟩⟩
section
variable {P : Program} {w : World} {K : PySem.W.Frag} {mg : Str → Option Value} {base : Heap}
theorem ok_grow_all {f fJ fA fN fR : Addr} {fd fdJ fdA fdN fdR : FuncData} (D : DefAt K mg "grow_all" s_grow_all ["items", "others"] f fd) (D_joined : DefAt K mg "joined" s_joined ["lot", "other"] fJ fdJ) (D_apart : DefAt K mg "apart" s_apart ["lot", "other"] fA fdA)
    (D_ranked : DefAt K mg "ranked" s_ranked ["items"] fN fdN) (D_rank : DefAt K mg "rank" s_rank ["item"] fR fdR) (mB_any : mg "any" = none) (mB_tuple : mg "tuple" = none) (mB_sorted : mg "sorted" = none) : FnOk P w K mg base CX0 3 f fd ["items", "others"] (spN rIt wAll) := by
  have G_joined : FnOk P w K mg base CX0 2 fJ fdJ ["lot", "other"] (spV (rOpt (rTup rInt)) wJoined) := ok_joined D_joined D_apart mB_any mB_tuple mB_sorted
  have G_ranked : FnOk P w K mg base CX0 1 fN fdN ["items"] (spN rIt wRanked) := ok_ranked D_ranked D_rank mB_sorted
  refine D.F.ok sc_grow_all (fun vs H Q E h => ?_) (fun cdv A outer s H vs Q E hr h => ?_)
  · obtain ⟨F, Pp, b, _, _, ⟨xs, ys, rfl, _⟩, ⟨v, w, rfl, _⟩, _⟩ := h
    rfl
  · obtain ⟨F, Pp, b, eF, _, ⟨xs, ys, rfl, gx, gy, rfl⟩, ⟨v, w', rfl, hv, hw⟩, q⟩ := h
    refine ⟨_, (pss_cons (ps_setLc2 (i := 2) (own := [("worth", 3), ("lot", 4), ("more", 5), ("other", 6)]) (g := gTup K 2 (gCons (gName 3) (gCons (gName 4) gNil))) (g1 := gTup K 2 (gCons (gName 5) (gCons (gName 6) gNil))) (vs1 := [5, 6]) rfl sc_grow_all.nd rfl rfl (sw_true rfl rfl rfl (by decide +kernel)) (pi_listK (K := K) (pv 0)) (blkOk_by (own := [("worth", 3), ("lot", 4), ("more", 5), ("other", 6)]) (N := ["items", "others", "joins", "worth", "lot", "more", "other", "item"]) (sc := defScope s_grow_all) (by decide +kernel)) (by decide) (fun _ _ _ _ _ => (pg_tupK (K := K) (by rfl) (pgs_cons (pg_name (i := 3) sc_grow_all.nd rfl (by first | exact Or.inl rfl | exact Or.inr rfl)) (pgs_cons (pg_name (i := 4) sc_grow_all.nd rfl (by first | exact Or.inl rfl | exact Or.inr rfl)) pgs_nil)))) (fun _ _ _ _ _ => pts_nil) (fun _ _ _ _ _ => (pi_listK (K := K) (pv 1))) (fun _ _ _ _ _ => (pg_tupK (K := K) (by rfl) (pgs_cons (pg_name (i := 5) sc_grow_all.nd rfl (by first | exact Or.inl rfl | exact Or.inr rfl)) (pgs_cons (pg_name (i := 6) sc_grow_all.nd rfl (by first | exact Or.inl rfl | exact Or.inr rfl)) pgs_nil)))) (fun _ _ _ _ _ => pts_nil) (fun _ _ _ _ _ => (pe_tup (pa_cons (pe_op op_add (pv 3) (pv 5)) (pa_cons (pe_call G_joined (hr.mono (by decide)) (by rfl) D_joined.g D_joined.F.kp D_joined.b .nil pass0 (pa_cons (pv 4) (pa_cons (pv 6) pa_nil))) pa_nil)))))
  (pss_one (ps_ret (pe_call G_ranked (hr.mono (by decide)) (by rfl) D_ranked.g D_ranked.F.kp D_ranked.b .nil pass0 (pa_cons (pe_lc (own := [("item", 7)]) (g := gName 7) rfl sc_grow_all.nd (pi_listK (K := K) (pv 2)) (blkOk_by (own := [("item", 7)]) (N := ["items", "others", "joins", "worth", "lot", "more", "other", "item"]) (sc := defScope s_grow_all) (by decide +kernel)) (fun _ _ _ _ _ => (pg_name (i := 7) sc_grow_all.nd rfl (by first | exact Or.inl rfl | exact Or.inr rfl))) (fun _ _ _ _ _ => pts_one (pt_cmpR (r := rNotNq) op_notN (pe_ix (r := rIxT K) ix_tup (pv 7) pe_int (fun _ _ => rfl)) pe_non (nomark _))) (fun _ _ _ _ _ => (pv 7))) pa_nil))))), ?_⟩
    have ft : ∀ {α : Type} (l : List α), l.filter (fun _ => true) = l := fun l => List.filter_eq_self.mpr fun _ _ => rfl
    have hs := Good.small gx gy
    refine w_asgN (r := rPair rInt (rOpt (rTup rInt))) (as := xs.flatMap fun x => ys.map (mkJ x)) (Wd.start eF) (en_is (en_lc2 (r := rIt) (r1 := rIt) (fun _ => true) (fun _ => ys) (fun _ _ => true) mkJ (src_list (er_var rfl hv)) tgt_p tgt_p ?_ (fun x hx G σ2 eG hS => ?_)) ?_) fun p G1 H1 w1 s1 mp np => ?_
    · rw [ft]
      simp only [ft]
      rw [jn_len]
      omega
    · obtain ⟨u, t, hu, ht, rfl⟩ := hS
      cases (show u = V.int x.1 from hu)
      refine ⟨rfl, fun H1 _ Q q => q H1 (Ex.refl _), fun _ => ⟨src_list (er_var rfl ((rLst rIt).mono eG hw)), fun y hy G' σ3 eG' hS1 => ?_⟩⟩
      obtain ⟨u2, t2, hu2, ht2, rfl⟩ := hS1
      cases (show u2 = V.int y.1 from hu2)
      refine ⟨rfl, fun H1 _ Q q => q H1 (Ex.refl _), fun _ => er_pair (ea2 (er_I0 (er_vi rfl) (er_vi rfl)) (er_call (ea2 (er_var rfl ((rTup rInt).mono eG' ht)) (er_var rfl ht2)) mono2 ⟨x.2, y.2, rfl, (gx.lot x hx).1, (gy.lot y hy).1, (gx.lot x hx).2, (gy.lot y hy).2, rfl⟩))⟩
    · rw [ft]
      simp only [ft]
    · obtain ⟨G3, w3, e23, ry, o3⟩ := mp.froz w1 np
      refine v_retN w3 (en_call (ea1 (En.er (en_re (r := rPair rInt (rOpt (rTup rInt))) (s := rIt) (f := fun c : Itm => (c.1, some c.2)) (bs := gaL xs ys) (fun H v c h => h) (en_is (en_lc (fun c => !c.2.isNone) (fun c => c) (src_list (er_var rfl ry)) tgt_n (by rw [jn_len]; omega) (fun c hc G σ2 eG hS => ?_)) ?_)))) mono1 ⟨gaL xs ys, rfl, ?_, rfl⟩) fun p2 H2 e2 n2 => q p2 H2 e2 n2
      · obtain ⟨z, hz, rfl⟩ := hS
        exact ⟨rfl, DL.et_test (er_notN sol_tup (er_snd (er_var rfl hz) er_int)), fun _ => er_var rfl hz⟩
      · rw [jn_eq]
        exact List.map_id' _
      · have := gaL_len ys xs
        omega
theorem ok_grow {f fG fJ fA fN fR : Addr} {fd fdG fdJ fdA fdN fdR : FuncData} (D : DefAt K mg "grow" s_grow ["items", "thing", "worth"] f fd) (D_grow_all : DefAt K mg "grow_all" s_grow_all ["items", "others"] fG fdG) (D_joined : DefAt K mg "joined" s_joined ["lot", "other"] fJ fdJ) (D_apart : DefAt K mg "apart" s_apart ["lot", "other"] fA fdA)
    (D_ranked : DefAt K mg "ranked" s_ranked ["items"] fN fdN) (D_rank : DefAt K mg "rank" s_rank ["item"] fR fdR) (mB_any : mg "any" = none) (mB_tuple : mg "tuple" = none) (mB_sorted : mg "sorted" = none) : FnOk P w K mg base CX0 4 f fd ["items", "thing", "worth"] (spN rIt wGrow) := by
  have G_grow_all : FnOk P w K mg base CX0 3 fG fdG ["items", "others"] (spN rIt wAll) := ok_grow_all D_grow_all D_joined D_apart D_ranked D_rank mB_any mB_tuple mB_sorted
  refine D.F.ok sc_grow (fun vs H Q E h => ?_) (fun cdv A outer s H vs Q E hr h => ?_)
  · obtain ⟨F, Pp, b, _, _, ⟨xs, t, w, rfl, _⟩, ⟨v, w1, w2, rfl, _⟩, _⟩ := h
    rfl
  · obtain ⟨F, Pp, b, eF, _, ⟨xs, t, wo, rfl, gx, h0, h1, rfl⟩, ⟨v, w1, w2, rfl, hv, hw1, hw2⟩, q⟩ := h
    cases (show w1 = V.int t from hw1)
    cases (show w2 = V.int wo from hw2)
    refine ⟨_, (pss_one (ps_ret (pe_call G_grow_all (hr.mono (by decide)) (by rfl) D_grow_all.g D_grow_all.F.kp D_grow_all.b .nil pass0 (pa_cons (pv 0) (pa_cons (pe_lst (pa_cons (pe_tup (pa_cons (pv 2) (pa_cons (pe_tup (pa_cons (pv 1) pa_nil)) pa_nil))) pa_nil)) pa_nil))))), ?_⟩
    exact v_retN (Wd.start eF) (en_call (ea2 (er_var rfl hv) (En.er (en_lst (r := rIt) (eal_cons (er_pair (ea2 (er_vi rfl) (er_tup (eal_cons (er_vi rfl) eal_nil) (by show 1 ≤ 100000; decide)))) eal_nil) (by show 1 ≤ 100000; decide)))) mono2 ⟨xs, [(wo, [t])], rfl, gx, good_one h0 h1, rfl⟩) fun p2 H2 e2 n2 => q p2 H2 e2 n2
end
end K06
set_option Elab.async false
set_option linter.all false
set_option maxRecDepth 100000
set_option maxHeartbeats 4000000
namespace K06
open PySem PySem.Spec PyProof.Rows L2 Evl DL K98
def wBefore : (Hp → List V → Prop) → Bool → Prop := fun Pp b => ∃ x y : Itm, Pp = A2 rIt rIt x y ∧ b = decide (rkLt x y)
def wByRank : (Hp → List V → Prop) → List Itm → Prop := fun Pp b => ∃ xs : List Itm, Pp = A1 (rLst rIt) xs ∧ xs.length ≤ 10000 ∧ b = RK xs
section
variable {P : Program} {w : World} {K : PySem.W.Frag} {mg : Str → Option Value} {base : Heap}
theorem ok_law_before {f : Addr} {fd : FuncData} (D : DefAt K mg "_law_before" s_law_before ["one", "other"] f fd) : FnOk P w K mg base CX0 1 f fd ["one", "other"] (spV rBl wBefore) := by
  refine D.F.ok sc_law_before (fun vs H Q E h => ?_) (fun cdv A outer s H vs Q E hr h => ?_)
  · obtain ⟨F, Pp, b, _, _, ⟨t, c, rfl, _⟩, ⟨v, w, rfl, _⟩, _⟩ := h
    rfl
  · obtain ⟨F, Pp, b, eF, _, ⟨x, y, rfl, rfl⟩, ⟨v, w', rfl, hv, hw⟩, q⟩ := h
    refine ⟨_, (pss_cons (ps_if (pt_cmpR op_ne (pe_ix (r := rIxT K) ix_tup (pv 0) pe_int (fun _ _ => rfl)) (pe_ix (r := rIxT K) ix_tup (pv 1) pe_int (fun _ _ => rfl)) (nomark _))
    (pss_one (ps_ret (pe_cmpR op_gt (pe_ix (r := rIxT K) ix_tup (pv 0) pe_int (fun _ _ => rfl)) (pe_ix (r := rIxT K) ix_tup (pv 1) pe_int (fun _ _ => rfl)) (nomark _))))
    pss_nil)
  (pss_one (ps_ret (pe_cmpR (r := rLtT K) (op_ltT hr.units0) (pe_ix (r := rIxT K) ix_tup (pv 0) pe_int (fun _ _ => rfl)) (pe_ix (r := rIxT K) ix_tup (pv 1) pe_int (fun _ _ => rfl)) (nomark _))))), ?_⟩
    have ex : Er rIt (tVar 0) [some v, some w'] F x := er_var rfl hv
    have ey : Er rIt (tVar 1) [some v, some w'] F y := er_var rfl hw
    refine w_when (Wd.start eF) (DL.et_test (er_neI (er_fst ex er_int) (er_fst ey er_int))) (fun hb H2 w2 s2 => ?_) (fun hb H2 w2 s2 => ?_)
    · have hne : x.1 ≠ y.1 := by simpa using hb
      have e : decide (rkLt x y) = decide (y.1 < x.1) := by
        by_cases h : y.1 < x.1
        · rw [decide_eq_true h]
          exact decide_eq_true (.inl h)
        · rw [decide_eq_false h]
          exact decide_eq_false fun z => z.elim h fun z => hne z.1
      rw [e] at q
      exact v_ret w2 (er_cmp0 (er_fst ex er_int) (er_fst ey er_int)) fun v2 H3 e3 hv3 => q v2 H3 e3 hv3
    · have he : x.1 = y.1 := by simpa using hb
      have e : decide (rkLt x y) = decide (x.2 < y.2) := by
        by_cases h : x.2 < y.2
        · rw [decide_eq_true h]
          exact decide_eq_true (.inr ⟨he, h⟩)
        · rw [decide_eq_false h]
          exact decide_eq_false fun z => z.elim (fun z => by omega) fun z => h z.2
      rw [e] at q
      exact v_ret w2 (er_ltT (er_snd ex er_int) (er_snd ey er_int)) fun v2 H3 e3 hv3 => q v2 H3 e3 hv3
theorem ok_law_by_rank {f fB : Addr} {fd fdB : FuncData} (D : DefAt K mg "_law_by_rank" s_law_by_rank ["items"] f fd) (D_law_before : DefAt K mg "_law_before" s_law_before ["one", "other"] fB fdB) (mB_len : mg "len" = none) : FnOk P w K mg base CX0 2 f fd ["items"] (spN rIt wByRank) := by
  have G_law_before : FnOk P w K mg base CX0 1 fB fdB ["one", "other"] (spV rBl wBefore) := ok_law_before D_law_before
  refine D.F.ok sc_law_by_rank (fun vs H Q E h => ?_) (fun cdv A outer s H vs Q E hr h => ?_)
  · obtain ⟨F, Pp, b, _, _, ⟨xs, rfl, _⟩, ⟨v, rfl, _⟩, _⟩ := h
    rfl
  · obtain ⟨F, Pp, b, eF, _, ⟨xs, rfl, hl, rfl⟩, ⟨v, rfl, hv⟩, q⟩ := h
    refine ⟨_, (pss_cons (ps_set (i := 1) sc_law_by_rank.nd rfl (by first | exact Or.inl rfl | exact Or.inr rfl) (pe_lst pa_nil))
  (pss_cons (ps_for PassesOwn.never rfl (pi_listK (K := K) (pv 0)) (pg_name (i := 2) sc_law_by_rank.nd rfl (by first | exact Or.inl rfl | exact Or.inr rfl))
    (pss_cons (ps_set (i := 3) sc_law_by_rank.nd rfl (by first | exact Or.inl rfl | exact Or.inr rfl) pe_int)
  (pss_cons (ps_while PassesOwn.never (PW.pt (pw_and (pt_cmpR op_lt (pv 3) (pe_callB (r := rLenQ K) call_len_seq (by rfl) mB_len (by decide +kernel) (pa_cons (pv 1) pa_nil)) (nomark _)) (pw_and1 (pt_val (pe_call G_law_before (hr.mono (by decide)) (by rfl) D_law_before.g D_law_before.F.kp D_law_before.b .nil pass0 (pa_cons (pe_ix (r := rIxL K) ix_list (pv 1) (pv 3) (fun _ _ => rfl)) (pa_cons (pv 2) pa_nil)))))))
    (pss_one (ps_set (i := 3) sc_law_by_rank.nd rfl (by first | exact Or.inl rfl | exact Or.inr rfl) (pe_op op_add (pv 3) pe_int))))
  (pss_one (ps_if (PW.pt (pw_or (pt_cmpR op_eq (pv 3) (pe_callB (r := rLenQ K) call_len_seq (by rfl) mB_len (by decide +kernel) (pa_cons (pv 1) pa_nil)) (nomark _)) (pw_or1 (pt_cmpR (r := rNeD K) (op_neD hr.units) (pe_ix (r := rIxL K) ix_list (pv 1) (pv 3) (fun _ _ => rfl)) (pv 2) (nomark _)))))
    (pss_one (ps_expr (pe_bm PySem.F.plainAttrs_list PySem.F.slot_list_insert PySem.F.type_list_insert mt_ins (pv 1) (pa_cons (pv 3) (pa_cons (pv 2) pa_nil)))))
    pss_nil)))))
  (pss_one (ps_ret (pv 1))))), ?_⟩
    refine w_asgN (r := rIt) (Wd.start eF) (en_lst eal_nil (Nat.zero_le _)) fun p G1 H1 w1 s1 mp np => ?_
    refine w_for w1 (src_list (er_var rfl ((rLst rIt).mono s1.fr hv))) tgt_n mono_sn (fun pre σ' G' H' => ∃ (fs : List Itm) (x2 x3 : Option V), fs.Pairwise rkLt ∧ (∀ z, z ∈ fs ↔ z ∈ pre) ∧ fs.length ≤ pre.length ∧ Mu rIt fs G' H' p ∧ σ' = [some v, some (.ref p), x2, x3])
      (fun G2 H2 w2 s2 => ⟨[], none, none, .nil, fun _ => Iff.rfl, Nat.le_refl _, mp.go s2, rfl⟩) (fun Gs pre a post σ' σ2 G' H' G2 H2 has hP s2 w2 eGs hS => ?_) (fun σ' G' H' w2 hP => ?_)
    · obtain ⟨fs, x2, x3, hup, hmem, hlen, mp2, rfl⟩ := hP
      obtain ⟨z, hz, rfl⟩ := hS
      have m3 := mp2.go s2
      have hpre : pre.length < xs.length := by
        have h2 := congrArg List.length has
        rw [List.length_append, List.length_cons] at h2
        omega
      -- place = 0
      refine w_asgI w2 er_int fun H3 w3 s3 => ?_
      have m4 := m3.go s3
      obtain ⟨G3, w4, e23, ry, o3⟩ := m4.froz w3 np
      refine w_while w4 (fun m σ' G' H' => ∃ k : Nat, m = fs.length - k ∧ k ≤ fs.length ∧ (∀ j y, j < k → fs[j]? = some y → rkLt y a) ∧ H' p = H3 p ∧ σ' = [some v, some (.ref p), some z, some (.int (k : Int))]) fs.length
        ⟨0, rfl, Nat.zero_le _, fun j y h => by omega, rfl, rfl⟩ (fun m σ' G' H' w5 e5 hP => ?_)
      obtain ⟨k, rfl, hk, hlt, hHp, rfl⟩ := hP
      have ry5 := (rLst rIt).mono e5 ry
      have ef : Er (rLst rIt) (tVar 1) [some v, some (.ref p), some z, some (.int (k : Int))] G' fs := er_var rfl ry5
      have ez : Er rIt (tVar 2) [some v, some (.ref p), some z, some (.int (k : Int))] G' a := er_var rfl (rIt.mono (e23.trans e5) hz)
      refine ⟨decide ((k : Int) < (fs.length : Int)) && (match fs[k]? with | some y => decide (rkLt y a) | none => false), et_and (DL.et_test (er_cmp0 (er_vi rfl) (er_lenL ef))) fun hb => ?_, fun hb H6 w6 s6 => ?_, fun hb H6 w6 s6 => ?_⟩
      · have hb := of_decide_eq_true hb
        have hkf : fs[k]? = some fs[k] := List.getElem?_eq_getElem (by omega)
        rw [hkf]
        exact DL.et_test (er_call (ea2 (er_ixL ef (er_vi rfl) (atI_nat hkf)) ez) mono2 ⟨fs[k], a, rfl, rfl⟩)
      · rw [Bool.and_eq_true] at hb
        have hb1 := of_decide_eq_true hb.1
        have hkf : fs[k]? = some fs[k] := List.getElem?_eq_getElem (by omega)
        have hb2 := hb.2
        rw [hkf] at hb2
        have hb2 := of_decide_eq_true hb2
        refine v_asgI w6 (er_I0 (er_vi rfl) er_int) fun H7 w7 s7 => ?_
        refine ⟨G', w7, e5, fs.length - (k + 1), by omega, k + 1, rfl, by omega, fun j y hj hy => ?_, ?_, ?_⟩
        · by_cases e : j = k
          · subst e
            rw [hkf] at hy
            cases hy
            exact hb2
          · exact hlt j y (by omega) hy
        · obtain ⟨_, us, hu, _⟩ := m4
          have a1 : H' p = some (.lst us) := hHp.trans hu
          rw [s7.at (fun z => nomatch z) (s6.at (fun z => nomatch z) a1), hu]
        · rfl
      · -- behind the loop
        have hs : ∀ y, fs[k]? = some y → ¬ rkLt y a := fun y hy hya => by
          have hkl : k < fs.length := (List.getElem?_eq_some_iff.mp hy).1
          rw [hy, decide_eq_true (show (k : Int) < (fs.length : Int) by omega)] at hb
          have hb : decide (rkLt y a) = false := hb
          rw [decide_eq_true hya] at hb
          cases hb
        obtain ⟨hG0, us, hu, hal⟩ := m4
        have hu6 : H6 p = some (.lst us) := s6.at (fun z => nomatch z) (hHp.trans hu)
        have w7 : Wd F H G2 H6 := w3.back w6 (e23.trans e5)
        have m7 : Mu rIt fs G2 H6 p := ⟨hG0, us, hu6, hal⟩
        have eT : EvT (tOr (tTest (tOp rEq (tVar 3) (tCB (rLenQ K) (tCons (tVar 1) tNil)))) (tTest (tOp (rNeD K) (tOp (rIxL K) (tVar 1) (tVar 3)) (tVar 2)))) [some v, some (.ref p), some z, some (.int (k : Int))] G' (decide (fs[k]? ≠ some a)) := by
          refine et_is (et_or (b := decide (fs[k]? ≠ some a)) (DL.et_test (er_eqI (er_vi rfl) (er_lenL ef))) fun hb => ?_) ?_
          · have hb : ¬ (k : Int) = (fs.length : Int) := of_decide_eq_false hb
            have hkf : fs[k]? = some fs[k] := List.getElem?_eq_getElem (by omega)
            refine et_is (DL.et_test (er_neD eIt eIt_d (er_ixL ef (er_vi rfl) (atI_nat hkf)) ez)) ?_
            rw [hkf]
            by_cases h : fs[k] = a
            · simp [h]
            · simp [h]
          · by_cases h : (k : Int) = (fs.length : Int)
            · have hn : fs[k]? = none := List.getElem?_eq_none (by omega)
              rw [hn, decide_eq_true h]
              simp
            · rw [decide_eq_false h, Bool.false_or]
        refine v_when w6 eT (fun hb2 H8 w8 s8 => ?_) (fun hb2 H8 w8 s8 => ?_)
        · have hne : fs[k]? ≠ some a := of_decide_eq_true hb2
          obtain ⟨k1, k2⟩ := ins_spec hup hlt hs hne
          refine v_ins (w7.back w8 (e23.trans e5)) rfl ⟨hG0, us, s8.at (fun z => nomatch z) hu6, hal⟩ np (by omega) (by omega) (er_vi rfl) (er_var rfl hz) fun G9 H9 w9 s9 m9 => ?_
          refine ⟨G9, w9, eGs.trans s9.fr, fs.take k ++ [a] ++ fs.drop k, _, _, k1, fun y => (k2 y).trans ?_, ?_, m9, rfl⟩
          · rw [hmem y, List.mem_append, List.mem_singleton]
          · rw [List.length_append, List.length_append, List.length_take, List.length_drop, List.length_append, List.length_singleton]
            omega
        · have he : fs[k]? = some a := by
            by_cases h : fs[k]? = some a
            · exact h
            · rw [decide_eq_true h] at hb2
              cases hb2
          refine ⟨G2, w7.back w8 (e23.trans e5), eGs, fs, _, _, hup, fun y => ?_, ?_, ⟨hG0, us, s8.at (fun z => nomatch z) hu6, hal⟩, rfl⟩
          · rw [List.mem_append, List.mem_singleton, hmem y]
            constructor
            · exact .inl
            · rintro (h | h)
              · exact h
              · rw [h, ← hmem]
                exact List.mem_of_getElem? he
          · rw [List.length_append]
            omega
    · obtain ⟨fs, x2, x3, hup, hmem, hlen, mp2, rfl⟩ := hP
      rw [← RK_of hup hmem] at q
      exact v_retM w2 rfl mp2 (back_none (Ex.refl _) np) fun n => q p H' w2.up n
end
end K06
set_option Elab.async false
set_option linter.all false
set_option maxRecDepth 100000
set_option maxHeartbeats 4000000
namespace K06
open PySem PySem.Spec PyProof.Rows L2 Evl DL K98
abbrev s_law_same : Stmt := topS 11
theorem sc_law_same : FnScope ["told", "due", "k"] ["told", "due"] (defScope s_law_same) := ⟨rfl, rfl, rfl, by decide +kernel, rfl, by decide +kernel, by decide +kernel⟩
/- 0 told, 1 due, 2 k -/
def wS1 : (Hp → List V → Prop) → Bool → Prop := fun Pp b => ∃ x : Int, Pp = A2 rInt rInt x x ∧ b = true
section
variable {P : Program} {w : World} {K : PySem.W.Frag} {mg : Str → Option Value} {base : Heap}
theorem fn_no {k : Nat} {f : Addr} {fd : FuncData} {ps : List Str} : FnOk P w K mg base CX0 k f fd ps (fun _ _ _ _ => False) := ⟨fun _ _ _ _ h => h.elim, fun _ _ _ _ _ _ _ _ _ _ _ _ _ h => h.elim⟩
theorem fn_or {α : Type} {r : Rep α} {W1 W2 : (Hp → List V → Prop) → α → Prop} {k : Nat} {f : Addr} {fd : FuncData} {ps : List Str} (h1 : FnOk P w K mg base CX0 k f fd ps (spV r W1)) (h2 : FnOk P w K mg base CX0 k f fd ps (spV r W2)) :
    FnOk P w K mg base CX0 k f fd ps (spV r fun Pp b => W1 Pp b ∨ W2 Pp b) := by
  refine ⟨fun vs H Q E ⟨F, Pp, b, e, m, w, p, q⟩ => ?_, fun A outer s H args us vs Q E hr he hb hv ⟨F, Pp, b, e, m, w, p, q⟩ => ?_⟩
  · rcases w with w | w
    · exact h1.len vs H Q E ⟨F, Pp, b, e, m, w, p, q⟩
    · exact h2.len vs H Q E ⟨F, Pp, b, e, m, w, p, q⟩
  · rcases w with w | w
    · exact h1.run A outer s H args us vs Q E hr he hb hv ⟨F, Pp, b, e, m, w, p, q⟩
    · exact h2.run A outer s H args us vs Q E hr he hb hv ⟨F, Pp, b, e, m, w, p, q⟩
theorem ok_same1 {f : Addr} {fd : FuncData} (D : DefAt K mg "_law_same" s_law_same ["told", "due"] f fd) (mB_isinstance : mg "isinstance" = none) (mB_bool : mg "bool" = none) (mB_int : mg "int" = none) (mB_str : mg "str" = none) (mB_tuple : mg "tuple" = none) (mB_list : mg "list" = none)
    (mB_len : mg "len" = none) (mB_range : mg "range" = none) : FnOk P w K mg base CX0 1 f fd ["told", "due"] (spV rBl wS1) := by
  have D_law_same := D
  have G_law_same : FnOk P w K mg base CX0 0 f fd ["told", "due"] (fun _ _ _ _ => False) := fn_no
  refine D.F.ok sc_law_same (fun vs H Q E h => ?_) (fun cdv A outer s H vs Q E hr h => ?_)
  · obtain ⟨F, Pp, b, _, _, ⟨x, rfl, _⟩, ⟨v, w, rfl, _⟩, _⟩ := h
    rfl
  · obtain ⟨F, Pp, b, eF, _, ⟨x, rfl, rfl⟩, ⟨v, w', rfl, hv, hw⟩, q⟩ := h
    cases (show v = V.int x from hv)
    cases (show w' = V.int x from hw)
    refine ⟨_, (pss_cons (ps_if (pt_cmpR (r := rIsNq) op_isN (pv 1) pe_non (nomark _))
    (pss_one (ps_ret (pe_cmpR (r := rIsNq) op_isN (pv 0) pe_non (nomark _))))
    pss_nil)
  (pss_cons (ps_if (pt_val (pe_callB (r := rIsi K) call_isi (by rfl) mB_isinstance (by decide +kernel) (pa_cons (pv 1) (pa_cons (pe_bltn (v := .ty "bool") (by rfl) mB_bool (by decide +kernel) rfl) pa_nil))))
    (pss_one (ps_ret (pe_and (pe_callB (r := rIsi K) call_isi (by rfl) mB_isinstance (by decide +kernel) (pa_cons (pv 0) (pa_cons (pe_bltn (v := .ty "bool") (by rfl) mB_bool (by decide +kernel) rfl) pa_nil))) (pe_one (pe_cmpR op_eq (pv 0) (pv 1) (nomark _))))))
    pss_nil)
  (pss_cons (ps_if (pt_val (pe_callB (r := rIsi K) call_isi (by rfl) mB_isinstance (by decide +kernel) (pa_cons (pv 1) (pa_cons (pe_bltn (v := .ty "int") (by rfl) mB_int (by decide +kernel) rfl) pa_nil))))
    (pss_one (ps_ret (pe_and (pe_callB (r := rIsi K) call_isi (by rfl) mB_isinstance (by decide +kernel) (pa_cons (pv 0) (pa_cons (pe_bltn (v := .ty "int") (by rfl) mB_int (by decide +kernel) rfl) pa_nil))) (pe_and (pe_not (pe_callB (r := rIsi K) call_isi (by rfl) mB_isinstance (by decide +kernel) (pa_cons (pv 0) (pa_cons (pe_bltn (v := .ty "bool") (by rfl) mB_bool (by decide +kernel) rfl) pa_nil)))) (pe_one (pe_cmpR op_eq (pv 0) (pv 1) (nomark _)))))))
    pss_nil)
  (pss_cons (ps_if (pt_val (pe_callB (r := rIsi K) call_isi (by rfl) mB_isinstance (by decide +kernel) (pa_cons (pv 1) (pa_cons (pe_bltn (v := .ty "str") (by rfl) mB_str (by decide +kernel) rfl) pa_nil))))
    (pss_one (ps_ret (pe_and (pe_callB (r := rIsi K) call_isi (by rfl) mB_isinstance (by decide +kernel) (pa_cons (pv 0) (pa_cons (pe_bltn (v := .ty "str") (by rfl) mB_str (by decide +kernel) rfl) pa_nil))) (pe_one (pe_cmpR op_eq (pv 0) (pv 1) (nomark _))))))
    pss_nil)
  (pss_cons (ps_if (PW.pt (pw_and (pt_val (pe_callB (r := rIsi K) call_isi (by rfl) mB_isinstance (by decide +kernel) (pa_cons (pv 1) (pa_cons (pe_bltn (v := .ty "tuple") (by rfl) mB_tuple (by decide +kernel) rfl) pa_nil)))) (pw_and1 (pt_not (pt_val (pe_callB (r := rIsi K) call_isi (by rfl) mB_isinstance (by decide +kernel) (pa_cons (pv 0) (pa_cons (pe_bltn (v := .ty "tuple") (by rfl) mB_tuple (by decide +kernel) rfl) pa_nil))))))))
    (pss_one (ps_ret pe_bl))
    pss_nil)
  (pss_cons (ps_if (PW.pt (pw_and (pt_val (pe_callB (r := rIsi K) call_isi (by rfl) mB_isinstance (by decide +kernel) (pa_cons (pv 1) (pa_cons (pe_bltn (v := .ty "list") (by rfl) mB_list (by decide +kernel) rfl) pa_nil)))) (pw_and1 (pt_not (pt_val (pe_callB (r := rIsi K) call_isi (by rfl) mB_isinstance (by decide +kernel) (pa_cons (pv 0) (pa_cons (pe_bltn (v := .ty "list") (by rfl) mB_list (by decide +kernel) rfl) pa_nil))))))))
    (pss_one (ps_ret pe_bl))
    pss_nil)
  (pss_cons (ps_if (pt_cmpR op_ne (pe_callB (r := rLenQ K) call_len_seq (by rfl) mB_len (by decide +kernel) (pa_cons (pv 0) pa_nil)) (pe_callB (r := rLenQ K) call_len_seq (by rfl) mB_len (by decide +kernel) (pa_cons (pv 1) pa_nil)) (nomark _))
    (pss_one (ps_ret pe_bl))
    pss_nil)
  (pss_cons (ps_for PassesOwn.never rfl (pi_range1 (by rfl) mB_range (pa_cons (pe_callB (r := rLenQ K) call_len_seq (by rfl) mB_len (by decide +kernel) (pa_cons (pv 1) pa_nil)) pa_nil)) (pg_name (i := 2) sc_law_same.nd rfl (by first | exact Or.inl rfl | exact Or.inr rfl))
    (pss_one (ps_if (pt_not (pt_val (pe_call G_law_same (hr.mono (by decide)) (by rfl) D_law_same.g D_law_same.F.kp D_law_same.b .nil pass0 (pa_cons (pe_ix (r := rIxL K) ix_list (pv 0) (pv 2) (fun _ _ => rfl)) (pa_cons (pe_ix (r := rIxL K) ix_list (pv 1) (pv 2) (fun _ _ => rfl)) pa_nil)))))
    (pss_one (ps_ret pe_bl))
    pss_nil)))
  (pss_one (ps_ret pe_bl)))))))))), ?_⟩
    refine w_no (Wd.start eF) (DL.et_test (er_isN (r := rInt) (o := some x) sol_int (er_to (er_vi rfl) fun H v hv => hv))) rfl fun H1 w1 s1 => ?_
    refine w_no w1 (DL.et_B (er_isiV (r := rInt) (er_vi rfl) (fun _ _ h => ty_int h) (kit_ty (by decide +kernel)))) rfl fun H2 w2 s2 => ?_
    refine w_when w2 (DL.et_B (er_isiV (r := rInt) (k := true) (er_vi rfl) (fun _ _ h => ty_int h) (kit_ty (by decide +kernel)))) (fun _ H3 w3 s3 => ?_) (fun hb => by cases hb)
    refine v_ret w3 (er_is (er_andV (er_isiV (r := rInt) (k := true) (er_vi rfl) (fun _ _ h => ty_int h) (kit_ty (by decide +kernel))) fun _ => er_andV (er_notV (er_isiV (r := rInt) (k := false) (er_vi rfl) (fun _ _ h => ty_int h) (kit_ty (by decide +kernel)))) fun _ => er_eqI (er_vi rfl) (er_vi rfl)) ?_) fun v2 H4 e4 hv2 => q v2 H4 e4 hv2
    rw [decide_eq_true rfl]
    rfl
end
end K06
set_option Elab.async false
set_option linter.all false
set_option maxRecDepth 100000
set_option maxHeartbeats 4000000
namespace K06
open PySem PySem.Spec PyProof.Rows L2 Evl DL K98
def wS2 : (Hp → List V → Prop) → Bool → Prop := fun Pp b => ∃ x : List Int, Pp = A2 (rTup rInt) (rTup rInt) x x ∧ x.length ≤ 1000 ∧ b = true
def wS3 : (Hp → List V → Prop) → Bool → Prop := fun Pp b => ∃ x : Itm, Pp = A2 rIt rIt x x ∧ x.2.length ≤ 1000 ∧ b = true
section
variable {P : Program} {w : World} {K : PySem.W.Frag} {mg : Str → Option Value} {base : Heap}
theorem er_lenP {α β : Type} {σ : L2.St} {F : Hp} {ta : TE} {r : Rep α} {s : Rep β} {c : α × β} (h : Er (rPair r s) ta σ F c) : Er rInt (tCB (rLenQ K) (tCons ta tNil)) σ F (2 : Int) := fun H1 e Q q => h H1 e _ fun v H2 e2 ⟨p, x, y, hx, hp, _⟩ =>
  ⟨p, [x, y], congrArg (· :: []) hx, .inr (SqT.of (part_sub (e.trans e2) p _ hp)), q _ H2 e2 rfl⟩
theorem ok_same2 {f : Addr} {fd : FuncData} (D : DefAt K mg "_law_same" s_law_same ["told", "due"] f fd) (mB_isinstance : mg "isinstance" = none) (mB_bool : mg "bool" = none) (mB_int : mg "int" = none) (mB_str : mg "str" = none) (mB_tuple : mg "tuple" = none) (mB_list : mg "list" = none)
    (mB_len : mg "len" = none) (mB_range : mg "range" = none) : FnOk P w K mg base CX0 2 f fd ["told", "due"] (spV rBl wS2) := by
  have D_law_same := D
  have G_law_same : FnOk P w K mg base CX0 1 f fd ["told", "due"] (spV rBl wS1) := ok_same1 D mB_isinstance mB_bool mB_int mB_str mB_tuple mB_list mB_len mB_range
  refine D.F.ok sc_law_same (fun vs H Q E h => ?_) (fun cdv A outer s H vs Q E hr h => ?_)
  · obtain ⟨F, Pp, b, _, _, ⟨x, rfl, _⟩, ⟨v, w, rfl, _⟩, _⟩ := h
    rfl
  · obtain ⟨F, Pp, b, eF, _, ⟨x, rfl, hx, rfl⟩, ⟨v, w', rfl, hv, hw⟩, q⟩ := h
    refine ⟨_, (pss_cons (ps_if (pt_cmpR (r := rIsNq) op_isN (pv 1) pe_non (nomark _))
    (pss_one (ps_ret (pe_cmpR (r := rIsNq) op_isN (pv 0) pe_non (nomark _))))
    pss_nil)
  (pss_cons (ps_if (pt_val (pe_callB (r := rIsi K) call_isi (by rfl) mB_isinstance (by decide +kernel) (pa_cons (pv 1) (pa_cons (pe_bltn (v := .ty "bool") (by rfl) mB_bool (by decide +kernel) rfl) pa_nil))))
    (pss_one (ps_ret (pe_and (pe_callB (r := rIsi K) call_isi (by rfl) mB_isinstance (by decide +kernel) (pa_cons (pv 0) (pa_cons (pe_bltn (v := .ty "bool") (by rfl) mB_bool (by decide +kernel) rfl) pa_nil))) (pe_one (pe_cmpR (r := rEqD K) (op_eqD hr.units) (pv 0) (pv 1) (nomark _))))))
    pss_nil)
  (pss_cons (ps_if (pt_val (pe_callB (r := rIsi K) call_isi (by rfl) mB_isinstance (by decide +kernel) (pa_cons (pv 1) (pa_cons (pe_bltn (v := .ty "int") (by rfl) mB_int (by decide +kernel) rfl) pa_nil))))
    (pss_one (ps_ret (pe_and (pe_callB (r := rIsi K) call_isi (by rfl) mB_isinstance (by decide +kernel) (pa_cons (pv 0) (pa_cons (pe_bltn (v := .ty "int") (by rfl) mB_int (by decide +kernel) rfl) pa_nil))) (pe_and (pe_not (pe_callB (r := rIsi K) call_isi (by rfl) mB_isinstance (by decide +kernel) (pa_cons (pv 0) (pa_cons (pe_bltn (v := .ty "bool") (by rfl) mB_bool (by decide +kernel) rfl) pa_nil)))) (pe_one (pe_cmpR (r := rEqD K) (op_eqD hr.units) (pv 0) (pv 1) (nomark _)))))))
    pss_nil)
  (pss_cons (ps_if (pt_val (pe_callB (r := rIsi K) call_isi (by rfl) mB_isinstance (by decide +kernel) (pa_cons (pv 1) (pa_cons (pe_bltn (v := .ty "str") (by rfl) mB_str (by decide +kernel) rfl) pa_nil))))
    (pss_one (ps_ret (pe_and (pe_callB (r := rIsi K) call_isi (by rfl) mB_isinstance (by decide +kernel) (pa_cons (pv 0) (pa_cons (pe_bltn (v := .ty "str") (by rfl) mB_str (by decide +kernel) rfl) pa_nil))) (pe_one (pe_cmpR (r := rEqD K) (op_eqD hr.units) (pv 0) (pv 1) (nomark _))))))
    pss_nil)
  (pss_cons (ps_if (PW.pt (pw_and (pt_val (pe_callB (r := rIsi K) call_isi (by rfl) mB_isinstance (by decide +kernel) (pa_cons (pv 1) (pa_cons (pe_bltn (v := .ty "tuple") (by rfl) mB_tuple (by decide +kernel) rfl) pa_nil)))) (pw_and1 (pt_not (pt_val (pe_callB (r := rIsi K) call_isi (by rfl) mB_isinstance (by decide +kernel) (pa_cons (pv 0) (pa_cons (pe_bltn (v := .ty "tuple") (by rfl) mB_tuple (by decide +kernel) rfl) pa_nil))))))))
    (pss_one (ps_ret pe_bl))
    pss_nil)
  (pss_cons (ps_if (PW.pt (pw_and (pt_val (pe_callB (r := rIsi K) call_isi (by rfl) mB_isinstance (by decide +kernel) (pa_cons (pv 1) (pa_cons (pe_bltn (v := .ty "list") (by rfl) mB_list (by decide +kernel) rfl) pa_nil)))) (pw_and1 (pt_not (pt_val (pe_callB (r := rIsi K) call_isi (by rfl) mB_isinstance (by decide +kernel) (pa_cons (pv 0) (pa_cons (pe_bltn (v := .ty "list") (by rfl) mB_list (by decide +kernel) rfl) pa_nil))))))))
    (pss_one (ps_ret pe_bl))
    pss_nil)
  (pss_cons (ps_if (pt_cmpR op_ne (pe_callB (r := rLenQ K) call_len_seq (by rfl) mB_len (by decide +kernel) (pa_cons (pv 0) pa_nil)) (pe_callB (r := rLenQ K) call_len_seq (by rfl) mB_len (by decide +kernel) (pa_cons (pv 1) pa_nil)) (nomark _))
    (pss_one (ps_ret pe_bl))
    pss_nil)
  (pss_cons (ps_for PassesOwn.never rfl (pi_range1 (by rfl) mB_range (pa_cons (pe_callB (r := rLenQ K) call_len_seq (by rfl) mB_len (by decide +kernel) (pa_cons (pv 1) pa_nil)) pa_nil)) (pg_name (i := 2) sc_law_same.nd rfl (by first | exact Or.inl rfl | exact Or.inr rfl))
    (pss_one (ps_if (pt_not (pt_val (pe_call G_law_same (hr.mono (by decide)) (by rfl) D_law_same.g D_law_same.F.kp D_law_same.b .nil pass0 (pa_cons (pe_ix (r := rIxT K) ix_tup (pv 0) (pv 2) (fun _ _ => rfl)) (pa_cons (pe_ix (r := rIxT K) ix_tup (pv 1) (pv 2) (fun _ _ => rfl)) pa_nil)))))
    (pss_one (ps_ret pe_bl))
    pss_nil)))
  (pss_one (ps_ret pe_bl)))))))))), ?_⟩
    have e0 : ∀ {x2 : Option V} {G : Hp}, Ex F G → Er (rTup rInt) (tVar 0) [some v, some w', x2] G x := fun e => er_var rfl ((rTup rInt).mono e hv)
    have e1 : ∀ {x2 : Option V} {G : Hp}, Ex F G → Er (rTup rInt) (tVar 1) [some v, some w', x2] G x := fun e => er_var rfl ((rTup rInt).mono e hw)
    have rF := Ex.refl F
    refine w_no (Wd.start eF) (DL.et_test (er_isN (r := rTup rInt) (o := some x) sol_tup (er_to (e1 rF) fun H v hv => hv))) rfl fun H1 w1 s1 => ?_
    refine w_no w1 (DL.et_B (er_isiV (e1 rF) (fun _ _ h => ty_tup h) (kit_ty (by decide +kernel)))) rfl fun H2 w2 s2 => ?_
    refine w_no w2 (DL.et_B (er_isiV (e1 rF) (fun _ _ h => ty_tup h) (kit_ty (by decide +kernel)))) rfl fun H3 w3 s3 => ?_
    refine w_no w3 (DL.et_B (er_isiV (e1 rF) (fun _ _ h => ty_tup h) (kit_ty (by decide +kernel)))) rfl fun H4 w4 s4 => ?_
    refine w_no w4 (et_and (a := true) (b := false) (DL.et_B (er_isiV (e1 rF) (fun _ _ h => ty_tup h) (kit_ty (by decide +kernel)))) fun _ => et_not (a := true) (DL.et_B (er_isiV (e0 rF) (fun _ _ h => ty_tup h) (kit_ty (by decide +kernel))))) rfl fun H5 w5 s5 => ?_
    refine w_no w5 (et_and (a := false) (b := false) (DL.et_B (er_isiV (e1 rF) (fun _ _ h => ty_tup h) (kit_ty (by decide +kernel)))) fun hb => by cases hb) rfl fun H6 w6 s6 => ?_
    refine w_no w6 (DL.et_test (er_neI (er_lenT (e0 rF)) (er_lenT (e1 rF)))) (by simp) fun H7 w7 s7 => ?_
    refine w_for w7 (src_rng1 (ea1 (er_lenT (e1 rF))) (by omega)) tgt_n mono_sn (fun pre σ' G' H' => ∃ (x2 : Option V), Ex F G' ∧ σ' = [some v, some w', x2]) (fun G2 H2 w2 s2 => ⟨none, s2.fr, rfl⟩) (fun Gs pre a post σ' σ2 G' H' G2 H2 has hP s2 w2 eGs hS => ?_) (fun σ' G' H' w2 hP => ?_)
    · obtain ⟨x2, eG, rfl⟩ := hP
      obtain ⟨z, hz, rfl⟩ := hS
      cases (show z = V.int a from hz)
      have ha : a ∈ rng 0 (x.length : Int).toNat := by
        rw [has]
        exact List.mem_append_right _ List.mem_cons_self
      obtain ⟨h1, h2⟩ := mem_rng.mp ha
      obtain ⟨n, rfl⟩ := Int.eq_ofNat_of_zero_le h1
      have hg : x[n]? = some x[n] := List.getElem?_eq_getElem (by omega)
      have eG2 := eG.trans s2.fr
      exact v_no w2 (et_not (a := true) (DL.et_B (er_call (ea2 (er_ixT (e0 eG2) (er_vi rfl) (atI_nat hg)) (er_ixT (e1 eG2) (er_vi rfl) (atI_nat hg))) mono2 ⟨x[n], rfl, rfl⟩))) rfl fun H3 w3 s3 => ⟨G2, w3, eGs, _, eG2, rfl⟩
    · obtain ⟨x2, eG, rfl⟩ := hP
      exact v_retB w2 er_bl fun H3 e3 => q _ H3 e3 rfl
theorem ok_same3 {f : Addr} {fd : FuncData} (D : DefAt K mg "_law_same" s_law_same ["told", "due"] f fd) (mB_isinstance : mg "isinstance" = none) (mB_bool : mg "bool" = none) (mB_int : mg "int" = none) (mB_str : mg "str" = none) (mB_tuple : mg "tuple" = none) (mB_list : mg "list" = none)
    (mB_len : mg "len" = none) (mB_range : mg "range" = none) : FnOk P w K mg base CX0 3 f fd ["told", "due"] (spV rBl wS3) := by
  have D_law_same := D
  have G_law_same : FnOk P w K mg base CX0 2 f fd ["told", "due"] (spV rBl fun Pp b => wS1 Pp b ∨ wS2 Pp b) := fn_or ((ok_same1 D mB_isinstance mB_bool mB_int mB_str mB_tuple mB_list mB_len mB_range).mono (by decide)) (ok_same2 D mB_isinstance mB_bool mB_int mB_str mB_tuple mB_list mB_len mB_range)
  refine D.F.ok sc_law_same (fun vs H Q E h => ?_) (fun cdv A outer s H vs Q E hr h => ?_)
  · obtain ⟨F, Pp, b, _, _, ⟨x, rfl, _⟩, ⟨v, w, rfl, _⟩, _⟩ := h
    rfl
  · obtain ⟨F, Pp, b, eF, _, ⟨x, rfl, hx, rfl⟩, ⟨v, w', rfl, hv, hw⟩, q⟩ := h
    refine ⟨_, (pss_cons (ps_if (pt_cmpR (r := rIsNq) op_isN (pv 1) pe_non (nomark _))
    (pss_one (ps_ret (pe_cmpR (r := rIsNq) op_isN (pv 0) pe_non (nomark _))))
    pss_nil)
  (pss_cons (ps_if (pt_val (pe_callB (r := rIsi K) call_isi (by rfl) mB_isinstance (by decide +kernel) (pa_cons (pv 1) (pa_cons (pe_bltn (v := .ty "bool") (by rfl) mB_bool (by decide +kernel) rfl) pa_nil))))
    (pss_one (ps_ret (pe_and (pe_callB (r := rIsi K) call_isi (by rfl) mB_isinstance (by decide +kernel) (pa_cons (pv 0) (pa_cons (pe_bltn (v := .ty "bool") (by rfl) mB_bool (by decide +kernel) rfl) pa_nil))) (pe_one (pe_cmpR (r := rEqD K) (op_eqD hr.units) (pv 0) (pv 1) (nomark _))))))
    pss_nil)
  (pss_cons (ps_if (pt_val (pe_callB (r := rIsi K) call_isi (by rfl) mB_isinstance (by decide +kernel) (pa_cons (pv 1) (pa_cons (pe_bltn (v := .ty "int") (by rfl) mB_int (by decide +kernel) rfl) pa_nil))))
    (pss_one (ps_ret (pe_and (pe_callB (r := rIsi K) call_isi (by rfl) mB_isinstance (by decide +kernel) (pa_cons (pv 0) (pa_cons (pe_bltn (v := .ty "int") (by rfl) mB_int (by decide +kernel) rfl) pa_nil))) (pe_and (pe_not (pe_callB (r := rIsi K) call_isi (by rfl) mB_isinstance (by decide +kernel) (pa_cons (pv 0) (pa_cons (pe_bltn (v := .ty "bool") (by rfl) mB_bool (by decide +kernel) rfl) pa_nil)))) (pe_one (pe_cmpR (r := rEqD K) (op_eqD hr.units) (pv 0) (pv 1) (nomark _)))))))
    pss_nil)
  (pss_cons (ps_if (pt_val (pe_callB (r := rIsi K) call_isi (by rfl) mB_isinstance (by decide +kernel) (pa_cons (pv 1) (pa_cons (pe_bltn (v := .ty "str") (by rfl) mB_str (by decide +kernel) rfl) pa_nil))))
    (pss_one (ps_ret (pe_and (pe_callB (r := rIsi K) call_isi (by rfl) mB_isinstance (by decide +kernel) (pa_cons (pv 0) (pa_cons (pe_bltn (v := .ty "str") (by rfl) mB_str (by decide +kernel) rfl) pa_nil))) (pe_one (pe_cmpR (r := rEqD K) (op_eqD hr.units) (pv 0) (pv 1) (nomark _))))))
    pss_nil)
  (pss_cons (ps_if (PW.pt (pw_and (pt_val (pe_callB (r := rIsi K) call_isi (by rfl) mB_isinstance (by decide +kernel) (pa_cons (pv 1) (pa_cons (pe_bltn (v := .ty "tuple") (by rfl) mB_tuple (by decide +kernel) rfl) pa_nil)))) (pw_and1 (pt_not (pt_val (pe_callB (r := rIsi K) call_isi (by rfl) mB_isinstance (by decide +kernel) (pa_cons (pv 0) (pa_cons (pe_bltn (v := .ty "tuple") (by rfl) mB_tuple (by decide +kernel) rfl) pa_nil))))))))
    (pss_one (ps_ret pe_bl))
    pss_nil)
  (pss_cons (ps_if (PW.pt (pw_and (pt_val (pe_callB (r := rIsi K) call_isi (by rfl) mB_isinstance (by decide +kernel) (pa_cons (pv 1) (pa_cons (pe_bltn (v := .ty "list") (by rfl) mB_list (by decide +kernel) rfl) pa_nil)))) (pw_and1 (pt_not (pt_val (pe_callB (r := rIsi K) call_isi (by rfl) mB_isinstance (by decide +kernel) (pa_cons (pv 0) (pa_cons (pe_bltn (v := .ty "list") (by rfl) mB_list (by decide +kernel) rfl) pa_nil))))))))
    (pss_one (ps_ret pe_bl))
    pss_nil)
  (pss_cons (ps_if (pt_cmpR op_ne (pe_callB (r := rLenQ K) call_len_seq (by rfl) mB_len (by decide +kernel) (pa_cons (pv 0) pa_nil)) (pe_callB (r := rLenQ K) call_len_seq (by rfl) mB_len (by decide +kernel) (pa_cons (pv 1) pa_nil)) (nomark _))
    (pss_one (ps_ret pe_bl))
    pss_nil)
  (pss_cons (ps_for PassesOwn.never rfl (pi_range1 (by rfl) mB_range (pa_cons (pe_callB (r := rLenQ K) call_len_seq (by rfl) mB_len (by decide +kernel) (pa_cons (pv 1) pa_nil)) pa_nil)) (pg_name (i := 2) sc_law_same.nd rfl (by first | exact Or.inl rfl | exact Or.inr rfl))
    (pss_one (ps_if (pt_not (pt_val (pe_call G_law_same (hr.mono (by decide)) (by rfl) D_law_same.g D_law_same.F.kp D_law_same.b .nil pass0 (pa_cons (pe_ix (r := rIxT K) ix_tup (pv 0) (pv 2) (fun _ _ => rfl)) (pa_cons (pe_ix (r := rIxT K) ix_tup (pv 1) (pv 2) (fun _ _ => rfl)) pa_nil)))))
    (pss_one (ps_ret pe_bl))
    pss_nil)))
  (pss_one (ps_ret pe_bl)))))))))), ?_⟩
    have e0 : ∀ {x2 : Option V} {G : Hp}, Ex F G → Er rIt (tVar 0) [some v, some w', x2] G x := fun e => er_var rfl (rIt.mono e hv)
    have e1 : ∀ {x2 : Option V} {G : Hp}, Ex F G → Er rIt (tVar 1) [some v, some w', x2] G x := fun e => er_var rfl (rIt.mono e hw)
    have rF := Ex.refl F
    refine w_no (Wd.start eF) (DL.et_test (er_isN (r := rIt) (o := some x) sol_pair (er_to (e1 rF) fun H v hv => hv))) rfl fun H1 w1 s1 => ?_
    refine w_no w1 (DL.et_B (er_isiV (e1 rF) (fun _ _ h => ty_pair h) (kit_ty (by decide +kernel)))) rfl fun H2 w2 s2 => ?_
    refine w_no w2 (DL.et_B (er_isiV (e1 rF) (fun _ _ h => ty_pair h) (kit_ty (by decide +kernel)))) rfl fun H3 w3 s3 => ?_
    refine w_no w3 (DL.et_B (er_isiV (e1 rF) (fun _ _ h => ty_pair h) (kit_ty (by decide +kernel)))) rfl fun H4 w4 s4 => ?_
    refine w_no w4 (et_and (a := true) (b := false) (DL.et_B (er_isiV (e1 rF) (fun _ _ h => ty_pair h) (kit_ty (by decide +kernel)))) fun _ => et_not (a := true) (DL.et_B (er_isiV (e0 rF) (fun _ _ h => ty_pair h) (kit_ty (by decide +kernel))))) rfl fun H5 w5 s5 => ?_
    refine w_no w5 (et_and (a := false) (b := false) (DL.et_B (er_isiV (e1 rF) (fun _ _ h => ty_pair h) (kit_ty (by decide +kernel)))) fun hb => by cases hb) rfl fun H6 w6 s6 => ?_
    refine w_no w6 (DL.et_test (er_neI (er_lenP (e0 rF)) (er_lenP (e1 rF)))) (by simp) fun H7 w7 s7 => ?_
    refine w_for w7 (src_rng1 (ea1 (er_lenP (e1 rF))) (by omega)) tgt_n mono_sn (fun pre σ' G' H' => ∃ (x2 : Option V), Ex F G' ∧ σ' = [some v, some w', x2]) (fun G2 H2 w2 s2 => ⟨none, s2.fr, rfl⟩) (fun Gs pre a post σ' σ2 G' H' G2 H2 has hP s2 w2 eGs hS => ?_) (fun σ' G' H' w2 hP => ?_)
    · obtain ⟨x2, eG, rfl⟩ := hP
      obtain ⟨z, hz, rfl⟩ := hS
      cases (show z = V.int a from hz)
      have ha : a ∈ rng 0 (2 : Int).toNat := by
        rw [has]
        exact List.mem_append_right _ List.mem_cons_self
      obtain ⟨h1, h2⟩ := mem_rng.mp ha
      have eG2 := eG.trans s2.fr
      have ha2 : a = 0 ∨ a = 1 := by omega
      rcases ha2 with rfl | rfl
      · exact v_no w2 (et_not (a := true) (DL.et_B (er_call (ea2 (er_fst (e0 eG2) (er_vi rfl)) (er_fst (e1 eG2) (er_vi rfl))) mono2 (.inl ⟨x.1, rfl, rfl⟩)))) rfl fun H3 w3 s3 => ⟨G2, w3, eGs, _, eG2, rfl⟩
      · exact v_no w2 (et_not (a := true) (DL.et_B (er_call (ea2 (er_snd (e0 eG2) (er_vi rfl)) (er_snd (e1 eG2) (er_vi rfl))) mono2 (.inr ⟨x.2, rfl, hx, rfl⟩)))) rfl fun H3 w3 s3 => ⟨G2, w3, eGs, _, eG2, rfl⟩
    · obtain ⟨x2, eG, rfl⟩ := hP
      exact v_retB w2 er_bl fun H3 e3 => q _ H3 e3 rfl
end
end K06
set_option Elab.async false
set_option linter.all false
set_option maxRecDepth 100000
set_option maxHeartbeats 4000000
namespace K06
open PySem PySem.Spec PyProof.Rows L2 Evl DL K98
def wS4 : (Hp → List V → Prop) → Bool → Prop := fun Pp b => ∃ x : List Itm, Pp = A2 (rLst rIt) (rLst rIt) x x ∧ x.length ≤ 10000 ∧ (∀ y ∈ x, y.2.length ≤ 1000) ∧ b = true
section
variable {P : Program} {w : World} {K : PySem.W.Frag} {mg : Str → Option Value} {base : Heap}
theorem ok_same4 {f : Addr} {fd : FuncData} (D : DefAt K mg "_law_same" s_law_same ["told", "due"] f fd) (mB_isinstance : mg "isinstance" = none) (mB_bool : mg "bool" = none) (mB_int : mg "int" = none) (mB_str : mg "str" = none) (mB_tuple : mg "tuple" = none) (mB_list : mg "list" = none)
    (mB_len : mg "len" = none) (mB_range : mg "range" = none) : FnOk P w K mg base CX0 4 f fd ["told", "due"] (spV rBl wS4) := by
  have D_law_same := D
  have G_law_same : FnOk P w K mg base CX0 3 f fd ["told", "due"] (spV rBl wS3) := ok_same3 D mB_isinstance mB_bool mB_int mB_str mB_tuple mB_list mB_len mB_range
  refine D.F.ok sc_law_same (fun vs H Q E h => ?_) (fun cdv A outer s H vs Q E hr h => ?_)
  · obtain ⟨F, Pp, b, _, _, ⟨x, rfl, _⟩, ⟨v, w, rfl, _⟩, _⟩ := h
    rfl
  · obtain ⟨F, Pp, b, eF, _, ⟨x, rfl, hx, hx2, rfl⟩, ⟨v, w', rfl, hv, hw⟩, q⟩ := h
    refine ⟨_, (pss_cons (ps_if (pt_cmpR (r := rIsNq) op_isN (pv 1) pe_non (nomark _))
    (pss_one (ps_ret (pe_cmpR (r := rIsNq) op_isN (pv 0) pe_non (nomark _))))
    pss_nil)
  (pss_cons (ps_if (pt_val (pe_callB (r := rIsi K) call_isi (by rfl) mB_isinstance (by decide +kernel) (pa_cons (pv 1) (pa_cons (pe_bltn (v := .ty "bool") (by rfl) mB_bool (by decide +kernel) rfl) pa_nil))))
    (pss_one (ps_ret (pe_and (pe_callB (r := rIsi K) call_isi (by rfl) mB_isinstance (by decide +kernel) (pa_cons (pv 0) (pa_cons (pe_bltn (v := .ty "bool") (by rfl) mB_bool (by decide +kernel) rfl) pa_nil))) (pe_one (pe_cmpR (r := rEqD K) (op_eqD hr.units) (pv 0) (pv 1) (nomark _))))))
    pss_nil)
  (pss_cons (ps_if (pt_val (pe_callB (r := rIsi K) call_isi (by rfl) mB_isinstance (by decide +kernel) (pa_cons (pv 1) (pa_cons (pe_bltn (v := .ty "int") (by rfl) mB_int (by decide +kernel) rfl) pa_nil))))
    (pss_one (ps_ret (pe_and (pe_callB (r := rIsi K) call_isi (by rfl) mB_isinstance (by decide +kernel) (pa_cons (pv 0) (pa_cons (pe_bltn (v := .ty "int") (by rfl) mB_int (by decide +kernel) rfl) pa_nil))) (pe_and (pe_not (pe_callB (r := rIsi K) call_isi (by rfl) mB_isinstance (by decide +kernel) (pa_cons (pv 0) (pa_cons (pe_bltn (v := .ty "bool") (by rfl) mB_bool (by decide +kernel) rfl) pa_nil)))) (pe_one (pe_cmpR (r := rEqD K) (op_eqD hr.units) (pv 0) (pv 1) (nomark _)))))))
    pss_nil)
  (pss_cons (ps_if (pt_val (pe_callB (r := rIsi K) call_isi (by rfl) mB_isinstance (by decide +kernel) (pa_cons (pv 1) (pa_cons (pe_bltn (v := .ty "str") (by rfl) mB_str (by decide +kernel) rfl) pa_nil))))
    (pss_one (ps_ret (pe_and (pe_callB (r := rIsi K) call_isi (by rfl) mB_isinstance (by decide +kernel) (pa_cons (pv 0) (pa_cons (pe_bltn (v := .ty "str") (by rfl) mB_str (by decide +kernel) rfl) pa_nil))) (pe_one (pe_cmpR (r := rEqD K) (op_eqD hr.units) (pv 0) (pv 1) (nomark _))))))
    pss_nil)
  (pss_cons (ps_if (PW.pt (pw_and (pt_val (pe_callB (r := rIsi K) call_isi (by rfl) mB_isinstance (by decide +kernel) (pa_cons (pv 1) (pa_cons (pe_bltn (v := .ty "tuple") (by rfl) mB_tuple (by decide +kernel) rfl) pa_nil)))) (pw_and1 (pt_not (pt_val (pe_callB (r := rIsi K) call_isi (by rfl) mB_isinstance (by decide +kernel) (pa_cons (pv 0) (pa_cons (pe_bltn (v := .ty "tuple") (by rfl) mB_tuple (by decide +kernel) rfl) pa_nil))))))))
    (pss_one (ps_ret pe_bl))
    pss_nil)
  (pss_cons (ps_if (PW.pt (pw_and (pt_val (pe_callB (r := rIsi K) call_isi (by rfl) mB_isinstance (by decide +kernel) (pa_cons (pv 1) (pa_cons (pe_bltn (v := .ty "list") (by rfl) mB_list (by decide +kernel) rfl) pa_nil)))) (pw_and1 (pt_not (pt_val (pe_callB (r := rIsi K) call_isi (by rfl) mB_isinstance (by decide +kernel) (pa_cons (pv 0) (pa_cons (pe_bltn (v := .ty "list") (by rfl) mB_list (by decide +kernel) rfl) pa_nil))))))))
    (pss_one (ps_ret pe_bl))
    pss_nil)
  (pss_cons (ps_if (pt_cmpR op_ne (pe_callB (r := rLenQ K) call_len_seq (by rfl) mB_len (by decide +kernel) (pa_cons (pv 0) pa_nil)) (pe_callB (r := rLenQ K) call_len_seq (by rfl) mB_len (by decide +kernel) (pa_cons (pv 1) pa_nil)) (nomark _))
    (pss_one (ps_ret pe_bl))
    pss_nil)
  (pss_cons (ps_for PassesOwn.never rfl (pi_range1 (by rfl) mB_range (pa_cons (pe_callB (r := rLenQ K) call_len_seq (by rfl) mB_len (by decide +kernel) (pa_cons (pv 1) pa_nil)) pa_nil)) (pg_name (i := 2) sc_law_same.nd rfl (by first | exact Or.inl rfl | exact Or.inr rfl))
    (pss_one (ps_if (pt_not (pt_val (pe_call G_law_same (hr.mono (by decide)) (by rfl) D_law_same.g D_law_same.F.kp D_law_same.b .nil pass0 (pa_cons (pe_ix (r := rIxL K) ix_list (pv 0) (pv 2) (fun _ _ => rfl)) (pa_cons (pe_ix (r := rIxL K) ix_list (pv 1) (pv 2) (fun _ _ => rfl)) pa_nil)))))
    (pss_one (ps_ret pe_bl))
    pss_nil)))
  (pss_one (ps_ret pe_bl)))))))))), ?_⟩
    have e0 : ∀ {x2 : Option V} {G : Hp}, Ex F G → Er (rLst rIt) (tVar 0) [some v, some w', x2] G x := fun e => er_var rfl ((rLst rIt).mono e hv)
    have e1 : ∀ {x2 : Option V} {G : Hp}, Ex F G → Er (rLst rIt) (tVar 1) [some v, some w', x2] G x := fun e => er_var rfl ((rLst rIt).mono e hw)
    have rF := Ex.refl F
    refine w_no (Wd.start eF) (DL.et_test (er_isN (r := rLst rIt) (o := some x) sol_lst (er_to (e1 rF) fun H v hv => hv))) rfl fun H1 w1 s1 => ?_
    refine w_no w1 (DL.et_B (er_isiV (e1 rF) (fun _ _ h => ty_lst h) (kit_ty (by decide +kernel)))) rfl fun H2 w2 s2 => ?_
    refine w_no w2 (DL.et_B (er_isiV (e1 rF) (fun _ _ h => ty_lst h) (kit_ty (by decide +kernel)))) rfl fun H3 w3 s3 => ?_
    refine w_no w3 (DL.et_B (er_isiV (e1 rF) (fun _ _ h => ty_lst h) (kit_ty (by decide +kernel)))) rfl fun H4 w4 s4 => ?_
    refine w_no w4 (et_and (a := false) (b := false) (DL.et_B (er_isiV (e1 rF) (fun _ _ h => ty_lst h) (kit_ty (by decide +kernel)))) fun hb => by cases hb) rfl fun H5 w5 s5 => ?_
    refine w_no w5 (et_and (a := true) (b := false) (DL.et_B (er_isiV (e1 rF) (fun _ _ h => ty_lst h) (kit_ty (by decide +kernel)))) fun _ => et_not (a := true) (DL.et_B (er_isiV (e0 rF) (fun _ _ h => ty_lst h) (kit_ty (by decide +kernel))))) rfl fun H6 w6 s6 => ?_
    refine w_no w6 (DL.et_test (er_neI (er_lenL (e0 rF)) (er_lenL (e1 rF)))) (by simp) fun H7 w7 s7 => ?_
    refine w_for w7 (src_rng1 (ea1 (er_lenL (e1 rF))) (by omega)) tgt_n mono_sn (fun pre σ' G' H' => ∃ (x2 : Option V), Ex F G' ∧ σ' = [some v, some w', x2]) (fun G2 H2 w2 s2 => ⟨none, s2.fr, rfl⟩) (fun Gs pre a post σ' σ2 G' H' G2 H2 has hP s2 w2 eGs hS => ?_) (fun σ' G' H' w2 hP => ?_)
    · obtain ⟨x2, eG, rfl⟩ := hP
      obtain ⟨z, hz, rfl⟩ := hS
      cases (show z = V.int a from hz)
      have ha : a ∈ rng 0 (x.length : Int).toNat := by
        rw [has]
        exact List.mem_append_right _ List.mem_cons_self
      obtain ⟨h1, h2⟩ := mem_rng.mp ha
      obtain ⟨n, rfl⟩ := Int.eq_ofNat_of_zero_le h1
      have hg : x[n]? = some x[n] := List.getElem?_eq_getElem (by omega)
      have eG2 := eG.trans s2.fr
      exact v_no w2 (et_not (a := true) (DL.et_B (er_call (ea2 (er_ixL (e0 eG2) (er_vi rfl) (atI_nat hg)) (er_ixL (e1 eG2) (er_vi rfl) (atI_nat hg))) mono2 ⟨x[n], rfl, hx2 _ (List.mem_of_getElem? hg), rfl⟩))) rfl fun H3 w3 s3 => ⟨G2, w3, eGs, _, eG2, rfl⟩
    · obtain ⟨x2, eG, rfl⟩ := hP
      exact v_retB w2 er_bl fun H3 e3 => q _ H3 e3 rfl
end
end K06
set_option Elab.async false
set_option linter.all false
set_option maxRecDepth 100000
set_option maxHeartbeats 4000000
namespace K06
open PySem PySem.Spec PyProof.Rows L2 Evl DL K98
/-! a def whose result is any of some lists -/
def spNA {β : Type} (s : Rep β) (W : (Hp → List V → Prop) → List β → Prop) : Sp := fun vs H Q _ => ∃ F P, Ex F H ∧ MonoP P ∧ (∃ b, W P b) ∧ P F vs ∧ ∀ b p H2, W P b → Ex H H2 → New s b F H H2 p → Q (.ref p) H2
def A4 {α β γ δ : Type} (r : Rep α) (s : Rep β) (t : Rep γ) (u : Rep δ) (a : α) (b : β) (c : γ) (d : δ) : Hp → List V → Prop := fun G vs => ∃ v w x y, vs = [v, w, x, y] ∧ r.rel G v a ∧ s.rel G w b ∧ t.rel G x c ∧ u.rel G y d
section
variable {α β γ δ : Type} {K : PySem.W.Frag} {σ σ2 : L2.St} {F0 H0 F G G2 G3 H H1 H2 H3 : Hp} {ta tb tc td te tl : TE} {r : Rep α} {s : Rep β} {t : Rep γ} {u : Rep δ} {a : α} {b : β} {c : γ} {d : δ} {as : List α} {p : Addr} {D : Ends} {tz : TS} {i : Nat}
theorem mono4 : MonoP (A4 r s t u a b c d) := fun e ⟨v, w, x, y, h, k1, k2, k3, k4⟩ => ⟨v, w, x, y, h, r.mono e k1, s.mono e k2, t.mono e k3, u.mono e k4⟩
theorem ea4 (h1 : Er r ta σ F a) (h2 : Er s tb σ F b) (h3 : Er t tc σ F c) (h4 : Er u td σ F d) : Ea (A4 r s t u a b c d) (tCons ta (tCons tb (tCons tc (tCons td tNil)))) σ F := fun H1 e _ q =>
  h1 H1 e _ fun v1 H2 e2 k1 => h2 H2 (e.trans e2) _ fun v2 H3 e3 k2 => h3 H3 (e.trans (e2.trans e3)) _ fun v3 H4 e4 k3 => h4 H4 (e.trans (e2.trans (e3.trans e4))) _ fun v4 H5 e5 k4 =>
    q _ H5 (e2.trans (e3.trans (e4.trans e5))) ⟨v1, v2, v3, v4, rfl, r.mono (part_up (e3.trans (e4.trans e5))) k1, s.mono ((part_back e2).trans (part_up (e4.trans e5))) k2, t.mono ((part_back (e2.trans e3)).trans (part_up e5)) k3, u.mono (part_back (e2.trans (e3.trans e4))) k4⟩
theorem w_callA {W : (Hp → List V → Prop) → List β → Prop} {P : Hp → List V → Prop} {E : XK} {tr : TA} (w : Wd F0 H0 G H) (h : Ea P tr σ G) (hP : MonoP P) (ex : ∃ b, W P b)
    (k : ∀ b p G2 H2, W P b → Wd F0 H0 G2 H2 → Stp none G H G2 H2 → Mu s b G2 H2 p → H p = none → tz D (σ.set i (some (.ref p))) H2) : tSeq (tAsg (tCall (spNA s W) [] E tr) (gName i)) tz D σ H :=
  h H w.sub _ fun vs H2 e2 hk => ⟨part G H H2, P, part_sub (w.sub.trans e2), hP, ex, by rw [List.append_nil]; exact hk, fun b p H3 wb e3 ⟨k1, xs, k2, k3⟩ => by
    have n : New s b G H H3 p := ⟨back_none e2 k1, xs, k2, k3.imp fun _ _ k => s.mono (mns_up (part_part e2 (Ex.refl H2) e3)) k⟩
    exact k b p _ H3 wb (w.new n (e2.trans e3)) (stp_new n w.sub (e2.trans e3)) n.mu n.1⟩
/-- xs.append(xs[j]), a list of one's own -/
theorem v_appSelf {j : Nat} {tj : TE} (w : Wd F0 H0 G H) (w3 : Wd F0 H0 G3 H) (e3 : Ex G G3) (hi : σ[i]? = some (some (.ref p))) (m : Mu r as G H p) (h0 : H0 p = none) (hl : as.length < 100000) (hj : Er rInt tj σ G3 (j : Int)) (hlt : j < as.length)
    (k : ∀ G2 H2, Wd F0 H0 G2 H2 → Stp (some p) G H G2 H2 → Mu r (as ++ [as[j]]) G2 H2 p → D.nx σ H2) : tDrop (tBM K "list" rAppend (tVar i) (tCons (tOp (rIxL K) (tVar i) tj) tNil)) D σ H := by
  obtain ⟨h1, xs, h2, h3⟩ := m
  refine ⟨_, hi, Or.inl ⟨rfl, xs, SqL.of h2⟩, _, hi, hj H w3.sub _ fun u H2 e2 hu => ?_⟩
  cases (show u = V.int (j : Int) from hu)
  have hlx : j < xs.length := by
    rw [h3.len]
    exact hlt
  have hel : r.rel G xs[j] as[j] := by
    have : ∀ {xs : List V} {as : List α} (_ : Al (r.rel G) xs as) (j : Nat) (h1 : j < xs.length) (h2 : j < as.length), r.rel G xs[j] as[j] := by
      intro xs as h
      induction h with
      | nil => intro j h1; exact absurd h1 (Nat.not_lt_zero _)
      | cons a t ih =>
        intro j h1 h2
        cases j with
        | zero => exact a
        | succ n => exact ih n (Nat.lt_of_succ_lt_succ h1) (Nat.lt_of_succ_lt_succ h2)
    exact this h3 j hlx hlt
  refine ⟨p, xs, (j : Int), xs[j], rfl, rfl, SqL.of (e2 p _ h2), atI_nat (List.getElem?_eq_getElem hlx), p, xs, xs[j], rfl, rfl, e2 p _ h2, by rw [h3.len]; exact sz_lt hl, ?_⟩
  have hG : part G H H2 p = none := part_old h1 h2
  exact k (part G H H2) _ ((w.ev e2).put hG h0) (Stp.trans (stp_ev e2).any stp_put) ⟨hG, _, upd_same, Al.snoc (h3.imp fun _ _ k => r.mono part_ex k) (r.mono part_ex hel)⟩
end
end K06
set_option Elab.async false
set_option linter.all false
set_option maxRecDepth 100000
set_option maxHeartbeats 4000000
namespace K06
open PySem PySem.Spec PyProof.Rows L2 Evl DL K98
theorem mu_over {α : Type} {r : Rep α} {as : List α} {G G2 H : Hp} {p d : Addr} (m : Mu r as G H p) (e : Ex G G2) (o : ∀ c, c ≠ d → G2 c = G c) (n : p ≠ d) : Mu r as G2 H p := by
  obtain ⟨h1, xs, h2, h3⟩ := m
  exact ⟨(o p n).trans h1, xs, h2, h3.imp fun _ _ k => r.mono e k⟩
theorem mu_ne {α : Type} {r : Rep α} {as : List α} {G H : Hp} {p d : Addr} (m : Mu r as G H p) (h : H d = none) : p ≠ d := fun e => by
  obtain ⟨_, xs, h2, _⟩ := m
  rw [e, h] at h2
  cases h2
def lotS (l : List Int) : List Int := (rng 0 12).filter fun x => decide (x ∈ l)
theorem lotS_len (f : Int → Bool) : ((rng 0 12).filter f).length ≤ 12 := by
  have := List.length_filter_le f (rng 0 12)
  rw [rng_len] at this
  exact this
theorem lotS_perm {l : List Int} (hn : l.Nodup) (hm : ∀ y ∈ l, 0 ≤ y ∧ y < 12) : l.Perm (lotS l) := by
  refine (List.perm_ext_iff_of_nodup hn (asc_nodup ((rng_sorted 0 12).filter _))).mpr fun x => ?_
  rw [List.mem_filter, mem_rng, decide_eq_true_iff]
  constructor
  · intro h
    have := hm x h
    exact ⟨by omega, h⟩
  · exact fun h => h.2
theorem lotS_sort {l ns : List Int} (hn : l.Nodup) (hm : ∀ y ∈ l, 0 ≤ y ∧ y < 12) (hp : ns.Perm l) (hs : ns.Pairwise (· ≤ ·)) : ns = lotS l :=
  sorted_eq (hp.trans (lotS_perm hn hm)) hs (((rng_sorted 0 12).filter _).imp fun h => by omega)
def Fine (xs : List Itm) : Prop := ∀ x ∈ xs, Lot12 x.2 ∧ x.2.length ≤ 12
theorem fine_nil : Fine [] := fun x hx => by cases hx
theorem Fine.snoc {xs : List Itm} {x : Itm} (h : Fine xs) (k : Lot12 x.2 ∧ x.2.length ≤ 12) : Fine (xs ++ [x]) := fun y hy => by
  rcases List.mem_append.mp hy with q | q
  · exact h y q
  · rw [List.mem_singleton] at q
    rw [q]
    exact k
def wItems (K : PySem.W.Frag) : (Hp → List V → Prop) → List Itm → Prop := fun Pp b => ∃ (ns : List Int) (first : Nat) (span : Int) (large : Bool), Pp = A4 (rFro K) rInt rInt rBl ns (first : Int) span large ∧ ns.length ≤ 63 ∧ first ≤ 100 ∧ 0 < span ∧ span ≤ 12 ∧ Good b
def msI : List Int := [5, 6, 12, 12, 12, 12, 12, 4, 60, 10 ^ 9]
section
variable {P : Program} {w : World} {K : PySem.W.Frag} {mg : Str → Option Value} {base : Heap}
theorem ok_law_items {f fC fD : Addr} {fd fdC fdD : FuncData} (D : DefAt K mg "_law_items" s_law_items ["script", "first", "span", "large"] f fd) (D_law_cell : DefAt K mg "_law_cell" s_law_cell ["script", "k"] fC fdC) (D_law_draws : DefAt K mg "_law_draws" s_law_draws ["cell", "limits"] fD fdD)
    (mB_len : mg "len" = none) (mB_int : mg "int" = none) (mB_range : mg "range" = none) (mB_tuple : mg "tuple" = none) (mB_sorted : mg "sorted" = none) : FnOk P w K mg base CX0 2 f fd ["script", "first", "span", "large"] (spNA rIt (wItems K)) := by
  have G_law_cell : FnOk P w K mg base CX0 1 fC fdC ["script", "k"] (spV rInt (wCell K)) := ok_law_cell D_law_cell mB_len
  have G_law_draws : FnOk P w K mg base CX0 1 fD fdD ["cell", "limits"] (spN rInt wDraws) := ok_law_draws D_law_draws mB_int
  refine D.F.ok sc_law_items (fun vs H Q E h => ?_) (fun cdv A outer s H vs Q E hr h => ?_)
  · obtain ⟨F, Pp, _, _, ⟨b, ns, first, span, large, rfl, _⟩, ⟨v, w, x, y, rfl, _⟩, _⟩ := h
    rfl
  · obtain ⟨F, Pp, eF, _, ⟨b, ns, first, span, large, rfl, hl, hf, hs0, hs1, _⟩, ⟨v, w1, w2, w3, rfl, hv, hw1, hw2, hw3⟩, q⟩ := h
    cases (show w1 = V.int first from hw1)
    cases (show w2 = V.int span from hw2)
    cases (show w3 = V.bl large from hw3)
    refine ⟨_, (pss_cons (ps_set (i := 4) sc_law_items.nd rfl (by first | exact Or.inl rfl | exact Or.inr rfl) (pe_lst pa_nil))
  (pss_cons (ps_for PassesOwn.never rfl (pi_range1 (by rfl) mB_range (pa_cons (pe_ix (r := rIxL K) ix_list (pe_call G_law_draws (hr.mono (by decide)) (by rfl) D_law_draws.g D_law_draws.F.kp D_law_draws.b .nil pass0 (pa_cons (pe_call G_law_cell (hr.mono (by decide)) (by rfl) D_law_cell.g D_law_cell.F.kp D_law_cell.b .nil pass0 (pa_cons (pv 0) (pa_cons (pv 1) pa_nil))) (pa_cons (pe_lst (pa_cons pe_int pa_nil)) pa_nil))) pe_int (fun _ _ => rfl)) pa_nil)) (pg_name (i := 5) sc_law_items.nd rfl (by first | exact Or.inl rfl | exact Or.inr rfl))
    (pss_cons (ps_set (i := 6) sc_law_items.nd rfl (by first | exact Or.inl rfl | exact Or.inr rfl) (pe_call G_law_draws (hr.mono (by decide)) (by rfl) D_law_draws.g D_law_draws.F.kp D_law_draws.b .nil pass0 (pa_cons (pe_call G_law_cell (hr.mono (by decide)) (by rfl) D_law_cell.g D_law_cell.F.kp D_law_cell.b .nil pass0 (pa_cons (pv 0) (pa_cons (pe_op op_add (pe_op op_add (pv 1) pe_int) (pv 5)) pa_nil))) (pa_cons (pe_lst (pa_cons pe_int (pa_cons pe_int (pa_cons pe_int (pa_cons pe_int (pa_cons pe_int (pa_cons pe_int (pa_cons pe_int (pa_cons pe_int (pa_cons pe_int (pa_cons (pe_op op_pow pe_int pe_int) pa_nil))))))))))) pa_nil))))
  (pss_cons (ps_set (i := 7) sc_law_items.nd rfl (by first | exact Or.inl rfl | exact Or.inr rfl) (pe_lst pa_nil))
  (pss_cons (ps_for PassesOwn.never rfl (pi_listK (K := K) (pe_slice (r := rSlL K) sl_list (pv 6) (po_some pe_int) (po_some (pe_op op_add pe_int (pe_ix (r := rIxL K) ix_list (pv 6) pe_int (fun _ _ => rfl)))))) (pg_name (i := 8) sc_law_items.nd rfl (by first | exact Or.inl rfl | exact Or.inr rfl))
    (pss_one (ps_if (pt_cmpR (r := rIn K true) op_notIn_seq (pe_op op_mod (pv 8) (pv 2)) (pv 7) (by rfl))
    (pss_one (ps_expr (pe_bm PySem.F.plainAttrs_list PySem.F.slot_list_append PySem.F.type_list_append mt_append (pv 7) (pa_cons (pe_op op_mod (pv 8) (pv 2)) pa_nil))))
    pss_nil)))
  (pss_cons (ps_set (i := 9) sc_law_items.nd rfl (by first | exact Or.inl rfl | exact Or.inr rfl) (pe_op op_sub (pe_ix (r := rIxL K) ix_list (pv 6) pe_int (fun _ _ => rfl)) pe_int))
  (pss_cut (ps_if (pt_val (pv 3))
    (pss_one (ps_set (i := 9) sc_law_items.nd rfl (by first | exact Or.inl rfl | exact Or.inr rfl) (pe_op op_add (pe_op op_mul (pv 9) (pe_op op_pow pe_int pe_int)) (pe_ix (r := rIxL K) ix_list (pv 6) pe_int (fun _ _ => rfl)))))
    pss_nil)
  (pss_cons (ps_expr (pe_bm PySem.F.plainAttrs_list PySem.F.slot_list_append PySem.F.type_list_append mt_append (pv 4) (pa_cons (pe_tup (pa_cons (pv 9) (pa_cons (pe_callTy (r := rTupQ K) call_tuple_of (by rfl) mB_tuple (by decide +kernel) (pa_cons (pe_callB (r := rSortedI K) cr_sortedI (by rfl) mB_sorted (by decide +kernel) (pa_cons (pv 7) pa_nil)) pa_nil)) pa_nil))) pa_nil)))
  (pss_one (ps_if (pt_cmpR op_eq (pe_ix (r := rIxL K) ix_list (pv 6) pe_int (fun _ _ => rfl)) pe_int (nomark _))
    (pss_one (ps_expr (pe_bm PySem.F.plainAttrs_list PySem.F.slot_list_append PySem.F.type_list_append mt_append (pv 4) (pa_cons (pe_ix (r := rIxL K) ix_list (pv 4) (pe_op op_mod (pe_ix (r := rIxL K) ix_list (pv 6) pe_int (fun _ _ => rfl)) (pe_callB (r := rLenQ K) call_len_seq (by rfl) mB_len (by decide +kernel) (pa_cons (pv 4) pa_nil))) (fun _ _ => rfl)) pa_nil))))
    pss_nil)))))))))
  (pss_one (ps_ret (pv 4))))), ?_⟩
    obtain ⟨d0, hd0, h00, h09⟩ : ∃ x, (drawn (cell ns first) [9])[0]? = some x ∧ 0 ≤ x ∧ x < 9 := draws_get [9] _ _ 0 9 (fun x hx => by
      rw [List.mem_singleton] at hx
      omega) rfl
    refine w_asgN (r := rIt) (Wd.start eF) (en_lst eal_nil (Nat.zero_le _)) fun p G1 H1 w1 s1 mp np => ?_
    refine w_for w1 (src_rng1 (n := d0) (ea1 (er_ixL (En.er (en_call (ea2 (er_call (ea2 (er_var rfl ((rFro K).mono w1.old hv)) (er_vi rfl)) mono2 ⟨ns, first, rfl, hl, by omega, rfl⟩) (En.er (en_lst (eal_cons er_int eal_nil) (by show 1 ≤ 100000; decide)))) mono2 ⟨cell ns first, [9], rfl, by decide, by decide, rfl⟩)) er_int (show L2.atI _ (0 : Int) = some d0 from atI_nat (j := 0) hd0))) (by omega)) tgt_n mono_sn
      (fun pre σ' G' H' => ∃ (its : List Itm) (x5 x6 x7 x8 x9 : Option V), its.length ≤ 2 * pre.length ∧ Fine its ∧ Mu rIt its G' H' p ∧ σ' = [some v, some (.int (first : Int)), some (.int span), some (.bl large), some (.ref p), x5, x6, x7, x8, x9])
      (fun G2 H2 w2 s2 => ⟨[], _, _, _, _, _, Nat.le_refl _, fine_nil, mp.go s2, rfl⟩) (fun Gs pre a post σ' σ2 G' H' G2 H2 has hP s2 w2 eGs hS => ?_) (fun σ' G' H' w2 hP => ?_)
    · obtain ⟨its, x5, x6, x7, x8, x9, hlen, hgood, mp2, rfl⟩ := hP
      obtain ⟨z, hz, rfl⟩ := hS
      cases (show z = V.int a from hz)
      have m2 := mp2.go s2
      have ha : a ∈ rng 0 d0.toNat := by
        rw [has]
        exact List.mem_append_right _ List.mem_cons_self
      obtain ⟨ha1, ha2⟩ := mem_rng.mp ha
      obtain ⟨k, rfl⟩ := Int.eq_ofNat_of_zero_le ha1
      have hpre : pre.length < 9 := by
        have h2 := congrArg List.length has
        rw [rng_len, List.length_append, List.length_cons] at h2
        omega
      have hd : ∀ (i : Nat) (m : Int), msI[i]? = some m → ∃ x, (drawn (cell ns (first + 1 + k)) msI)[i]? = some x ∧ 0 ≤ x ∧ x < m := fun i m h => draws_get msI _ _ i m (by decide) h
      obtain ⟨e0, he0, _⟩ := hd 0 _ rfl
      obtain ⟨e1, he1, _⟩ := hd 1 _ rfl
      obtain ⟨e7, he7, _⟩ := hd 7 _ rfl
      obtain ⟨e8, he8, _⟩ := hd 8 _ rfl
      obtain ⟨e9, he9, _⟩ := hd 9 _ rfl
      -- drawn
      refine w_asgN (r := rInt) (as := drawn (cell ns (first + 1 + k)) msI) w2 (en_call (ea2 (er_call (ea2 (er_var rfl ((rFro K).mono w2.old hv)) (er_is (er_I0 (er_I0 (er_vi rfl) er_int) (er_vi rfl)) (show (first : Int) + 1 + (k : Int) = ((first + 1 + k : Nat) : Int) by omega))) mono2 ⟨ns, first + 1 + k, rfl, hl, by omega, rfl⟩)
        (En.er (en_lst (as := msI) (eal_cons er_int (eal_cons er_int (eal_cons er_int (eal_cons er_int (eal_cons er_int (eal_cons er_int (eal_cons er_int (eal_cons er_int (eal_cons er_int (eal_cons (er_I (C := CPow) er_int er_int ⟨by decide, by decide, by decide⟩) eal_nil)))))))))) (by decide)))) mono2 ⟨_, msI, rfl, by decide, by decide, rfl⟩) fun dA G3 H3 w3 s3 md nd => ?_
      have nd0 : H dA = none := back_none w2.up nd
      have m3 := m2.go s3
      obtain ⟨G4, w4, e34, rd, o4⟩ := md.froz w3 nd0
      have m4 := mu_over m3 e34 o4 (mu_ne m2 nd)
      -- lot = []
      refine w_asgN (r := rInt) w4 (en_lst eal_nil (Nat.zero_le _)) fun l G5 H5 w5 s5 ml nl => ?_
      have nl0 : H l = none := back_none w4.up nl
      have m5 := m4.go s5
      have hpl : p ≠ l := mu_ne m4 nl
      have rd5 := (rLst rInt).mono s5.fr rd
      refine w_for w5 (src_list (En.er (en_sl (er_var rfl rd5) (eo_part er_int) (eo_part (er_I0 er_int (er_ixL (er_var rfl rd5) er_int (show L2.atI _ (1 : Int) = some e1 from atI_nat (j := 1) he1))))))) tgt_n mono_sn
        (fun pre2 σ' G' H' => ∃ (lot : List Int) (x8 : Option V), lot.Nodup ∧ (∀ y ∈ lot, 0 ≤ y ∧ y < 12) ∧ Mu rInt lot G' H' l ∧ Mu rIt its G' H' p ∧ Ex G5 G' ∧ σ' = [some v, some (.int (first : Int)), some (.int span), some (.bl large), some (.ref p), some (.int (k : Int)), some (.ref dA), some (.ref l), x8, x9])
        (fun G6 H6 w6 s6 => ⟨[], _, .nil, (List.forall_mem_nil (fun y : Int => 0 ≤ y ∧ y < 12)), ml.go s6, m5.go s6, s6.fr, rfl⟩) (fun Gt pre2 a2 post2 σ' σ2 G' H' G6 H6 has2 hP2 s6 w6 eGt hS2 => ?_) (fun σ' G6 H6 w6 hP2 => ?_)
      · obtain ⟨lot, x8, hnd, hmem, ml2, m6, e6, rfl⟩ := hP2
        obtain ⟨zf, hf2, rfl⟩ := hS2
        cases (show zf = V.int a2 from hf2)
        have ml6 := ml2.go s6
        have m7 := m6.go s6
        obtain ⟨G7, w7, e67, rl, o7⟩ := ml6.froz w6 nl0
        have h12 : lot.length ≤ 12 := by
          rw [(lotS_perm hnd hmem).length_eq]
          exact lotS_len _
        refine v_when w7 (DL.et_test (er_niL (er_I (er_vi rfl) (er_vi rfl) hs0) (er_var rfl rl))) (fun hb H8 w8 s8 => ?_) (fun hb H8 w8 s8 => ?_)
        · have hb : a2 % span ∉ lot := by simpa using hb
          have s8' : Stp none G6 H6 G6 H8 := ⟨Ex.refl _, s8.hp, fun _ _ _ n => n⟩
          refine v_app (w6.back w8 e67) rfl (ml6.go s8') nl0 (by omega) (er_I (er_vi rfl) (er_vi rfl) hs0) fun G9 H9 w9 s9 m9 => ?_
          refine ⟨G9, w9, eGt.trans s9.fr, lot ++ [a2 % span], _, ?_, fun y hy => ?_, m9, (m7.go s8').step s9 (fun e => hpl (Option.some.inj e)), (e6.trans s6.fr).trans s9.fr, rfl⟩
          · refine List.nodup_append.mpr ⟨hnd, List.nodup_cons.mpr ⟨by simp, List.nodup_nil⟩, fun u hu u2 hu2 e => ?_⟩
            rw [List.mem_singleton] at hu2
            rw [e, hu2] at hu
            exact hb hu
          · rcases List.mem_append.mp hy with q | q
            · exact hmem y q
            · rw [List.mem_singleton] at q
              rw [q]
              have h1 := Int.emod_nonneg a2 (show span ≠ 0 by omega)
              have h2 := Int.emod_lt_of_pos a2 hs0
              omega
        · have s8' : Stp none G6 H6 G6 H8 := ⟨Ex.refl _, s8.hp, fun _ _ _ n => n⟩
          exact ⟨G6, w6.back w8 e67, eGt, lot, _, hnd, hmem, ml6.go s8', m7.go s8', e6.trans s6.fr, rfl⟩
      · obtain ⟨lot, x8, hnd, hmem, ml6, m6, e6, rfl⟩ := hP2
        -- worth
        have rd6 := (rLst rInt).mono e6 rd5
        refine w_asgI w6 (er_I0 (er_ixL (er_var rfl rd6) er_int (show L2.atI _ (0 : Int) = some e0 from atI_nat (j := 0) he0)) er_int) fun H7 w7 s7 => ?_
        refine ⟨fun σ' H' => ∃ wo : Int, Wd F H G6 H' ∧ Stp none G6 H6 G6 H' ∧ σ' = [some v, some (.int (first : Int)), some (.int span), some (.bl large), some (.ref p), some (.int (k : Int)), some (.ref dA), some (.ref l), x8, some (.int wo)], ?_, ?_⟩
        · refine v_when w7 (DL.et_B (er_var (r := rBl) rfl rfl)) (fun hb H8 w8 s8 => ?_) (fun hb H8 w8 s8 => ⟨_, w8, s7.trans s8, rfl⟩)
          exact v_asgI w8 (er_I0 (er_I (er_vi rfl) (er_I (C := CPow) er_int er_int ⟨by decide, by decide, by decide⟩) (Or.inr (by decide))) (er_ixL (er_var rfl rd6) er_int (show L2.atI _ (9 : Int) = some e9 from atI_nat (j := 9) he9))) fun H9 w9 s9 => ⟨_, w9, s7.trans (s8.trans s9), rfl⟩
        · rintro σ' H8 ⟨wo, w8, s8, rfl⟩
          have ml8 := ml6.go s8
          have m8 := m6.go s8
          obtain ⟨G9, w9, e89, rl, o9⟩ := ml8.froz w8 nl0
          have m9 := mu_over m8 e89 o9 hpl
          refine w_app w9 rfl m9 np (by omega) (er_pair (a := wo) (b := lotS lot) (ea2 (er_vi rfl) (er_tupOf (En.er (en_sortI (er_var rfl rl) fun ns' h1 h2 => lotS_sort hnd hmem h1 h2))))) fun G10 H10 w10 s10 m10 => ?_
          have hg2 : Fine (its ++ [(wo, lotS lot)]) := hgood.snoc (show Lot12 (lotS lot) ∧ (lotS lot).length ≤ 12 from ⟨lot12_filter _, lotS_len _⟩)
          have e610 : Ex G6 G10 := e89.trans s10.fr
          refine v_when w10 (DL.et_test (er_eqI (er_ixL (er_var rfl ((rLst rInt).mono e610 rd6)) er_int (show L2.atI _ (7 : Int) = some e7 from atI_nat (j := 7) he7)) er_int)) (fun hb H11 w11 s11 => ?_) (fun hb H11 w11 s11 => ?_)
          · have m11 := m10.go s11
            obtain ⟨G12, w12, e112, ri, o12⟩ := m11.froz w11 np
            have hpos : 0 < (((its ++ [(wo, lotS lot)]).length : Nat) : Int) := by
              rw [List.length_append, List.length_singleton]
              omega
            obtain ⟨j, hj⟩ := Int.eq_ofNat_of_zero_le (Int.emod_nonneg e8 (show (((its ++ [(wo, lotS lot)]).length : Nat) : Int) ≠ 0 by omega))
            have hj2 := Int.emod_lt_of_pos e8 hpos
            rw [hj] at hj2
            have hjl : j < (its ++ [(wo, lotS lot)]).length := by omega
            refine v_appSelf (j := j) w11 w12 e112 rfl m11 np (by rw [List.length_append, List.length_singleton]; omega) (er_is (er_I (er_ixL (er_var rfl ((rLst rInt).mono (e610.trans e112) rd6)) er_int (show L2.atI _ (8 : Int) = some e8 from atI_nat (j := 8) he8)) (er_lenL (er_var rfl ri)) hpos) hj) hjl fun G13 H13 w13 s13 m13 => ?_
            refine ⟨G13, w13, eGs.trans (s3.fr.trans (e34.trans (s5.fr.trans (e6.trans (e610.trans s13.fr))))), _, _, _, _, _, _, ?_, hg2.snoc (hg2 _ (List.getElem_mem hjl)), m13, rfl⟩
            rw [List.length_append, List.length_append, List.length_append]
            simp only [List.length_singleton]
            omega
          · refine ⟨G10, w11, eGs.trans (s3.fr.trans (e34.trans (s5.fr.trans (e6.trans e610)))), _, _, _, _, _, _, ?_, hg2, m10.go s11, rfl⟩
            rw [List.length_append, List.length_append]
            simp only [List.length_singleton]
            omega
    · obtain ⟨its, x5, x6, x7, x8, x9, hlen, hgood, mp2, rfl⟩ := hP
      refine v_retM w2 rfl mp2 (back_none (Ex.refl _) np) fun n => q its p H' ⟨ns, first, span, large, rfl, hl, hf, hs0, hs1, ⟨?_, hgood⟩⟩ w2.up n
      rw [rng_len] at hlen
      omega
end
end K06
set_option Elab.async false
set_option linter.all false
set_option maxRecDepth 100000
set_option maxHeartbeats 4000000
namespace K06
open PySem PySem.Spec PyProof.Rows L2 Evl DL K98
theorem inV_bls {n : Bool} : ∀ {ns : List Bool}, inV (.bl n) (ns.map V.bl) = decide (n ∈ ns)
  | [] => rfl
  | m :: ns => by
    show (m == n || inV (.bl n) (ns.map V.bl)) = _
    rw [inV_bls]
    by_cases h : m = n
    · subst h; simp
    · have h2 : ¬ n = m := fun z => h z.symm
      simp [h, h2]
theorem flat_bls : ∀ {ns : List Bool}, (ns.map V.bl).all flatV = true
  | [] => rfl
  | _ :: ns => by
    show (true && (ns.map V.bl).all flatV) = true
    rw [flat_bls]
    rfl
theorem er_niB {K : PySem.W.Frag} {σ : L2.St} {F : Hp} {ta tb : TE} {n : Bool} {ns : List Bool} (ha : Er rBl ta σ F n) (hb : Er (rLst rBl) tb σ F ns) : Er rBl (tOp (rIn K true) ta tb) σ F (!decide (n ∈ ns)) := fun H1 e Q q =>
  er_two ha hb e fun x y H3 e3 hx ⟨p, xs, hy, hp, hal⟩ => by
    cases (show x = V.bl n from hx)
    rw [rel_bls hal] at hp
    refine ⟨p, _, hy, .inl (SqL.of (part_sub (e.trans e3) p _ hp)), rfl, flat_bls, ?_⟩
    rw [inV_bls]
    exact q _ H3 e3 rfl
theorem apart_iff {a b : List Int} : apartB a b = true ↔ ∀ x ∈ a, x ∉ b := by
  unfold apartB
  rw [Bool.not_eq_true', ← Bool.not_eq_true, List.any_eq_true]
  constructor
  · intro h x hx hb
    exact h ⟨true, List.mem_map.mpr ⟨x, hx, decide_eq_true hb⟩, rfl⟩
  · rintro h ⟨k, hk, rfl⟩
    obtain ⟨x, hx, e⟩ := List.mem_map.mp hk
    exact h x hx (of_decide_eq_true e)
theorem gaL_app (xs zs ys : List Itm) : gaL (xs ++ zs) ys = gaL xs ys ++ gaL zs ys := List.flatMap_append
theorem gaL_one (x : Itm) (ys : List Itm) : gaL [x] ys = (ys.filter fun y => apartB x.2 y.2).map fun y => (x.1 + y.1, both x.2 y.2) := List.flatMap_singleton _ _
theorem grown_yes {x : Itm} {t wo : Int} (h : t ∉ x.2) : gaL [x] [(wo, [t])] = [(x.1 + wo, both x.2 [t])] := by
  rw [gaL_one, List.filter_cons, if_pos (apart_iff.mpr fun y hy e => by
    rw [List.mem_singleton] at e
    rw [e] at hy
    exact h hy)]
  rfl
theorem grown_no {x : Itm} {t wo : Int} (h : t ∈ x.2) : gaL [x] [(wo, [t])] = [] := by
  rw [gaL_one, List.filter_cons, if_neg fun e => apart_iff.mp e t h (by simp)]
  rfl
theorem grown_lot {a : List Int} {t : Int} (ha : Lot12 a) (h0 : 0 ≤ t) (h1 : t < 12) (hn : t ∉ a) : (a.filter fun x => decide (x < t)) ++ [t] ++ (a.filter fun x => decide (t < x)) = both a [t] := by
  have hs : ((a.filter fun x => decide (x < t)) ++ [t] ++ (a.filter fun x => decide (t < x))).Pairwise (· < ·) := by
    refine List.pairwise_append.mpr ⟨List.pairwise_append.mpr ⟨ha.asc.filter _, List.pairwise_singleton _ _, fun x hx y hy => ?_⟩, ha.asc.filter _, fun x hx y hy => ?_⟩
    · rw [List.mem_singleton] at hy
      have := of_decide_eq_true (List.mem_filter.mp hx).2
      omega
    · have hy := of_decide_eq_true (List.mem_filter.mp hy).2
      rcases List.mem_append.mp hx with q | q
      · have := of_decide_eq_true (List.mem_filter.mp q).2
        omega
      · rw [List.mem_singleton] at q
        omega
  refine join_sorted ha (lot_one h0 h1) (fun x hx e => ?_) ((List.perm_ext_iff_of_nodup (asc_nodup hs) (List.nodup_append.mpr ⟨asc_nodup ha.asc, by simp, fun x hx y hy e => ?_⟩)).mpr fun x => ?_) (hs.imp fun h => by omega)
  · rw [List.mem_singleton] at e
    rw [e] at hx
    exact hn hx
  · rw [List.mem_singleton] at hy
    rw [e, hy] at hx
    exact hn hx
  · rw [List.mem_append, List.mem_append, List.mem_filter, List.mem_filter, List.mem_append, List.mem_singleton, decide_eq_true_iff, decide_eq_true_iff]
    constructor
    · rintro ((h | h) | h)
      · exact .inl h.1
      · exact .inr h
      · exact .inl h.1
    · rintro (h | h)
      · by_cases e : x < t
        · exact .inl (.inl ⟨h, e⟩)
        · by_cases e2 : x = t
          · exact .inl (.inr e2)
          · exact .inr ⟨h, by omega⟩
      · exact .inl (.inr h)
theorem RK_fine {xs : List Itm} (h : Fine xs) : Fine (RK xs) := fun x hx => h x (((RK_spec xs).2 x).mp hx)
theorem RK_good {xs : List Itm} (h : Good xs) : Good (RK xs) := ⟨Nat.le_trans (RK_len xs) h.len, RK_fine h.lot⟩
theorem joins_RK (xs ys : List Itm) : RK (gaL (RK xs) (RK ys)) = RK (gaL xs ys) := RK_congr fun z => by
  rw [gaL_mem, gaL_mem]
  constructor
  · rintro ⟨x, hx, y, hy, h⟩
    exact ⟨x, ((RK_spec xs).2 x).mp hx, y, ((RK_spec ys).2 y).mp hy, h⟩
  · rintro ⟨x, hx, y, hy, h⟩
    exact ⟨x, ((RK_spec xs).2 x).mpr hx, y, ((RK_spec ys).2 y).mpr hy, h⟩
theorem both_lot (a b : List Int) : Lot12 (both a b) ∧ (both a b).length ≤ 12 := ⟨lot12_filter _, lotS_len _⟩
theorem gaL_fine (xs ys : List Itm) : Fine (gaL xs ys) := fun z hz => by
  obtain ⟨x, _, y, _, _, rfl⟩ := gaL_mem.mp hz
  exact both_lot _ _
section
variable {P : Program} {w : World} {K : PySem.W.Frag} {mg : Str → Option Value} {base : Heap}
theorem ok_law_grown {f fR fB : Addr} {fd fdR fdB : FuncData} (D : DefAt K mg "_law_grown" s_law_grown ["items", "thing", "worth"] f fd) (D_law_by_rank : DefAt K mg "_law_by_rank" s_law_by_rank ["items"] fR fdR) (D_law_before : DefAt K mg "_law_before" s_law_before ["one", "other"] fB fdB)
    (mB_len : mg "len" = none) (mB_tuple : mg "tuple" = none) : FnOk P w K mg base CX0 3 f fd ["items", "thing", "worth"] (spN rIt wGrow) := by
  have G_law_by_rank : FnOk P w K mg base CX0 2 fR fdR ["items"] (spN rIt wByRank) := ok_law_by_rank D_law_by_rank D_law_before mB_len
  refine D.F.ok sc_law_grown (fun vs H Q E h => ?_) (fun cdv A outer s H vs Q E hr h => ?_)
  · obtain ⟨F, Pp, b, _, _, ⟨xs, t, w, rfl, _⟩, ⟨v, w1, w2, rfl, _⟩, _⟩ := h
    rfl
  · obtain ⟨F, Pp, b, eF, _, ⟨xs, t, wo, rfl, gx, h0, h1, rfl⟩, ⟨v, w1, w2, rfl, hv, hw1, hw2⟩, q⟩ := h
    cases (show w1 = V.int t from hw1)
    cases (show w2 = V.int wo from hw2)
    refine ⟨_, (pss_cons (ps_set (i := 3) sc_law_grown.nd rfl (by first | exact Or.inl rfl | exact Or.inr rfl) (pe_lst pa_nil))
  (pss_cons (ps_for PassesOwn.never rfl (pi_listK (K := K) (pv 0)) (pg_name (i := 4) sc_law_grown.nd rfl (by first | exact Or.inl rfl | exact Or.inr rfl))
    (pss_one (ps_if (pt_cmpR (r := rIn K true) op_notIn_seq (pv 1) (pe_ix (r := rIxT K) ix_tup (pv 4) pe_int (fun _ _ => rfl)) (by rfl))
    (pss_cons (ps_set (i := 5) sc_law_grown.nd rfl (by first | exact Or.inl rfl | exact Or.inr rfl) (pe_op (r := rCat) op_cat (pe_op (r := rCat) op_cat (pe_lc (own := [("x", 6)]) (g := gName 6) rfl sc_law_grown.nd (pi_tupK (K := K) (pe_ix (r := rIxT K) ix_tup (pv 4) pe_int (fun _ _ => rfl))) (blkOk_by (own := [("x", 6)]) (N := ["items", "thing", "worth", "found", "item", "lot", "x"]) (sc := defScope s_law_grown) (by decide +kernel)) (fun _ _ _ _ _ => (pg_name (i := 6) sc_law_grown.nd rfl (by first | exact Or.inl rfl | exact Or.inr rfl))) (fun _ _ _ _ _ => pts_one (pt_cmpR op_lt (pv 6) (pv 1) (nomark _))) (fun _ _ _ _ _ => (pv 6))) (pe_lst (pa_cons (pv 1) pa_nil))) (pe_lc (own := [("x", 6)]) (g := gName 6) rfl sc_law_grown.nd (pi_tupK (K := K) (pe_ix (r := rIxT K) ix_tup (pv 4) pe_int (fun _ _ => rfl))) (blkOk_by (own := [("x", 6)]) (N := ["items", "thing", "worth", "found", "item", "lot", "x"]) (sc := defScope s_law_grown) (by decide +kernel)) (fun _ _ _ _ _ => (pg_name (i := 6) sc_law_grown.nd rfl (by first | exact Or.inl rfl | exact Or.inr rfl))) (fun _ _ _ _ _ => pts_one (pt_cmpR op_gt (pv 6) (pv 1) (nomark _))) (fun _ _ _ _ _ => (pv 6)))))
  (pss_one (ps_expr (pe_bm PySem.F.plainAttrs_list PySem.F.slot_list_append PySem.F.type_list_append mt_append (pv 3) (pa_cons (pe_tup (pa_cons (pe_op op_add (pe_ix (r := rIxT K) ix_tup (pv 4) pe_int (fun _ _ => rfl)) (pv 2)) (pa_cons (pe_callTy (r := rTupQ K) call_tuple_of (by rfl) mB_tuple (by decide +kernel) (pa_cons (pv 5) pa_nil)) pa_nil))) pa_nil)))))
    pss_nil)))
  (pss_one (ps_ret (pe_call G_law_by_rank (hr.mono (by decide)) (by rfl) D_law_by_rank.g D_law_by_rank.F.kp D_law_by_rank.b .nil pass0 (pa_cons (pv 3) pa_nil)))))), ?_⟩
    refine w_asgN (r := rIt) (Wd.start eF) (en_lst eal_nil (Nat.zero_le _)) fun p G1 H1 w1 s1 mp np => ?_
    refine w_for w1 (src_list (er_var rfl ((rLst rIt).mono s1.fr hv))) tgt_n mono_sn (fun pre σ' G' H' => ∃ (x4 x5 x6 : Option V), Mu rIt (gaL pre [(wo, [t])]) G' H' p ∧ σ' = [some v, some (.int t), some (.int wo), some (.ref p), x4, x5, x6])
      (fun G2 H2 w2 s2 => ⟨_, _, _, mp.go s2, rfl⟩) (fun Gs pre a post σ' σ2 G' H' G2 H2 has hP s2 w2 eGs hS => ?_) (fun σ' G' H' w2 hP => ?_)
    · obtain ⟨x4, x5, x6, mp2, rfl⟩ := hP
      obtain ⟨z, hz, rfl⟩ := hS
      have m2 := mp2.go s2
      have ha : a ∈ xs := by
        rw [has]
        exact List.mem_append_right _ List.mem_cons_self
      obtain ⟨hlot, hla⟩ := gx.lot a ha
      have hlen : (gaL pre [(wo, [t])]).length < 100000 := by
        have k1 := gaL_len [(wo, [t])] pre
        have k2 := congrArg List.length has
        have k3 := gx.len
        rw [List.length_append, List.length_cons] at k2
        rw [List.length_singleton] at k1
        omega
      have ez : ∀ {G : Hp} {y5 y6 : Option V}, Ex G2 G → Er (rTup rInt) (tOp (rIxT K) (tVar 4) (tC (.int 1))) [some v, some (.int t), some (.int wo), some (.ref p), some z, y5, y6] G a.2 := fun e => er_snd (er_var rfl (rIt.mono e hz)) er_int
      refine v_when w2 (DL.et_test (er_niT (er_vi rfl) (ez (Ex.refl _)))) (fun hb H3 w3 s3 => ?_) (fun hb H3 w3 s3 => ?_)
      · have hb : t ∉ a.2 := by simpa using hb
        have hfl : ∀ g : Int → Bool, (a.2.filter g).length ≤ 12 := fun g => Nat.le_trans (List.length_filter_le _ _) hla
        refine w_asgN (r := rInt) (as := both a.2 [t]) w3 (en_is (en_catL (En.er (en_catL (En.er (en_is (en_lc (s := rInt) (fun x => decide (x < t)) (fun x => x) (src_tup (ez (Ex.refl _))) tgt_n (by omega) (fun x hx G σ2 eG hS => ?_)) (List.map_id' _))) (En.er (en_lst (eal_cons (er_vi rfl) eal_nil) (by show 1 ≤ 100000; decide))) ?_)) (En.er (en_is (en_lc (s := rInt) (fun x => decide (t < x)) (fun x => x) (src_tup (ez (Ex.refl _))) tgt_n (by omega) (fun x hx G σ2 eG hS => ?_)) (List.map_id' _))) ?_) (grown_lot hlot h0 h1 hb)) fun l G4 H4 w4 s4 ml nl => ?_
        · obtain ⟨u, hu, rfl⟩ := hS
          cases (show u = V.int x from hu)
          exact ⟨rfl, DL.et_test (er_cmp0 (er_vi rfl) (er_vi rfl)), fun _ => er_vi rfl⟩
        · have := hfl fun x => decide (x < t)
          rw [List.length_singleton]
          omega
        · obtain ⟨u, hu, rfl⟩ := hS
          cases (show u = V.int x from hu)
          exact ⟨rfl, DL.et_test (er_cmp0 (er_vi rfl) (er_vi rfl)), fun _ => er_vi rfl⟩
        · have := hfl fun x => decide (x < t)
          have := hfl fun x => decide (t < x)
          rw [List.length_append, List.length_singleton]
          omega
        · have nl0 : H l = none := back_none w3.up nl
          have m4 := (m2.go s3).go s4
          have hpl : p ≠ l := mu_ne (m2.go s3) nl
          obtain ⟨G5, w5, e45, rl, o5⟩ := ml.froz w4 nl0
          have m5 := mu_over m4 e45 o5 hpl
          refine v_app w5 rfl m5 np hlen (er_pair (a := a.1 + wo) (b := both a.2 [t]) (ea2 (er_I0 (er_fst (er_var rfl (rIt.mono (s4.fr.trans e45) hz)) er_int) (er_vi rfl)) (er_tupOf (er_var rfl rl)))) fun G6 H6 w6 s6 m6 => ?_
          refine ⟨G6, w6, eGs.trans (s4.fr.trans (e45.trans s6.fr)), _, _, _, ?_, rfl⟩
          rw [gaL_app, grown_yes hb]
          exact m6
      · have hb : t ∈ a.2 := by simpa using hb
        refine ⟨G2, w3, eGs, _, _, _, ?_, rfl⟩
        rw [gaL_app, grown_no hb, List.append_nil]
        exact m2.go s3
    · obtain ⟨x4, x5, x6, mp2, rfl⟩ := hP
      obtain ⟨G5, w5, e45, rl, o5⟩ := mp2.froz w2 np
      refine v_retN w5 (en_call (ea1 (er_var rfl rl)) mono1 ⟨_, rfl, ?_, rfl⟩) fun p2 H3 e3 n3 => q p2 H3 e3 n3
      have k1 := gaL_len [(wo, [t])] xs
      have k3 := gx.len
      rw [List.length_singleton] at k1
      omega
end
end K06
set_option Elab.async false
set_option linter.all false
set_option maxRecDepth 100000
set_option maxHeartbeats 4000000
namespace K06
open PySem PySem.Spec PyProof.Rows L2 Evl DL K98
theorem gaL_two (a b : Itm) (ys : List Itm) : gaL [a] (ys ++ [b]) = gaL [a] ys ++ if apartB a.2 b.2 = true then [((a.1 + b.1, both a.2 b.2) : Itm)] else [] := by
  rw [gaL_one, gaL_one, List.filter_append, List.map_append, List.filter_cons]
  by_cases h : apartB a.2 b.2 = true
  · rw [if_pos h, if_pos h]
    rfl
  · rw [if_neg h, if_neg h]
    rfl
theorem joins_len {xs ys : List Itm} {pre preY : List Itm} {a : Itm} (h1 : pre.length < xs.length) (h2 : preY.length ≤ ys.length) (h3 : xs.length ≤ 64) (h4 : ys.length ≤ 64) : (gaL pre ys ++ gaL [a] preY).length ≤ 10000 := by
  have k1 := gaL_len ys pre
  have k2 := gaL_len preY [a]
  have k3 : pre.length * ys.length ≤ 64 * 64 := Nat.mul_le_mul (by omega) h4
  rw [List.length_singleton] at k2
  rw [List.length_append]
  omega
section
variable {P : Program} {w : World} {K : PySem.W.Frag} {mg : Str → Option Value} {base : Heap}
theorem ok_law_joins {f fR fB : Addr} {fd fdR fdB : FuncData} (D : DefAt K mg "_law_joins" s_law_joins ["items", "others"] f fd) (D_law_by_rank : DefAt K mg "_law_by_rank" s_law_by_rank ["items"] fR fdR) (D_law_before : DefAt K mg "_law_before" s_law_before ["one", "other"] fB fdB)
    (mB_len : mg "len" = none) (mB_tuple : mg "tuple" = none) (mB_sorted : mg "sorted" = none) (mB_list : mg "list" = none) : FnOk P w K mg base CX0 3 f fd ["items", "others"] (spN rIt wAll) := by
  have G_law_by_rank : FnOk P w K mg base CX0 2 fR fdR ["items"] (spN rIt wByRank) := ok_law_by_rank D_law_by_rank D_law_before mB_len
  refine D.F.ok sc_law_joins (fun vs H Q E h => ?_) (fun cdv A outer s H vs Q E hr h => ?_)
  · obtain ⟨F, Pp, b, _, _, ⟨xs, ys, rfl, _⟩, ⟨v, w, rfl, _⟩, _⟩ := h
    rfl
  · obtain ⟨F, Pp, b, eF, _, ⟨xs, ys, rfl, gx, gy, rfl⟩, ⟨v, w', rfl, hv, hw⟩, q⟩ := h
    refine ⟨_, (pss_cons (ps_set (i := 2) sc_law_joins.nd rfl (by first | exact Or.inl rfl | exact Or.inr rfl) (pe_lst pa_nil))
  (pss_cons (ps_for PassesOwn.never rfl (pi_listK (K := K) (pe_call G_law_by_rank (hr.mono (by decide)) (by rfl) D_law_by_rank.g D_law_by_rank.F.kp D_law_by_rank.b .nil pass0 (pa_cons (pv 0) pa_nil))) (pg_name (i := 3) sc_law_joins.nd rfl (by first | exact Or.inl rfl | exact Or.inr rfl))
    (pss_one (ps_for PassesOwn.never rfl (pi_listK (K := K) (pe_call G_law_by_rank (hr.mono (by decide)) (by rfl) D_law_by_rank.g D_law_by_rank.F.kp D_law_by_rank.b .nil pass0 (pa_cons (pv 1) pa_nil))) (pg_name (i := 4) sc_law_joins.nd rfl (by first | exact Or.inl rfl | exact Or.inr rfl))
    (pss_one (ps_if (pt_cmpR (r := rIn K true) op_notIn_seq pe_bl (pe_lc (own := [("x", 5)]) (g := gName 5) rfl sc_law_joins.nd (pi_tupK (K := K) (pe_ix (r := rIxT K) ix_tup (pv 3) pe_int (fun _ _ => rfl))) (blkOk_by (own := [("x", 5)]) (N := ["items", "others", "found", "item", "other", "x"]) (sc := defScope s_law_joins) (by decide +kernel)) (fun _ _ _ _ _ => (pg_name (i := 5) sc_law_joins.nd rfl (by first | exact Or.inl rfl | exact Or.inr rfl))) (fun _ _ _ _ _ => pts_nil) (fun _ _ _ _ _ => (pe_cmpR (r := rIn K false) op_in_seq (pv 5) (pe_ix (r := rIxT K) ix_tup (pv 4) pe_int (fun _ _ => rfl)) (by rfl)))) (by rfl))
    (pss_one (ps_expr (pe_bm PySem.F.plainAttrs_list PySem.F.slot_list_append PySem.F.type_list_append mt_append (pv 2) (pa_cons (pe_tup (pa_cons (pe_op op_add (pe_ix (r := rIxT K) ix_tup (pv 3) pe_int (fun _ _ => rfl)) (pe_ix (r := rIxT K) ix_tup (pv 4) pe_int (fun _ _ => rfl))) (pa_cons (pe_callTy (r := rTupQ K) call_tuple_of (by rfl) mB_tuple (by decide +kernel) (pa_cons (pe_callB (r := rSortedI K) cr_sortedI (by rfl) mB_sorted (by decide +kernel) (pa_cons (pe_op (r := rCat) op_cat (pe_callTy (r := rLstQ K) call_list_of (by rfl) mB_list (by decide +kernel) (pa_cons (pe_ix (r := rIxT K) ix_tup (pv 3) pe_int (fun _ _ => rfl)) pa_nil)) (pe_callTy (r := rLstQ K) call_list_of (by rfl) mB_list (by decide +kernel) (pa_cons (pe_ix (r := rIxT K) ix_tup (pv 4) pe_int (fun _ _ => rfl)) pa_nil))) pa_nil)) pa_nil)) pa_nil))) pa_nil))))
    pss_nil)))))
  (pss_one (ps_ret (pe_call G_law_by_rank (hr.mono (by decide)) (by rfl) D_law_by_rank.g D_law_by_rank.F.kp D_law_by_rank.b .nil pass0 (pa_cons (pv 2) pa_nil)))))), ?_⟩
    have gX := RK_good gx
    have gY := RK_good gy
    have lx := gx.len
    have ly := gy.len
    refine w_asgN (r := rIt) (Wd.start eF) (en_lst eal_nil (Nat.zero_le _)) fun p G1 H1 w1 s1 mp np => ?_
    refine w_for w1 (src_list (En.er (en_call (ea1 (er_var rfl ((rLst rIt).mono w1.old hv))) mono1 ⟨xs, rfl, by omega, rfl⟩))) tgt_n mono_sn (fun pre σ' G' H' => ∃ (x3 x4 x5 : Option V), Mu rIt (gaL pre (RK ys)) G' H' p ∧ σ' = [some v, some w', some (.ref p), x3, x4, x5])
      (fun G2 H2 w2 s2 => ⟨_, _, _, mp.go s2, rfl⟩) (fun Gs pre a post σ' σ2 G' H' G2 H2 has hP s2 w2 eGs hS => ?_) (fun σ' G' H' w2 hP => ?_)
    · obtain ⟨x3, x4, x5, mp2, rfl⟩ := hP
      obtain ⟨z, hz, rfl⟩ := hS
      have m2 := mp2.go s2
      have ha : a ∈ RK xs := by
        rw [has]
        exact List.mem_append_right _ List.mem_cons_self
      obtain ⟨hlot, hla⟩ := gX.lot a ha
      have hpre : pre.length < (RK xs).length := by
        rw [has, List.length_append, List.length_cons]
        omega
      refine v_for w2 (src_list (En.er (en_call (ea1 (er_var rfl ((rLst rIt).mono w2.old hw))) mono1 ⟨ys, rfl, by omega, rfl⟩))) tgt_n mono_sn (fun preY σ' G' H' => ∃ (x4 x5 : Option V), Ex G2 G' ∧ Mu rIt (gaL pre (RK ys) ++ gaL [a] preY) G' H' p ∧ σ' = [some v, some w', some (.ref p), some z, x4, x5])
        (fun G3 H3 w3 s3 => ⟨_, _, s3.fr, ?_, rfl⟩) (fun Gt preY b postY σ' σ2 G' H' G3 H3 hbs hPY s3 w3 eGt hSY => ?_) (fun σ' G' H' w3 hPY => ?_)
      · rw [gaL_one, List.filter_nil, List.map_nil, List.append_nil]
        exact m2.go s3
      · obtain ⟨x4, x5, e23, m3, rfl⟩ := hPY
        obtain ⟨y, hy, rfl⟩ := hSY
        have m4 := m3.go s3
        have e24 := e23.trans s3.fr
        have hbm : b ∈ RK ys := by
          rw [hbs]
          exact List.mem_append_right _ List.mem_cons_self
        obtain ⟨hlotb, hlb⟩ := gY.lot b hbm
        have hpy : preY.length ≤ (RK ys).length := by
          rw [hbs, List.length_append, List.length_cons]
          omega
        have hlen := joins_len (a := a) hpre hpy gX.len gY.len
        have eA : ∀ {G : Hp} {y5 : Option V}, Ex G3 G → Er rIt (tVar 3) [some v, some w', some (.ref p), some z, some y, y5] G a := fun e => er_var rfl (rIt.mono (e24.trans e) hz)
        have eB : ∀ {G : Hp} {y5 : Option V}, Ex G3 G → Er rIt (tVar 4) [some v, some w', some (.ref p), some z, some y, y5] G b := fun e => er_var rfl (rIt.mono e hy)
        have rG := Ex.refl G3
        refine v_when w3 (DL.et_test (er_niB er_bl (En.er (en_lc (s := rBl) (fun _ => true) (fun x => decide (x ∈ b.2)) (src_tup (er_snd (eA rG) er_int)) tgt_n (by omega) (fun x hx G σ2 eG hS => ?_))))) (fun hb H4 w4 s4 => ?_) (fun hb H4 w4 s4 => ?_)
        · obtain ⟨u, hu, rfl⟩ := hS
          cases (show u = V.int x from hu)
          exact ⟨rfl, fun H1 _ Q q => q H1 (Ex.refl _), fun _ => er_inT (er_vi rfl) (er_snd (eB eG) er_int)⟩
        · have hap : apartB a.2 b.2 = true := apart_iff.mpr fun x hx hxb => by
            have : true ∈ (a.2.filter fun _ => true).map fun x => decide (x ∈ b.2) := List.mem_map.mpr ⟨x, List.mem_filter.mpr ⟨hx, rfl⟩, decide_eq_true hxb⟩
            rw [decide_eq_true this] at hb
            cases hb
          refine v_app w4 rfl (m4.go s4) np (by omega) (er_pair (a := a.1 + b.1) (b := both a.2 b.2) (ea2 (er_I0 (er_fst (eA rG) er_int) (er_fst (eB rG) er_int)) (er_tupOf (En.er (en_sortI (En.er (en_catL (En.er (en_listT (er_snd (eA rG) er_int))) (En.er (en_listT (er_snd (eB rG) er_int))) (by omega))) fun ns' h1 h2 => join_sorted hlot hlotb (apart_iff.mp hap) h1 h2))))) fun G5 H5 w5 s5 m5 => ?_
          refine ⟨G5, w5, eGt.trans s5.fr, _, _, e24.trans s5.fr, ?_, rfl⟩
          rw [gaL_two, if_pos hap, ← List.append_assoc]
          exact m5
        · have hap : ¬ apartB a.2 b.2 = true := fun h => by
            have h2 := apart_iff.mp h
            have : true ∉ (a.2.filter fun _ => true).map fun x => decide (x ∈ b.2) := fun hm => by
              obtain ⟨x, hx, e⟩ := List.mem_map.mp hm
              exact h2 x (List.mem_filter.mp hx).1 (of_decide_eq_true e)
            rw [decide_eq_false this] at hb
            cases hb
          refine ⟨G3, w4, eGt, _, _, e24, ?_, rfl⟩
          rw [gaL_two, if_neg hap, List.append_nil]
          exact m4.go s4
      · obtain ⟨x4, x5, e23, m3, rfl⟩ := hPY
        refine ⟨G', w3, eGs.trans e23, _, _, _, ?_, rfl⟩
        rw [gaL_app]
        exact m3
    · obtain ⟨x3, x4, x5, mp2, rfl⟩ := hP
      obtain ⟨G5, w5, e45, rl, o5⟩ := mp2.froz w2 np
      rw [← joins_RK] at q
      refine v_retN w5 (en_call (ea1 (er_var rfl rl)) mono1 ⟨_, rfl, ?_, rfl⟩) fun p2 H3 e3 n3 => q p2 H3 e3 n3
      have k1 := gaL_len (RK ys) (RK xs)
      have := Good.small gX gY
      omega
end
end K06
set_option Elab.async false
set_option linter.all false
set_option maxRecDepth 100000
set_option maxHeartbeats 4000000
namespace K06
open PySem PySem.Spec PyProof.Rows L2 Evl DL K98
theorem apart_comm (a b : List Int) : apartB a b = true → apartB b a = true := fun h => apart_iff.mpr fun x hx hxa => apart_iff.mp h x hxa hx
theorem both_comm (a b : List Int) : both a b = both b a := by
  unfold both
  congr 1
  funext x
  rw [Bool.or_comm]
theorem ga_comm (xs ys : List Itm) : RK (gaL xs ys) = RK (gaL ys xs) := RK_congr fun z => by
  rw [gaL_mem, gaL_mem]
  constructor
  · rintro ⟨x, hx, y, hy, h, rfl⟩
    exact ⟨y, hy, x, hx, apart_comm _ _ h, by rw [Int.add_comm, both_comm]⟩
  · rintro ⟨x, hx, y, hy, h, rfl⟩
    exact ⟨y, hy, x, hx, apart_comm _ _ h, by rw [Int.add_comm, both_comm]⟩
theorem same_small {xs ys : List Itm} (gx : Good xs) (gy : Good ys) : (RK (gaL xs ys)).length ≤ 10000 ∧ ∀ y ∈ RK (gaL xs ys), y.2.length ≤ 1000 := by
  refine ⟨?_, fun y hy => ?_⟩
  · have h1 := RK_len (gaL xs ys)
    have h2 := gaL_len ys xs
    have h3 := Good.small gx gy
    omega
  · have := (RK_fine (gaL_fine xs ys) y hy).2
    omega
def wGR : (Hp → List V → Prop) → Bool → Prop := fun Pp b => ∃ (xs : List Itm) (t w : Int), Pp = A3 (rLst rIt) rInt rInt xs t w ∧ Good xs ∧ 0 ≤ t ∧ t < 12 ∧ b = true
def wJR : (Hp → List V → Prop) → Bool → Prop := fun Pp b => ∃ xs ys : List Itm, Pp = A2 (rLst rIt) (rLst rIt) xs ys ∧ Good xs ∧ Good ys ∧ b = true
theorem eLt_d {K : PySem.W.Frag} : (eLst (eIt (K := K))).d ≤ 64 := by
  show max 0 (0 + 1) + 1 + 1 ≤ 64
  decide
section
variable {P : Program} {w : World} {K : PySem.W.Frag} {mg : Str → Option Value} {base : Heap}
theorem ok_law_join_right {f fJ fG fS : Addr} {fd dJ dG dS : FuncData} (D : DefAt K mg "_law_join_right" s_law_join_right ["items", "others"] f fd) (D_law_joins : DefAt K mg "_law_joins" s_law_joins ["items", "others"] fJ dJ) (D_grow_all : DefAt K mg "grow_all" s_grow_all ["items", "others"] fG dG) (D_law_same : DefAt K mg "_law_same" s_law_same ["told", "due"] fS dS)
    (G_law_joins : FnOk P w K mg base CX0 3 fJ dJ ["items", "others"] (spN rIt wAll)) (G_grow_all : FnOk P w K mg base CX0 3 fG dG ["items", "others"] (spN rIt wAll)) (G_law_same : FnOk P w K mg base CX0 4 fS dS ["told", "due"] (spV rBl wS4)) (mB_list : mg "list" = none) : FnOk P w K mg base CX0 5 f fd ["items", "others"] (spV rBl wJR) := by
  refine D.F.ok sc_law_join_right (fun vs H Q E h => ?_) (fun cdv A outer s H vs Q E hr h => ?_)
  · obtain ⟨F, Pp, b, _, _, ⟨xs, ys, rfl, _⟩, ⟨v, w, rfl, _⟩, _⟩ := h
    rfl
  · obtain ⟨F, Pp, b, eF, _, ⟨xs, ys, rfl, gx, gy, rfl⟩, ⟨v, w', rfl, hv, hw⟩, q⟩ := h
    refine ⟨_, (pss_cons (ps_set (i := 2) sc_law_join_right.nd rfl (by first | exact Or.inl rfl | exact Or.inr rfl) (pe_call G_law_joins (hr.mono (by decide)) (by rfl) D_law_joins.g D_law_joins.F.kp D_law_joins.b .nil pass0 (pa_cons (pv 0) (pa_cons (pv 1) pa_nil))))
  (pss_cons (ps_set (i := 3) sc_law_join_right.nd rfl (by first | exact Or.inl rfl | exact Or.inr rfl) (pe_callTy (r := rLstQ K) call_list_of (by rfl) mB_list (by decide +kernel) (pa_cons (pv 0) pa_nil)))
  (pss_cons (ps_set (i := 4) sc_law_join_right.nd rfl (by first | exact Or.inl rfl | exact Or.inr rfl) (pe_callTy (r := rLstQ K) call_list_of (by rfl) mB_list (by decide +kernel) (pa_cons (pv 1) pa_nil)))
  (pss_cons (ps_set (i := 5) sc_law_join_right.nd rfl (by first | exact Or.inl rfl | exact Or.inr rfl) (pe_call G_grow_all (hr.mono (by decide)) (by rfl) D_grow_all.g D_grow_all.F.kp D_grow_all.b .nil pass0 (pa_cons (pv 3) (pa_cons (pv 4) pa_nil))))
  (pss_cons (ps_if (PW.pt (pw_or (pt_cmpR (r := rNeD K) (op_neD hr.units) (pv 3) (pv 0) (nomark _)) (pw_or (pt_cmpR (r := rNeD K) (op_neD hr.units) (pv 4) (pv 1) (nomark _)) (pw_or1 (pt_not (pt_val (pe_call G_law_same (hr.mono (by decide)) (by rfl) D_law_same.g D_law_same.F.kp D_law_same.b .nil pass0 (pa_cons (pv 5) (pa_cons (pv 2) pa_nil)))))))))
    (pss_one (ps_ret pe_bl))
    pss_nil)
  (pss_cons (ps_expr (pe_bm PySem.F.plainAttrs_list PySem.F.slot_list_append PySem.F.type_list_append mt_append (pv 5) (pa_cons (pe_tup (pa_cons pe_int (pa_cons (pe_tup pa_nil) pa_nil))) pa_nil)))
  (pss_cons (ps_asg (pe_tup (pa_cons pe_int (pa_cons (pe_tup (pa_cons pe_int (pa_cons pe_int pa_nil))) pa_nil))) (pg_sub (pv 5) pe_int set_list))
  (pss_one (ps_ret (pe_and (pe_call G_law_same (hr.mono (by decide)) (by rfl) D_law_same.g D_law_same.F.kp D_law_same.b .nil pass0 (pa_cons (pe_call G_grow_all (hr.mono (by decide)) (by rfl) D_grow_all.g D_grow_all.F.kp D_grow_all.b .nil pass0 (pa_cons (pv 3) (pa_cons (pv 4) pa_nil))) (pa_cons (pv 2) pa_nil))) (pe_and (pe_cmpR (r := rEqD K) (op_eqD hr.units) (pv 3) (pv 0) (nomark _)) (pe_one (pe_cmpR (r := rEqD K) (op_eqD hr.units) (pv 4) (pv 1) (nomark _)))))))))))))), ?_⟩
    obtain ⟨z1, z2⟩ := same_small gx gy
    have lx := gx.len
    have ly := gy.len
    -- due
    refine w_asgN (Wd.start eF) (en_call (ea2 (er_var rfl hv) (er_var rfl hw)) mono2 ⟨xs, ys, rfl, gx, gy, rfl⟩) fun d G1 H1 w1 s1 md nd => ?_
    obtain ⟨G2, w2, e12, rd, o2⟩ := md.froz w1 nd
    -- given, more
    refine w_asgN w2 (en_listL (er_var rfl ((rLst rIt).mono w2.old hv))) fun g G3 H3 w3 s3 mg3 ng => ?_
    obtain ⟨G4, w4, e34, rg, o4⟩ := mg3.froz w3 (back_none w2.up ng)
    refine w_asgN w4 (en_listL (er_var rfl ((rLst rIt).mono w4.old hw))) fun m G5 H5 w5 s5 mm nm => ?_
    obtain ⟨G6, w6, e56, rm, o6⟩ := mm.froz w5 (back_none w4.up nm)
    -- told
    have rg6 := (rLst rIt).mono (s5.fr.trans e56) rg
    have rd6 := (rLst rIt).mono ((s3.fr.trans e34).trans (s5.fr.trans e56)) rd
    refine w_asgN w6 (en_call (ea2 (er_var rfl rg6) (er_var rfl rm)) mono2 ⟨xs, ys, rfl, gx, gy, rfl⟩) fun t G7 H7 w7 s7 mt nt => ?_
    have nt0 := back_none w6.up nt
    obtain ⟨Gf, wf, ef, rt, of⟩ := mt.froz w7 nt0
    have e6f := s7.fr.trans ef
    refine w_noF w7 wf.sub (et_or (a := false) (b := false) (et_is (DL.et_test (er_neD (eLst eIt) eLt_d (er_var rfl ((rLst rIt).mono e6f rg6)) (er_var rfl ((rLst rIt).mono wf.old hv)))) (by rw [decide_eq_true rfl]; rfl)) fun _ => et_or (a := false) (b := false) (et_is (DL.et_test (er_neD (eLst eIt) eLt_d (er_var rfl ((rLst rIt).mono e6f rm)) (er_var rfl ((rLst rIt).mono wf.old hw)))) (by rw [decide_eq_true rfl]; rfl)) fun _ =>
      et_not (a := true) (DL.et_B (er_call (ea2 (er_var rfl rt) (er_var rfl ((rLst rIt).mono e6f rd6))) mono2 ⟨_, rfl, z1, z2, rfl⟩))) rfl fun H8 w8 s8 => ?_
    refine w_app w8 rfl (mt.go s8) nt0 (by omega) (er_pair (a := (0 : Int)) (b := ([] : List Int)) (ea2 er_int (er_tup eal_nil (Nat.zero_le _)))) fun G9 H9 w9 s9 m9 => ?_
    refine w_put (j := 0) w9 (er_pair (a := (1 : Int)) (b := ([0, 1] : List Int)) (ea2 er_int (er_tup (eal_cons er_int (eal_cons er_int eal_nil)) (by show 2 ≤ 100000; decide)))) rfl m9 nt0 er_int (by rw [List.length_append, List.length_singleton]; omega) fun G10 H10 w10 s10 m10 => ?_
    have e10 : Ex G6 G10 := s7.fr.trans (s9.fr.trans s10.fr)
    refine v_ret w10 (er_is (r := rBl) (a' := true) (er_andV (er_call (ea2 (En.er (en_call (ea2 (er_var rfl ((rLst rIt).mono e10 rg6)) (er_var rfl ((rLst rIt).mono e10 rm))) mono2 ⟨xs, ys, rfl, gx, gy, rfl⟩)) (er_var rfl ((rLst rIt).mono e10 rd6))) mono2 ⟨_, rfl, z1, z2, rfl⟩) fun _ => er_andV (er_eqD (eLst eIt) eLt_d (er_var rfl ((rLst rIt).mono e10 rg6)) (er_var rfl ((rLst rIt).mono w10.old hv))) fun _ => er_eqD (eLst eIt) eLt_d (er_var rfl ((rLst rIt).mono e10 rm)) (er_var rfl ((rLst rIt).mono w10.old hw))) ?_) fun v2 H11 e11 hv2 => q v2 H11 e11 hv2
    rw [decide_eq_true rfl, decide_eq_true rfl]
    rfl
theorem ok_law_grow_right {f fJ fG fW fS : Addr} {fd dJ dG dW dS : FuncData} (D : DefAt K mg "_law_grow_right" s_law_grow_right ["items", "thing", "worth"] f fd) (D_law_grown : DefAt K mg "_law_grown" s_law_grown ["items", "thing", "worth"] fJ dJ) (D_grow_all : DefAt K mg "grow_all" s_grow_all ["items", "others"] fG dG) (D_grow : DefAt K mg "grow" s_grow ["items", "thing", "worth"] fW dW) (D_law_same : DefAt K mg "_law_same" s_law_same ["told", "due"] fS dS)
    (G_law_grown : FnOk P w K mg base CX0 3 fJ dJ ["items", "thing", "worth"] (spN rIt wGrow)) (G_grow_all : FnOk P w K mg base CX0 3 fG dG ["items", "others"] (spN rIt wAll)) (G_grow : FnOk P w K mg base CX0 4 fW dW ["items", "thing", "worth"] (spN rIt wGrow)) (G_law_same : FnOk P w K mg base CX0 4 fS dS ["told", "due"] (spV rBl wS4)) (mB_list : mg "list" = none) :
    FnOk P w K mg base CX0 5 f fd ["items", "thing", "worth"] (spV rBl wGR) := by
  refine D.F.ok sc_law_grow_right (fun vs H Q E h => ?_) (fun cdv A outer s H vs Q E hr h => ?_)
  · obtain ⟨F, Pp, b, _, _, ⟨xs, t, w, rfl, _⟩, ⟨v, w1, w2, rfl, _⟩, _⟩ := h
    rfl
  · obtain ⟨F, Pp, b, eF, _, ⟨xs, t, wo, rfl, gx, h0, h1, rfl⟩, ⟨v, u1, u2, rfl, hv, hw1, hw2⟩, q⟩ := h
    cases (show u1 = V.int t from hw1)
    cases (show u2 = V.int wo from hw2)
    refine ⟨_, (pss_cons (ps_set (i := 3) sc_law_grow_right.nd rfl (by first | exact Or.inl rfl | exact Or.inr rfl) (pe_call G_law_grown (hr.mono (by decide)) (by rfl) D_law_grown.g D_law_grown.F.kp D_law_grown.b .nil pass0 (pa_cons (pv 0) (pa_cons (pv 1) (pa_cons (pv 2) pa_nil)))))
  (pss_cons (ps_set (i := 4) sc_law_grow_right.nd rfl (by first | exact Or.inl rfl | exact Or.inr rfl) (pe_callTy (r := rLstQ K) call_list_of (by rfl) mB_list (by decide +kernel) (pa_cons (pv 0) pa_nil)))
  (pss_cons (ps_set (i := 5) sc_law_grow_right.nd rfl (by first | exact Or.inl rfl | exact Or.inr rfl) (pe_call G_grow (hr.mono (by decide)) (by rfl) D_grow.g D_grow.F.kp D_grow.b .nil pass0 (pa_cons (pv 4) (pa_cons (pv 1) (pa_cons (pv 2) pa_nil)))))
  (pss_cons (ps_if (PW.pt (pw_or (pt_cmpR (r := rNeD K) (op_neD hr.units) (pv 4) (pv 0) (nomark _)) (pw_or1 (pt_not (pt_val (pe_call G_law_same (hr.mono (by decide)) (by rfl) D_law_same.g D_law_same.F.kp D_law_same.b .nil pass0 (pa_cons (pv 5) (pa_cons (pv 3) pa_nil))))))))
    (pss_one (ps_ret pe_bl))
    pss_nil)
  (pss_cons (ps_expr (pe_bm PySem.F.plainAttrs_list PySem.F.slot_list_append PySem.F.type_list_append mt_append (pv 5) (pa_cons (pe_tup (pa_cons (pv 2) (pa_cons (pe_tup (pa_cons (pv 1) pa_nil)) pa_nil))) pa_nil)))
  (pss_cons (ps_asg (pe_tup (pa_cons (pe_op op_add (pv 2) pe_int) (pa_cons (pe_tup pa_nil) pa_nil))) (pg_sub (pv 5) pe_int set_list))
  (pss_cons (ps_set (i := 6) sc_law_grow_right.nd rfl (by first | exact Or.inl rfl | exact Or.inr rfl) (pe_lst (pa_cons (pe_tup (pa_cons (pv 2) (pa_cons (pe_tup (pa_cons (pv 1) pa_nil)) pa_nil))) pa_nil)))
  (pss_cons (ps_if (PW.pt (pw_or (pt_not (pt_val (pe_call G_law_same (hr.mono (by decide)) (by rfl) D_law_same.g D_law_same.F.kp D_law_same.b .nil pass0 (pa_cons (pe_call G_grow_all (hr.mono (by decide)) (by rfl) D_grow_all.g D_grow_all.F.kp D_grow_all.b .nil pass0 (pa_cons (pv 4) (pa_cons (pv 6) pa_nil))) (pa_cons (pv 3) pa_nil))))) (pw_or1 (pt_not (pt_val (pe_call G_law_same (hr.mono (by decide)) (by rfl) D_law_same.g D_law_same.F.kp D_law_same.b .nil pass0 (pa_cons (pe_call G_grow_all (hr.mono (by decide)) (by rfl) D_grow_all.g D_grow_all.F.kp D_grow_all.b .nil pass0 (pa_cons (pv 6) (pa_cons (pv 4) pa_nil))) (pa_cons (pv 3) pa_nil))))))))
    (pss_one (ps_ret pe_bl))
    pss_nil)
  (pss_one (ps_ret (pe_and (pe_cmpR (r := rEqD K) (op_eqD hr.units) (pv 6) (pe_lst (pa_cons (pe_tup (pa_cons (pv 2) (pa_cons (pe_tup (pa_cons (pv 1) pa_nil)) pa_nil))) pa_nil)) (nomark _)) (pe_and (pe_call G_law_same (hr.mono (by decide)) (by rfl) D_law_same.g D_law_same.F.kp D_law_same.b .nil pass0 (pa_cons (pe_call G_grow (hr.mono (by decide)) (by rfl) D_grow.g D_grow.F.kp D_grow.b .nil pass0 (pa_cons (pv 4) (pa_cons (pv 1) (pa_cons (pv 2) pa_nil)))) (pa_cons (pv 3) pa_nil))) (pe_one (pe_cmpR (r := rEqD K) (op_eqD hr.units) (pv 4) (pv 0) (nomark _))))))))))))))), ?_⟩
    have g1 : Good [(wo, [t])] := good_one h0 h1
    obtain ⟨z1, z2⟩ := same_small gx g1
    -- due
    refine w_asgN (Wd.start eF) (en_call (ea3 (er_var rfl hv) (er_vi rfl) (er_vi rfl)) mono3 ⟨xs, t, wo, rfl, gx, h0, h1, rfl⟩) fun d G1 H1 w1 s1 md nd => ?_
    obtain ⟨G2, w2, e12, rd, o2⟩ := md.froz w1 nd
    -- given
    refine w_asgN w2 (en_listL (er_var rfl ((rLst rIt).mono w2.old hv))) fun g G3 H3 w3 s3 mg3 ng => ?_
    obtain ⟨G4, w4, e34, rg, o4⟩ := mg3.froz w3 (back_none w2.up ng)
    have rd4 := (rLst rIt).mono (s3.fr.trans e34) rd
    -- told
    refine w_asgN w4 (en_call (ea3 (er_var rfl rg) (er_vi rfl) (er_vi rfl)) mono3 ⟨xs, t, wo, rfl, gx, h0, h1, rfl⟩) fun y G7 H7 w7 s7 mt nt => ?_
    have nt0 := back_none w4.up nt
    obtain ⟨Gf, wf, ef, rt, of⟩ := mt.froz w7 nt0
    have e4f := s7.fr.trans ef
    refine w_noF w7 wf.sub (et_or (a := false) (b := false) (et_is (DL.et_test (er_neD (eLst eIt) eLt_d (er_var rfl ((rLst rIt).mono e4f rg)) (er_var rfl ((rLst rIt).mono wf.old hv)))) (by rw [decide_eq_true rfl]; rfl)) fun _ =>
      et_not (a := true) (DL.et_B (er_call (ea2 (er_var rfl rt) (er_var rfl ((rLst rIt).mono e4f rd4))) mono2 ⟨_, rfl, z1, z2, rfl⟩))) rfl fun H8 w8 s8 => ?_
    refine w_app w8 rfl (mt.go s8) nt0 (by omega) (er_pair (a := wo) (b := [t]) (ea2 (er_vi rfl) (er_tup (eal_cons (er_vi rfl) eal_nil) (by show 1 ≤ 100000; decide)))) fun G9 H9 w9 s9 m9 => ?_
    refine w_put (j := 0) w9 (er_pair (a := wo + 1) (b := ([] : List Int)) (ea2 (er_I0 (er_vi rfl) er_int) (er_tup eal_nil (Nat.zero_le _)))) rfl m9 nt0 er_int (by rw [List.length_append, List.length_singleton]; omega) fun G10 H10 w10 s10 m10 => ?_
    have e10 : Ex G4 G10 := s7.fr.trans (s9.fr.trans s10.fr)
    -- one
    refine w_asgN (r := rIt) w10 (en_lst (eal_cons (er_pair (a := wo) (b := [t]) (ea2 (er_vi rfl) (er_tup (eal_cons (er_vi rfl) eal_nil) (by show 1 ≤ 100000; decide)))) eal_nil) (by show 1 ≤ 100000; decide)) fun o G11 H11 w11 s11 mo no => ?_
    obtain ⟨G12, w12, e1112, ro, o12⟩ := mo.froz w11 (back_none w10.up no)
    have e12 : Ex G4 G12 := e10.trans (s11.fr.trans e1112)
    have rg12 := (rLst rIt).mono e12 rg
    have rd12 := (rLst rIt).mono e12 rd4
    have hc : RK (gaL xs [(wo, [t])]) = RK (gaL [(wo, [t])] xs) := ga_comm _ _
    refine w_no w12 (et_or (a := false) (b := false) (et_not (a := true) (DL.et_B (er_call (ea2 (En.er (en_call (ea2 (er_var rfl rg12) (er_var rfl ro)) mono2 ⟨xs, _, rfl, gx, g1, rfl⟩)) (er_var rfl rd12)) mono2 ⟨_, rfl, z1, z2, rfl⟩))) fun _ =>
      et_not (a := true) (DL.et_B (er_call (ea2 (En.er (en_call (ea2 (er_var rfl ro) (er_var rfl rg12)) mono2 ⟨_, xs, rfl, g1, gx, hc⟩)) (er_var rfl rd12)) mono2 ⟨_, rfl, z1, z2, rfl⟩))) rfl fun H13 w13 s13 => ?_
    refine v_ret w13 (er_is (r := rBl) (a' := true) (er_andV (er_eqD (eLst eIt) eLt_d (er_var rfl ro) (En.er (en_lst (r := rIt) (eal_cons (er_pair (a := wo) (b := [t]) (ea2 (er_vi rfl) (er_tup (eal_cons (er_vi rfl) eal_nil) (by show 1 ≤ 100000; decide)))) eal_nil) (by show 1 ≤ 100000; decide)))) fun _ => er_andV (er_call (ea2 (En.er (en_call (ea3 (er_var rfl rg12) (er_vi rfl) (er_vi rfl)) mono3 ⟨xs, t, wo, rfl, gx, h0, h1, rfl⟩)) (er_var rfl rd12)) mono2 ⟨_, rfl, z1, z2, rfl⟩) fun _ => er_eqD (eLst eIt) eLt_d (er_var rfl rg12) (er_var rfl ((rLst rIt).mono w12.old hv))) ?_) fun v2 H14 e14 hv2 => q v2 H14 e14 hv2
    rw [decide_eq_true rfl, decide_eq_true rfl]
    rfl
end
end K06
set_option Elab.async false
set_option linter.all false
set_option maxRecDepth 100000
set_option maxHeartbeats 4000000
namespace K06
open PySem PySem.Spec PyProof.Rows L2 Evl DL K98
set_option maxHeartbeats 8000000
theorem list4 {α : Type} : ∀ {l : List α}, l.length = 4 → ∃ a b c d, l = [a, b, c, d]
  | [a, b, c, d], _ => ⟨a, b, c, d, rfl⟩
theorem draw_at {c : Int} {ms ds : List Int} (h : drawn c ms = ds) (hp : ∀ x ∈ ms, 0 < x) {i : Nat} {m d : Int} (hm : ms[i]? = some m) (hd : ds[i]? = some d) : 0 ≤ d ∧ d < m := by
  obtain ⟨x, h1, h2, h3⟩ := draws_get ms (if 10 ^ 18 ≤ c then c - 10 ^ 18 else 0) (c * 48271 % 2147483647) i m hp hm
  have h4 : (drawn c ms)[i]? = some x := h1
  rw [h, hd] at h4
  cases h4
  exact ⟨h2, h3⟩
def spLaw (K : PySem.W.Frag) : Sp := fun vs H Q _ => ∃ (a : Addr) (ns : List Int), vs = [.ref a] ∧ SqL K H a (ns.map V.int) ∧ ns.length ≤ 63 ∧ ∀ H', Q (.bl true) H'
theorem span_at : ∀ n : Nat, n < 4 → ∃ s : Int, ([3, 5, 8, 12] : List Int)[n]? = some s ∧ 0 < s ∧ s ≤ 12
  | 0, _ => ⟨3, rfl, by decide, by decide⟩
  | 1, _ => ⟨5, rfl, by decide, by decide⟩
  | 2, _ => ⟨8, rfl, by decide, by decide⟩
  | 3, _ => ⟨12, rfl, by decide, by decide⟩
  | n + 4, h => absurd h (by omega)
theorem good_nil : Good [] := ⟨Nat.zero_le _, fine_nil⟩
section
variable {P : Program} {w : World} {K : PySem.W.Frag} {mg : Str → Option Value} {base : Heap}
theorem ok_law {f f1 f2 f3 f4 f5 f6 f7 f8 f9 f10 f11 f12 f13 f14 f15 : Addr} {fd d1 d2 d3 d4 d5 d6 d7 d8 d9 d10 d11 d12 d13 d14 d15 : FuncData} (D : DefAt K mg "law" s_law ["script"] f fd)
    (D_apart : DefAt K mg "apart" s_apart ["lot", "other"] f1 d1) (D_joined : DefAt K mg "joined" s_joined ["lot", "other"] f2 d2) (D_rank : DefAt K mg "rank" s_rank ["item"] f3 d3) (D_ranked : DefAt K mg "ranked" s_ranked ["items"] f4 d4)
    (D_grow : DefAt K mg "grow" s_grow ["items", "thing", "worth"] f5 d5) (D_grow_all : DefAt K mg "grow_all" s_grow_all ["items", "others"] f6 d6)
    (D_law_cell : DefAt K mg "_law_cell" s_law_cell ["script", "k"] f7 d7) (D_law_draws : DefAt K mg "_law_draws" s_law_draws ["cell", "limits"] f8 d8) (D_law_same : DefAt K mg "_law_same" s_law_same ["told", "due"] f9 d9)
    (D_law_before : DefAt K mg "_law_before" s_law_before ["one", "other"] f10 d10) (D_law_by_rank : DefAt K mg "_law_by_rank" s_law_by_rank ["items"] f11 d11) (D_law_items : DefAt K mg "_law_items" s_law_items ["script", "first", "span", "large"] f12 d12)
    (D_law_grown : DefAt K mg "_law_grown" s_law_grown ["items", "thing", "worth"] f13 d13) (D_law_joins : DefAt K mg "_law_joins" s_law_joins ["items", "others"] f14 d14) (D_law_grow_right : DefAt K mg "_law_grow_right" s_law_grow_right ["items", "thing", "worth"] f15 d15)
    {f16 : Addr} {d16 : FuncData} (D_law_join_right : DefAt K mg "_law_join_right" s_law_join_right ["items", "others"] f16 d16)
    (mB_range : mg "range" = none) (mB_len : mg "len" = none) (mB_list : mg "list" = none) (mB_any : mg "any" = none) (mB_tuple : mg "tuple" = none) (mB_sorted : mg "sorted" = none) (mB_int : mg "int" = none) (mB_isinstance : mg "isinstance" = none) (mB_bool : mg "bool" = none) (mB_str : mg "str" = none) :
    FnOk P w K mg base CX0 6 f fd ["script"] (spLaw K) := by
  have G_law_cell : FnOk P w K mg base CX0 1 f7 d7 ["script", "k"] (spV rInt (wCell K)) := ok_law_cell D_law_cell mB_len
  have G_law_draws : FnOk P w K mg base CX0 1 f8 d8 ["cell", "limits"] (spN rInt wDraws) := ok_law_draws D_law_draws mB_int
  have G_law_items : FnOk P w K mg base CX0 2 f12 d12 ["script", "first", "span", "large"] (spNA rIt (wItems K)) := ok_law_items D_law_items D_law_cell D_law_draws mB_len mB_int mB_range mB_tuple mB_sorted
  have G_grow_all : FnOk P w K mg base CX0 3 f6 d6 ["items", "others"] (spN rIt wAll) := ok_grow_all D_grow_all D_joined D_apart D_ranked D_rank mB_any mB_tuple mB_sorted
  have G_grow : FnOk P w K mg base CX0 4 f5 d5 ["items", "thing", "worth"] (spN rIt wGrow) := ok_grow D_grow D_grow_all D_joined D_apart D_ranked D_rank mB_any mB_tuple mB_sorted
  have G_law_same : FnOk P w K mg base CX0 4 f9 d9 ["told", "due"] (spV rBl wS4) := ok_same4 D_law_same mB_isinstance mB_bool mB_int mB_str mB_tuple mB_list mB_len mB_range
  have G_law_grown : FnOk P w K mg base CX0 3 f13 d13 ["items", "thing", "worth"] (spN rIt wGrow) := ok_law_grown D_law_grown D_law_by_rank D_law_before mB_len mB_tuple
  have G_law_joins : FnOk P w K mg base CX0 3 f14 d14 ["items", "others"] (spN rIt wAll) := ok_law_joins D_law_joins D_law_by_rank D_law_before mB_len mB_tuple mB_sorted mB_list
  have G_law_grow_right : FnOk P w K mg base CX0 5 f15 d15 ["items", "thing", "worth"] (spV rBl wGR) := ok_law_grow_right D_law_grow_right D_law_grown D_grow_all D_grow D_law_same G_law_grown G_grow_all G_grow G_law_same mB_list
  have G_law_join_right : FnOk P w K mg base CX0 5 f16 d16 ["items", "others"] (spV rBl wJR) := ok_law_join_right D_law_join_right D_law_joins D_grow_all D_law_same G_law_joins G_grow_all G_law_same mB_list
  refine D.F.ok sc_law (fun vs H Q E h => ?_) (fun cdv A outer s H vs Q E hr h => ?_)
  · obtain ⟨a, ns, rfl, _⟩ := h
    rfl
  · obtain ⟨adr, ns, rfl, hS, hlen, q⟩ := h
    refine ⟨_, (pss_cons (ps_set (i := 1) sc_law.nd rfl (by first | exact Or.inl rfl | exact Or.inr rfl) (pe_call G_law_draws (hr.mono (by decide)) (by rfl) D_law_draws.g D_law_draws.F.kp D_law_draws.b .nil pass0 (pa_cons (pe_call G_law_cell (hr.mono (by decide)) (by rfl) D_law_cell.g D_law_cell.F.kp D_law_cell.b .nil pass0 (pa_cons (pv 0) (pa_cons pe_int pa_nil))) (pa_cons (pe_lst (pa_cons pe_int (pa_cons pe_int (pa_cons pe_int (pa_cons (pe_op op_pow pe_int pe_int) pa_nil))))) pa_nil))))
  (pss_cons (ps_set (i := 2) sc_law.nd rfl (by first | exact Or.inl rfl | exact Or.inr rfl) (pe_ix (r := rIxL K) ix_list (pe_lst (pa_cons pe_int (pa_cons pe_int (pa_cons pe_int (pa_cons pe_int pa_nil))))) (pe_ix (r := rIxL K) ix_list (pv 1) pe_int (fun _ _ => rfl)) (fun _ _ => rfl)))
  (pss_cons (ps_set (i := 3) sc_law.nd rfl (by first | exact Or.inl rfl | exact Or.inr rfl) (pe_cmpR op_eq (pe_ix (r := rIxL K) ix_list (pv 1) pe_int (fun _ _ => rfl)) pe_int (nomark _)))
  (pss_cons (ps_set (i := 4) sc_law.nd rfl (by first | exact Or.inl rfl | exact Or.inr rfl) (pe_call G_law_items (hr.mono (by decide)) (by rfl) D_law_items.g D_law_items.F.kp D_law_items.b .nil pass0 (pa_cons (pv 0) (pa_cons pe_int (pa_cons (pv 2) (pa_cons (pv 3) pa_nil))))))
  (pss_cons (ps_set (i := 5) sc_law.nd rfl (by first | exact Or.inl rfl | exact Or.inr rfl) (pe_call G_law_items (hr.mono (by decide)) (by rfl) D_law_items.g D_law_items.F.kp D_law_items.b .nil pass0 (pa_cons (pv 0) (pa_cons pe_int (pa_cons (pv 2) (pa_cons (pv 3) pa_nil))))))
  (pss_cons (ps_set (i := 6) sc_law.nd rfl (by first | exact Or.inl rfl | exact Or.inr rfl) (pe_op op_sub (pe_ix (r := rIxL K) ix_list (pv 1) pe_int (fun _ _ => rfl)) pe_int))
  (pss_cut (ps_if (pt_val (pv 3))
    (pss_one (ps_set (i := 6) sc_law.nd rfl (by first | exact Or.inl rfl | exact Or.inr rfl) (pe_op op_sub (pe_op op_mul (pv 6) (pe_op op_pow pe_int pe_int)) (pe_ix (r := rIxL K) ix_list (pv 1) pe_int (fun _ _ => rfl)))))
    pss_nil)
  (pss_cons (ps_for PassesOwn.never rfl (pi_range1 (by rfl) mB_range (pa_cons pe_int pa_nil)) (pg_name (i := 7) sc_law.nd rfl (by first | exact Or.inl rfl | exact Or.inr rfl))
    (pss_one (ps_if (pt_not (pt_val (pe_call G_law_grow_right (hr.mono (by decide)) (by rfl) D_law_grow_right.g D_law_grow_right.F.kp D_law_grow_right.b .nil pass0 (pa_cons (pv 4) (pa_cons (pv 7) (pa_cons (pe_op op_sub (pv 6) (pv 7)) pa_nil))))))
    (pss_one (ps_ret pe_bl))
    pss_nil)))
  (pss_cons (ps_set (i := 8) sc_law.nd rfl (by first | exact Or.inl rfl | exact Or.inr rfl) (pe_callTy (r := rLstQ K) call_list_of (by rfl) mB_list (by decide +kernel) (pa_cons (pv 4) pa_nil)))
  (pss_cons (ps_if (PW.pt (pw_or (pt_not (pt_val (pe_call G_law_same (hr.mono (by decide)) (by rfl) D_law_same.g D_law_same.F.kp D_law_same.b .nil pass0 (pa_cons (pe_call G_grow_all (hr.mono (by decide)) (by rfl) D_grow_all.g D_grow_all.F.kp D_grow_all.b .nil pass0 (pa_cons (pv 8) (pa_cons (pv 8) pa_nil))) (pa_cons (pe_call G_law_joins (hr.mono (by decide)) (by rfl) D_law_joins.g D_law_joins.F.kp D_law_joins.b .nil pass0 (pa_cons (pv 4) (pa_cons (pv 4) pa_nil))) pa_nil))))) (pw_or1 (pt_cmpR (r := rNeD K) (op_neD hr.units) (pv 8) (pv 4) (nomark _)))))
    (pss_one (ps_ret pe_bl))
    pss_nil)
  (pss_one (ps_ret (pe_and (pe_call G_law_join_right (hr.mono (by decide)) (by rfl) D_law_join_right.g D_law_join_right.F.kp D_law_join_right.b .nil pass0 (pa_cons (pv 4) (pa_cons (pv 5) pa_nil))) (pe_one (pe_call G_law_join_right (hr.mono (by decide)) (by rfl) D_law_join_right.g D_law_join_right.F.kp D_law_join_right.b .nil pass0 (pa_cons (pv 5) (pa_cons (pv 4) pa_nil))))))))))))))))), ?_⟩
    have eS : ∀ {σ3 : L2.St} {G3 : Hp}, Ex H G3 → σ3[0]? = some (some (.ref adr)) → Er (rFro K) (tVar 0) σ3 G3 ns := fun e h0 => er_var h0 ⟨adr, rfl, ex_l e hS⟩
    -- drawn
    refine w_asg (r := rLst rInt) (Wd.start (Ex.refl H)) (En.er (en_call (ea2 (er_call (ea2 (eS (Ex.refl H) rfl) er_int) mono2 ⟨ns, 0, rfl, hlen, by decide, rfl⟩) (En.er (en_lst (r := rInt) (as := [4, 5, 5, 10 ^ 9]) (eal_cons er_int (eal_cons er_int (eal_cons er_int (eal_cons (er_I (C := CPow) er_int er_int ⟨by decide, by decide, by decide⟩) eal_nil)))) (by decide)))) mono2 ⟨cell ns 0, [4, 5, 5, 10 ^ 9], rfl, by decide, by decide, rfl⟩)) fun vd G1 H1 w1 s1 hd => ?_
    obtain ⟨e0, e1, e2, e3, hds⟩ := list4 (l := drawn (cell ns 0) [4, 5, 5, 10 ^ 9]) drawn_len
    rw [hds] at hd
    have b0 := draw_at hds (by decide) (i := 0) rfl rfl
    obtain ⟨n0, rfl⟩ := Int.eq_ofNat_of_zero_le b0.1
    obtain ⟨sp, hsp, sp0, sp1⟩ := span_at n0 (by omega)
    have dE : ∀ {σ3 : L2.St} {G3 : Hp} {i x : Int}, Ex G1 G3 → σ3[1]? = some (some vd) → L2.atI [(n0 : Int), e1, e2, e3] i = some x → Er rInt (tOp (rIxL K) (tVar 1) (tC (.int i))) σ3 G3 x := fun e h1 hi => er_ixL (er_var h1 ((rLst rInt).mono e hd)) er_int hi
    -- span, large
    refine w_asgI (n := sp) w1 (er_ixL (En.er (en_lst (r := rInt) (as := [3, 5, 8, 12]) (eal_cons er_int (eal_cons er_int (eal_cons er_int (eal_cons er_int eal_nil)))) (by decide))) (dE (x := (n0 : Int)) (Ex.refl _) rfl rfl) (atI_nat hsp)) fun H2 w2 s2 => ?_
    refine w_asg (r := rBl) w2 (er_eqI (dE (x := e1) (Ex.refl _) rfl rfl) er_int) fun vl G3 H3 w3 s3 hvl => ?_
    generalize hlg : decide (e1 = 0) = lg at hvl
    cases (show vl = V.bl lg from hvl)
    -- items, others
    refine w_callA w3 (ea4 (eS w3.old rfl) (er_is er_int (show (1 : Int) = ((1 : Nat) : Int) from rfl)) (er_vi rfl) (er_var (r := rBl) rfl rfl)) mono4 ⟨[], ns, 1, sp, lg, rfl, hlen, by decide, sp0, sp1, good_nil⟩ fun xs px G4 H4 wx w4 s4 mx nx => ?_
    obtain ⟨_, _, _, _, _, _, _, _, _, gx⟩ := wx
    obtain ⟨G5, w5, e45, rx, o5⟩ := mx.froz w4 (back_none w3.up nx)
    refine w_callA w5 (ea4 (eS w5.old rfl) (er_is er_int (show (10 : Int) = ((10 : Nat) : Int) from rfl)) (er_vi rfl) (er_var (r := rBl) rfl rfl)) mono4 ⟨[], ns, 10, sp, lg, rfl, hlen, by decide, sp0, sp1, good_nil⟩ fun ys py G6 H6 wy w6 s6 my ny => ?_
    obtain ⟨_, _, _, _, _, _, _, _, _, gy⟩ := wy
    obtain ⟨G7, w7, e67, ry, o7⟩ := my.froz w6 (back_none w5.up ny)
    have rx7 := (rLst rIt).mono (s6.fr.trans e67) rx
    have e17 : Ex G1 G7 := s3.fr.trans (s4.fr.trans (e45.trans (s6.fr.trans e67)))
    have lx := gx.len
    -- worth
    refine w_asgI w7 (er_I0 (dE (x := e2) e17 rfl rfl) er_int) fun H8 w8 s8 => ?_
    refine ⟨fun σ' H' => ∃ wo : Int, Wd H H G7 H' ∧ σ' = [some (.ref adr), some vd, some (.int sp), some (.bl lg), some (.ref px), some (.ref py), some (.int wo), none, none], ?_, ?_⟩
    · refine v_when w8 (DL.et_B (er_var (r := rBl) rfl rfl)) (fun hb H9 w9 s9 => ?_) (fun hb H9 w9 s9 => ⟨_, w9, rfl⟩)
      exact v_asgI w9 (er_I0 (er_I (er_vi rfl) (er_I (C := CPow) er_int er_int ⟨by decide, by decide, by decide⟩) (Or.inr (by decide))) (dE (x := e3) e17 rfl rfl)) fun H10 w10 s10 => ⟨_, w10, rfl⟩
    · rintro σ' H9 ⟨wo, w9, rfl⟩
      refine w_for w9 (src_rng1 (n := 12) (ea1 er_int) (by decide)) tgt_n mono_sn (fun pre σ' G' H' => ∃ x7 : Option V, Ex G7 G' ∧ σ' = [some (.ref adr), some vd, some (.int sp), some (.bl lg), some (.ref px), some (.ref py), some (.int wo), x7, none])
        (fun Ga Ha wa sa => ⟨_, sa.fr, rfl⟩) (fun Gs pre a post σ' σ2 G' H' Ga Ha has hP sa wa eGs hSn => ?_) (fun σ' Ga Ha wa hP => ?_)
      · obtain ⟨x7, e7, rfl⟩ := hP
        obtain ⟨z, hz, rfl⟩ := hSn
        cases (show z = V.int a from hz)
        have ham : a ∈ rng 0 (12 : Int).toNat := by
          rw [has]
          exact List.mem_append_right _ List.mem_cons_self
        obtain ⟨ha1, ha2⟩ := mem_rng.mp ham
        have e7a := e7.trans sa.fr
        refine v_no wa (et_not (a := true) (DL.et_B (er_call (ea3 (er_var rfl ((rLst rIt).mono e7a rx7)) (er_vi rfl) (er_I0 (er_vi rfl) (er_vi rfl))) mono3 ⟨xs, a, wo - a, rfl, gx, by omega, by omega, rfl⟩))) rfl fun Hb wb sb => ⟨Ga, wb, eGs, _, e7a, rfl⟩
      · obtain ⟨x7, e7, rfl⟩ := hP
        have rxa := (rLst rIt).mono e7 rx7
        have rya := (rLst rIt).mono e7 ry
        refine w_asgN wa (en_listL (er_var rfl rxa)) fun g Gb Hb wb sb mg2 ng => ?_
        obtain ⟨Gc, wc, ebc, rg, oc⟩ := mg2.froz wb (back_none wa.up ng)
        have eac : Ex Ga Gc := sb.fr.trans ebc
        have rxc := (rLst rIt).mono eac rxa
        have ryc := (rLst rIt).mono eac rya
        obtain ⟨z1, z2⟩ := same_small gx gx
        refine w_no wc (et_or (a := false) (b := false) (et_not (a := true) (DL.et_B (er_call (ea2 (En.er (en_call (ea2 (er_var rfl rg) (er_var rfl rg)) mono2 ⟨xs, xs, rfl, gx, gx, rfl⟩)) (En.er (en_call (ea2 (er_var rfl rxc) (er_var rfl rxc)) mono2 ⟨xs, xs, rfl, gx, gx, rfl⟩))) mono2 ⟨_, rfl, z1, z2, rfl⟩))) fun _ =>
          et_is (DL.et_test (er_neD (eLst eIt) eLt_d (er_var rfl rg) (er_var rfl rxc))) (by rw [decide_eq_true rfl]; rfl)) rfl fun Hd wd sd => ?_
        exact v_ret wd (er_is (r := rBl) (a' := true) (er_andV (er_call (ea2 (er_var rfl rxc) (er_var rfl ryc)) mono2 ⟨xs, ys, rfl, gx, gy, rfl⟩) fun _ => er_call (ea2 (er_var rfl ryc) (er_var rfl rxc)) mono2 ⟨ys, xs, rfl, gy, gx, rfl⟩) rfl) fun v2 H11 e11 hv2 => by
          cases (show v2 = V.bl true from hv2)
          exact q _
end
end K06
set_option Elab.async false
set_option linter.all false
set_option maxRecDepth 100000
set_option maxHeartbeats 8000000
namespace K06
open PySem PySem.Spec PyProof.Rows L2 Evl DL
theorem all_mk {l : PySem.W.OpenLaw} {w : World} {K : PySem.W.Frag} {h : Heap} {mg : Str → Option Value} {fa : Addr} (X : K.In h) (G : h.Ns mainGlobals mg) (hfa : mg "law" = some (.ref fa))
    {f_apart : Addr} {od_apart an_apart : Option Addr} {sl_apart : Array (Option Value)} {oc_apart kV_apart dc_apart pm_apart cd_apart ct_apart : Value}
    (a_apart : PySem.W.nsIn K mainGlobals "apart" = some (some (.ref f_apart)))
    (l_apart : K.lookup f_apart = some ⟨oc_apart, od_apart, .func (PySem.W.fnOf "apart" "apart" (defArgs s_apart) (defBody s_apart) (defScope s_apart) .none kV_apart dc_apart pm_apart an_apart cd_apart ct_apart), sl_apart⟩)
    (c_apart : PySem.W.codeIn K cd_apart "apart" = true) (k_apart : PySem.W.keepIn K (.ref f_apart) = true)
    {f_joined : Addr} {od_joined an_joined : Option Addr} {sl_joined : Array (Option Value)} {oc_joined kV_joined dc_joined pm_joined cd_joined ct_joined : Value}
    (a_joined : PySem.W.nsIn K mainGlobals "joined" = some (some (.ref f_joined)))
    (l_joined : K.lookup f_joined = some ⟨oc_joined, od_joined, .func (PySem.W.fnOf "joined" "joined" (defArgs s_joined) (defBody s_joined) (defScope s_joined) .none kV_joined dc_joined pm_joined an_joined cd_joined ct_joined), sl_joined⟩)
    (c_joined : PySem.W.codeIn K cd_joined "joined" = true) (k_joined : PySem.W.keepIn K (.ref f_joined) = true)
    {f_rank : Addr} {od_rank an_rank : Option Addr} {sl_rank : Array (Option Value)} {oc_rank kV_rank dc_rank pm_rank cd_rank ct_rank : Value}
    (a_rank : PySem.W.nsIn K mainGlobals "rank" = some (some (.ref f_rank)))
    (l_rank : K.lookup f_rank = some ⟨oc_rank, od_rank, .func (PySem.W.fnOf "rank" "rank" (defArgs s_rank) (defBody s_rank) (defScope s_rank) .none kV_rank dc_rank pm_rank an_rank cd_rank ct_rank), sl_rank⟩)
    (c_rank : PySem.W.codeIn K cd_rank "rank" = true) (k_rank : PySem.W.keepIn K (.ref f_rank) = true)
    {f_ranked : Addr} {od_ranked an_ranked : Option Addr} {sl_ranked : Array (Option Value)} {oc_ranked kV_ranked dc_ranked pm_ranked cd_ranked ct_ranked : Value}
    (a_ranked : PySem.W.nsIn K mainGlobals "ranked" = some (some (.ref f_ranked)))
    (l_ranked : K.lookup f_ranked = some ⟨oc_ranked, od_ranked, .func (PySem.W.fnOf "ranked" "ranked" (defArgs s_ranked) (defBody s_ranked) (defScope s_ranked) .none kV_ranked dc_ranked pm_ranked an_ranked cd_ranked ct_ranked), sl_ranked⟩)
    (c_ranked : PySem.W.codeIn K cd_ranked "ranked" = true) (k_ranked : PySem.W.keepIn K (.ref f_ranked) = true)
    {f_grow : Addr} {od_grow an_grow : Option Addr} {sl_grow : Array (Option Value)} {oc_grow kV_grow dc_grow pm_grow cd_grow ct_grow : Value}
    (a_grow : PySem.W.nsIn K mainGlobals "grow" = some (some (.ref f_grow)))
    (l_grow : K.lookup f_grow = some ⟨oc_grow, od_grow, .func (PySem.W.fnOf "grow" "grow" (defArgs s_grow) (defBody s_grow) (defScope s_grow) .none kV_grow dc_grow pm_grow an_grow cd_grow ct_grow), sl_grow⟩)
    (c_grow : PySem.W.codeIn K cd_grow "grow" = true) (k_grow : PySem.W.keepIn K (.ref f_grow) = true)
    {f_grow_all : Addr} {od_grow_all an_grow_all : Option Addr} {sl_grow_all : Array (Option Value)} {oc_grow_all kV_grow_all dc_grow_all pm_grow_all cd_grow_all ct_grow_all : Value}
    (a_grow_all : PySem.W.nsIn K mainGlobals "grow_all" = some (some (.ref f_grow_all)))
    (l_grow_all : K.lookup f_grow_all = some ⟨oc_grow_all, od_grow_all, .func (PySem.W.fnOf "grow_all" "grow_all" (defArgs s_grow_all) (defBody s_grow_all) (defScope s_grow_all) .none kV_grow_all dc_grow_all pm_grow_all an_grow_all cd_grow_all ct_grow_all), sl_grow_all⟩)
    (c_grow_all : PySem.W.codeIn K cd_grow_all "grow_all" = true) (k_grow_all : PySem.W.keepIn K (.ref f_grow_all) = true)
    {f_law_cell : Addr} {od_law_cell an_law_cell : Option Addr} {sl_law_cell : Array (Option Value)} {oc_law_cell kV_law_cell dc_law_cell pm_law_cell cd_law_cell ct_law_cell : Value}
    (a_law_cell : PySem.W.nsIn K mainGlobals "_law_cell" = some (some (.ref f_law_cell)))
    (l_law_cell : K.lookup f_law_cell = some ⟨oc_law_cell, od_law_cell, .func (PySem.W.fnOf "_law_cell" "_law_cell" (defArgs s_law_cell) (defBody s_law_cell) (defScope s_law_cell) .none kV_law_cell dc_law_cell pm_law_cell an_law_cell cd_law_cell ct_law_cell), sl_law_cell⟩)
    (c_law_cell : PySem.W.codeIn K cd_law_cell "_law_cell" = true) (k_law_cell : PySem.W.keepIn K (.ref f_law_cell) = true)
    {f_law_draws : Addr} {od_law_draws an_law_draws : Option Addr} {sl_law_draws : Array (Option Value)} {oc_law_draws kV_law_draws dc_law_draws pm_law_draws cd_law_draws ct_law_draws : Value}
    (a_law_draws : PySem.W.nsIn K mainGlobals "_law_draws" = some (some (.ref f_law_draws)))
    (l_law_draws : K.lookup f_law_draws = some ⟨oc_law_draws, od_law_draws, .func (PySem.W.fnOf "_law_draws" "_law_draws" (defArgs s_law_draws) (defBody s_law_draws) (defScope s_law_draws) .none kV_law_draws dc_law_draws pm_law_draws an_law_draws cd_law_draws ct_law_draws), sl_law_draws⟩)
    (c_law_draws : PySem.W.codeIn K cd_law_draws "_law_draws" = true) (k_law_draws : PySem.W.keepIn K (.ref f_law_draws) = true)
    {f_law_same : Addr} {od_law_same an_law_same : Option Addr} {sl_law_same : Array (Option Value)} {oc_law_same kV_law_same dc_law_same pm_law_same cd_law_same ct_law_same : Value}
    (a_law_same : PySem.W.nsIn K mainGlobals "_law_same" = some (some (.ref f_law_same)))
    (l_law_same : K.lookup f_law_same = some ⟨oc_law_same, od_law_same, .func (PySem.W.fnOf "_law_same" "_law_same" (defArgs s_law_same) (defBody s_law_same) (defScope s_law_same) .none kV_law_same dc_law_same pm_law_same an_law_same cd_law_same ct_law_same), sl_law_same⟩)
    (c_law_same : PySem.W.codeIn K cd_law_same "_law_same" = true) (k_law_same : PySem.W.keepIn K (.ref f_law_same) = true)
    {f_law_before : Addr} {od_law_before an_law_before : Option Addr} {sl_law_before : Array (Option Value)} {oc_law_before kV_law_before dc_law_before pm_law_before cd_law_before ct_law_before : Value}
    (a_law_before : PySem.W.nsIn K mainGlobals "_law_before" = some (some (.ref f_law_before)))
    (l_law_before : K.lookup f_law_before = some ⟨oc_law_before, od_law_before, .func (PySem.W.fnOf "_law_before" "_law_before" (defArgs s_law_before) (defBody s_law_before) (defScope s_law_before) .none kV_law_before dc_law_before pm_law_before an_law_before cd_law_before ct_law_before), sl_law_before⟩)
    (c_law_before : PySem.W.codeIn K cd_law_before "_law_before" = true) (k_law_before : PySem.W.keepIn K (.ref f_law_before) = true)
    {f_law_by_rank : Addr} {od_law_by_rank an_law_by_rank : Option Addr} {sl_law_by_rank : Array (Option Value)} {oc_law_by_rank kV_law_by_rank dc_law_by_rank pm_law_by_rank cd_law_by_rank ct_law_by_rank : Value}
    (a_law_by_rank : PySem.W.nsIn K mainGlobals "_law_by_rank" = some (some (.ref f_law_by_rank)))
    (l_law_by_rank : K.lookup f_law_by_rank = some ⟨oc_law_by_rank, od_law_by_rank, .func (PySem.W.fnOf "_law_by_rank" "_law_by_rank" (defArgs s_law_by_rank) (defBody s_law_by_rank) (defScope s_law_by_rank) .none kV_law_by_rank dc_law_by_rank pm_law_by_rank an_law_by_rank cd_law_by_rank ct_law_by_rank), sl_law_by_rank⟩)
    (c_law_by_rank : PySem.W.codeIn K cd_law_by_rank "_law_by_rank" = true) (k_law_by_rank : PySem.W.keepIn K (.ref f_law_by_rank) = true)
    {f_law_items : Addr} {od_law_items an_law_items : Option Addr} {sl_law_items : Array (Option Value)} {oc_law_items kV_law_items dc_law_items pm_law_items cd_law_items ct_law_items : Value}
    (a_law_items : PySem.W.nsIn K mainGlobals "_law_items" = some (some (.ref f_law_items)))
    (l_law_items : K.lookup f_law_items = some ⟨oc_law_items, od_law_items, .func (PySem.W.fnOf "_law_items" "_law_items" (defArgs s_law_items) (defBody s_law_items) (defScope s_law_items) .none kV_law_items dc_law_items pm_law_items an_law_items cd_law_items ct_law_items), sl_law_items⟩)
    (c_law_items : PySem.W.codeIn K cd_law_items "_law_items" = true) (k_law_items : PySem.W.keepIn K (.ref f_law_items) = true)
    {f_law_grown : Addr} {od_law_grown an_law_grown : Option Addr} {sl_law_grown : Array (Option Value)} {oc_law_grown kV_law_grown dc_law_grown pm_law_grown cd_law_grown ct_law_grown : Value}
    (a_law_grown : PySem.W.nsIn K mainGlobals "_law_grown" = some (some (.ref f_law_grown)))
    (l_law_grown : K.lookup f_law_grown = some ⟨oc_law_grown, od_law_grown, .func (PySem.W.fnOf "_law_grown" "_law_grown" (defArgs s_law_grown) (defBody s_law_grown) (defScope s_law_grown) .none kV_law_grown dc_law_grown pm_law_grown an_law_grown cd_law_grown ct_law_grown), sl_law_grown⟩)
    (c_law_grown : PySem.W.codeIn K cd_law_grown "_law_grown" = true) (k_law_grown : PySem.W.keepIn K (.ref f_law_grown) = true)
    {f_law_joins : Addr} {od_law_joins an_law_joins : Option Addr} {sl_law_joins : Array (Option Value)} {oc_law_joins kV_law_joins dc_law_joins pm_law_joins cd_law_joins ct_law_joins : Value}
    (a_law_joins : PySem.W.nsIn K mainGlobals "_law_joins" = some (some (.ref f_law_joins)))
    (l_law_joins : K.lookup f_law_joins = some ⟨oc_law_joins, od_law_joins, .func (PySem.W.fnOf "_law_joins" "_law_joins" (defArgs s_law_joins) (defBody s_law_joins) (defScope s_law_joins) .none kV_law_joins dc_law_joins pm_law_joins an_law_joins cd_law_joins ct_law_joins), sl_law_joins⟩)
    (c_law_joins : PySem.W.codeIn K cd_law_joins "_law_joins" = true) (k_law_joins : PySem.W.keepIn K (.ref f_law_joins) = true)
    {f_law_grow_right : Addr} {od_law_grow_right an_law_grow_right : Option Addr} {sl_law_grow_right : Array (Option Value)} {oc_law_grow_right kV_law_grow_right dc_law_grow_right pm_law_grow_right cd_law_grow_right ct_law_grow_right : Value}
    (a_law_grow_right : PySem.W.nsIn K mainGlobals "_law_grow_right" = some (some (.ref f_law_grow_right)))
    (l_law_grow_right : K.lookup f_law_grow_right = some ⟨oc_law_grow_right, od_law_grow_right, .func (PySem.W.fnOf "_law_grow_right" "_law_grow_right" (defArgs s_law_grow_right) (defBody s_law_grow_right) (defScope s_law_grow_right) .none kV_law_grow_right dc_law_grow_right pm_law_grow_right an_law_grow_right cd_law_grow_right ct_law_grow_right), sl_law_grow_right⟩)
    (c_law_grow_right : PySem.W.codeIn K cd_law_grow_right "_law_grow_right" = true) (k_law_grow_right : PySem.W.keepIn K (.ref f_law_grow_right) = true)
    {f_law_join_right : Addr} {od_law_join_right an_law_join_right : Option Addr} {sl_law_join_right : Array (Option Value)} {oc_law_join_right kV_law_join_right dc_law_join_right pm_law_join_right cd_law_join_right ct_law_join_right : Value}
    (a_law_join_right : PySem.W.nsIn K mainGlobals "_law_join_right" = some (some (.ref f_law_join_right)))
    (l_law_join_right : K.lookup f_law_join_right = some ⟨oc_law_join_right, od_law_join_right, .func (PySem.W.fnOf "_law_join_right" "_law_join_right" (defArgs s_law_join_right) (defBody s_law_join_right) (defScope s_law_join_right) .none kV_law_join_right dc_law_join_right pm_law_join_right an_law_join_right cd_law_join_right ct_law_join_right), sl_law_join_right⟩)
    (c_law_join_right : PySem.W.codeIn K cd_law_join_right "_law_join_right" = true) (k_law_join_right : PySem.W.keepIn K (.ref f_law_join_right) = true)
    {f_law : Addr} {od_law an_law : Option Addr} {sl_law : Array (Option Value)} {oc_law kV_law dc_law pm_law cd_law ct_law : Value}
    (a_law : PySem.W.nsIn K mainGlobals "law" = some (some (.ref f_law)))
    (l_law : K.lookup f_law = some ⟨oc_law, od_law, .func (PySem.W.fnOf "law" "law" (defArgs s_law) (defBody s_law) (defScope s_law) .none kV_law dc_law pm_law an_law cd_law ct_law), sl_law⟩)
    (c_law : PySem.W.codeIn K cd_law "law" = true) (k_law : PySem.W.keepIn K (.ref f_law) = true)
    (z_range : PySem.W.nsIn K mainGlobals "range" = some none)
    (z_len : PySem.W.nsIn K mainGlobals "len" = some none)
    (z_list : PySem.W.nsIn K mainGlobals "list" = some none)
    (z_any : PySem.W.nsIn K mainGlobals "any" = some none)
    (z_tuple : PySem.W.nsIn K mainGlobals "tuple" = some none)
    (z_sorted : PySem.W.nsIn K mainGlobals "sorted" = some none)
    (z_int : PySem.W.nsIn K mainGlobals "int" = some none)
    (z_isinstance : PySem.W.nsIn K mainGlobals "isinstance" = some none)
    (z_bool : PySem.W.nsIn K mainGlobals "bool" = some none)
    (z_str : PySem.W.nsIn K mainGlobals "str" = some none)
    : ∃ fd : FuncData, (∀ (s : Shared) (v : Value), BindsTo s fd ⟨[v], []⟩ [("script", v)]) ∧ ∀ base : Heap, K.In base → base.Ns mainGlobals mg → FnOk l.prog w K mg base CX0 6 fa fd ["script"] (spLaw K) := by
  have e := hfa.symm.trans (PySem.W.mg_of X G a_law)
  cases e
  have F_apart := fun_mk (st := s_apart) l_apart c_apart k_apart
  have D_apart : DefAt K mg "apart" s_apart ["lot", "other"] _ _ := ⟨F_apart, PySem.W.mg_of X G a_apart, F_apart.binds (ps := ["lot", "other"]) fun _ _ _ _ _ _ us hl => match us, hl with | [_, _], _ => rfl⟩
  have F_joined := fun_mk (st := s_joined) l_joined c_joined k_joined
  have D_joined : DefAt K mg "joined" s_joined ["lot", "other"] _ _ := ⟨F_joined, PySem.W.mg_of X G a_joined, F_joined.binds (ps := ["lot", "other"]) fun _ _ _ _ _ _ us hl => match us, hl with | [_, _], _ => rfl⟩
  have F_rank := fun_mk (st := s_rank) l_rank c_rank k_rank
  have D_rank : DefAt K mg "rank" s_rank ["item"] _ _ := ⟨F_rank, PySem.W.mg_of X G a_rank, F_rank.binds (ps := ["item"]) fun _ _ _ _ _ _ us hl => match us, hl with | [_], _ => rfl⟩
  have F_ranked := fun_mk (st := s_ranked) l_ranked c_ranked k_ranked
  have D_ranked : DefAt K mg "ranked" s_ranked ["items"] _ _ := ⟨F_ranked, PySem.W.mg_of X G a_ranked, F_ranked.binds (ps := ["items"]) fun _ _ _ _ _ _ us hl => match us, hl with | [_], _ => rfl⟩
  have F_grow := fun_mk (st := s_grow) l_grow c_grow k_grow
  have D_grow : DefAt K mg "grow" s_grow ["items", "thing", "worth"] _ _ := ⟨F_grow, PySem.W.mg_of X G a_grow, F_grow.binds (ps := ["items", "thing", "worth"]) fun _ _ _ _ _ _ us hl => match us, hl with | [_, _, _], _ => rfl⟩
  have F_grow_all := fun_mk (st := s_grow_all) l_grow_all c_grow_all k_grow_all
  have D_grow_all : DefAt K mg "grow_all" s_grow_all ["items", "others"] _ _ := ⟨F_grow_all, PySem.W.mg_of X G a_grow_all, F_grow_all.binds (ps := ["items", "others"]) fun _ _ _ _ _ _ us hl => match us, hl with | [_, _], _ => rfl⟩
  have F_law_cell := fun_mk (st := s_law_cell) l_law_cell c_law_cell k_law_cell
  have D_law_cell : DefAt K mg "_law_cell" s_law_cell ["script", "k"] _ _ := ⟨F_law_cell, PySem.W.mg_of X G a_law_cell, F_law_cell.binds (ps := ["script", "k"]) fun _ _ _ _ _ _ us hl => match us, hl with | [_, _], _ => rfl⟩
  have F_law_draws := fun_mk (st := s_law_draws) l_law_draws c_law_draws k_law_draws
  have D_law_draws : DefAt K mg "_law_draws" s_law_draws ["cell", "limits"] _ _ := ⟨F_law_draws, PySem.W.mg_of X G a_law_draws, F_law_draws.binds (ps := ["cell", "limits"]) fun _ _ _ _ _ _ us hl => match us, hl with | [_, _], _ => rfl⟩
  have F_law_same := fun_mk (st := s_law_same) l_law_same c_law_same k_law_same
  have D_law_same : DefAt K mg "_law_same" s_law_same ["told", "due"] _ _ := ⟨F_law_same, PySem.W.mg_of X G a_law_same, F_law_same.binds (ps := ["told", "due"]) fun _ _ _ _ _ _ us hl => match us, hl with | [_, _], _ => rfl⟩
  have F_law_before := fun_mk (st := s_law_before) l_law_before c_law_before k_law_before
  have D_law_before : DefAt K mg "_law_before" s_law_before ["one", "other"] _ _ := ⟨F_law_before, PySem.W.mg_of X G a_law_before, F_law_before.binds (ps := ["one", "other"]) fun _ _ _ _ _ _ us hl => match us, hl with | [_, _], _ => rfl⟩
  have F_law_by_rank := fun_mk (st := s_law_by_rank) l_law_by_rank c_law_by_rank k_law_by_rank
  have D_law_by_rank : DefAt K mg "_law_by_rank" s_law_by_rank ["items"] _ _ := ⟨F_law_by_rank, PySem.W.mg_of X G a_law_by_rank, F_law_by_rank.binds (ps := ["items"]) fun _ _ _ _ _ _ us hl => match us, hl with | [_], _ => rfl⟩
  have F_law_items := fun_mk (st := s_law_items) l_law_items c_law_items k_law_items
  have D_law_items : DefAt K mg "_law_items" s_law_items ["script", "first", "span", "large"] _ _ := ⟨F_law_items, PySem.W.mg_of X G a_law_items, F_law_items.binds (ps := ["script", "first", "span", "large"]) fun _ _ _ _ _ _ us hl => match us, hl with | [_, _, _, _], _ => rfl⟩
  have F_law_grown := fun_mk (st := s_law_grown) l_law_grown c_law_grown k_law_grown
  have D_law_grown : DefAt K mg "_law_grown" s_law_grown ["items", "thing", "worth"] _ _ := ⟨F_law_grown, PySem.W.mg_of X G a_law_grown, F_law_grown.binds (ps := ["items", "thing", "worth"]) fun _ _ _ _ _ _ us hl => match us, hl with | [_, _, _], _ => rfl⟩
  have F_law_joins := fun_mk (st := s_law_joins) l_law_joins c_law_joins k_law_joins
  have D_law_joins : DefAt K mg "_law_joins" s_law_joins ["items", "others"] _ _ := ⟨F_law_joins, PySem.W.mg_of X G a_law_joins, F_law_joins.binds (ps := ["items", "others"]) fun _ _ _ _ _ _ us hl => match us, hl with | [_, _], _ => rfl⟩
  have F_law_grow_right := fun_mk (st := s_law_grow_right) l_law_grow_right c_law_grow_right k_law_grow_right
  have D_law_grow_right : DefAt K mg "_law_grow_right" s_law_grow_right ["items", "thing", "worth"] _ _ := ⟨F_law_grow_right, PySem.W.mg_of X G a_law_grow_right, F_law_grow_right.binds (ps := ["items", "thing", "worth"]) fun _ _ _ _ _ _ us hl => match us, hl with | [_, _, _], _ => rfl⟩
  have F_law_join_right := fun_mk (st := s_law_join_right) l_law_join_right c_law_join_right k_law_join_right
  have D_law_join_right : DefAt K mg "_law_join_right" s_law_join_right ["items", "others"] _ _ := ⟨F_law_join_right, PySem.W.mg_of X G a_law_join_right, F_law_join_right.binds (ps := ["items", "others"]) fun _ _ _ _ _ _ us hl => match us, hl with | [_, _], _ => rfl⟩
  have F_law := fun_mk (st := s_law) l_law c_law k_law
  have D_law : DefAt K mg "law" s_law ["script"] _ _ := ⟨F_law, PySem.W.mg_of X G a_law, F_law.binds (ps := ["script"]) fun _ _ _ _ _ _ us hl => match us, hl with | [_], _ => rfl⟩
  exact ⟨PySem.W.fnOf "law" "law" (defArgs s_law) (defBody s_law) (defScope s_law) .none kV_law dc_law pm_law an_law cd_law ct_law, fun s v => .of_eq rfl, fun base _ _ => ok_law D_law D_apart D_joined D_rank D_ranked D_grow D_grow_all D_law_cell D_law_draws D_law_same D_law_before D_law_by_rank D_law_items D_law_grown D_law_joins D_law_grow_right D_law_join_right (PySem.W.mg_none_of X G z_range) (PySem.W.mg_none_of X G z_len) (PySem.W.mg_none_of X G z_list) (PySem.W.mg_none_of X G z_any) (PySem.W.mg_none_of X G z_tuple) (PySem.W.mg_none_of X G z_sorted) (PySem.W.mg_none_of X G z_int) (PySem.W.mg_none_of X G z_isinstance) (PySem.W.mg_none_of X G z_bool) (PySem.W.mg_none_of X G z_str)⟩
end K06
open PySem PySem.W PyProof.Rows
set_option maxHeartbeats 0 in
theorem PySem.Challenge.cw_fewserve_k06_grown_lots_holds : PySem.Challenge.rw_fewserve_k06_grown_lots.Holds := by
  w_on; o_law; k_head; (case hw => w_witness2)
  k_fill
  refine L2.walk_of (l := PySem.Challenge.rw_fewserve_k06_grown_lots) (n := 63) (k := 6) (x := "script") (CX := fun _ => L2.CX0) (sp := fun w => K06.spLaw _) rfl (by decide) rfl ⟨rfl, by decide, by decide⟩ (fun w h Y => PySem.W.kIn_of Y) ?F (fun _ _ a ns hl _ hS => ⟨a, ns, rfl, hS, hl, fun _ => rfl⟩) (fun _ _ _ _ _ h => h)
  case F =>
    intro w mg fa h KX G hmg
    refine' K06.all_mk KX G hmg ?a_apart ?l_apart ?c_apart ?k_apart ?a_joined ?l_joined ?c_joined ?k_joined ?a_rank ?l_rank ?c_rank ?k_rank ?a_ranked ?l_ranked ?c_ranked ?k_ranked ?a_grow ?l_grow ?c_grow ?k_grow ?a_grow_all ?l_grow_all ?c_grow_all ?k_grow_all ?a_law_cell ?l_law_cell ?c_law_cell ?k_law_cell ?a_law_draws ?l_law_draws ?c_law_draws ?k_law_draws ?a_law_same ?l_law_same ?c_law_same ?k_law_same ?a_law_before ?l_law_before ?c_law_before ?k_law_before ?a_law_by_rank ?l_law_by_rank ?c_law_by_rank ?k_law_by_rank ?a_law_items ?l_law_items ?c_law_items ?k_law_items ?a_law_grown ?l_law_grown ?c_law_grown ?k_law_grown ?a_law_joins ?l_law_joins ?c_law_joins ?k_law_joins ?a_law_grow_right ?l_law_grow_right ?c_law_grow_right ?k_law_grow_right ?a_law_join_right ?l_law_join_right ?c_law_join_right ?k_law_join_right ?a_law ?l_law ?c_law ?k_law ?z_range ?z_len ?z_list ?z_any ?z_tuple ?z_sorted ?z_int ?z_isinstance ?z_bool ?z_str
    (case a_apart => k_is)
    (case l_apart => k_is)
    (case c_apart => k_is)
    (case k_apart => k_is)
    (case a_joined => k_is)
    (case l_joined => k_is)
    (case c_joined => k_is)
    (case k_joined => k_is)
    (case a_rank => k_is)
    (case l_rank => k_is)
    (case c_rank => k_is)
    (case k_rank => k_is)
    (case a_ranked => k_is)
    (case l_ranked => k_is)
    (case c_ranked => k_is)
    (case k_ranked => k_is)
    (case a_grow => k_is)
    (case l_grow => k_is)
    (case c_grow => k_is)
    (case k_grow => k_is)
    (case a_grow_all => k_is)
    (case l_grow_all => k_is)
    (case c_grow_all => k_is)
    (case k_grow_all => k_is)
    (case a_law_cell => k_is)
    (case l_law_cell => k_is)
    (case c_law_cell => k_is)
    (case k_law_cell => k_is)
    (case a_law_draws => k_is)
    (case l_law_draws => k_is)
    (case c_law_draws => k_is)
    (case k_law_draws => k_is)
    (case a_law_same => k_is)
    (case l_law_same => k_is)
    (case c_law_same => k_is)
    (case k_law_same => k_is)
    (case a_law_before => k_is)
    (case l_law_before => k_is)
    (case c_law_before => k_is)
    (case k_law_before => k_is)
    (case a_law_by_rank => k_is)
    (case l_law_by_rank => k_is)
    (case c_law_by_rank => k_is)
    (case k_law_by_rank => k_is)
    (case a_law_items => k_is)
    (case l_law_items => k_is)
    (case c_law_items => k_is)
    (case k_law_items => k_is)
    (case a_law_grown => k_is)
    (case l_law_grown => k_is)
    (case c_law_grown => k_is)
    (case k_law_grown => k_is)
    (case a_law_joins => k_is)
    (case l_law_joins => k_is)
    (case c_law_joins => k_is)
    (case k_law_joins => k_is)
    (case a_law_grow_right => k_is)
    (case l_law_grow_right => k_is)
    (case c_law_grow_right => k_is)
    (case k_law_grow_right => k_is)
    (case a_law_join_right => k_is)
    (case l_law_join_right => k_is)
    (case c_law_join_right => k_is)
    (case k_law_join_right => k_is)
    (case a_law => k_is)
    (case l_law => k_is)
    (case c_law => k_is)
    (case k_law => k_is)
    (case z_range => k_is)
    (case z_len => k_is)
    (case z_list => k_is)
    (case z_any => k_is)
    (case z_tuple => k_is)
    (case z_sorted => k_is)
    (case z_int => k_is)
    (case z_isinstance => k_is)
    (case z_bool => k_is)
    (case z_str => k_is)
