import PyProof.Rows.All
import Wide.All
import OpenK.AllK
import Wide.FinOn
import HandS.ForMost
import HandS.Evl
import HandS.TupAny
import HandS.Walk
import HandS.Wide
import HandS.SortInts
import HandS.GenYield
import HandS.GenList
import HandS.IsInst
import PyProof.Rows.SortShell
import PyProof.Rows.SortWalk
import PyProof.EqAt
import PyProof.EqKinds
import PyProof.TupleCall
import HandS.SortKw
import HandS.Ends
import KE.SortKeyHeap
import KE.SortData
import HandS.More
import KE.KExcSuper
import KE.KSuper
import HandS.Exc
import HandS.ExcOwn
import KE.KExcIs
import HandS.ExcIs
import HandS.WordsExc
import PySem.Challenge.RW_fewserve_k00_first_relation
set_option Elab.async false
set_option linter.all false
set_option maxRecDepth 100000
set_option maxHeartbeats 2000000
/-! DL: typed data over the layer: what a value stands for (Rep), what an expression gives (Er, En), promises of pure defs -/
namespace DL
open PySem L2 Evl

/-! ### heaps: a frame F within the heap, and what is new -/
def part (F H1 H2 : Hp) : Hp := fun q => match F q with
  | some o => some o
  | none => match H1 q with
    | some _ => none
    | none => H2 q
section
variable {F G H H1 H2 H3 H4 : Hp} {p q : Addr} {o : HO}
theorem part_in (h : F q = some o) : part F H1 H2 q = some o := by
  unfold part
  rw [h]
theorem part_old (h : F q = none) (h1 : H1 q = some o) : part F H1 H2 q = none := by
  unfold part
  rw [h, h1]
theorem part_new (h : F q = none) (h1 : H1 q = none) : part F H1 H2 q = H2 q := by
  unfold part
  rw [h, h1]
theorem part_ex : Ex F (part F H1 H2) := fun q o h => part_in h
theorem back_none (e : Ex H H1) (h : H1 p = none) : H p = none := by
  cases h1 : H p with
  | none => rfl
  | some o =>
    rw [e p o h1] at h
    cases h
theorem part_sub (e : Ex F H2) : Ex (part F H1 H2) H2 := fun q o h => by
  cases hf : F q with
  | some u =>
    rw [part_in hf] at h
    rw [← h]
    exact e q u hf
  | none =>
    cases h1 : H1 q with
    | some u =>
      rw [part_old hf h1] at h
      cases h
    | none =>
      rw [part_new hf h1] at h
      exact h
theorem part_up (e : Ex H2 H3) : Ex (part F H1 H2) (part F H1 H3) := fun q o h => by
  cases hf : F q with
  | some u =>
    rw [part_in hf] at h ⊢
    exact h
  | none =>
    cases h1 : H1 q with
    | some u =>
      rw [part_old hf h1] at h
      cases h
    | none =>
      rw [part_new hf h1] at h ⊢
      exact e q o h
theorem part_back (e : Ex H1 H2) : Ex (part F H2 H3) (part F H1 H3) := fun q o h => by
  cases hf : F q with
  | some u =>
    rw [part_in hf] at h ⊢
    exact h
  | none =>
    cases h2 : H2 q with
    | some u =>
      rw [part_old hf h2] at h
      cases h
    | none =>
      rw [part_new hf h2] at h
      rw [part_new hf (back_none e h2)]
      exact h
/-- a later evaluation over the frame that an earlier one has left -/
theorem part_part (e1 : Ex H1 H2) (e2 : Ex H2 H3) (e3 : Ex H3 H4) : Ex (part (part F H1 H2) H3 H4) (part F H1 H4) := fun q o h => by
  cases hp : part F H1 H2 q with
  | some u =>
    rw [part_in hp] at h
    rw [← h]
    exact part_up (e2.trans e3) q u hp
  | none =>
    cases h3 : H3 q with
    | some u =>
      rw [part_old hp h3] at h
      cases h
    | none =>
      rw [part_new hp h3] at h
      have n1 : H1 q = none := back_none (e1.trans e2) h3
      cases hf : F q with
      | some u =>
        rw [part_in hf] at hp
        cases hp
      | none =>
        rw [part_new hf n1]
        exact h
/-- a greater frame within the old heap -/
theorem part_frame (e : Ex F G) (e1 : Ex G H1) : Ex (part F H1 H2) (part G H1 H2) := fun q o h => by
  cases hf : F q with
  | some u =>
    rw [part_in hf] at h
    rw [part_in (e q u hf)]
    exact h
  | none =>
    cases h1 : H1 q with
    | some u =>
      rw [part_old hf h1] at h
      cases h
    | none =>
      rw [part_new hf h1] at h
      rw [part_new (back_none e1 h1) h1]
      exact h
/-- without the object at D -/
def mns (H : Hp) (D : Addr) : Hp := fun q => if q = D then none else H q
theorem mns_at {D : Addr} : mns H D D = none := by
  unfold mns
  rw [if_pos rfl]
theorem mns_ne {D : Addr} (h : q ≠ D) : mns H D q = H q := by
  unfold mns
  rw [if_neg h]
theorem mns_sub {D : Addr} : Ex (mns H D) H := fun q o h => by
  by_cases e : q = D
  · rw [e, mns_at] at h
    cases h
  · rw [mns_ne e] at h
    exact h
theorem ex_mns {D : Addr} (e : Ex F H) (h : F D = none) : Ex F (mns H D) := fun q o hq => by
  rw [mns_ne (ne_of_none hq h)]
  exact e q o hq
theorem mns_up {D : Addr} (e : Ex H H1) : Ex (mns H D) (mns H1 D) := ex_mns (mns_sub.trans e) mns_at
theorem mns_upd {D : Addr} {u : HO} : mns (upd H D u) D = mns H D := by
  funext q
  by_cases e : q = D
  · rw [e, mns_at, mns_at]
  · rw [mns_ne e, mns_ne e, upd_ne e]
/-- a turn of a loop that fills D: what was made in the turn, over the frame, is not D -/
theorem part_turn {D : Addr} (e0 : Ex F H1) (e1 : Ex H1 H2) (hD : H2 D = none) (e2 : Ex H2 H3) (h3 : H3 D = some o) (e3 : Ex H3 H4) : Ex (part (part F H1 H2) H3 H4) (mns (part F H1 H4) D) := by
  refine ex_mns (part_part e1 e2 e3) ?_
  have hf : F D = none := back_none (e0.trans e1) hD
  have hp : part F H1 H2 D = none := by
    rw [part_new hf (back_none e1 hD)]
    exact hD
  exact part_old hp h3
end

/-! ### data -/
inductive Al {α : Type} (R : V → α → Prop) : List V → List α → Prop
  | nil : Al R [] []
  | cons {v : V} {a : α} {vs : List V} {as : List α} : R v a → Al R vs as → Al R (v :: vs) (a :: as)
section
variable {α : Type} {R R' : V → α → Prop} {vs ws : List V} {as bs : List α}
theorem Al.imp (f : ∀ v a, R v a → R' v a) : ∀ {vs : List V} {as : List α}, Al R vs as → Al R' vs as
  | _, _, .nil => .nil
  | _, _, .cons h t => .cons (f _ _ h) (Al.imp f t)
theorem Al.len : ∀ {vs : List V} {as : List α}, Al R vs as → vs.length = as.length
  | _, _, .nil => rfl
  | _, _, .cons _ t => by rw [List.length_cons, List.length_cons, Al.len t]
theorem Al.app : ∀ {vs : List V} {as : List α}, Al R vs as → Al R ws bs → Al R (vs ++ ws) (as ++ bs)
  | _, _, .nil, h => h
  | _, _, .cons h t, k => .cons h (Al.app t k)
theorem Al.snoc {v : V} {a : α} (h : Al R vs as) (k : R v a) : Al R (vs ++ [v]) (as ++ [a]) := h.app (.cons k .nil)
theorem Al.get : ∀ {vs : List V} {as : List α} {i : Nat} {v : V}, Al R vs as → vs[i]? = some v → ∃ a, as[i]? = some a ∧ R v a
  | _, _, i, v, .nil, h => by simp at h
  | _, _, 0, v, .cons h t, e => by
    cases e
    exact ⟨_, rfl, h⟩
  | _, _, i + 1, v, .cons h t, e => by
    obtain ⟨a, e1, e2⟩ := Al.get t (show _ = some v from e)
    exact ⟨a, e1, e2⟩
theorem Al.at : ∀ {vs : List V} {as : List α} {i : Nat} {a : α}, Al R vs as → as[i]? = some a → ∃ v, vs[i]? = some v ∧ R v a
  | _, _, i, v, .nil, h => by simp at h
  | _, _, 0, v, .cons h t, e => by
    cases e
    exact ⟨_, rfl, h⟩
  | _, _, i + 1, v, .cons h t, e => by
    obtain ⟨a, e1, e2⟩ := Al.at t (show _ = some v from e)
    exact ⟨a, e1, e2⟩
theorem Al.take : ∀ {vs : List V} {as : List α} (n : Nat), Al R vs as → Al R (vs.take n) (as.take n)
  | _, _, 0, _ => .nil
  | _, _, n + 1, .nil => .nil
  | _, _, n + 1, .cons h t => .cons h (Al.take n t)
theorem Al.drop : ∀ {vs : List V} {as : List α} (n : Nat), Al R vs as → Al R (vs.drop n) (as.drop n)
  | _, _, 0, h => h
  | _, _, n + 1, .nil => .nil
  | _, _, n + 1, .cons h t => Al.drop n t
theorem Al.set {v : V} {a : α} (k : R v a) : ∀ {vs : List V} {as : List α} (i : Nat), Al R vs as → Al R (vs.set i v) (as.set i a)
  | _, _, _, .nil => .nil
  | _, _, 0, .cons _ t => .cons k t
  | _, _, i + 1, .cons h t => .cons h (Al.set k i t)
theorem Al.map {β : Type} {S : V → β → Prop} {f : α → β} (h : ∀ v a, R v a → S v (f a)) : ∀ {vs : List V} {as : List α}, Al R vs as → Al S vs (as.map f)
  | _, _, .nil => .nil
  | _, _, .cons x t => .cons (h _ _ x) (Al.map h t)
end
/-- what a value stands for, in a heap; more objects change nothing -/
structure Rep (α : Type) where
  rel : Hp → V → α → Prop
  mono : ∀ {H H' : Hp} {v : V} {a : α}, Ex H H' → rel H v a → rel H' v a
def rInt : Rep Int := ⟨fun _ v i => v = .int i, fun _ h => h⟩
def rBl : Rep Bool := ⟨fun _ v i => v = .bl i, fun _ h => h⟩
def rStr : Rep Str := ⟨fun _ v i => v = .str i, fun _ h => h⟩
def rNon : Rep Unit := ⟨fun _ v _ => v = .non, fun _ h => h⟩
section
variable {α β γ : Type} (K : PySem.W.Frag)
def rLst (r : Rep α) : Rep (List α) := ⟨fun H v as => ∃ p xs, v = .ref p ∧ H p = some (.lst xs) ∧ Al (r.rel H) xs as, fun e ⟨p, xs, h, s, a⟩ => ⟨p, xs, h, e p _ s, a.imp fun _ _ k => r.mono e k⟩⟩
def rTup (r : Rep α) : Rep (List α) := ⟨fun H v as => ∃ p xs, v = .ref p ∧ H p = some (.tup xs) ∧ Al (r.rel H) xs as, fun e ⟨p, xs, h, s, a⟩ => ⟨p, xs, h, e p _ s, a.imp fun _ _ k => r.mono e k⟩⟩
def rPair (r : Rep α) (s : Rep β) : Rep (α × β) := ⟨fun H v c => ∃ p x y, v = .ref p ∧ H p = some (.tup [x, y]) ∧ r.rel H x c.1 ∧ s.rel H y c.2, fun e ⟨p, x, y, h, t, a, b⟩ => ⟨p, x, y, h, e p _ t, r.mono e a, s.mono e b⟩⟩
/-- the script: a list that is only read -/
def rFro : Rep (List Int) := ⟨fun H v ns => ∃ p, v = .ref p ∧ SqL K H p (ns.map V.int), fun e ⟨p, h, s⟩ => ⟨p, h, ex_l e s⟩⟩
end
def rOpt {α : Type} (r : Rep α) : Rep (Option α) := ⟨fun H v o => match o with | none => v = .non | some a => r.rel H v a, fun {H H' v o} e h => by
  cases o with
  | none => exact h
  | some a => exact r.mono e h⟩
theorem rel_ints {H : Hp} : ∀ {xs : List V} {ns : List Int}, Al (rInt.rel H) xs ns → xs = ns.map V.int
  | _, _, .nil => rfl
  | _, _, .cons h t => by
    rw [show _ = V.int _ from h, rel_ints t]
    rfl
theorem ints_rel {H : Hp} : ∀ (ns : List Int), Al (rInt.rel H) (ns.map V.int) ns
  | [] => .nil
  | n :: ns => .cons rfl (ints_rel ns)

/-! ### what an expression gives -/
section
variable {α β γ δ : Type} {K : PySem.W.Frag}
/-- a value that stands for a | a new list of what stands for as -/
def Er (r : Rep α) (te : TE) (σ : L2.St) (F : Hp) (a : α) : Prop := ∀ H1, Ex F H1 → ∀ Q : VK, (∀ v H2, Ex H1 H2 → r.rel (part F H1 H2) v a → Q v H2) → te σ H1 Q
def New (r : Rep α) (as : List α) (F H1 H2 : Hp) (p : Addr) : Prop := H1 p = none ∧ ∃ xs, H2 p = some (.lst xs) ∧ Al (r.rel (mns (part F H1 H2) p)) xs as
def En (r : Rep α) (te : TE) (σ : L2.St) (F : Hp) (as : List α) : Prop := ∀ H1, Ex F H1 → ∀ Q : VK, (∀ p H2, Ex H1 H2 → New r as F H1 H2 p → Q (.ref p) H2) → te σ H1 Q
def Ea (P : Hp → List V → Prop) (ta : TA) (σ : L2.St) (F : Hp) : Prop := ∀ H1, Ex F H1 → ∀ Q : List V → Hp → Prop, (∀ vs H2, Ex H1 H2 → P (part F H1 H2) vs → Q vs H2) → ta σ H1 Q
variable {σ : L2.St} {F G H H1 H2 H3 : Hp} {ta tb te tx : TE} {t u : TT} {v : V} {r : Rep α} {s : Rep β} {a : α} {b : β} {as : List α}
theorem New.rel {p : Addr} (h : New r as F H1 H2 p) (e0 : Ex F H1) : (rLst r).rel (part F H1 H2) (.ref p) as := by
  obtain ⟨h1, xs, h2, h3⟩ := h
  refine ⟨p, xs, rfl, ?_, h3.imp fun _ _ k => r.mono mns_sub k⟩
  rw [part_new (back_none e0 h1) h1]
  exact h2
theorem En.er (h : En r te σ F as) : Er (rLst r) te σ F as := fun H1 e Q q => h H1 e Q fun p H2 e2 n => q _ H2 e2 (n.rel e)
theorem Er.mono (e : Ex F G) (h : Er r te σ F a) : Er r te σ G a := fun H1 e1 Q q => h H1 (e.trans e1) Q fun v H2 e2 k => q v H2 e2 (r.mono (part_frame e e1) k)
theorem En.mono (e : Ex F G) (h : En r te σ F as) : En r te σ G as := fun H1 e1 Q q => h H1 (e.trans e1) Q fun p H2 e2 ⟨k1, xs, k2, k3⟩ => q p H2 e2 ⟨k1, xs, k2, k3.imp fun _ _ k => r.mono (mns_up (part_frame e e1)) k⟩
theorem er_is {a' : α} (h : Er r te σ F a) (e : a = a') : Er r te σ F a' := e ▸ h
theorem en_is {as' : List α} (h : En r te σ F as) (e : as = as') : En r te σ F as' := e ▸ h
theorem er_to (h : Er r te σ F a) (f : ∀ H v, r.rel H v a → s.rel H v b) : Er s te σ F b := fun H1 e Q q => h H1 e Q fun v H2 e2 k => q v H2 e2 (f _ _ k)
theorem er_var {i : Nat} (h : σ[i]? = some (some v)) (hr : r.rel F v a) : Er r (tVar i) σ F a := fun H1 _ _ q => ⟨v, h, q v H1 (Ex.refl H1) (r.mono part_ex hr)⟩
theorem er_vi {i : Nat} {n : Int} (h : σ[i]? = some (some (.int n))) : Er rInt (tVar i) σ F n := er_var h rfl
theorem er_int {i : Int} : Er rInt (tC (.int i)) σ F i := fun H1 _ _ q => q _ H1 (Ex.refl H1) rfl
theorem er_bl {i : Bool} : Er rBl (tC (.bl i)) σ F i := fun H1 _ _ q => q _ H1 (Ex.refl H1) rfl
theorem er_str {i : Str} : Er rStr (tC (.str i)) σ F i := fun H1 _ _ q => q _ H1 (Ex.refl H1) rfl
theorem er_nonO : Er (rOpt r) (tC .non) σ F none := fun H1 _ _ q => q _ H1 (Ex.refl H1) rfl
theorem er_some (h : Er r te σ F a) : Er (rOpt r) te σ F (some a) := er_to h fun _ _ k => k
/-- two in their order -/
theorem er_two {R : V → V → Hp → Prop} (ha : Er r ta σ F a) (hb : Er s tb σ F b) (e : Ex F H1) (q : ∀ x y H3, Ex H1 H3 → r.rel (part F H1 H3) x a → s.rel (part F H1 H3) y b → R x y H3) : ta σ H1 fun x H2 => tb σ H2 fun y H3 => R x y H3 :=
  ha H1 e _ fun x H2 e2 k1 => hb H2 (e.trans e2) _ fun y H3 e3 k2 => q x y H3 (e2.trans e3) (r.mono (part_up e3) k1) (s.mono (part_back e2) k2)
theorem er_I0 {f : Int → Int → Int} {i j : Int} (ha : Er rInt ta σ F i) (hb : Er rInt tb σ F j) : Er rInt (tOp (rI0 fun i j => .int (f i j)) ta tb) σ F (f i j) := fun H1 e Q q =>
  er_two ha hb e fun x y H3 e3 k1 k2 => ⟨i, j, k1, k2, q _ H3 e3 rfl⟩
theorem er_I {C : Int → Int → Prop} {f : Int → Int → Int} {i j : Int} (ha : Er rInt ta σ F i) (hb : Er rInt tb σ F j) (hc : C i j) : Er rInt (tOp (rI C fun i j => .int (f i j)) ta tb) σ F (f i j) := fun H1 e Q q =>
  er_two ha hb e fun x y H3 e3 k1 k2 => ⟨i, j, k1, k2, hc, q _ H3 e3 rfl⟩
theorem er_cmp0 {f : Int → Int → Bool} {i j : Int} (ha : Er rInt ta σ F i) (hb : Er rInt tb σ F j) : Er rBl (tOp (rI0 fun i j => .bl (f i j)) ta tb) σ F (f i j) := fun H1 e Q q =>
  er_two ha hb e fun x y H3 e3 k1 k2 => ⟨i, j, k1, k2, q _ H3 e3 rfl⟩
theorem er_neg {i : Int} (ha : Er rInt ta σ F i) : Er rInt (tUn (rU fun i => .int (-i)) ta) σ F (-i) := fun H1 e Q q => ha H1 e _ fun x H2 e2 k => ⟨i, k, q _ H2 e2 rfl⟩
theorem er_eqI {i j : Int} (ha : Er rInt ta σ F i) (hb : Er rInt tb σ F j) : Er rBl (tOp rEq ta tb) σ F (decide (i = j)) := fun H1 e Q q =>
  er_two ha hb e fun x y H3 e3 k1 k2 => by
    cases (show x = V.int i from k1)
    cases (show y = V.int j from k2)
    refine ⟨rfl, ?_⟩
    rw [show decide (V.int i = V.int j) = decide (i = j) from decide_eq_decide.mpr ⟨fun z => V.int.inj z, fun z => congrArg V.int z⟩]
    exact q _ H3 e3 rfl
theorem er_neI {i j : Int} (ha : Er rInt ta σ F i) (hb : Er rInt tb σ F j) : Er rBl (tOp rNe ta tb) σ F (!decide (i = j)) := fun H1 e Q q =>
  er_two ha hb e fun x y H3 e3 k1 k2 => by
    cases (show x = V.int i from k1)
    cases (show y = V.int j from k2)
    refine ⟨rfl, ?_⟩
    rw [show decide (V.int i = V.int j) = decide (i = j) from decide_eq_decide.mpr ⟨fun z => V.int.inj z, fun z => congrArg V.int z⟩]
    exact q _ H3 e3 rfl
theorem er_eqB {i j : Bool} (ha : Er rBl ta σ F i) (hb : Er rBl tb σ F j) : Er rBl (tOp rEq ta tb) σ F (decide (i = j)) := fun H1 e Q q =>
  er_two ha hb e fun x y H3 e3 k1 k2 => by
    cases (show x = V.bl i from k1)
    cases (show y = V.bl j from k2)
    refine ⟨rfl, ?_⟩
    rw [show decide (V.bl i = V.bl j) = decide (i = j) from decide_eq_decide.mpr ⟨fun z => V.bl.inj z, fun z => congrArg V.bl z⟩]
    exact q _ H3 e3 rfl
theorem er_neB {i j : Bool} (ha : Er rBl ta σ F i) (hb : Er rBl tb σ F j) : Er rBl (tOp rNe ta tb) σ F (!decide (i = j)) := fun H1 e Q q =>
  er_two ha hb e fun x y H3 e3 k1 k2 => by
    cases (show x = V.bl i from k1)
    cases (show y = V.bl j from k2)
    refine ⟨rfl, ?_⟩
    rw [show decide (V.bl i = V.bl j) = decide (i = j) from decide_eq_decide.mpr ⟨fun z => V.bl.inj z, fun z => congrArg V.bl z⟩]
    exact q _ H3 e3 rfl
theorem et_test {b : Bool} (h : Er rBl te σ F b) : EvT (tTest te) σ F b := fun H1 e _ q => h H1 e _ fun v H2 e2 k => ⟨b, k, q H2 e2⟩
theorem et_B {b : Bool} (h : Er rBl te σ F b) : EvT (tB te) σ F b := fun H1 e _ q => h H1 e _ fun v H2 e2 k => ⟨b, k, q H2 e2⟩
theorem er_if {b : Bool} (h : EvT t σ F b) (h1 : b = true → Er r ta σ F a) (h2 : b = false → Er r tb σ F a) : Er r (tIf t ta tb) σ F a := fun H1 e Q q => h H1 e _ fun H2 e2 => by
  cases b with
  | true =>
    show ta σ H2 Q
    exact h1 rfl H2 (e.trans e2) Q fun v H3 e3 k => q v H3 (e2.trans e3) (r.mono (part_back e2) k)
  | false =>
    show tb σ H2 Q
    exact h2 rfl H2 (e.trans e2) Q fun v H3 e3 k => q v H3 (e2.trans e3) (r.mono (part_back e2) k)
theorem er_andV {a b : Bool} (h1 : Er rBl ta σ F a) (h2 : a = true → Er rBl tb σ F b) : Er rBl (tAndV ta tb) σ F (a && b) := fun H1 e Q q => h1 H1 e _ fun v H2 e2 k => ⟨a, k, by
  cases a with
  | true =>
    show tb σ H2 Q
    exact h2 rfl H2 (e.trans e2) Q fun v H3 e3 k => q v H3 (e2.trans e3) k
  | false =>
    show Q (.bl false) H2
    exact q _ H2 e2 rfl⟩
theorem er_orV {a b : Bool} (h1 : Er rBl ta σ F a) (h2 : a = false → Er rBl tb σ F b) : Er rBl (tOrV ta tb) σ F (a || b) := fun H1 e Q q => h1 H1 e _ fun v H2 e2 k => ⟨a, k, by
  cases a with
  | true =>
    show Q (.bl true) H2
    exact q _ H2 e2 rfl
  | false =>
    show tb σ H2 Q
    exact h2 rfl H2 (e.trans e2) Q fun v H3 e3 k => q v H3 (e2.trans e3) k⟩
theorem er_notV {a : Bool} (h1 : Er rBl ta σ F a) : Er rBl (tNotV ta) σ F (!a) := fun H1 e Q q => h1 H1 e _ fun v H2 e2 k => ⟨a, k, q _ H2 e2 rfl⟩
/-! arguments -/
theorem ea_nil : Ea (fun _ vs => vs = []) tNil σ F := fun H1 _ _ q => q [] H1 (Ex.refl H1) rfl
def HCons (r : Rep α) (a : α) (P : Hp → List V → Prop) : Hp → List V → Prop := fun G vs => ∃ v ws, vs = v :: ws ∧ r.rel G v a ∧ P G ws
def MonoP (P : Hp → List V → Prop) : Prop := ∀ {G G' : Hp} {vs : List V}, Ex G G' → P G vs → P G' vs
theorem ea_cons {tr : TA} {P : Hp → List V → Prop} (h : Er r ta σ F a) (hr : Ea P tr σ F) (hP : MonoP P) : Ea (HCons r a P) (tCons ta tr) σ F := fun H1 e _ q =>
  h H1 e _ fun v H2 e2 k => hr H2 (e.trans e2) _ fun ws H3 e3 k3 => q _ H3 (e2.trans e3) ⟨v, ws, rfl, r.mono (part_up e3) k, hP (part_back e2) k3⟩
theorem mono_nil : MonoP (fun _ vs => vs = []) := fun _ h => h
theorem mono_cons {P : Hp → List V → Prop} (hP : MonoP P) : MonoP (HCons r a P) := fun e ⟨v, ws, h, k, p⟩ => ⟨v, ws, h, r.mono e k, hP e p⟩
def A1 (r : Rep α) (a : α) : Hp → List V → Prop := fun G vs => ∃ v, vs = [v] ∧ r.rel G v a
def A2 (r : Rep α) (s : Rep β) (a : α) (b : β) : Hp → List V → Prop := fun G vs => ∃ v w, vs = [v, w] ∧ r.rel G v a ∧ s.rel G w b
def A3 (r : Rep α) (s : Rep β) (t : Rep γ) (a : α) (b : β) (c : γ) : Hp → List V → Prop := fun G vs => ∃ v w x, vs = [v, w, x] ∧ r.rel G v a ∧ s.rel G w b ∧ t.rel G x c
theorem ea1 (h : Er r ta σ F a) : Ea (A1 r a) (tCons ta tNil) σ F := fun H1 e _ q => h H1 e _ fun v H2 e2 k => q _ H2 e2 ⟨v, rfl, k⟩
theorem ea2 (h : Er r ta σ F a) (h2 : Er s tb σ F b) : Ea (A2 r s a b) (tCons ta (tCons tb tNil)) σ F := fun H1 e _ q => er_two h h2 e fun x y H3 e3 k1 k2 => q _ H3 e3 ⟨x, y, rfl, k1, k2⟩
theorem ea3 {tz : TE} {z : Rep γ} {c : γ} (h : Er r ta σ F a) (h2 : Er s tb σ F b) (h3 : Er z tz σ F c) : Ea (A3 r s z a b c) (tCons ta (tCons tb (tCons tz tNil))) σ F := fun H1 e _ q =>
  er_two (R := fun x y H3 => tz σ H3 fun w H4 => _) h h2 e fun x y H3 e3 k1 k2 => h3 H3 (e.trans e3) _ fun w H4 e4 k3 => q _ H4 (e3.trans e4) ⟨x, y, w, rfl, r.mono (part_up e4) k1, s.mono (part_up e4) k2, z.mono (part_back e3) k3⟩
theorem mono1 : MonoP (A1 r a) := fun e ⟨v, h, k⟩ => ⟨v, h, r.mono e k⟩
theorem mono2 : MonoP (A2 r s a b) := fun e ⟨v, w, h, k, l⟩ => ⟨v, w, h, r.mono e k, s.mono e l⟩
theorem mono3 {z : Rep γ} {c : γ} : MonoP (A3 r s z a b c) := fun e ⟨v, w, x, h, k, l, m⟩ => ⟨v, w, x, h, r.mono e k, s.mono e l, z.mono e m⟩
/-! promises: P says what the arguments stand for; a value | a new list -/
def spV (s : Rep β) (W : (Hp → List V → Prop) → β → Prop) : Sp := fun vs H Q _ => ∃ F P b, Ex F H ∧ MonoP P ∧ W P b ∧ P F vs ∧ ∀ v H2, Ex H H2 → s.rel (part F H H2) v b → Q v H2
def spN (s : Rep β) (W : (Hp → List V → Prop) → List β → Prop) : Sp := fun vs H Q _ => ∃ F P b, Ex F H ∧ MonoP P ∧ W P b ∧ P F vs ∧ ∀ p H2, Ex H H2 → New s b F H H2 p → Q (.ref p) H2
theorem er_call {W : (Hp → List V → Prop) → β → Prop} {P : Hp → List V → Prop} {E : XK} {tr : TA} (h : Ea P tr σ F) (hP : MonoP P) (w : W P b) : Er s (tCall (spV s W) [] E tr) σ F b := fun H1 e Q q =>
  h H1 e _ fun vs H2 e2 k => ⟨part F H1 H2, P, b, part_sub (e.trans e2), hP, w, by rw [List.append_nil]; exact k, fun v H3 e3 k3 => q v H3 (e2.trans e3) (s.mono (part_part e2 (Ex.refl H2) e3) k3)⟩
theorem en_call {W : (Hp → List V → Prop) → List β → Prop} {P : Hp → List V → Prop} {bs : List β} {E : XK} {tr : TA} (h : Ea P tr σ F) (hP : MonoP P) (w : W P bs) : En s (tCall (spN s W) [] E tr) σ F bs := fun H1 e Q q =>
  h H1 e _ fun vs H2 e2 k => ⟨part F H1 H2, P, bs, part_sub (e.trans e2), hP, w, by rw [List.append_nil]; exact k, fun p H3 e3 ⟨k1, xs, k2, k3⟩ => q p H3 (e2.trans e3) ⟨back_none e2 k1, xs, k2, k3.imp fun _ _ k => s.mono (mns_up (part_part e2 (Ex.refl H2) e3)) k⟩⟩
end
end DL
set_option Elab.async false
set_option linter.all false
set_option maxRecDepth 100000
set_option maxHeartbeats 2000000
namespace DL
open PySem L2 Evl
/-! ### sources of loops -/
section
variable {α β γ δ : Type} {K : PySem.W.Frag} {σ σ2 : L2.St} {F G H H1 H2 H3 : Hp} {ta tb te tl tx : TE} {t u : TT} {v : V} {r : Rep α} {s : Rep β} {a : α} {b : β} {as : List α} {bs : List β}
def YD (G : Hp) (r : Rep α) (as : List α) : Nat → Hp → V → Hp → Prop := fun i H x H' => Ex H H' ∧ ∃ a, as[i]? = some a ∧ r.rel (part G H H') x a
def Src (wi : TI) (σ : L2.St) (F : Hp) (r : Rep α) (as : List α) : Prop :=
  ∀ H1, Ex F H1 → ∀ R : It → Hp → Prop, (∀ J H2, Ex H1 H2 → Walk J as.length (fun H => Ex (part F H1 H2) H) (YD (part F H1 H2) r as) → R J H2) → wi σ H1 R
theorem Src.mono {wi : TI} (e : Ex F G) (h : Src wi σ F r as) : Src wi σ G r as := fun H1 e1 R k => h H1 (e.trans e1) R fun J H2 e2 w => k J H2 e2 (w.mono (fun H hh => (part_frame e e1).trans hh) fun i H x H' hi hG ⟨y1, a, y2, y3⟩ => ⟨y1, a, y2, r.mono (part_frame (part_frame e e1) hG) y3⟩)
theorem src_is {wi : TI} {as' : List α} (h : Src wi σ F r as) (e : as = as') : Src wi σ F r as' := e ▸ h
theorem walkL {p : Addr} {xs : List V} (hp : G p = some (.lst xs)) (ha : Al (r.rel G) xs as) : Walk (Itl K p) as.length (fun H => Ex G H) (YD G r as) := by
  have w := walk_list (K := K) (a := p) (xs := xs)
  rw [ha.len] at w
  refine w.mono (fun H e => SqL.of (e p _ hp)) fun i H x H' hi e ⟨y1, y2⟩ => ?_
  subst y1
  obtain ⟨a, h1, h2⟩ := ha.get y2
  exact ⟨Ex.refl _, a, h1, r.mono part_ex h2⟩
theorem src_list (h : Er (rLst r) tl σ F as) : Src (iList K tl) σ F r as := fun H1 e R k => h H1 e _ fun v H2 e2 ⟨p, xs, hv, hp, ha⟩ =>
  ⟨p, hv, ⟨xs, SqL.of (part_sub (e.trans e2) p _ hp)⟩, k _ H2 e2 (walkL hp ha)⟩
theorem src_tup (h : Er (rTup r) tl σ F as) : Src (iTup K tl) σ F r as := fun H1 e R k => h H1 e _ fun v H2 e2 ⟨p, xs, hv, hp, ha⟩ => by
  refine ⟨p, hv, ⟨xs, SqT.of (part_sub (e.trans e2) p _ hp)⟩, k _ H2 e2 ?_⟩
  have w := walk_tup (K := K) (a := p) (xs := xs)
  rw [ha.len] at w
  refine w.mono (fun H e => SqT.of (e p _ hp)) fun i H x H' hi e ⟨y1, y2⟩ => ?_
  subst y1
  obtain ⟨a, h1, h2⟩ := ha.get y2
  exact ⟨Ex.refl _, a, h1, r.mono part_ex h2⟩
theorem src_fro {ns : List Int} (h : Er (rFro K) tl σ F ns) : Src (iList K tl) σ F rInt ns := fun H1 e R k => h H1 e _ fun v H2 e2 ⟨p, hv, hp⟩ => by
  refine ⟨p, hv, ⟨_, ex_l (part_sub (e.trans e2)) hp⟩, k _ H2 e2 ?_⟩
  have w := walk_list (K := K) (a := p) (xs := ns.map V.int)
  rw [List.length_map] at w
  refine w.mono (fun H e => ex_l e hp) fun i H x H' hi e ⟨y1, y2⟩ => ?_
  subst y1
  rw [List.getElem?_map] at y2
  cases hn : ns[i]? with
  | none => rw [hn] at y2; cases y2
  | some n =>
    rw [hn] at y2
    exact ⟨Ex.refl _, n, hn, (Option.some.inj y2).symm⟩
/-- lo, lo + 1, .. -/
def rng (lo : Int) (n : Nat) : List Int := (List.range n).map fun (i : Nat) => lo + (i : Int)
theorem rng_len {lo : Int} {n : Nat} : (rng lo n).length = n := by
  unfold rng
  rw [List.length_map, List.length_range]
theorem rng_get {lo : Int} {n i : Nat} (h : i < n) : (rng lo n)[i]? = some (lo + (i : Int)) := by
  unfold rng
  rw [List.getElem?_map, List.getElem?_range h]
  rfl
theorem mem_rng {lo x : Int} {n : Nat} : x ∈ rng lo n ↔ lo ≤ x ∧ x < lo + (n : Int) := by
  unfold rng
  rw [List.mem_map]
  constructor
  · rintro ⟨i, hi, rfl⟩
    have := List.mem_range.mp hi
    omega
  · rintro ⟨h1, h2⟩
    exact ⟨(x - lo).toNat, List.mem_range.mpr (by omega), by omega⟩
theorem walkR {lo : Int} {n : Nat} : Walk (Itr lo n) (rng lo n).length (fun H => Ex G H) (YD G rInt (rng lo n)) := by
  rw [rng_len]
  refine walk_range.mono (fun _ _ => trivial) fun i H x H' hi e ⟨y1, y2⟩ => ?_
  subst y1
  exact ⟨Ex.refl _, _, rng_get hi, y2⟩
theorem src_rng1 {ta : TA} {n : Int} (h : Ea (A1 rInt n) ta σ F) (hn : -1000000 ≤ n ∧ n ≤ 1000000) : Src (iRng1 ta) σ F rInt (rng 0 n.toNat) := fun H1 e R k => h H1 e _ fun vs H2 e2 ⟨v, hv, hr⟩ => by
  cases (show v = V.int n from hr)
  exact ⟨n, hv, by omega, by omega, k _ H2 e2 walkR⟩
theorem src_rng2 {ta : TA} {lo n : Int} (h : Ea (A2 rInt rInt lo n) ta σ F) (hn : -1000000 ≤ lo ∧ lo ≤ 1000000 ∧ -1000000 ≤ n ∧ n ≤ 1000000) : Src (iRng2 ta) σ F rInt (rng lo (n - lo).toNat) := fun H1 e R k => h H1 e _ fun vs H2 e2 ⟨v, w, hv, hr, hw⟩ => by
  cases (show v = V.int lo from hr)
  cases (show w = V.int n from hw)
  exact ⟨lo, n, hv, by omega, k _ H2 e2 walkR⟩
theorem pair_new {T : Addr} {x y : V} {a : α} {b : β} (eG : Ex G H) (hT : H T = none) (hx : r.rel G x a) (hy : s.rel G y b) : (rPair r s).rel (part G H (upd H T (.tup [x, y]))) (.ref T) (a, b) := by
  refine ⟨T, x, y, rfl, ?_, r.mono part_ex hx, s.mono part_ex hy⟩
  rw [part_new (back_none eG hT) hT]
  exact upd_same
theorem src_enum {ta : TA} (h : Ea (A1 (rLst r) as) ta σ F) : Src (iEnum K ta) σ F (rPair rInt r) (List.zip (rng 0 as.length) as) := fun H1 e R k => h H1 e _ fun vs H2 e2 ⟨v, hv, p, xs, hv2, hp, ha⟩ => by
  subst hv2
  refine ⟨p, xs, hv, SqL.of (part_sub (e.trans e2) p _ hp), k _ H2 e2 ?_⟩
  have w := walk_enum (K := K) (a := p) (xs := xs)
  rw [ha.len] at w
  rw [List.length_zip, rng_len, Nat.min_self]
  refine w.mono (fun H e => SqL.of (e p _ hp)) fun i H x H' hi e ⟨T, y, z, y1, y2, y3, y4, y5⟩ => ?_
  subst y1
  subst y3
  obtain ⟨a, h1, h2⟩ := ha.get y5
  refine ⟨Ex.new y2, ((0 : Int) + (i : Int), a), ?_, pair_new e y2 ?_ h2⟩
  · rw [List.getElem?_zip_eq_some]
    exact ⟨rng_get hi, h1⟩
  · show y = V.int ((0 : Int) + (i : Int))
    rw [Int.zero_add]
    exact (Option.some.inj y4).symm
theorem src_zip {ta : TA} (h : Ea (A2 (rLst r) (rLst s) as bs) ta σ F) : Src (iZip K ta) σ F (rPair r s) (List.zip as bs) := fun H1 e R k => h H1 e _ fun vs H2 e2 ⟨v, w, hv, ⟨p, xs, hv2, hp, ha⟩, ⟨q, ys, hw2, hq, hb⟩⟩ => by
  subst hv2 hw2
  refine ⟨p, q, xs, ys, hv, SqL.of (part_sub (e.trans e2) p _ hp), SqL.of (part_sub (e.trans e2) q _ hq), k _ H2 e2 ?_⟩
  have w := walk_zip (K := K) (a := p) (b := q) (xs := xs) (ys := ys) (n := (List.zip as bs).length) (by rw [List.length_zip, ha.len, hb.len])
  refine w.mono (fun H e => ⟨SqL.of (e p _ hp), SqL.of (e q _ hq)⟩) fun i H x H' hi e ⟨T, y, z, y1, y2, y3, y4, y5⟩ => ?_
  subst y1
  subst y3
  obtain ⟨a, h1, h2⟩ := ha.get y4
  obtain ⟨b, h3, h4⟩ := hb.get y5
  refine ⟨Ex.new y2, (a, b), ?_, pair_new e y2 h2 h4⟩
  rw [List.getElem?_zip_eq_some]
  exact ⟨h1, h3⟩
/-! ### targets -/
def Tgt (g : TG) (r : Rep α) (S : Hp → α → L2.St → L2.St → Prop) : Prop := ∀ G H x a σ (Q : L2.St → Hp → Prop), Ex G H → r.rel G x a → (∀ σ2, S G a σ σ2 → Q σ2 H) → g x σ H Q
def SN (r : Rep α) (j : Nat) : Hp → α → L2.St → L2.St → Prop := fun G a σ σ2 => ∃ x, r.rel G x a ∧ σ2 = σ.set j (some x)
def SPr (r : Rep α) (s : Rep β) (i j : Nat) : Hp → α × β → L2.St → L2.St → Prop := fun G c σ σ2 => ∃ x y, r.rel G x c.1 ∧ s.rel G y c.2 ∧ σ2 = (σ.set i (some x)).set j (some y)
theorem tgt_n {j : Nat} : Tgt (gName j) r (SN r j) := fun G H x a σ Q _ hx k => k _ ⟨x, hx, rfl⟩
theorem tgt_p {i j : Nat} : Tgt (gTup K 2 (gCons (gName i) (gCons (gName j) gNil))) (rPair r s) (SPr r s i j) := fun G H x c σ Q e ⟨p, y, z, hx, ht, h1, h2⟩ k =>
  ⟨p, [y, z], hx, SqT.of (e p _ ht), rfl, y, [z], rfl, z, [], rfl, rfl, k _ ⟨y, z, h1, h2, rfl⟩⟩
/-! ### loops -/
/-- for: Pv by the frame (what stands still), the items taken, the slots and the heap -/
theorem d_for {wi : TI} {g : TG} {tb : TS} {D : Ends} {S : Hp → α → L2.St → L2.St → Prop} (h : Src wi σ F r as) (hg : Tgt g r S) (e : Ex F H) (Pv : Hp → List α → L2.St → Hp → Prop)
    (hG : ∀ G pre σ' H', Pv G pre σ' H' → Ex G H') (h0 : ∀ H1, Ex H H1 → Pv (part F H H1) [] σ H1)
    (hs : ∀ G pre a post σ' H' H'' σ2, as = pre ++ a :: post → Pv G pre σ' H' → Ex H' H'' → S (part G H' H'') a σ' σ2 → tb { D with nx := Pv G (pre ++ [a]), ct := Pv G (pre ++ [a]), bk := D.nx } σ2 H'')
    (hd : ∀ G σ' H', Pv G as σ' H' → D.nx σ' H') : tFor wi g tb D σ H := h H e _ fun J H1 e1 w => by
  refine for_it w (fun i σ' H' => Pv (part F H H1) (as.take i) σ' H') (h0 H1 e1) (fun i σ' H' _ p => hG _ _ _ _ p) (fun i x σ' H' H'' hi p ⟨y1, a, y2, y3⟩ => ?_) (fun σ' H' p => ?_)
  · refine hg _ H'' x a σ' _ (part_sub ((hG _ _ _ _ p).trans y1)) y3 fun σ2 hS => ?_
    have hl : i < as.length := hi
    have et : as.take (i + 1) = as.take i ++ [a] := by
      rw [List.take_add_one, y2]
      rfl
    have q := hs (part F H H1) (as.take i) a (as.drop (i + 1)) σ' H' H'' σ2 (by
      rw [List.getElem?_eq_getElem hl] at y2
      cases y2
      rw [← List.drop_eq_getElem_cons hl, List.take_append_drop]) p y1 hS
    rw [← et] at q
    exact q
  · rw [List.take_length] at p
    exact hd _ _ _ p
/-! ### comprehensions -/
theorem en_lc {wi : TI} {g : TG} {S : Hp → α → L2.St → L2.St → Prop} {tt : TT} {vs : List Nat} (f : α → Bool) (m : α → β) (h : Src wi σ F r as) (hg : Tgt g r S) (hn : as.length < 100000)
    (hw : ∀ a ∈ as, ∀ G σ2, Ex F G → S G a (wipe σ vs) σ2 → wipe σ2 vs = wipe σ vs ∧ EvT tt σ2 G (f a) ∧ (f a = true → Er s te σ2 G (m a))) :
    En s (tLc wi g tt te vs) σ F ((as.filter f).map m) := fun H1 e Q q => h H1 e _ fun J H2 e2 w D hD => by
  have mem : ∀ i a, as[i]? = some a → a ∈ as := fun i a h => List.mem_of_getElem? h
  have tk : ∀ i a, as[i]? = some a → as.take (i + 1) = as.take i ++ [a] := fun i a h => by
    rw [List.take_add_one, h]
    rfl
  refine lc_it w (fun i H' => ∃ acc, H' D = some (.lst acc) ∧ Ex H2 (mns H' D) ∧ Al (s.rel (mns (part F H1 H') D)) acc (((as.take i).filter f).map m)) ?_ ?_ ?_ ?_
  · refine ⟨[], upd_same, ?_, .nil⟩
    rw [mns_upd]
    exact ex_mns (Ex.refl _) hD
  · rintro i H' _ ⟨acc, h1, h2, _⟩
    exact (part_sub (e.trans e2)).trans (h2.trans mns_sub)
  · rintro i x H' H'' hi ⟨acc, h1, h2, h3⟩ ⟨y1, a, y2, y3⟩
    have hlen : acc.length < 100000 := by
      have l1 := h3.len
      rw [List.length_map] at l1
      have l2 := List.length_filter_le f (as.take i)
      rw [List.length_take] at l2
      omega
    have eF : Ex F H'' := (e.trans e2).trans ((h2.trans mns_sub).trans y1)
    have eG : Ex (part F H1 H2) H' := (part_sub (e.trans e2)).trans (h2.trans mns_sub)
    refine hg _ H'' x a _ _ (part_sub (eG.trans y1)) y3 fun σ2 hS => ?_
    obtain ⟨hwp, ht, he⟩ := hw a (mem _ _ y2) _ σ2 (part_ex.trans part_ex) hS
    refine ⟨hwp, ht H'' (part_sub (eG.trans y1)) _ fun H3 e3 => ?_⟩
    have e12 : Ex H2 H3 := (h2.trans mns_sub).trans (y1.trans e3)
    cases hf : f a with
    | false =>
      refine ⟨acc, e3 D _ (y1 D _ h1), ex_mns e12 hD, ?_⟩
      rw [tk i a y2, List.filter_append, List.filter_cons, if_neg (by rw [hf]; decide), List.filter_nil, List.append_nil]
      exact h3.imp fun _ _ k => s.mono (mns_up (part_up (y1.trans e3))) k
    | true =>
      refine he hf H3 ((part_sub (eG.trans y1)).trans e3) _ fun z H4 e4 rz => ?_
      refine ⟨acc, e4 D _ (e3 D _ (y1 D _ h1)), sz_lt hlen, acc ++ [z], upd_same, ?_, ?_⟩
      · rw [mns_upd]
        exact ex_mns (e12.trans e4) hD
      · rw [tk i a y2, List.filter_append, List.filter_cons, if_pos hf, List.filter_nil, List.map_append]
        have up : Ex (mns (part F H1 H4) D) (mns (part F H1 (upd H4 D (.lst (acc ++ [z])))) D) := fun q o hq => by
          have nq : q ≠ D := fun e => by
            rw [e, mns_at] at hq
            cases hq
          rw [mns_ne nq] at hq ⊢
          cases hF : F q with
          | some u => rw [part_in hF] at hq ⊢; exact hq
          | none =>
            cases hH : H1 q with
            | some u => rw [part_old hF hH] at hq; cases hq
            | none =>
              rw [part_new hF hH] at hq ⊢
              rw [upd_ne nq]
              exact hq
        refine Al.snoc (h3.imp fun _ _ k => s.mono ((mns_up (part_up (y1.trans (e3.trans e4)))).trans up) k) (s.mono (Ex.trans ?_ up) rz)
        -- what the turn made lies beside D
        have a1 : Ex (part (part (part F H1 H2) H' H'') H3 H4) (part F H1 H4) := fun q o hq => by
          cases hp : part (part F H1 H2) H' H'' q with
          | some u =>
            rw [part_in hp] at hq
            rw [← hq]
            exact part_up (e3.trans e4) q u (part_part e2 (h2.trans mns_sub) y1 q u hp)
          | none =>
            cases h3' : H3 q with
            | some u => rw [part_old hp h3'] at hq; cases hq
            | none =>
              rw [part_new hp h3'] at hq
              have n1 : H1 q = none := back_none (e2.trans e12) h3'
              rw [part_new (back_none e n1) n1]
              exact hq
        refine ex_mns a1 ?_
        have d2 : part F H1 H2 D = none := by
          have dF : F D = none := back_none (e.trans e2) hD
          rw [part_new dF (back_none e2 hD)]
          exact hD
        have d3 : part (part F H1 H2) H' H'' D = none := part_old d2 h1
        exact part_old d3 (e3 D _ (y1 D _ h1))
  · rintro H' ⟨acc, h1, h2, h3⟩
    rw [List.take_length] at h3
    exact q D H' (e2.trans (h2.trans mns_sub)) ⟨back_none e2 hD, acc, h1, h3⟩
end
end DL
set_option Elab.async false
set_option linter.all false
set_option maxRecDepth 100000
set_option maxHeartbeats 2000000
namespace DL
open PySem L2 Evl
section
variable {α β γ δ : Type} {K : PySem.W.Frag} {σ σ2 : L2.St} {F G H H1 H2 H3 : Hp} {ta tb te tl tx : TE} {t u : TT} {v : V} {r : Rep α} {s : Rep β} {a : α} {b : β} {as as' : List α} {bs : List β} {p q : Addr}
/-! ### mutable lists of the def's own -/
/-- at p a list of its own, beside the frame, whose items stand in the frame -/
def Mu (r : Rep α) (as : List α) (F H : Hp) (p : Addr) : Prop := F p = none ∧ ∃ xs, H p = some (.lst xs) ∧ Al (r.rel F) xs as
theorem New.mu (h : New r as F H1 H2 p) : Mu r as (mns (part F H1 H2) p) H2 p := ⟨mns_at, h.2⟩
theorem New.ex (h : New r as F H1 H2 p) (e : Ex F H1) : Ex F (mns (part F H1 H2) p) := ex_mns part_ex (back_none e h.1)
theorem New.sub (h : New r as F H1 H2 p) (e : Ex F H1) (e2 : Ex H1 H2) : Ex (mns (part F H1 H2) p) H2 := mns_sub.trans (part_sub (e.trans e2))
theorem Mu.up (h : Mu r as F H p) (e : Ex F G) (hG : G p = none) (e2 : Ex H H2) : Mu r as G H2 p := by
  obtain ⟨h1, xs, h2, h3⟩ := h
  exact ⟨hG, xs, e2 p _ h2, h3.imp fun _ _ k => r.mono e k⟩
/-- the frame of what was made is beside p -/
theorem Mu.part (h : Mu r as F H p) (e2 : Ex H H2) : Mu r as (part F H H2) H2 p := by
  obtain ⟨h1, xs, h2, h3⟩ := id h
  exact h.up part_ex (part_old h1 h2) e2
theorem Mu.freeze (h : Mu r as F H p) (e : Ex F H) : ∃ G, Ex F G ∧ Ex G H ∧ (rLst r).rel G (.ref p) as := by
  obtain ⟨h1, xs, h2, h3⟩ := h
  refine ⟨upd F p (.lst xs), Ex.new h1, fun q o hq => ?_, p, xs, rfl, upd_same, h3.imp fun _ _ k => r.mono (Ex.new h1) k⟩
  by_cases hqp : q = p
  · subst hqp
    rw [upd_same] at hq
    rw [← hq]
    exact h2
  · rw [upd_ne hqp] at hq
    exact e q o hq
/-! ### items -/
theorem Al.atI {R : V → α → Prop} {xs : List V} {i : Int} (h : Al R xs as) (ha : L2.atI as i = some a) : ∃ v, L2.atI xs i = some v ∧ R v a := by
  unfold L2.atI at ha ⊢
  rw [h.len]
  cases hx : ixN as.length i with
  | none => rw [hx] at ha; cases ha
  | some j =>
    rw [hx] at ha
    obtain ⟨v, h1, h2⟩ := h.at (show as[j]? = some a from ha)
    exact ⟨v, h1, h2⟩
theorem er_ixL {i : Int} (ha : Er (rLst r) ta σ F as) (hb : Er rInt tb σ F i) (h : L2.atI as i = some a) : Er r (tOp (rIxL K) ta tb) σ F a := fun H1 e Q q =>
  er_two ha hb e fun x y H3 e3 ⟨p, xs, hx, hp, hal⟩ k2 => by
    obtain ⟨v, h1, h2⟩ := hal.atI h
    exact ⟨p, xs, i, v, hx, k2, SqL.of (part_sub (e.trans e3) p _ hp), h1, q v H3 e3 h2⟩
theorem er_ixT {i : Int} (ha : Er (rTup r) ta σ F as) (hb : Er rInt tb σ F i) (h : L2.atI as i = some a) : Er r (tOp (rIxT K) ta tb) σ F a := fun H1 e Q q =>
  er_two ha hb e fun x y H3 e3 ⟨p, xs, hx, hp, hal⟩ k2 => by
    obtain ⟨v, h1, h2⟩ := hal.atI h
    exact ⟨p, xs, i, v, hx, k2, SqT.of (part_sub (e.trans e3) p _ hp), h1, q v H3 e3 h2⟩
theorem er_ixF {i n : Int} {ns : List Int} (ha : Er (rFro K) ta σ F ns) (hb : Er rInt tb σ F i) (h : L2.atI ns i = some n) : Er rInt (tOp (rIxL K) ta tb) σ F n := fun H1 e Q q =>
  er_two ha hb e fun x y H3 e3 ⟨p, hx, hp⟩ k2 => by
    obtain ⟨v, h1, h2⟩ := (ints_rel (H := F) ns).atI h
    exact ⟨p, _, i, v, hx, k2, ex_l (part_sub (e.trans e3)) hp, h1, q v H3 e3 h2⟩
theorem er_fst {c : α × β} (ha : Er (rPair r s) ta σ F c) (hb : Er rInt tb σ F 0) : Er r (tOp (rIxT K) ta tb) σ F c.1 := fun H1 e Q q =>
  er_two ha hb e fun x y H3 e3 ⟨p, x1, y1, hx, hp, h1, h2⟩ k2 => ⟨p, [x1, y1], 0, x1, hx, k2, SqT.of (part_sub (e.trans e3) p _ hp), rfl, q _ H3 e3 h1⟩
theorem er_snd {c : α × β} (ha : Er (rPair r s) ta σ F c) (hb : Er rInt tb σ F 1) : Er s (tOp (rIxT K) ta tb) σ F c.2 := fun H1 e Q q =>
  er_two ha hb e fun x y H3 e3 ⟨p, x1, y1, hx, hp, h1, h2⟩ k2 => ⟨p, [x1, y1], 1, y1, hx, k2, SqT.of (part_sub (e.trans e3) p _ hp), rfl, q _ H3 e3 h2⟩
/-! ### displays -/
def EaL (r : Rep α) (ta : TA) (σ : L2.St) (F : Hp) (as : List α) : Prop := Ea (fun G vs => Al (r.rel G) vs as) ta σ F
theorem eal_nil : EaL r tNil σ F [] := fun H1 _ _ q => q [] H1 (Ex.refl H1) .nil
theorem eal_cons {tr : TA} (h : Er r ta σ F a) (hr : EaL r tr σ F as) : EaL r (tCons ta tr) σ F (a :: as) := fun H1 e _ q =>
  h H1 e _ fun v H2 e2 k => hr H2 (e.trans e2) _ fun ws H3 e3 k3 => q _ H3 (e2.trans e3) (.cons (r.mono (part_up e3) k) (k3.imp fun _ _ k => r.mono (part_back e2) k))
theorem new_at {xs : List V} (e0 : Ex F H1) (e : Ex H1 H2) (hp : H2 p = none) (h : Al (r.rel (part F H1 H2)) xs as) : New r as F H1 (upd H2 p (.lst xs)) p := by
  refine ⟨back_none e hp, xs, upd_same, h.imp fun _ _ k => r.mono (ex_mns ?_ ?_) k⟩
  · exact part_up (Ex.new hp)
  · rw [part_new (back_none (e0.trans e) hp) (back_none e hp)]
    exact hp
theorem en_lst {ta : TA} (h : EaL r ta σ F as) (hl : as.length ≤ 100000) : En r (tLst ta) σ F as := fun H1 e _ q => h H1 e _ fun vs H2 e2 k =>
  ⟨by rw [k.len]; exact sz_of hl, fun p hp => q p _ (e2.trans (Ex.new hp)) (new_at e e2 hp k)⟩
theorem part_upd {o : HO} (e0 : Ex F H1) (e : Ex H1 H2) (hp : H2 p = none) : part F H1 (upd H2 p o) p = some o := by
  rw [part_new (back_none (e0.trans e) hp) (back_none e hp)]
  exact upd_same
theorem er_tup {ta : TA} (h : EaL r ta σ F as) (hl : as.length ≤ 100000) : Er (rTup r) (tTup ta) σ F as := fun H1 e _ q => h H1 e _ fun vs H2 e2 k =>
  ⟨by rw [k.len]; exact sz_of hl, fun p hp => q _ _ (e2.trans (Ex.new hp)) ⟨p, vs, rfl, part_upd e e2 hp, k.imp fun _ _ k => r.mono (part_up (Ex.new hp)) k⟩⟩
theorem er_pair {ta : TA} (h : Ea (A2 r s a b) ta σ F) : Er (rPair r s) (tTup ta) σ F (a, b) := fun H1 e _ q => h H1 e _ fun vs H2 e2 ⟨x, y, hv, hx, hy⟩ => by
  subst hv
  exact ⟨by show 2 ≤ sizeLine; decide, fun p hp => q _ _ (e2.trans (Ex.new hp)) ⟨p, x, y, rfl, part_upd e e2 hp, r.mono (part_up (Ex.new hp)) hx, s.mono (part_up (Ex.new hp)) hy⟩⟩
/-! ### sequences -/
theorem Al.nil_iff {R : V → α → Prop} {xs : List V} (h : Al R xs as) : xs = [] ↔ as = [] := by
  cases h with
  | nil => exact ⟨fun _ => rfl, fun _ => rfl⟩
  | cons _ _ => exact ⟨fun z => (nomatch z), fun z => (nomatch z)⟩
theorem er_catT (ha : Er (rTup r) ta σ F as) (hb : Er (rTup r) tb σ F as') (hl : as.length + as'.length ≤ 100000) : Er (rTup r) (tOp (rCatA K) ta tb) σ F (as ++ as') := fun H1 e Q q =>
  er_two ha hb e fun x y H3 e3 ⟨p, xs, hx, hp, h1⟩ ⟨p', ys, hy, hp', h2⟩ => by
    refine ⟨p, p', xs, ys, hx, hy, SqT.of (part_sub (e.trans e3) p _ hp), SqT.of (part_sub (e.trans e3) p' _ hp'), by rw [h1.len, h2.len]; exact sz_of hl, fun z => ?_, fun z z2 => ?_, fun _ _ c hc => ?_⟩
    · refine q _ H3 e3 ?_
      rw [h1.nil_iff.mp z]
      exact ⟨p', ys, rfl, hp', h2⟩
    · refine q _ H3 e3 ?_
      rw [h2.nil_iff.mp z2, List.append_nil]
      exact ⟨p, xs, rfl, hp, h1⟩
    · exact q _ _ (e3.trans (Ex.new hc)) ⟨c, _, rfl, part_upd e e3 hc, (h1.app h2).imp fun _ _ k => r.mono (part_up (Ex.new hc)) k⟩
theorem en_catL (ha : Er (rLst r) ta σ F as) (hb : Er (rLst r) tb σ F as') (hl : as.length + as'.length ≤ 100000) : En r (tOp rCat ta tb) σ F (as ++ as') := fun H1 e Q q =>
  er_two ha hb e fun x y H3 e3 ⟨p, xs, hx, hp, h1⟩ ⟨p', ys, hy, hp', h2⟩ =>
    ⟨p, p', xs, ys, hx, hy, part_sub (e.trans e3) p _ hp, part_sub (e.trans e3) p' _ hp', by rw [h1.len, h2.len]; exact sz_of hl, fun c hc => q c _ (e3.trans (Ex.new hc)) (new_at e e3 hc (h1.app h2))⟩
theorem Al.rep {R : V → α → Prop} {xs : List V} (h : Al R xs as) : ∀ n : Nat, Al R (List.replicate n xs).flatten (List.replicate n as).flatten
  | 0 => .nil
  | n + 1 => by
    rw [List.replicate_succ, List.replicate_succ, List.flatten_cons, List.flatten_cons]
    exact h.app (Al.rep h n)
theorem en_rep {k : Int} (ha : Er (rLst r) ta σ F as) (hb : Er rInt tb σ F k) (h1 : -100000 ≤ k ∧ k ≤ 100000) (hl : as.length * k.toNat ≤ 100000) : En r (tOp rRep ta tb) σ F (List.replicate k.toNat as).flatten := fun H1 e Q q =>
  er_two ha hb e fun x y H3 e3 ⟨p, xs, hx, hp, h2⟩ hy =>
    ⟨p, k, xs, hx, hy, part_sub (e.trans e3) p _ hp, by omega, by omega, by rw [h2.len]; exact sz_of hl, fun c hc => q c _ (e3.trans (Ex.new hc)) (new_at e e3 hc (h2.rep _))⟩
def cutA (as : List α) (lo hi : Option Int) : List α := (as.drop (HT.sIx as.length 0 lo)).take (HT.sIx as.length as.length hi - HT.sIx as.length 0 lo)
theorem eo_part {i : Int} (h : Er rInt te σ F i) : EvO (tPart te) σ F (some i) := fun H1 e _ q => h H1 e _ fun v H2 e2 k => ⟨i, k, q H2 e2⟩
theorem en_sl {tl th : TO} {lo hi : Option Int} (h : Er (rLst r) te σ F as) (h1 : EvO tl σ F lo) (h2 : EvO th σ F hi) : En r (tSl (rSlL K) te tl th) σ F (cutA as lo hi) := fun H1 e _ q =>
  h H1 e _ fun v H2 e2 ⟨p, xs, hx, hp, hal⟩ => h1 H2 (e.trans e2) _ fun H3 e3 => h2 H3 ((e.trans e2).trans e3) _ fun H4 e4 => by
    refine ⟨p, xs, hx, SqL.of (part_sub (e.trans (e2.trans (e3.trans e4))) p _ (part_up (e3.trans e4) p _ hp)), fun c hc => q c _ ((e2.trans (e3.trans e4)).trans (Ex.new hc)) (new_at e (e2.trans (e3.trans e4)) hc ?_)⟩
    unfold cutV cutA
    rw [hal.len]
    exact ((hal.drop _).take _).imp fun _ _ k => r.mono (part_up (e3.trans e4)) k
theorem er_slT {tl th : TO} {lo hi : Option Int} (h : Er (rTup r) te σ F as) (h1 : EvO tl σ F lo) (h2 : EvO th σ F hi) : Er (rTup r) (tSl (rSlA K) te tl th) σ F (cutA as lo hi) := fun H1 e _ q =>
  h H1 e _ fun v H2 e2 ⟨p, xs, hx, hp, hal⟩ => h1 H2 (e.trans e2) _ fun H3 e3 => h2 H3 ((e.trans e2).trans e3) _ fun H4 e4 => by
    have ee := e2.trans (e3.trans e4)
    refine ⟨p, xs, hx, SqT.of (part_sub (e.trans ee) p _ (part_up (e3.trans e4) p _ hp)), fun hw => ?_, fun hw c hc => ?_⟩
    · have ec : cutA as lo hi = as := by
        unfold cutA
        rw [hal.len] at hw
        rw [hw.1, hw.2, List.drop_zero, Nat.sub_zero, List.take_length]
      refine q _ H4 ee ?_
      rw [ec]
      exact ⟨p, xs, rfl, part_up (e3.trans e4) p _ hp, hal.imp fun _ _ k => r.mono (part_up (e3.trans e4)) k⟩
    · refine q _ _ (ee.trans (Ex.new hc)) ⟨c, _, rfl, part_upd e ee hc, ?_⟩
      unfold cutV cutA
      rw [hal.len]
      exact ((hal.drop _).take _).imp fun _ _ k => r.mono ((part_up (e3.trans e4)).trans (part_up (Ex.new hc))) k
/-! ### built-ins -/
def rLenQ (K : PySem.W.Frag) : List V → Hp → VK → Prop := fun xs H Q => ∃ p ys, xs = [.ref p] ∧ (SqL K H p ys ∨ SqT K H p ys) ∧ Q (.int ys.length) H
theorem er_lenL (h : Er (rLst r) ta σ F as) : Er rInt (tCB (rLenQ K) (tCons ta tNil)) σ F (as.length : Int) := fun H1 e Q q => h H1 e _ fun v H2 e2 ⟨p, xs, hx, hp, hal⟩ =>
  ⟨p, xs, congrArg (· :: []) hx, .inl (SqL.of (part_sub (e.trans e2) p _ hp)), by rw [hal.len]; exact q _ H2 e2 rfl⟩
theorem er_lenT (h : Er (rTup r) ta σ F as) : Er rInt (tCB (rLenQ K) (tCons ta tNil)) σ F (as.length : Int) := fun H1 e Q q => h H1 e _ fun v H2 e2 ⟨p, xs, hx, hp, hal⟩ =>
  ⟨p, xs, congrArg (· :: []) hx, .inr (SqT.of (part_sub (e.trans e2) p _ hp)), by rw [hal.len]; exact q _ H2 e2 rfl⟩
theorem er_lenF {ns : List Int} (h : Er (rFro K) ta σ F ns) : Er rInt (tCB (rLenQ K) (tCons ta tNil)) σ F (ns.length : Int) := fun H1 e Q q => h H1 e _ fun v H2 e2 ⟨p, hx, hp⟩ => by
  refine ⟨p, _, congrArg (· :: []) hx, .inl (ex_l (part_sub (e.trans e2)) hp), ?_⟩
  rw [List.length_map]
  exact q _ H2 e2 rfl
def rTupQ (K : PySem.W.Frag) : List V → Hp → VK → Prop := fun xs H Q => ∃ p ys, xs = [.ref p] ∧ ((SqL K H p ys ∧ ∀ l, H l = none → Q (.ref l) (upd H l (.tup ys))) ∨ (SqT K H p ys ∧ Q (.ref p) H))
theorem er_tupOf (h : Er (rLst r) ta σ F as) : Er (rTup r) (tCB (rTupQ K) (tCons ta tNil)) σ F as := fun H1 e Q q => h H1 e _ fun v H2 e2 ⟨p, xs, hx, hp, hal⟩ =>
  ⟨p, xs, congrArg (· :: []) hx, .inl ⟨SqL.of (part_sub (e.trans e2) p _ hp), fun l hl => q _ _ (e2.trans (Ex.new hl)) ⟨l, xs, rfl, part_upd e e2 hl, hal.imp fun _ _ k => r.mono (part_up (Ex.new hl)) k⟩⟩⟩
def rLstQ (K : PySem.W.Frag) : List V → Hp → VK → Prop := fun xs H Q => ∃ p ys, xs = [.ref p] ∧ (SqL K H p ys ∨ SqT K H p ys) ∧ ∀ l, H l = none → Q (.ref l) (upd H l (.lst ys))
theorem en_listL (h : Er (rLst r) ta σ F as) : En r (tCB (rLstQ K) (tCons ta tNil)) σ F as := fun H1 e Q q => h H1 e _ fun v H2 e2 ⟨p, xs, hx, hp, hal⟩ =>
  ⟨p, xs, congrArg (· :: []) hx, .inl (SqL.of (part_sub (e.trans e2) p _ hp)), fun l hl => q l _ (e2.trans (Ex.new hl)) (new_at e e2 hl hal)⟩
theorem en_listT (h : Er (rTup r) ta σ F as) : En r (tCB (rLstQ K) (tCons ta tNil)) σ F as := fun H1 e Q q => h H1 e _ fun v H2 e2 ⟨p, xs, hx, hp, hal⟩ =>
  ⟨p, xs, congrArg (· :: []) hx, .inr (SqT.of (part_sub (e.trans e2) p _ hp)), fun l hl => q l _ (e2.trans (Ex.new hl)) (new_at e e2 hl hal)⟩
def rInt1 : List V → Hp → VK → Prop := fun xs H Q => (∃ i, xs = [.int i] ∧ Q (.int i) H) ∨ ∃ k, xs = [.bl k] ∧ Q (.int (if k then 1 else 0)) H
theorem er_int1 {i : Int} (h : Er rInt ta σ F i) : Er rInt (tCB rInt1 (tCons ta tNil)) σ F i := fun H1 e Q q => h H1 e _ fun v H2 e2 hv => .inl ⟨i, congrArg (· :: []) hv, q _ H2 e2 rfl⟩
theorem er_int1B {k : Bool} (h : Er rBl ta σ F k) : Er rInt (tCB rInt1 (tCons ta tNil)) σ F (if k then 1 else 0) := fun H1 e Q q => h H1 e _ fun v H2 e2 hv => .inr ⟨k, congrArg (· :: []) hv, q _ H2 e2 rfl⟩
theorem rel_bls {H : Hp} : ∀ {xs : List V} {ns : List Bool}, Al (rBl.rel H) xs ns → xs = ns.map V.bl
  | _, _, .nil => rfl
  | _, _, .cons h t => by
    rw [show _ = V.bl _ from h, rel_bls t]
    rfl
theorem er_any {ks : List Bool} (h : Er (rLst rBl) ta σ F ks) : Er rBl (tCB (rAny K) (tCons ta tNil)) σ F (ks.any id) := fun H1 e Q q => h H1 e _ fun v H2 e2 ⟨p, xs, hx, hp, hal⟩ => by
  rw [rel_bls hal] at hp
  exact ⟨p, ks, congrArg (· :: []) hx, SqL.of (part_sub (e.trans e2) p _ hp), q _ H2 e2 rfl⟩
theorem er_all {ks : List Bool} (h : Er (rLst rBl) ta σ F ks) : Er rBl (tCB (rAll K) (tCons ta tNil)) σ F (ks.all id) := fun H1 e Q q => h H1 e _ fun v H2 e2 ⟨p, xs, hx, hp, hal⟩ => by
  rw [rel_bls hal] at hp
  exact ⟨p, ks, congrArg (· :: []) hx, SqL.of (part_sub (e.trans e2) p _ hp), q _ H2 e2 rfl⟩
theorem inV_ints {n : Int} : ∀ {ns : List Int}, inV (.int n) (ns.map V.int) = decide (n ∈ ns)
  | [] => rfl
  | m :: ns => by
    show (m == n || inV (.int n) (ns.map V.int)) = _
    rw [inV_ints]
    by_cases h : m = n
    · subst h; simp
    · have h2 : ¬ n = m := fun z => h z.symm
      simp [h, h2]
theorem flat_ints : ∀ {ns : List Int}, (ns.map V.int).all flatV = true
  | [] => rfl
  | _ :: ns => by
    show (true && (ns.map V.int).all flatV) = true
    rw [flat_ints]
    rfl
end
end DL
set_option Elab.async false
set_option linter.all false
set_option maxRecDepth 100000
set_option maxHeartbeats 2000000
namespace DL
open PySem L2 Evl
section
variable {α β γ δ : Type} {K : PySem.W.Frag} {σ σ2 : L2.St} {F G H H1 H2 H3 : Hp} {ta tb te tl tx : TE} {t u : TT} {v : V} {r : Rep α} {s : Rep β} {a : α} {b : β} {as as' : List α} {bs : List β} {p q : Addr}
theorem er_inT {n : Int} {ns : List Int} (ha : Er rInt ta σ F n) (hb : Er (rTup rInt) tb σ F ns) : Er rBl (tOp (rIn K false) ta tb) σ F (decide (n ∈ ns)) := fun H1 e Q q =>
  er_two ha hb e fun x y H3 e3 hx ⟨p, xs, hy, hp, hal⟩ => by
    cases (show x = V.int n from hx)
    rw [rel_ints hal] at hp
    refine ⟨p, _, hy, .inr (SqT.of (part_sub (e.trans e3) p _ hp)), rfl, flat_ints, ?_⟩
    rw [inV_ints]
    exact q _ H3 e3 rfl
theorem er_niT {n : Int} {ns : List Int} (ha : Er rInt ta σ F n) (hb : Er (rTup rInt) tb σ F ns) : Er rBl (tOp (rIn K true) ta tb) σ F (!decide (n ∈ ns)) := fun H1 e Q q =>
  er_two ha hb e fun x y H3 e3 hx ⟨p, xs, hy, hp, hal⟩ => by
    cases (show x = V.int n from hx)
    rw [rel_ints hal] at hp
    refine ⟨p, _, hy, .inr (SqT.of (part_sub (e.trans e3) p _ hp)), rfl, flat_ints, ?_⟩
    rw [inV_ints]
    exact q _ H3 e3 rfl
theorem er_inL {n : Int} {ns : List Int} (ha : Er rInt ta σ F n) (hb : Er (rLst rInt) tb σ F ns) : Er rBl (tOp (rIn K false) ta tb) σ F (decide (n ∈ ns)) := fun H1 e Q q =>
  er_two ha hb e fun x y H3 e3 hx ⟨p, xs, hy, hp, hal⟩ => by
    cases (show x = V.int n from hx)
    rw [rel_ints hal] at hp
    refine ⟨p, _, hy, .inl (SqL.of (part_sub (e.trans e3) p _ hp)), rfl, flat_ints, ?_⟩
    rw [inV_ints]
    exact q _ H3 e3 rfl
theorem er_niL {n : Int} {ns : List Int} (ha : Er rInt ta σ F n) (hb : Er (rLst rInt) tb σ F ns) : Er rBl (tOp (rIn K true) ta tb) σ F (!decide (n ∈ ns)) := fun H1 e Q q =>
  er_two ha hb e fun x y H3 e3 hx ⟨p, xs, hy, hp, hal⟩ => by
    cases (show x = V.int n from hx)
    rw [rel_ints hal] at hp
    refine ⟨p, _, hy, .inl (SqL.of (part_sub (e.trans e3) p _ hp)), rfl, flat_ints, ?_⟩
    rw [inV_ints]
    exact q _ H3 e3 rfl
/-- sorted(xs) of ints -/
theorem en_sortI {ns ms : List Int} (h : Er (rLst rInt) ta σ F ns) (hm : ∀ ns' : List Int, ns'.Perm ns → ns'.Pairwise (· ≤ ·) → ns' = ms) : En rInt (tCB (rSortedI K) (tCons ta tNil)) σ F ms := fun H1 e Q q => h H1 e _ fun v H2 e2 ⟨p, xs, hx, hp, hal⟩ => by
  rw [rel_ints hal] at hp
  refine ⟨p, ns, congrArg (· :: []) hx, SqL.of (part_sub (e.trans e2) p _ hp), fun ns' c h1 h2 hc => ?_⟩
  rw [hm ns' h1 h2]
  exact q c _ (e2.trans (Ex.new hc)) (new_at e e2 hc (ints_rel ms))
/-! ### None -/
def rIsNq : R2 := fun x y H Q => y = .non ∧ Q (.bl (decide (x = .non))) H
def rNotNq : R2 := fun x y H Q => y = .non ∧ Q (.bl (!decide (x = .non))) H
def Sol (r : Rep α) : Prop := ∀ H a, ¬ r.rel H .non a
theorem sol_int : Sol rInt := fun _ _ h => by cases (show V.non = V.int _ from h)
theorem sol_lst : Sol (rLst r) := fun _ _ ⟨_, _, h, _⟩ => by cases h
theorem sol_tup : Sol (rTup r) := fun _ _ ⟨_, _, h, _⟩ => by cases h
theorem sol_pair : Sol (rPair r s) := fun _ _ ⟨_, _, _, h, _⟩ => by cases h
theorem opt_non {o : Option α} (hs : Sol r) (h : (rOpt r).rel F v o) : decide (v = V.non) = o.isNone := by
  cases o with
  | none =>
    rw [show v = V.non from h]
    rfl
  | some a =>
    refine decide_eq_false fun z => ?_
    rw [z] at h
    exact hs _ _ h
theorem er_isN {o : Option α} (hs : Sol r) (ha : Er (rOpt r) ta σ F o) : Er rBl (tOp rIsNq ta (tC .non)) σ F o.isNone := fun H1 e Q q => ha H1 e _ fun v H2 e2 k => ⟨rfl, by rw [opt_non hs k]; exact q _ H2 e2 rfl⟩
theorem er_notN {o : Option α} (hs : Sol r) (ha : Er (rOpt r) ta σ F o) : Er rBl (tOp rNotNq ta (tC .non)) σ F (!o.isNone) := fun H1 e Q q => ha H1 e _ fun v H2 e2 k => ⟨rfl, by rw [opt_non hs k]; exact q _ H2 e2 rfl⟩
/-! ### truth of a list, a tuple -/
def tTru (K : PySem.W.Frag) (te : TE) : TT := fun σ H R => te σ H fun v H2 => ∃ b, TruV K v H2 b ∧ R b H2
theorem et_lst (h : Er (rLst r) ta σ F as) : EvT (tTru K ta) σ F (!as.isEmpty) := fun H1 e Q q => h H1 e _ fun v H2 e2 ⟨p, xs, hx, hp, hal⟩ => by
  subst hx
  refine ⟨!as.isEmpty, .inl ⟨xs, SqL.of (part_sub (e.trans e2) p _ hp), ?_⟩, q H2 e2⟩
  cases hal <;> rfl
theorem et_tup (h : Er (rTup r) ta σ F as) : EvT (tTru K ta) σ F (!as.isEmpty) := fun H1 e Q q => h H1 e _ fun v H2 e2 ⟨p, xs, hx, hp, hal⟩ => by
  subst hx
  refine ⟨!as.isEmpty, .inr (.inl ⟨xs, SqT.of (part_sub (e.trans e2) p _ hp), ?_⟩), q H2 e2⟩
  cases hal <;> rfl
/-! ### equality of data -/
structure Enc (K : PySem.W.Frag) (r : Rep α) [DecidableEq α] where
  enc : α → PyData
  d : Nat
  dp : ∀ {H : Hp} {v : V} {a : α}, r.rel H v a → Dp K H v (enc a)
  eqv : ∀ a b, PyData.eqv (enc a) (enc b) = decide (a = b)
  can : ∀ a, (enc a).canLay0 = true
  dep : ∀ a, (enc a).depth ≤ d
theorem Enc.shaped [DecidableEq α] (E : Enc K r) (h : E.d ≤ 64) (a : α) : SeqAt.shaped (E.enc a) = true := by
  unfold SeqAt.shaped
  rw [E.can, decide_eq_true (Nat.le_trans (E.dep a) h)]
  rfl
def eInt : Enc K rInt where
  enc := .int
  d := 0
  dp := fun h => by
    cases h
    exact .int _
  eqv := fun a b => by
    show (a == b) = _
    by_cases h : a = b
    · subst h; simp
    · simp [h]
  can := fun _ => rfl
  dep := fun _ => Nat.zero_le _
def eBl : Enc K rBl where
  enc := .bool
  d := 0
  dp := fun h => by
    cases h
    exact .bl _
  eqv := fun a b => by cases a <;> cases b <;> rfl
  can := fun _ => rfl
  dep := fun _ => Nat.zero_le _
section
variable [DecidableEq α] [DecidableEq β] (E : Enc K r) (E' : Enc K s)
theorem Enc.all {H : Hp} : ∀ {xs : List V} {as : List α}, Al (r.rel H) xs as → DpAll K H xs (as.map E.enc)
  | _, _, .nil => .nil
  | _, _, .cons h t => .cons (E.dp h) (Enc.all t)
theorem Enc.eqvAll : ∀ as bs : List α, PyData.eqvAll (as.map E.enc) (bs.map E.enc) = decide (as = bs)
  | [], [] => rfl
  | [], _ :: _ => rfl
  | _ :: _, [] => rfl
  | a :: as, b :: bs => by
    show (PyData.eqv (E.enc a) (E.enc b) && PyData.eqvAll (as.map E.enc) (bs.map E.enc)) = _
    rw [E.eqv, Enc.eqvAll as bs]
    by_cases h : a = b <;> by_cases h2 : as = bs <;> simp [h, h2]
theorem Enc.canAll : ∀ as : List α, PyData.canLayAll0 (as.map E.enc) = true
  | [] => rfl
  | a :: as => by
    show ((E.enc a).canLay0 && PyData.canLayAll0 (as.map E.enc)) = true
    rw [E.can, Enc.canAll as]
    rfl
theorem Enc.depAll : ∀ as : List α, PyData.depthAll (as.map E.enc) ≤ E.d
  | [] => Nat.zero_le _
  | a :: as => Nat.max_le.mpr ⟨E.dep a, Enc.depAll as⟩
def eLst : Enc K (rLst r) where
  enc := fun as => .list (as.map E.enc)
  d := E.d + 1
  dp := fun ⟨p, xs, h, hp, hal⟩ => by
    subst h
    exact .lst (SqL.of hp) (E.all hal)
  eqv := fun a b => E.eqvAll a b
  can := fun a => E.canAll a
  dep := fun a => Nat.succ_le_succ (E.depAll a)
def eTup : Enc K (rTup r) where
  enc := fun as => .tuple (as.map E.enc)
  d := E.d + 1
  dp := fun ⟨p, xs, h, hp, hal⟩ => by
    subst h
    exact .tup (SqT.of hp) (E.all hal)
  eqv := fun a b => E.eqvAll a b
  can := fun a => E.canAll a
  dep := fun a => Nat.succ_le_succ (E.depAll a)
def ePair : Enc K (rPair r s) where
  enc := fun c => .tuple [E.enc c.1, E'.enc c.2]
  d := max E.d E'.d + 1
  dp := fun ⟨p, x, y, h, hp, h1, h2⟩ => by
    subst h
    exact .tup (SqT.of hp) (.cons (E.dp h1) (.cons (E'.dp h2) .nil))
  eqv := fun a b => by
    show (PyData.eqv (E.enc a.1) (E.enc b.1) && (PyData.eqv (E'.enc a.2) (E'.enc b.2) && true)) = _
    rw [E.eqv, E'.eqv]
    obtain ⟨a1, a2⟩ := a
    obtain ⟨b1, b2⟩ := b
    by_cases h : a1 = b1 <;> by_cases h2 : a2 = b2 <;> simp [h, h2]
  can := fun a => by
    show ((E.enc a.1).canLay0 && ((E'.enc a.2).canLay0 && true)) = true
    rw [E.can, E'.can]
    rfl
  dep := fun a => by
    show max (E.enc a.1).depth (max (E'.enc a.2).depth 0) + 1 ≤ _
    have h1 := E.dep a.1
    have h2 := E'.dep a.2
    omega
end
theorem er_eqD [DecidableEq α] {a a' : α} (E : Enc K r) (hd : E.d ≤ 64) (ha : Er r ta σ F a) (hb : Er r tb σ F a') : Er rBl (tOp (rEqD K) ta tb) σ F (decide (a = a')) := fun H1 e Q q =>
  er_two ha hb e fun x y H3 e3 hx hy => by
    refine ⟨E.enc a, E.enc a', E.dp (r.mono (part_sub (e.trans e3)) hx), E.dp (r.mono (part_sub (e.trans e3)) hy), E.shaped hd a, E.shaped hd a', ?_⟩
    rw [E.eqv]
    exact q _ H3 e3 rfl
theorem er_neD [DecidableEq α] {a a' : α} (E : Enc K r) (hd : E.d ≤ 64) (ha : Er r ta σ F a) (hb : Er r tb σ F a') : Er rBl (tOp (rNeD K) ta tb) σ F (!decide (a = a')) := fun H1 e Q q =>
  er_two ha hb e fun x y H3 e3 hx hy => by
    refine ⟨E.enc a, E.enc a', E.dp (r.mono (part_sub (e.trans e3)) hx), E.dp (r.mono (part_sub (e.trans e3)) hy), E.shaped hd a, E.shaped hd a', ?_⟩
    rw [E.eqv]
    exact q _ H3 e3 rfl
/-! ### statements -/
variable {D : Ends} {tu tw tz : TS} {g : TG} {i : Nat}
theorem q_asg (h : Er r te σ F a) (e : Ex F H) (k : ∀ v H2, Ex H H2 → r.rel (part F H H2) v a → tz D (σ.set i (some v)) H2) : tSeq (tAsg te (gName i)) tz D σ H := h H e _ k
theorem q_asgN (h : En r te σ F as) (e : Ex F H) (k : ∀ p H2, Ex H H2 → New r as F H H2 p → tz D (σ.set i (some (.ref p))) H2) : tSeq (tAsg te (gName i)) tz D σ H := h H e _ k
theorem q_asgI {n : Int} (h : Er rInt te σ F n) (e : Ex F H) (k : ∀ H2, Ex H H2 → tz D (σ.set i (some (.int n))) H2) : tSeq (tAsg te (gName i)) tz D σ H := h H e _ fun v H2 e2 hv => by
  rw [show v = V.int n from hv]
  exact k H2 e2
theorem s_asg (h : Er r te σ F a) (e : Ex F H) (k : ∀ v H2, Ex H H2 → r.rel (part F H H2) v a → D.nx (σ.set i (some v)) H2) : tAsg te (gName i) D σ H := h H e _ k
theorem s_asgN (h : En r te σ F as) (e : Ex F H) (k : ∀ p H2, Ex H H2 → New r as F H H2 p → D.nx (σ.set i (some (.ref p))) H2) : tAsg te (gName i) D σ H := h H e _ k
theorem s_asgI {n : Int} (h : Er rInt te σ F n) (e : Ex F H) (k : ∀ H2, Ex H H2 → D.nx (σ.set i (some (.int n))) H2) : tAsg te (gName i) D σ H := h H e _ fun v H2 e2 hv => by
  rw [show v = V.int n from hv]
  exact k H2 e2
theorem s_ret (h : Er r te σ F a) (e : Ex F H) (k : ∀ v H2, Ex H H2 → r.rel (part F H H2) v a → D.rt v H2) : tRet te D σ H := h H e _ k
theorem s_retN (h : En r te σ F as) (e : Ex F H) (k : ∀ p H2, Ex H H2 → New r as F H H2 p → D.rt (.ref p) H2) : tRet te D σ H := h H e _ k
theorem s_retB {b : Bool} (h : Er rBl te σ F b) (e : Ex F H) (k : ∀ H2, Ex H H2 → D.rt (.bl b) H2) : tRet te D σ H := h H e _ fun v H2 e2 hv => by
  rw [show v = V.bl b from hv]
  exact k H2 e2
theorem s_retI {b : Int} (h : Er rInt te σ F b) (e : Ex F H) (k : ∀ H2, Ex H H2 → D.rt (.int b) H2) : tRet te D σ H := h H e _ fun v H2 e2 hv => by
  rw [show v = V.int b from hv]
  exact k H2 e2
theorem s_if {b : Bool} (h : EvT t σ F b) (e : Ex F H) (h1 : b = true → ∀ H2, Ex H H2 → tu D σ H2) (h2 : b = false → ∀ H2, Ex H H2 → tw D σ H2) : tIfS t tu tw D σ H := h H e _ fun H2 e2 => by
  cases b with
  | true =>
    show tu D σ H2
    exact h1 rfl H2 e2
  | false =>
    show tw D σ H2
    exact h2 rfl H2 e2
theorem q_if {b : Bool} (h : EvT t σ F b) (e : Ex F H) (h1 : b = true → ∀ H2, Ex H H2 → tu { D with nx := tz D } σ H2) (h2 : b = false → ∀ H2, Ex H H2 → tw { D with nx := tz D } σ H2) : tSeq (tIfS t tu tw) tz D σ H := s_if (D := { D with nx := tz D }) h e h1 h2
theorem q_when {b : Bool} (h : EvT t σ F b) (e : Ex F H) (h1 : b = true → ∀ H2, Ex H H2 → tu { D with nx := tz D } σ H2) (h2 : b = false → ∀ H2, Ex H H2 → tz D σ H2) : tSeq (tIfS t tu tNext) tz D σ H := s_if (D := { D with nx := tz D }) h e h1 h2
/-- p.append(e), p a list of its own -/
theorem s_app (hi : σ[i]? = some (some (.ref p))) (hm : Mu r as F H p) (hl : as.length < 100000) (h : Er r te σ F a) (e : Ex F H)
    (k : ∀ o H2 G, Ex H H2 → Ex F G → Ex G (upd H2 p o) → Mu r (as ++ [a]) G (upd H2 p o) p → (∀ c u, H c = some u → F c = none → G c = none) → D.nx σ (upd H2 p o)) : tDrop (tBM K "list" rAppend (tVar i) (tCons te tNil)) D σ H := by
  obtain ⟨h1, xs, h2, h3⟩ := hm
  refine ⟨_, hi, Or.inl ⟨rfl, xs, SqL.of h2⟩, h H e _ fun v H2 e2 hv => ⟨p, xs, v, rfl, rfl, e2 p _ h2, by rw [h3.len]; exact sz_lt hl, ?_⟩⟩
  have hG : part F H H2 p = none := part_old h1 h2
  exact k (.lst (xs ++ [v])) H2 (part F H H2) e2 part_ex (Ex.mut (part_sub (e.trans e2)) hG) ⟨hG, _, upd_same, Al.snoc (h3.imp fun _ _ k => r.mono part_ex k) hv⟩ fun c o hc hF => part_old hF hc
theorem q_app (hi : σ[i]? = some (some (.ref p))) (hm : Mu r as F H p) (hl : as.length < 100000) (h : Er r te σ F a) (e : Ex F H)
    (k : ∀ o H2 G, Ex H H2 → Ex F G → Ex G (upd H2 p o) → Mu r (as ++ [a]) G (upd H2 p o) p → (∀ c u, H c = some u → F c = none → G c = none) → tz D σ (upd H2 p o)) : tSeq (tDrop (tBM K "list" rAppend (tVar i) (tCons te tNil))) tz D σ H := s_app (D := { D with nx := tz D }) hi hm hl h e k
end
end DL
set_option Elab.async false
set_option linter.all false
set_option maxRecDepth 100000
set_option maxHeartbeats 4000000
/-! a for within a generator's body -/
namespace DL
open PySem PySem.Spec PyProof.Rows L2 GenW
section
variable {X : Cx}
def tGFor (wi : TI) (g : TG) (tb : TGn) : TGn := fun D ys σ H => wi σ H fun J H1 => ∃ W : Nat → Nat → List V → L2.St → Hp → Prop, (∃ m, W 0 m ys σ H1) ∧ ∀ i m ys σ H, W i m ys σ H →
  (J.stop i H ∧ D.nx ys σ H) ∨ (J.go i H ∧ ∃ N : List V → L2.St → Hp → Prop, (∀ ys' σ' H', N ys' σ' H' → ∃ m', m' < m ∧ W (i + 1) m' ys' σ' H') ∧ ∀ x H', J.yld i H x H' → g x σ H' fun σ2 H2 => tb { D with nx := N, ct := N, bk := D.nx } ys σ2 H2)
theorem seg_runOwn {M : Model} {A : Around} {R : GenEnd} {Y : Protocol} {n : Nat} {s₀ : Shared} {c c' : Code} {fs : List Frame} {s : Shared} {env : Env} {K : Flow → Sem PySem.Fin} {H : Value → Sem PySem.Fin} {gd : Bool → Bool} {lv : List Value → List Value}
    (h : ∀ p, Seg M A R Y n s₀ c' (M.den c') (.ret (fun r => ((match r with | .ok f => (.pure f : Sem Flow) | .error e => .raise e).onRaise (cameBack env)).wrap K H gd lv) none (gd false) (lv []) c p [] :: fs) s) :
    Seg M A R Y n s₀ c ((runOwn c' env).wrap K H gd lv) fs s := seg_call h
theorem gs_for {tg iter : Expr} {body : List Stmt} {wi : TI} {g : TG} {tb : TGn} {pos : Pos} (hp : PassesOwn (model X.prog X.w) X.A X.env X.xe) (hc : X.calm = true) (hi : PI X tg iter wi) (hg : PG X tg g) (hb : GSs X body tb)
    (hs : ∀ x, foldedSetIterable iter X.env x = pure x := by intro _; rfl) : GS X (.For tg iter body [] pos) (tGFor wi g tb) := by
  refine ⟨fun A S ip R n ys s₀ c fs K Jx gd lv s σ H D gc hn k hI ht => ?_⟩
  rw [exec_For]
  refine seg_bind_wrap (wpAny_standAt ?_)
  obtain ⟨acc, cc, r, I⟩ := hI
  refine seg_bind_wrap ?_
  rw [gc.over]
  refine wpAny_mono (hi.run _ s σ H _ I ht) (fun v s1 h1 => ?_) fun x s' hx => k.exc n s₀ x s' hx
  refine seg_bind_wrap (wpAny_of_eq (hs v) ?_)
  refine seg_bind_wrap (wpAny_standAt ?_)
  refine seg_bind_wrap ?_
  rw [gc.over]
  refine wpAny_holding (wpAny_mono h1 (fun itv s2 h2 => ?_) fun x s' hx => k.exc n s₀ x s' hx)
  obtain ⟨it, fp, tn, J, H2, eit, I2, T, st2, f2, W, ⟨m0, w0⟩, turn⟩ := h2
  subst eit
  refine seg_runOwn fun p => ?_
  have gl := fun (ip' : List (Addr × Obj)) (hip : ∀ p ∈ ip', p.1 ≠ S) (kk : Result → Sem PySem.Fin) => gc_loop (k := kk) (c' := .forLoop tg (.ref it) body [] X.env) (l := lv []) (kp := []) (p := p) (ip := ip') ⟨gc.pn, hip, gc.apart, gc.over, gc.split, gc.guard, gc.gd⟩ rfl rfl
  have stat : ∀ {H' : Hp} {acc' : Array Value} {c' : Nat}, (∀ b ∈ fp, H' b = none) → ∀ b ∈ fp, FpOk X ((S, lstObj acc' c') :: ip) H' b := fun hn b hb => by
    obtain ⟨_, q2, q3, q4, q5, q6⟩ := f2 b hb
    refine ⟨hn b hb, q2, q3, q4, q5, fun p hp => ?_⟩
    rcases List.mem_append.mp hp with hp | hp
    · exact q6 p (List.mem_append_left _ hp)
    · rcases List.mem_cons.mp hp with hp | hp
      · rw [hp]
        exact q6 (S, lstObj acc cc) (List.mem_append_right _ List.mem_cons_self)
      · exact q6 p (List.mem_append_right _ (List.mem_cons_of_mem _ hp))
  have hfS : ∀ b ∈ fp, b ≠ S := fun b hb z => by
    obtain ⟨_, _, _, _, _, q6⟩ := f2 b hb
    exact q6 (S, lstObj acc cc) (List.mem_append_right _ List.mem_cons_self) z.symm
  have loop : ∀ (m i n : Nat) (ys : List V) (s₀ s : Shared) (σ : L2.St) (H : Hp), n + ys.length = sizeLine → W i m ys σ H → GI X S ip ys σ H s → tn i s.heap → (∀ b ∈ fp, H b = none) →
      Seg (model X.prog X.w) A R (GY X S) n s₀ (.forLoop tg (.ref it) body [] X.env) ((model X.prog X.w).den (.forLoop tg (.ref it) body [] X.env))
        (.ret (fun r => ((match r with | .ok f => (.pure f : Sem Flow) | .error e => .raise e).onRaise (cameBack X.env)).wrap K Jx gd lv) none (gd false) (lv []) c p [] :: fs) s := by
    intro m
    induction m using Nat.strongRecOn with
    | ind m ih =>
      intro i n ys s₀ s σ H hn w hI st fr
      have ee : ∀ (n : Nat) (s₀ : Shared) (x : Value) (s' : Shared), X.xe x s' → Seg (model X.prog X.w) A R (GY X S) n s₀ (.forLoop tg (.ref it) body [] X.env)
          ((do noteFrame x X.env; theTreesLotGoes x : Sem Unit).wrap (fun _ => .raise x) .raise id id)
          (.ret (fun r => ((match r with | .ok f => (.pure f : Sem Flow) | .error e => .raise e).onRaise (cameBack X.env)).wrap K Jx gd lv) none (gd false) (lv []) c p [] :: fs) s' := fun n s₀ x s' hx => by
        refine seg_wrap ?_
        rw [(gl ip gc.ip _).over]
        refine wpAny_bind (wpAny_mono (hp x s' hx) (fun _ sb back => wpAny_theTreesLotGoes ?_) fun y sb back => ?_)
        · exact seg_leaf (.error x) (seg_cameBack gc k back)
        · exact seg_leaf (.error y) (seg_cameBack gc k back)
      have ee2 : ∀ (n : Nat) (s₀ : Shared) (x : Value) (s' : Shared), X.xe x s' → Seg (model X.prog X.w) A R (GY X S) n s₀ (.forLoop tg (.ref it) body [] X.env)
          ((do noteFrame x X.env; theTreesLotGoes x : Sem Unit).bind (fun _ => .raise x))
          (.ret (fun r => ((match r with | .ok f => (.pure f : Sem Flow) | .error e => .raise e).onRaise (cameBack X.env)).wrap K Jx gd lv) none (gd false) (lv []) c p [] :: fs) s' := fun n s₀ x s' hx => by
        rw [Sem.bind_eq_wrap]
        exact ee n s₀ x s' hx
      obtain ⟨acc, cc, r, I⟩ := hI
      show Seg _ A R (GY X S) n s₀ _ ((forTurn tg (.ref it) body [] X.env).onRaise (fun x => do noteFrame x X.env; theTreesLotGoes x)) _ s
      unfold forTurn
      rw [Sem.onRaise_eq_wrap]
      refine seg_bind_wrap (wpAny_standAt ?_)
      refine seg_bind_wrap ?_
      rw [(gl ip gc.ip _).over]
      refine wpAny_onRaise ?_
      rcases turn i m ys σ H w with ⟨stop, qn⟩ | ⟨go, N, hN, step⟩
      · refine wpAny_mono (T.done X rfl rfl rfl hc i _ s σ H X.xe I (stat fr) st stop) (fun r' s4 ⟨hr, I4⟩ => ?_) fun x s' hx => wpAny_standAt (ee2 n s₀ x s' hx)
        subst hr
        refine seg_again rfl ?_
        exact seg_leaf (.ok .next) (k.ok n ys s₀ s4 .next hn ⟨σ, H, ⟨acc, cc, r, I4⟩, qn⟩)
      · refine wpAny_mono (T.item X rfl rfl rfl hc i _ s σ H X.xe I (stat fr) st go) (fun r' s4 ⟨u, hr, h4⟩ => ?_) fun x s' hx => wpAny_standAt (ee2 n s₀ x s' hx)
        subst hr
        refine seg_bind_wrap ?_
        rw [(gl ip gc.ip _).over]
        refine wpAny_mono h4 (fun _ s5 ⟨x, H5, I5, r5, y5, st5, fr5⟩ => ?_) fun x s' hx => ee2 n s₀ x s' hx
        have J5 := I5.pinned (stat fr5) (T.obj _ _ st5)
        refine seg_bind_wrap ?_
        rw [(gl ip gc.ip _).over]
        refine wpAny_mono (hg.run _ s5 σ H5 x u _ J5 r5 (step x H5 y5)) (fun _ s6 ⟨σ6, H6, I6, q6⟩ => ?_) fun x s' hx => ee2 n s₀ x s' hx
        rw [Sem.bind_eq_wrap', Sem.wrap_wrap]
        have hip : ∀ p ∈ ip ++ pinsAt fp s5.heap, p.1 ≠ S := fun p hp => by
          rcases List.mem_append.mp hp with hp | hp
          · exact gc.ip p hp
          · exact hfS _ (of_pinsAt hp).1
        have back : ∀ {ys7 : List V} {σ7 : L2.St} {H7 : Hp} {s7 : Shared}, GI X S (ip ++ pinsAt fp s5.heap) ys7 σ7 H7 s7 → GI X S ip ys7 σ7 H7 s7 ∧ tn (i + 1) s7.heap ∧ ∀ b ∈ fp, H7 b = none := fun {ys7 σ7 H7 s7} hI7 => by
          obtain ⟨acc7, cc7, r7, I7⟩ := hI7
          have mem : ∀ {b : Addr} {o : Obj}, b ∈ fp → s5.heap.get? b = some o → (b, o) ∈ X.pn ++ (S, lstObj acc7 cc7) :: (ip ++ pinsAt fp s5.heap) := fun hb e => List.mem_append_right _ (List.mem_cons_of_mem _ (List.mem_append_right _ (mem_pinsAt hb e)))
          refine ⟨⟨acc7, cc7, r7, I7.pins_of fun p hp => I7.pin p ?_⟩, T.keep _ _ _ st5 fun b hb o e => (I7.pin (b, o) (mem hb e)).1, fun b hb => ?_⟩
          · rcases List.mem_cons.mp hp with hp | hp
            · rw [hp]
              exact List.mem_append_right _ List.mem_cons_self
            · exact List.mem_append_right _ (List.mem_cons_of_mem _ (List.mem_append_left _ hp))
          · obtain ⟨o, e, d⟩ := T.obj _ _ st5 b hb
            exact (I7.pin (b, o) (mem hb e)).2.1
        refine hb.run A S (ip ++ pinsAt fp s5.heap) R n ys s₀ _ _ _ _ id id s6 σ6 H6 { D with nx := N, ct := N, bk := D.nx } (gl _ hip _) hn ⟨fun n' ys' s₀' s3 f hn' hs => ?_, fun n' s₀' x s3 hx => ee2 n' s₀' x s3 hx⟩ ⟨acc, cc, r, I6⟩ q6
        cases f with
        | next =>
          obtain ⟨σ3, H3, I3, n3⟩ := hs
          obtain ⟨m', less, w3⟩ := hN ys' σ3 H3 n3
          obtain ⟨b1, b2, b3⟩ := back I3
          exact seg_again rfl (ih m' less (i + 1) n' ys' s₀' s3 σ3 H3 hn' w3 b1 b2 b3)
        | cont =>
          obtain ⟨σ3, H3, I3, n3⟩ := hs
          obtain ⟨m', less, w3⟩ := hN ys' σ3 H3 n3
          obtain ⟨b1, b2, b3⟩ := back I3
          exact seg_again rfl (ih m' less (i + 1) n' ys' s₀' s3 σ3 H3 hn' w3 b1 b2 b3)
        | brk =>
          obtain ⟨σ3, H3, I3, n3⟩ := hs
          exact seg_leaf (.ok .next) (k.ok n' ys' s₀' s3 .next hn' ⟨σ3, H3, (back I3).1, n3⟩)
        | ret v =>
          obtain ⟨v3, σ3, H3, I3, r3, n3⟩ := hs
          exact seg_leaf (.ok (.ret v)) (k.ok n' ys' s₀' s3 (.ret v) hn' ⟨v3, σ3, H3, (back I3).1, r3, n3⟩)
  exact loop m0 0 n ys s₀ s2 σ H2 hn w0 ⟨acc, cc, r, I2⟩ st2 fun b hb => (f2 b hb).1
end
end DL
set_option Elab.async false
set_option linter.all false
set_option maxRecDepth 100000
set_option maxHeartbeats 4000000
namespace DL
open PySem L2 Evl
section
variable {α β γ δ : Type} {K : PySem.W.Frag} {σ σ2 : L2.St} {F G H H1 H2 H3 H4 Hc : Hp} {ta tb te tl tx : TE} {t u : TT} {v : V} {r : Rep α} {s : Rep β} {r1 : Rep γ} {a : α} {b : β} {as as' : List α} {bs : List β} {p q D : Addr}
theorem part_elem {o : HO} (eG : Ex G (part F H1 Hc)) (e0 : Ex F H1) (e1 : Ex H1 Hc) (e : Ex Hc H4) (hD : Hc D = some o) (hG : G D = none) : Ex (part G Hc H4) (mns (part F H1 H4) D) := fun q u hq => by
  cases hg : G q with
  | some x =>
    rw [part_in hg] at hq
    have nq : q ≠ D := ne_of_none hg hG
    rw [mns_ne nq, ← hq]
    exact part_up e q x (eG q x hg)
  | none =>
    cases hc : Hc q with
    | some x => rw [part_old hg hc] at hq; cases hq
    | none =>
      rw [part_new hg hc] at hq
      have nq : q ≠ D := fun z => by
        rw [z, hD] at hc
        cases hc
      have n1 : H1 q = none := back_none e1 hc
      rw [mns_ne nq, part_new (back_none e0 n1) n1]
      exact hq
theorem part_put {o : HO} : Ex (mns (part F H1 H4) D) (mns (part F H1 (upd H4 D o)) D) := fun q u hq => by
  have nq : q ≠ D := fun e => by
    rw [e, mns_at] at hq
    cases hq
  rw [mns_ne nq] at hq ⊢
  cases hF : F q with
  | some x => rw [part_in hF] at hq ⊢; exact hq
  | none =>
    cases hH : H1 q with
    | some x => rw [part_old hF hH] at hq; cases hq
    | none =>
      rw [part_new hF hH] at hq ⊢
      rw [upd_ne nq]
      exact hq
theorem part_ins : Ex (part F H1 H2) (part F H1 H2) := Ex.refl _
/-! ### two fors in a comprehension -/
theorem en_lc2 {wi wi1 : TI} {g g1 : TG} {S : Hp → α → L2.St → L2.St → Prop} {S1 : Hp → γ → L2.St → L2.St → Prop} {tt tt1 : TT} {vs vs1 : List Nat} (f : α → Bool) (cs : α → List γ) (f1 : α → γ → Bool) (m : α → γ → β)
    (h : Src wi σ F r as) (hg : Tgt g r S) (hg1 : Tgt g1 r1 S1) (hn : ((as.filter f).flatMap fun a => ((cs a).filter (f1 a)).map (m a)).length < 100000)
    (hw : ∀ a ∈ as, ∀ G σ2, Ex F G → S G a (wipe σ vs) σ2 → wipe σ2 vs = wipe σ vs ∧ EvT tt σ2 G (f a) ∧ (f a = true → Src wi1 σ2 G r1 (cs a) ∧
      ∀ c ∈ cs a, ∀ G' σ3, Ex G G' → S1 G' c (wipe σ2 vs1) σ3 → wipe σ3 vs1 = wipe σ2 vs1 ∧ EvT tt1 σ3 G' (f1 a c) ∧ (f1 a c = true → Er s te σ3 G' (m a c)))) :
    En s (tLc2 wi g tt wi1 g1 tt1 te vs vs1) σ F ((as.filter f).flatMap fun a => ((cs a).filter (f1 a)).map (m a)) := fun H1 e Q q => h H1 e _ fun J H2 e2 w D hD => by
  have mem : ∀ {δ : Type} {l : List δ} {i : Nat} {a : δ}, l[i]? = some a → a ∈ l := fun h => List.mem_of_getElem? h
  have tk : ∀ {δ : Type} {l : List δ} {i : Nat} {a : δ}, l[i]? = some a → l.take (i + 1) = l.take i ++ [a] := fun h => by
    rw [List.take_add_one, h]
    rfl
  let out := fun (l : List α) => (l.filter f).flatMap fun a => ((cs a).filter (f1 a)).map (m a)
  have out_snoc : ∀ l a, out (l ++ [a]) = out l ++ (if f a = true then ((cs a).filter (f1 a)).map (m a) else []) := fun l a => by
    show ((l ++ [a]).filter f).flatMap _ = _
    rw [List.filter_append, List.flatMap_append, List.filter_cons]
    split
    · rw [List.filter_nil, List.flatMap_cons, List.flatMap_nil, List.append_nil]
    · rw [List.filter_nil, List.flatMap_nil]
  have out_le : ∀ i, (out (as.take i)).length ≤ (out as).length := fun i => by
    have : out as = out (as.take i) ++ out (as.drop i) := by
      show (as.filter f).flatMap _ = _
      conv => lhs; rw [← List.take_append_drop i as, List.filter_append, List.flatMap_append]
    rw [this, List.length_append]
    omega
  have dF : F D = none := back_none (e.trans e2) hD
  have d2 : part F H1 H2 D = none := by
    rw [part_new dF (back_none e2 hD)]
    exact hD
  let P := fun (i : Nat) (H' : Hp) => ∃ acc, H' D = some (.lst acc) ∧ Ex H2 (mns H' D) ∧ Al (s.rel (mns (part F H1 H') D)) acc (out (as.take i))
  refine ⟨fun i k H' => k = as.length - i ∧ i ≤ as.length ∧ P i H', ⟨as.length, by omega, Nat.zero_le _, [], upd_same, ?_, .nil⟩, ?_⟩
  · rw [mns_upd]
    exact ex_mns (Ex.refl _) hD
  rintro i k H' ⟨rfl, hi, acc, h1, h2, h3⟩
  have eG : Ex (part F H1 H2) H' := (part_sub (e.trans e2)).trans (h2.trans mns_sub)
  by_cases hlt' : ¬ i < as.length
  · have ei : i = as.length := by omega
    subst ei
    refine .inl ⟨w.stops H' eG, ?_⟩
    rw [List.take_length] at h3
    exact q D H' (e2.trans (h2.trans mns_sub)) ⟨back_none e2 hD, acc, h1, h3⟩
  have hlt : i < as.length := Decidable.not_not.mp hlt'
  refine .inr ⟨w.goes i H' hlt eG, P (i + 1), fun H'' p => ⟨as.length - (i + 1), by omega, rfl, hlt, p⟩, fun x H'' yl => ?_⟩
  obtain ⟨y1, a, y2, y3⟩ := w.yields i H' x H'' hlt eG yl
  refine hg _ H'' x a _ _ (part_sub (eG.trans y1)) y3 fun σ2 hS => ?_
  obtain ⟨hwp, ht, he⟩ := hw a (mem y2) _ σ2 (part_ex.trans part_ex) hS
  refine ⟨hwp, ht H'' (part_sub (eG.trans y1)) _ fun H3 e3 => ?_⟩
  have e12 : Ex H2 H3 := (h2.trans mns_sub).trans (y1.trans e3)
  have hD3 : H3 D = some (.lst acc) := e3 D _ (y1 D _ h1)
  -- the frame of the turn
  have d3 : part (part F H1 H2) H' H'' D = none := part_old d2 h1
  have gsub : Ex (part (part F H1 H2) H' H'') (part F H1 H3) := (part_part e2 (h2.trans mns_sub) y1).trans (part_up e3)
  cases hf : f a with
  | false =>
    refine ⟨acc, hD3, ex_mns e12 hD, ?_⟩
    rw [tk y2, out_snoc, hf, if_neg (by decide), List.append_nil]
    exact h3.imp fun _ _ k => s.mono (mns_up (part_up (y1.trans e3))) k
  | true =>
    obtain ⟨hs1, hin⟩ := he hf
    refine hs1 H3 ((part_sub (eG.trans y1)).trans e3) _ fun J1 H4 e4 w1 => ?_
    have hD4 : H4 D = some (.lst acc) := e4 D _ hD3
    have d4 : part (part (part F H1 H2) H' H'') H3 H4 D = none := part_old d3 hD3
    have gsub4 : Ex (part (part (part F H1 H2) H' H'') H3 H4) (part F H1 H4) := fun q o hq => part_elem gsub e (e2.trans e12) e4 hD3 d3 q o hq |> mns_sub q o
    let P1 := fun (j : Nat) (Hj : Hp) => ∃ acc', Hj D = some (.lst acc') ∧ Ex (mns H4 D) (mns Hj D) ∧ Al (s.rel (mns (part F H1 Hj) D)) acc' (out (as.take i) ++ (((cs a).take j).filter (f1 a)).map (m a))
    refine ⟨fun j k Hj => k = (cs a).length - j ∧ j ≤ (cs a).length ∧ P1 j Hj, ⟨(cs a).length, by omega, Nat.zero_le _, acc, hD4, Ex.refl _, ?_⟩, ?_⟩
    · rw [List.take_zero, List.filter_nil, List.map_nil, List.append_nil]
      exact h3.imp fun _ _ k => s.mono (mns_up (part_up (y1.trans (e3.trans e4)))) k
    rintro j k Hj ⟨rfl, hj, acc', g1', g2', g3'⟩
    have e4j : Ex (part (part (part F H1 H2) H' H'') H3 H4) Hj := (ex_mns (part_sub ((part_sub (eG.trans y1)).trans (e3.trans e4))) d4).trans (g2'.trans mns_sub)
    have e2j : Ex H2 (mns Hj D) := (ex_mns (e12.trans e4) hD).trans g2'
    by_cases hlj' : ¬ j < (cs a).length
    · have ej : j = (cs a).length := by omega
      subst ej
      refine .inl ⟨w1.stops Hj e4j, acc', g1', e2j, ?_⟩
      rw [List.take_length] at g3'
      rw [tk y2, out_snoc, if_pos hf]
      exact g3'
    have hlj : j < (cs a).length := Decidable.not_not.mp hlj'
    refine .inr ⟨w1.goes j Hj hlj e4j, P1 (j + 1), fun H'' p => ⟨(cs a).length - (j + 1), by omega, rfl, hlj, p⟩, fun x1 Hk yl1 => ?_⟩
    obtain ⟨z1, c, z2, z3⟩ := w1.yields j Hj x1 Hk hlj e4j yl1
    refine hg1 _ Hk x1 c _ _ (part_sub (e4j.trans z1)) z3 fun σ3 hS1 => ?_
    obtain ⟨hwp1, ht1, he1⟩ := hin c (mem z2) _ σ3 (part_ex.trans part_ex) hS1
    refine ⟨hwp1, ht1 Hk (part_sub (e4j.trans z1)) _ fun H6 e6 => ?_⟩
    have hD6 : H6 D = some (.lst acc') := e6 D _ (z1 D _ g1')
    have t1 : out (as.take i) ++ (((cs a).take (j + 1)).filter (f1 a)).map (m a) = (out (as.take i) ++ (((cs a).take j).filter (f1 a)).map (m a)) ++ (if f1 a c = true then [m a c] else []) := by
      rw [tk z2, List.filter_append, List.map_append, List.filter_cons, List.append_assoc]
      split
      · rfl
      · rfl
    cases hf1 : f1 a c with
    | false =>
      refine ⟨acc', hD6, g2'.trans (mns_up (z1.trans e6)), ?_⟩
      rw [t1, hf1, if_neg (by decide), List.append_nil]
      exact g3'.imp fun _ _ k => s.mono (mns_up (part_up (z1.trans e6))) k
    | true =>
      refine he1 hf1 H6 ((part_sub (e4j.trans z1)).trans e6) _ fun y H7 e7 ry => ?_
      have hl : acc'.length < 100000 := by
        have l1 := g3'.len
        rw [List.length_append, List.length_map] at l1
        have l2 := out_le (i + 1)
        rw [tk y2, out_snoc, if_pos hf, List.length_append, List.length_map] at l2
        have l3 : (((cs a).take j).filter (f1 a)).length ≤ ((cs a).filter (f1 a)).length := by
          conv => rhs; rw [← List.take_append_drop j (cs a), List.filter_append, List.length_append]
          omega
        have : (out as).length < 100000 := hn
        omega
      refine ⟨acc', e7 D _ hD6, sz_lt hl, acc' ++ [y], upd_same, ?_, ?_⟩
      · rw [mns_upd]
        exact g2'.trans (mns_up (z1.trans (e6.trans e7)))
      · rw [t1, if_pos hf1]
        refine Al.snoc (g3'.imp fun _ _ k => s.mono ((mns_up (part_up (z1.trans (e6.trans e7)))).trans part_put) k) (s.mono (Ex.trans ?_ part_put) ry)
        -- what the turn made lies beside D
        have hj4 : Ex H1 Hj := (e2.trans e2j).trans mns_sub
        have gj : Ex (part (part (part F H1 H2) H' H'') H3 H4) (part F H1 Hj) := fun q o hq => by
          have nq : q ≠ D := fun z => by
            rw [z, d4] at hq
            cases hq
          have hq4 := gsub4 q o hq
          cases hF : F q with
          | some u => rw [part_in hF] at hq4 ⊢; exact hq4
          | none =>
            cases hH : H1 q with
            | some u => rw [part_old hF hH] at hq4; cases hq4
            | none =>
              rw [part_new hF hH] at hq4 ⊢
              have := g2' q o (by rw [mns_ne nq]; exact hq4)
              rw [mns_ne nq] at this
              exact this
        have gk : Ex (part (part (part (part F H1 H2) H' H'') H3 H4) Hj Hk) (part F H1 Hk) := fun q o hq => part_elem gj e hj4 z1 g1' d4 q o hq |> mns_sub q o
        exact part_elem (gk.trans (part_up e6)) e (hj4.trans (z1.trans e6)) e7 hD6 (part_old d4 g1')
/-! ### generators -/
variable {D0 : GEnds} {tu tw tz : TGn} {ys : List V}
theorem g_for {wi : TI} {g : TG} {tb : TGn} {D : GEnds} {S : Hp → α → L2.St → L2.St → Prop} (h : Src wi σ F r as) (hg : Tgt g r S) (e : Ex F H) (Pv : Hp → List α → List V → L2.St → Hp → Prop)
    (hG : ∀ G pre ys σ' H', Pv G pre ys σ' H' → Ex G H') (h0 : ∀ H1, Ex H H1 → Pv (part F H H1) [] ys σ H1)
    (hs : ∀ G pre a post ys σ' H' H'' σ2, as = pre ++ a :: post → Pv G pre ys σ' H' → Ex H' H'' → S (part G H' H'') a σ' σ2 → tb { D with nx := Pv G (pre ++ [a]), ct := Pv G (pre ++ [a]), bk := D.nx } ys σ2 H'')
    (hd : ∀ G ys σ' H', Pv G as ys σ' H' → D.nx ys σ' H') : tGFor wi g tb D ys σ H := h H e _ fun J H1 e1 w => by
  refine ⟨fun i k ys σ' H' => k = as.length - i ∧ i ≤ as.length ∧ Pv (part F H H1) (as.take i) ys σ' H', ⟨as.length, by omega, Nat.zero_le _, h0 H1 e1⟩, ?_⟩
  rintro i k ys σ' H' ⟨rfl, hi, p⟩
  have eG := hG _ _ _ _ _ p
  by_cases hlt : i < as.length
  · refine .inr ⟨w.goes i H' hlt eG, Pv (part F H H1) (as.take (i + 1)), fun ys' σ'' H'' p' => ⟨as.length - (i + 1), by omega, rfl, hlt, p'⟩, fun x H'' yl => ?_⟩
    obtain ⟨y1, a, y2, y3⟩ := w.yields i H' x H'' hlt eG yl
    refine hg _ H'' x a σ' _ (part_sub (eG.trans y1)) y3 fun σ2 hS => ?_
    have et : as.take (i + 1) = as.take i ++ [a] := by
      rw [List.take_add_one, y2]
      rfl
    rw [et]
    exact hs (part F H H1) (as.take i) a (as.drop (i + 1)) ys σ' H' H'' σ2 (by
      rw [List.getElem?_eq_getElem hlt] at y2
      cases y2
      rw [← List.drop_eq_getElem_cons hlt, List.take_append_drop]) p y1 hS
  · have ei : i = as.length := by omega
    subst ei
    rw [List.take_length] at p
    exact .inl ⟨w.stops H' eG, hd _ _ _ _ p⟩
/-- a generator def's promise: what it hands out -/
def spG (s : Rep β) (W : (Hp → List V → Prop) → List β → Prop) : SpG := fun vs H cont _ => ∃ F P b, Ex F H ∧ MonoP P ∧ W P b ∧ P F vs ∧ ∀ xs H2, Ex H H2 → Al (s.rel (part F H H2)) xs b → cont xs H2
theorem en_listG {W : (Hp → List V → Prop) → List β → Prop} {P : Hp → List V → Prop} {E : XK} {tr : TA} (h : Ea P tr σ F) (hP : MonoP P) (w : W P bs) : En s (tListG (tCallG (spG s W) [] E tr)) σ F bs := fun H1 e Q q =>
  h H1 e _ fun vs H2 e2 k => ⟨part F H1 H2, P, bs, part_sub (e.trans e2), hP, w, by rw [List.append_nil]; exact k, fun xs H3 e3 hx p hp => q p _ ((e2.trans e3).trans (Ex.new hp)) (new_at e (e2.trans e3) hp (hx.imp fun _ _ k => s.mono (part_part e2 (Ex.refl H2) e3) k))⟩
theorem passG {X : Cx} : Passes (CX X.prog X.w) X E0 := by
  intro pins σ H s e s' I hc
  obtain ⟨_, _, _, _, _, _, _, _, _, _, _, _, hE⟩ := hc
  exact hE.elim
/-! ### isinstance -/
theorem er_isiV {n : String} {ty : String} {k : Bool} (ha : Er r ta σ F a) (ht : ∀ (H : Hp) (v : V), r.rel H v a → TyX K H v (.type ty)) (hk : PySem.W.kitOne K (.type ty) (.type n) = some k) : Er rBl (tCB (rIsi K) (tCons ta (tCons (tC (.ty n)) tNil))) σ F k := fun H1 e Q q =>
  ha H1 e _ fun v H2 e2 hv => ⟨v, .ty n, .type ty, .type n, k, rfl, .ty n, ht _ _ (r.mono (part_sub (e.trans e2)) hv), hk, q _ H2 e2 rfl⟩
theorem ty_lst {H : Hp} (h : (rLst r).rel H v as) : TyX K H v (.type "list") := by
  obtain ⟨p, xs, rfl, hp, _⟩ := h
  exact .base (.lst hp)
theorem ty_tup {H : Hp} (h : (rTup r).rel H v as) : TyX K H v (.type "tuple") := by
  obtain ⟨p, xs, rfl, hp, _⟩ := h
  exact .base (.tup hp)
theorem ty_pair {H : Hp} {c : α × β} (h : (rPair r s).rel H v c) : TyX K H v (.type "tuple") := by
  obtain ⟨p, x, y, rfl, hp, _⟩ := h
  exact .base (.tup hp)
theorem ty_int {H : Hp} {n : Int} (h : rInt.rel H v n) : TyX K H v (.type "int") := by
  cases (show v = V.int n from h)
  exact .base (.int n)
theorem ty_bl {H : Hp} {n : Bool} (h : rBl.rel H v n) : TyX K H v (.type "bool") := by
  cases (show v = V.bl n from h)
  exact .base (.bl n)
/-! ### xs[i] = e, a list of one's own -/
variable {Dn : Ends} {zz : TS}
theorem q_setItem {i : Nat} {j : Nat} (h : Er r te σ F a) (e : Ex F H) (hi : σ[i]? = some (some (.ref p))) (hm : Mu r as F H p) (hj : Er rInt tb σ F (j : Int)) (hl : j < as.length)
    (k : ∀ o H2 G, Ex H H2 → Ex F G → Ex G (upd H2 p o) → Mu r (as.set j a) G (upd H2 p o) p → (∀ c u, H c = some u → F c = none → G c = none) → zz Dn σ (upd H2 p o)) : tSeq (tAsg te (gSub (tVar i) tb rSetL)) zz Dn σ H :=
  h H e _ fun v H2 e2 hv => ⟨.ref p, hi, hj H2 (e.trans e2) _ fun w H3 e3 hw => by
    obtain ⟨h1, xs, h2, h3⟩ := hm
    cases (show w = V.int (j : Int) from hw)
    have e23 := e2.trans e3
    have hG : part F H H3 p = none := part_old h1 h2
    exact ⟨p, xs, (j : Int), j, rfl, rfl, e23 p _ h2, ixN_nat (by rw [h3.len]; exact hl), k (.lst (xs.set j v)) H3 (part F H H3) e23 part_ex (Ex.mut (part_sub (e.trans e23)) hG)
      ⟨hG, _, upd_same, Al.set (r.mono (part_up e3) hv) j (h3.imp fun _ _ k => r.mono part_ex k)⟩ fun c o hc hF => part_old hF hc⟩⟩
end
/-! ### rules with the written part named -/
section
variable {X : Cx} {K : PySem.W.Frag} {tg l : Expr} {tl ta : TE}
theorem pi_listK (hl : PE X l tl) (hK : X.K = K := by rfl) : PI X tg l (iList K tl) := hK ▸ pi_list hl
theorem pi_tupK (hl : PE X l tl) (hK : X.K = K := by rfl) : PI X tg l (iTup K tl) := hK ▸ pi_tup hl
theorem pi_enumK {e : Expr} {ta : TA} {p pos tpos : Pos} {elts : List Expr} {kk : Nat} (hg : Gl X "enumerate") (hm : X.mg "enumerate" = none) (ha : PA X [e] ta) (hs : starEach [e] X.env = [(false, eval e X.env)] := by rfl) (hK : X.K = K := by rfl) :
    PI X (.Tuple elts kk tpos) (.Call (.Name "enumerate" p) [e] [] pos) (iEnum K ta) := hK ▸ pi_enum hg hm ha hs
theorem pi_zipK {e e2 : Expr} {ta : TA} {p pos tpos : Pos} {elts : List Expr} {kk : Nat} (hg : Gl X "zip") (hm : X.mg "zip" = none) (ha : PA X [e, e2] ta)
    (hs : starEach [e, e2] X.env = (false, eval e X.env) :: starEach [e2] X.env := by rfl) (hpl : (backTo pos (starEach [e2] X.env)).any (·.1) = false := by rfl) (hK : X.K = K := by rfl) :
    PI X (.Tuple elts kk tpos) (.Call (.Name "zip" p) [e, e2] [] pos) (iZip K ta) := hK ▸ pi_zip hg hm ha hs hpl
theorem pt_tru {a : Expr} (ha : PE X a ta) (he : ∀ whole, isTrue a X.env whole = (do let v ← whole; standAt a.pos; holding [v] (truthy v))) (hK : X.K = K := by rfl) : PT X a (tTru K ta) := hK ▸ pt_truth ha he
theorem pg_tupK {es : List Expr} {k : Nat} {t : TGs} {n : Nat} {pos : Pos} (hc : X.calm = true) (h : PGs X es t) (hn : (assignEach es X.env).length = n := by rfl) (hst : (assignEach es X.env).findIdx? (·.1) = none := by rfl) (hK : X.K = K := by rfl) : PG X (.Tuple es k pos) (gTup K n t) := by
  subst hK
  exact pg_tup hc h hn hst
end
end DL
set_option Elab.async false
set_option linter.all false
set_option maxRecDepth 100000
set_option maxHeartbeats 4000000
/-! sorted of a tuple of ints -/
namespace DL
open PySem PySem.Spec PyProof.Rows L2 Evl
section
variable {prog : Program} {w : World} {A : Around} {E : Value → Shared → Prop} {s : Shared}
/-- the heap behind the collecting of vs -/
abbrev gath (h : Heap) (vs : List Value) : Heap := (h.push (seqObj "list" #[] 0)).update h.objs.size (Obj.mapSeq (· ++ vs.toArray))
theorem gather_tup {t : Addr} {vs : List Value} {R : List Value → Shared → Prop} (ht : IsTup s.heap t vs.toArray) (k : R vs { s with heap := gath s.heap vs }) (fit : vs.length ≤ sizeLine) :
    wpAny (model prog w) A (collect (.ref t)) R E s := by
  obtain ⟨ob, at_t, cls_t, cnt, dat_t⟩ := id ht
  have at_t' : (s.heap.push (seqObj "list" #[] 0)).get? t = some ob := Heap.get?_push_of_some _ at_t
  have at_new : (s.heap.push (seqObj "list" #[] 0)).get? s.heap.objs.size = some (seqObj "list" #[] 0) := Heap.get?_push_size _ rfl
  unfold collect
  refine wpAny_bind (wpAny_runValue (codeAny_builtin entry_proto_collect' ?_))
  show wpAny _ _ (do again (.builtin "list.__iadd__" ⟨[← newList [], .ref t], []⟩)) _ _ s
  refine wpAny_bind (wpAny_newList (wpAny_pure ⟨Code.quiet_builtin _ (by decide +kernel), codeAny_builtin entry_list_iadd' ?_⟩))
  show wpAny _ _ (Builtin.List.listExtendWith (.ref s.heap.objs.size) (.ref t) (.ref s.heap.objs.size)) _ _ { s with heap := s.heap.push (seqObj "list" #[] 0) }
  unfold Builtin.List.listExtendWith
  refine wpAny_bind (wpAny_typeOf (T := "tuple") ⟨ob, at_t', cls_t⟩ ?_)
  have yes : (Value.type "tuple" == Value.type "tuple") = true := by rfl
  rw [if_pos (by rw [yes, Bool.or_true])]
  refine wpAny_bind (listItems_at at_t' dat_t ?_)
  refine wpAny_bind (listItems_at (xs := #[]) (n := 0) at_new rfl ?_)
  rw [if_neg (by simp)]
  refine wpAny_bind (listUpdate_at (xs := #[]) (n := 0) at_new rfl ?_ (Nat.zero_le _) (by
    show (#[] ++ vs.toArray).size ≤ sizeLine + 1
    simp only [Array.size_append, List.size_toArray, List.length_nil]
    omega))
  refine wpAny_pure ?_
  show wpAny (model prog w) A (do
      let o ← load s.heap.objs.size
      match o.data with
      | .seq xs _ => pure xs.toList
      | _ => unsupported "internal:collect") R E { s with heap := gath s.heap vs }
  refine wpAny_bind (wpAny_load (get?_update_seq at_new _) ?_)
  show wpAny _ _ (pure ((#[] : Array Value) ++ vs.toArray).toList) R E _
  have ev : ((#[] : Array Value) ++ vs.toArray).toList = vs := by simp
  rw [ev]
  exact wpAny_pure k
theorem sorted_tup {t : Addr} {vs : List Value} {ltv : Value → Value → Bool} {R : Value → Shared → Prop} (O : SrtO.Swo ltv) (ht : IsTup s.heap t vs.toArray) (fit : vs.length ≤ sizeLine)
    (hS : 2 ≤ vs.length → ∀ (h₁ : Heap) (a : Addr), SrtO.SortableO prog w A.in1.in1 { s with heap := h₁ } a vs ltv)
    (k : ∀ out : List Value, SrtO.Srtd ltv out → SrtO.Stb ltv out vs → R (.ref (s.heap.objs.size + 1)) { s with heap := sortedAll s.heap vs out.toArray }) :
    wpAny (model prog w) A (call (.builtin "sorted") [.ref t]) R E s := by
  refine Calls.call_function_entry kind_sorted plain_sorted entry_sorted (args_sorted1 _) ?_
  unfold Builtin.«sorted»
  refine wpAny_bind (m := checkCount "sorted" 1 1 _) (wpAny_pure ?_)
  refine wpAny_bind (gather_tup ht ?_ fit)
  refine wpAny_bind (wpAny_newList ?_ fit)
  have sz : (gath s.heap vs).objs.size = s.heap.objs.size + 1 := by
    show ((s.heap.push (seqObj "list" #[] 0)).update _ _).objs.size = _
    rw [Heap.size_update, size_push']
  have at_l : ((gath s.heap vs).push (seqObj "list" vs.toArray 0)).get? (s.heap.objs.size + 1) = some (seqObj "list" vs.toArray 0) := by
    rw [← sz]
    exact Heap.get?_push_size _ rfl
  show wpAny _ _ _ _ _ { s with heap := (gath s.heap vs).push (seqObj "list" vs.toArray 0) }
  rw [sz]
  refine wpAny_bind (wpAny_holding (wpAny_call_entry slot_list_sort ⟨_, at_l, rfl⟩ entry_list_sort (SrtO.list_sort_ord O at_l fit (fun h2 => hS h2 _ _) fun out hs hb => ⟨_, rfl, ?_⟩) (args_list_sort _)))
  exact wpAny_pure ⟨_, rfl, k out hs hb⟩
end
section
variable {X : Cx}
def rSortedT2 (K : PySem.W.Frag) : List V → Hp → VK → Prop := fun vs H Q => ∃ (a : Addr) (ns : List Int), vs = [V.ref a] ∧ SqT K H a (ns.map V.int) ∧
  ∀ (ms : List Int) (p : Addr), ms.Perm ns → ms.Pairwise (· ≤ ·) → H p = none → Q (.ref p) (upd H p (.lst (ms.map V.int)))
theorem cr_sortedT2 : CallR X (.builtin "sorted") (rSortedT2 X.K) := by
  intro pins s σ H vs us Q I r h
  obtain ⟨a, ns, rfl, hs, q⟩ := h
  obtain ⟨its, rv, ht, fit⟩ := I.tuple hs
  rw [Vals.ref1 r]
  have hints := rv.ints
  refine sorted_tup SrtO.swo_int ht (by rw [← rv.length]; exact fit) (fun h2 h₁ a' => SrtO.ints_sortable hints h2) fun out h1 h2 => ?_
  obtain ⟨k1, k2, k3⟩ := SrtO.ints_out hints h1 h2
  obtain ⟨ep, he⟩ := PyProof.Rows.sortedAll_at s.heap its out.toArray
  have len : ((out.map SrtO.iv).map V.int).length ≤ sizeLine := by
    rw [List.length_map, k2.length_eq]
    rw [List.length_map] at fit
    exact fit
  have new : H (s.heap.objs.size + 1) = none := I.hok.fresh (Nat.le_succ _)
  exact ⟨.ref _, upd H (s.heap.objs.size + 1) (.lst ((out.map SrtO.iv).map V.int)), I.laid (t' := s.toks) (fun _ _ => PyProof.Rows.sortedAll_old) (Nat.le_succ _) ⟨len, out, ep, vals_of_ints k1, he⟩, rfl, q _ _ k2 k3 new⟩
end
section
variable {K : PySem.W.Frag} {σ : L2.St} {F : Hp} {ta : TE}
theorem en_sortT {ns ms : List Int} (h : Er (rTup rInt) ta σ F ns) (hm : ∀ ns' : List Int, ns'.Perm ns → ns'.Pairwise (· ≤ ·) → ns' = ms) : En rInt (tCB (rSortedT2 K) (tCons ta tNil)) σ F ms := fun H1 e Q q => h H1 e _ fun v H2 e2 ⟨p, xs, hx, hp, hal⟩ => by
  rw [rel_ints hal] at hp
  refine ⟨p, ns, congrArg (· :: []) hx, SqT.of (part_sub (e.trans e2) p _ hp), fun ns' c h1 h2 hc => ?_⟩
  rw [hm ns' h1 h2]
  exact q c _ (e2.trans (Ex.new hc)) (new_at e e2 hc (ints_rel ms))
end
end DL
set_option Elab.async false
set_option linter.all false
set_option maxRecDepth 100000
set_option maxHeartbeats 4000000
/-! the world of a def's body: F0, H0 at its entry; G what stands still by now; H the heap by now -/
namespace DL
open PySem L2 Evl
structure Wd (F0 H0 G H : Hp) : Prop where
  old : Ex F0 G
  sub : Ex G H
  up : Ex H0 H
  nw : ∀ q u, G q = some u → F0 q = none → H0 q = none
/-- from one point to the next: but the object at x all that stood stands, nothing that was open has come into the frame -/
structure Stp (x : Option Addr) (G H G2 H2 : Hp) : Prop where
  fr : Ex G G2
  hp : ∀ c u, H c = some u → ∃ u2, H2 c = some u2 ∧ (some c ≠ x → u2 = u)
  nw : ∀ c u, H c = some u → G c = none → G2 c = none
section
variable {α β γ δ : Type} {K : PySem.W.Frag} {σ σ2 : L2.St} {F0 H0 F G G2 G3 H H1 H2 H3 : Hp} {ta tb te tl : TE} {t : TT} {v : V} {r : Rep α} {s : Rep β} {a : α} {b : β} {as : List α} {bs : List β} {p q : Addr} {x y : Option Addr}
theorem Stp.at (s : Stp x G H G2 H2) {c : Addr} {u : HO} (n : some c ≠ x) (h : H c = some u) : H2 c = some u := by
  obtain ⟨u2, h1, h2⟩ := s.hp c u h
  rw [h1, h2 n]
theorem Stp.ex (s : Stp none G H G2 H2) : Ex H H2 := fun c u h => s.at (fun z => nomatch z) h
theorem Stp.refl : Stp x G H G H := ⟨Ex.refl _, fun _ u h => ⟨u, h, fun _ => rfl⟩, fun _ _ _ h => h⟩
theorem Stp.trans (a : Stp x G H G2 H2) (b : Stp x G2 H2 G3 H3) : Stp x G H G3 H3 := ⟨a.fr.trans b.fr, fun c u h => by
  obtain ⟨u2, h1, h2⟩ := a.hp c u h
  obtain ⟨u3, h3, h4⟩ := b.hp c u2 h1
  exact ⟨u3, h3, fun n => (h4 n).trans (h2 n)⟩, fun c u h n => by
  obtain ⟨u2, h1, _⟩ := a.hp c u h
  exact b.nw c u2 h1 (a.nw c u h n)⟩
theorem Stp.any (a : Stp none G H G2 H2) : Stp x G H G2 H2 := ⟨a.fr, fun c u h => by
  obtain ⟨u2, h1, h2⟩ := a.hp c u h
  exact ⟨u2, h1, fun _ => h2 fun z => nomatch z⟩, a.nw⟩
theorem stp_ev (e : Ex H H2) : Stp none G H (part G H H2) H2 := ⟨part_ex, fun c u h => ⟨u, e c u h, fun _ => rfl⟩, fun c u h n => part_old n h⟩
theorem stp_same (e : Ex H H2) : Stp none G H G H2 := ⟨Ex.refl _, fun c u h => ⟨u, e c u h, fun _ => rfl⟩, fun _ _ _ n => n⟩
theorem stp_new (n : New r as G H H2 p) (e0 : Ex G H) (e : Ex H H2) : Stp none G H (mns (part G H H2) p) H2 := ⟨n.ex e0, fun c u h => ⟨u, e c u h, fun _ => rfl⟩, fun c u h g => by
  by_cases hc : c = p
  · rw [hc, mns_at]
  · rw [mns_ne hc, part_old g h]⟩
theorem stp_put {o : HO} : Stp (some p) G H G (upd H p o) := ⟨Ex.refl _, fun c u h => by
  by_cases hc : c = p
  · subst hc
    exact ⟨o, upd_same, fun n => absurd rfl n⟩
  · exact ⟨u, (upd_ne hc).trans h, fun _ => rfl⟩, fun _ _ _ n => n⟩
theorem part_into {F H1 Hc H4 G : Hp} (eG : Ex G (part F H1 Hc)) (e0 : Ex F H1) (e1 : Ex H1 Hc) (e : Ex Hc H4) : Ex (part G Hc H4) (part F H1 H4) := fun q u hq => by
  cases hg : G q with
  | some z =>
    rw [part_in hg] at hq
    rw [← hq]
    exact part_up e q z (eG q z hg)
  | none =>
    cases hc : Hc q with
    | some z => rw [part_old hg hc] at hq; cases hq
    | none =>
      rw [part_new hg hc] at hq
      have n1 : H1 q = none := back_none e1 hc
      rw [part_new (back_none e0 n1) n1]
      exact hq
/-! worlds -/
theorem Wd.start (e : Ex F H) : Wd F H F H := ⟨Ex.refl _, e, Ex.refl _, fun q u h n => by
  rw [h] at n
  cases n⟩
theorem Wd.step (w : Wd F0 H0 G H) (s : Stp none G H G2 H2) (sub : Ex G2 H2) : Wd F0 H0 G2 H2 := ⟨w.old.trans s.fr, sub, w.up.trans s.ex, fun q u h n => by
  cases h0 : H0 q with
  | none => rfl
  | some z =>
    have hq := w.up q z h0
    cases g : G q with
    | none =>
      rw [s.nw q z hq g] at h
      cases h
    | some y =>
      rw [w.nw q y g n] at h0
      cases h0⟩
theorem Wd.ev (w : Wd F0 H0 G H) (e : Ex H H2) : Wd F0 H0 (part G H H2) H2 := w.step (stp_ev e) (part_sub (w.sub.trans e))
theorem Wd.same (w : Wd F0 H0 G H) (e : Ex H H2) : Wd F0 H0 G H2 := w.step (stp_same e) (w.sub.trans e)
theorem Wd.new (w : Wd F0 H0 G H) (n : New r as G H H2 p) (e : Ex H H2) : Wd F0 H0 (mns (part G H H2) p) H2 := w.step (stp_new n w.sub e) (n.sub w.sub e)
theorem Wd.put (w : Wd F0 H0 G H) {o : HO} (hG : G p = none) (h0 : H0 p = none) : Wd F0 H0 G (upd H p o) := ⟨w.old, Ex.mut w.sub hG, Ex.mut w.up h0, w.nw⟩
theorem Wd.into (w : Wd F0 H0 G H) : Ex G (part F0 H0 H) := fun q u h => by
  cases f : F0 q with
  | some z =>
    rw [part_in f, ← h]
    exact (w.old q z f).symm
  | none =>
    rw [part_new f (w.nw q u h f)]
    exact w.sub q u h
/-- what stands there at the end, for the caller -/
theorem Wd.out (w : Wd F0 H0 G H) (h : r.rel (part G H H2) v a) (e : Ex H H2) : r.rel (part F0 H0 H2) v a := r.mono ((w.ev e).into) h
theorem Wd.outN (w : Wd F0 H0 G H) (n : New r as G H H2 p) (e : Ex H H2) : New r as F0 H0 H2 p := by
  obtain ⟨h1, xs, h2, h3⟩ := n
  exact ⟨back_none w.up h1, xs, h2, h3.imp fun _ _ k => r.mono (mns_up (w.ev e).into) k⟩
theorem Wd.outMu (w : Wd F0 H0 G H) (m : Mu r as G H p) (h0 : H0 p = none) : New r as F0 H0 H p := by
  obtain ⟨h1, xs, h2, h3⟩ := m
  exact ⟨h0, xs, h2, h3.imp fun _ _ k => r.mono (ex_mns w.into h1) k⟩
/-! lists of one's own -/
theorem Mu.step (h : Mu r as G H p) (s : Stp x G H G2 H2) (n : some p ≠ x) : Mu r as G2 H2 p := by
  obtain ⟨h1, xs, h2, h3⟩ := h
  exact ⟨s.nw p _ h2 h1, xs, s.at n h2, h3.imp fun _ _ k => r.mono s.fr k⟩
theorem Mu.go (h : Mu r as G H p) (s : Stp none G H G2 H2) : Mu r as G2 H2 p := h.step s fun z => nomatch z
/-! statements; w: something behind, v: the last -/
variable {D : Ends} {tu tw tz : TS} {g : TG} {i : Nat}
theorem v_asg (w : Wd F0 H0 G H) (h : Er r te σ G a) (k : ∀ v G2 H2, Wd F0 H0 G2 H2 → Stp none G H G2 H2 → r.rel G2 v a → D.nx (σ.set i (some v)) H2) : tAsg te (gName i) D σ H := h H w.sub _ fun v H2 e hv => k v _ H2 (w.ev e) (stp_ev e) hv
theorem w_asg (w : Wd F0 H0 G H) (h : Er r te σ G a) (k : ∀ v G2 H2, Wd F0 H0 G2 H2 → Stp none G H G2 H2 → r.rel G2 v a → tz D (σ.set i (some v)) H2) : tSeq (tAsg te (gName i)) tz D σ H := v_asg (D := { D with nx := tz D }) w h k
theorem v_asgI {n : Int} (w : Wd F0 H0 G H) (h : Er rInt te σ G n) (k : ∀ H2, Wd F0 H0 G H2 → Stp none G H G H2 → D.nx (σ.set i (some (.int n))) H2) : tAsg te (gName i) D σ H := h H w.sub _ fun v H2 e hv => by
  rw [show v = V.int n from hv]
  exact k H2 (w.same e) (stp_same e)
theorem w_asgI {n : Int} (w : Wd F0 H0 G H) (h : Er rInt te σ G n) (k : ∀ H2, Wd F0 H0 G H2 → Stp none G H G H2 → tz D (σ.set i (some (.int n))) H2) : tSeq (tAsg te (gName i)) tz D σ H := v_asgI (D := { D with nx := tz D }) w h k
theorem v_asgN (w : Wd F0 H0 G H) (h : En r te σ G as) (k : ∀ p G2 H2, Wd F0 H0 G2 H2 → Stp none G H G2 H2 → Mu r as G2 H2 p → H p = none → D.nx (σ.set i (some (.ref p))) H2) : tAsg te (gName i) D σ H := h H w.sub _ fun p H2 e n => k p _ H2 (w.new n e) (stp_new n w.sub e) n.mu n.1
theorem w_asgN (w : Wd F0 H0 G H) (h : En r te σ G as) (k : ∀ p G2 H2, Wd F0 H0 G2 H2 → Stp none G H G2 H2 → Mu r as G2 H2 p → H p = none → tz D (σ.set i (some (.ref p))) H2) : tSeq (tAsg te (gName i)) tz D σ H := v_asgN (D := { D with nx := tz D }) w h k
theorem v_ret (w : Wd F0 H0 G H) (h : Er r te σ G a) (k : ∀ v H2, Ex H0 H2 → r.rel (part F0 H0 H2) v a → D.rt v H2) : tRet te D σ H := h H w.sub _ fun v H2 e hv => k v H2 (w.up.trans e) (w.out hv e)
theorem v_retI {n : Int} (w : Wd F0 H0 G H) (h : Er rInt te σ G n) (k : ∀ H2, Ex H0 H2 → D.rt (.int n) H2) : tRet te D σ H := h H w.sub _ fun v H2 e hv => by
  rw [show v = V.int n from hv]
  exact k H2 (w.up.trans e)
theorem v_retB {n : Bool} (w : Wd F0 H0 G H) (h : Er rBl te σ G n) (k : ∀ H2, Ex H0 H2 → D.rt (.bl n) H2) : tRet te D σ H := h H w.sub _ fun v H2 e hv => by
  rw [show v = V.bl n from hv]
  exact k H2 (w.up.trans e)
theorem v_retN (w : Wd F0 H0 G H) (h : En r te σ G as) (k : ∀ p H2, Ex H0 H2 → New r as F0 H0 H2 p → D.rt (.ref p) H2) : tRet te D σ H := h H w.sub _ fun p H2 e n => k p H2 (w.up.trans e) (w.outN n e)
theorem v_retM (w : Wd F0 H0 G H) (hi : σ[i]? = some (some (.ref p))) (m : Mu r as G H p) (h0 : H0 p = none) (k : New r as F0 H0 H p → D.rt (.ref p) H) : tRet (tVar i) D σ H := ⟨_, hi, k (w.outMu m h0)⟩
theorem v_if {b : Bool} (w : Wd F0 H0 G H) (h : EvT t σ G b) (h1 : b = true → ∀ H2, Wd F0 H0 G H2 → Stp none G H G H2 → tu D σ H2) (h2 : b = false → ∀ H2, Wd F0 H0 G H2 → Stp none G H G H2 → tw D σ H2) : tIfS t tu tw D σ H := h H w.sub _ fun H2 e => by
  cases b with
  | true =>
    show tu D σ H2
    exact h1 rfl H2 (w.same e) (stp_same e)
  | false =>
    show tw D σ H2
    exact h2 rfl H2 (w.same e) (stp_same e)
theorem w_if {b : Bool} (w : Wd F0 H0 G H) (h : EvT t σ G b) (h1 : b = true → ∀ H2, Wd F0 H0 G H2 → Stp none G H G H2 → tu { D with nx := tz D } σ H2) (h2 : b = false → ∀ H2, Wd F0 H0 G H2 → Stp none G H G H2 → tw { D with nx := tz D } σ H2) : tSeq (tIfS t tu tw) tz D σ H := v_if (D := { D with nx := tz D }) w h h1 h2
theorem w_when {b : Bool} (w : Wd F0 H0 G H) (h : EvT t σ G b) (h1 : b = true → ∀ H2, Wd F0 H0 G H2 → Stp none G H G H2 → tu { D with nx := tz D } σ H2) (h2 : b = false → ∀ H2, Wd F0 H0 G H2 → Stp none G H G H2 → tz D σ H2) : tSeq (tIfS t tu tNext) tz D σ H := v_if (D := { D with nx := tz D }) w h h1 h2
theorem v_when {b : Bool} (w : Wd F0 H0 G H) (h : EvT t σ G b) (h1 : b = true → ∀ H2, Wd F0 H0 G H2 → Stp none G H G H2 → tu D σ H2) (h2 : b = false → ∀ H2, Wd F0 H0 G H2 → Stp none G H G H2 → D.nx σ H2) : tIfS t tu tNext D σ H := v_if w h h1 h2
/-- if c: return False, where c is false -/
theorem w_no {b : Bool} (w : Wd F0 H0 G H) (h : EvT t σ G b) (hb : b = false) (k : ∀ H2, Wd F0 H0 G H2 → Stp none G H G H2 → tz D σ H2) : tSeq (tIfS t tu tNext) tz D σ H := w_when w h (fun z => by rw [hb] at z; cases z) fun _ => k
theorem v_no {b : Bool} (w : Wd F0 H0 G H) (h : EvT t σ G b) (hb : b = false) (k : ∀ H2, Wd F0 H0 G H2 → Stp none G H G H2 → D.nx σ H2) : tIfS t tu tNext D σ H := v_when w h (fun z => by rw [hb] at z; cases z) fun _ => k
/-- the same, asked over another frame -/
theorem w_noF {b : Bool} (w : Wd F0 H0 G H) (e0 : Ex G2 H) (h : EvT t σ G2 b) (hb : b = false) (k : ∀ H2, Wd F0 H0 G H2 → Stp none G H G H2 → tz D σ H2) : tSeq (tIfS t tu tNext) tz D σ H := h H e0 _ fun H2 e => by
  subst hb
  show tz D σ H2
  exact k H2 (w.same e) (stp_same e)
/-- xs[i] = e, a list of one's own -/
theorem w_put {tb : TE} {j : Nat} (w : Wd F0 H0 G H) (h : Er r te σ G a) (hi : σ[i]? = some (some (.ref p))) (m : Mu r as G H p) (h0 : H0 p = none) (hj : Er rInt tb σ G (j : Int)) (hl : j < as.length)
    (k : ∀ G2 H2, Wd F0 H0 G2 H2 → Stp (some p) G H G2 H2 → Mu r (as.set j a) G2 H2 p → tz D σ H2) : tSeq (tAsg te (gSub (tVar i) tb rSetL)) tz D σ H :=
  h H w.sub _ fun v H2 e2 hv => ⟨.ref p, hi, hj H2 (w.sub.trans e2) _ fun x H3 e3 hx => by
    obtain ⟨h1, xs, h2, h3⟩ := m
    cases (show x = V.int (j : Int) from hx)
    have e23 := e2.trans e3
    have hG : part G H H3 p = none := part_old h1 h2
    exact ⟨p, xs, (j : Int), j, rfl, rfl, e23 p _ h2, ixN_nat (by rw [h3.len]; exact hl), k (part G H H3) _ ((w.ev e23).put hG h0) (Stp.trans (stp_ev e23).any stp_put)
      ⟨hG, _, upd_same, Al.set (r.mono (part_up e3) hv) j (h3.imp fun _ _ k => r.mono part_ex k)⟩⟩⟩
theorem v_app (w : Wd F0 H0 G H) (hi : σ[i]? = some (some (.ref p))) (m : Mu r as G H p) (h0 : H0 p = none) (hl : as.length < 100000) (h : Er r te σ G a)
    (k : ∀ G2 H2, Wd F0 H0 G2 H2 → Stp (some p) G H G2 H2 → Mu r (as ++ [a]) G2 H2 p → D.nx σ H2) : tDrop (tBM K "list" rAppend (tVar i) (tCons te tNil)) D σ H := by
  obtain ⟨h1, xs, h2, h3⟩ := m
  refine ⟨_, hi, Or.inl ⟨rfl, xs, SqL.of h2⟩, h H w.sub _ fun v H2 e2 hv => ⟨p, xs, v, rfl, rfl, e2 p _ h2, by rw [h3.len]; exact sz_lt hl, ?_⟩⟩
  have hG : part G H H2 p = none := part_old h1 h2
  exact k (part G H H2) _ ((w.ev e2).put hG h0) (Stp.trans (stp_ev e2).any stp_put) ⟨hG, _, upd_same, Al.snoc (h3.imp fun _ _ k => r.mono part_ex k) hv⟩
theorem w_app (w : Wd F0 H0 G H) (hi : σ[i]? = some (some (.ref p))) (m : Mu r as G H p) (h0 : H0 p = none) (hl : as.length < 100000) (h : Er r te σ G a)
    (k : ∀ G2 H2, Wd F0 H0 G2 H2 → Stp (some p) G H G2 H2 → Mu r (as ++ [a]) G2 H2 p → tz D σ H2) : tSeq (tDrop (tBM K "list" rAppend (tVar i) (tCons te tNil))) tz D σ H := v_app (D := { D with nx := tz D }) w hi m h0 hl h k
/-- a list of one's own, to be read as it stands -/
theorem Mu.froz (m : Mu r as G H p) (w : Wd F0 H0 G H) (h0 : H0 p = none) : ∃ G2, Wd F0 H0 G2 H ∧ Ex G G2 ∧ (rLst r).rel G2 (.ref p) as ∧ ∀ c, c ≠ p → G2 c = G c := by
  obtain ⟨h1, xs, h2, h3⟩ := m
  refine ⟨upd G p (.lst xs), ⟨w.old.trans (Ex.new h1), fun q o hq => ?_, w.up, fun q u hq hn => ?_⟩, Ex.new h1, ⟨p, xs, rfl, upd_same, h3.imp fun _ _ k => r.mono (Ex.new h1) k⟩, fun c hc => upd_ne hc⟩
  · by_cases hqp : q = p
    · subst hqp
      rw [upd_same] at hq
      rw [← hq]
      exact h2
    · rw [upd_ne hqp] at hq
      exact w.sub q o hq
  · by_cases hqp : q = p
    · subst hqp
      exact h0
    · rw [upd_ne hqp] at hq
      exact w.nw q u hq hn
def MonoS (S : Hp → α → L2.St → L2.St → Prop) : Prop := ∀ G G2 a σ σ2, Ex G G2 → S G a σ σ2 → S G2 a σ σ2
theorem mono_sn {j : Nat} : MonoS (SN r j) := fun _ _ _ _ _ e ⟨x, h, k⟩ => ⟨x, r.mono e h, k⟩
theorem mono_sp {i j : Nat} : MonoS (SPr r s i j) := fun _ _ _ _ _ e ⟨x, y, h, h2, k⟩ => ⟨x, y, r.mono e h, s.mono e h2, k⟩
/-- what is wanted between two turns of a loop: G1 the frame of what it goes through -/
def Nxt (F0 H0 G1 : Hp) (Pv : L2.St → Hp → Hp → Prop) : L2.St → Hp → Prop := fun σ H => ∃ G, Wd F0 H0 G H ∧ Ex G1 G ∧ Pv σ G H
/-- for: what holds between two turns, by the items taken -/
theorem v_for {wi : TI} {tb : TS} {S : Hp → α → L2.St → L2.St → Prop} (w : Wd F0 H0 G H) (h : Src wi σ G r as) (hg : Tgt g r S) (hm : MonoS S) (Pv : List α → L2.St → Hp → Hp → Prop)
    (h0 : ∀ G1 H1, Wd F0 H0 G1 H1 → Stp none G H G1 H1 → Pv [] σ G1 H1)
    (hs : ∀ G1 pre a post σ' σ2 G' H' G2 H2, as = pre ++ a :: post → Pv pre σ' G' H' → Stp none G' H' G2 H2 → Wd F0 H0 G2 H2 → Ex G1 G2 → S G2 a σ' σ2 →
      tb { D with nx := Nxt F0 H0 G1 (Pv (pre ++ [a])), ct := Nxt F0 H0 G1 (Pv (pre ++ [a])), bk := D.nx } σ2 H2)
    (hd : ∀ σ' G' H', Wd F0 H0 G' H' → Pv as σ' G' H' → D.nx σ' H') : tFor wi g tb D σ H := by
  refine d_for h hg w.sub (fun G1 pre => Nxt F0 H0 G1 (Pv pre)) (fun G1 pre σ' H' ⟨G', w', e', _⟩ => e'.trans w'.sub) (fun H1 e1 => ?_) (fun G1 pre a post σ' H' H2 σ2 has ⟨G', w', e', hP⟩ e2 hS => ?_) (fun G1 σ' H' ⟨G', w', _, hP⟩ => hd σ' G' H' w' hP)
  · exact ⟨_, w.ev e1, Ex.refl _, h0 _ H1 (w.ev e1) (stp_ev e1)⟩
  · exact hs G1 pre a post σ' σ2 G' H' (part G' H' H2) H2 has hP (stp_ev e2) (w'.ev e2) (e'.trans part_ex) (hm _ _ _ _ _ (part_frame e' w'.sub) hS)
theorem w_for {wi : TI} {S : Hp → α → L2.St → L2.St → Prop} (w : Wd F0 H0 G H) (h : Src wi σ G r as) (hg : Tgt g r S) (hm : MonoS S) (Pv : List α → L2.St → Hp → Hp → Prop)
    (h0 : ∀ G1 H1, Wd F0 H0 G1 H1 → Stp none G H G1 H1 → Pv [] σ G1 H1)
    (hs : ∀ G1 pre a post σ' σ2 G' H' G2 H2, as = pre ++ a :: post → Pv pre σ' G' H' → Stp none G' H' G2 H2 → Wd F0 H0 G2 H2 → Ex G1 G2 → S G2 a σ' σ2 →
      tu { D with nx := Nxt F0 H0 G1 (Pv (pre ++ [a])), ct := Nxt F0 H0 G1 (Pv (pre ++ [a])), bk := tz D } σ2 H2)
    (hd : ∀ σ' G' H', Wd F0 H0 G' H' → Pv as σ' G' H' → tz D σ' H') : tSeq (tFor wi g tu) tz D σ H := v_for (D := { D with nx := tz D }) w h hg hm Pv h0 hs hd
end
end DL
set_option Elab.async false
set_option linter.all false
set_option maxRecDepth 100000
set_option maxHeartbeats 4000000
namespace DL
open PySem PySem.Spec PySem.W PySem.Calls PyProof.Rows L2 Evl
/-! ### the key of an item: its worth negated, its lot -/
def rkA (p : Pos) : Arguments := { posonlyargs := [], args := [{ arg := "item", annotation := none, pos := p }], vararg := none, kwonlyargs := [], kw_defaults := [], kwarg := none, defaults := [] }
def rkB (k1 k2 : Nat) (p1 p2 p3 p4 p5 p6 p7 p8 p9 p10 : Pos) : List Stmt :=
  [.Assign [.Tuple [.Name "worth" p1, .Name "lot" p2] k1 p3] (.Name "item" p4) p5,
   .Return (some (.Tuple [.UnaryOp .USub (.Name "worth" p6) p7, .Name "lot" p8] k2 p9)) p10]
def rkS : Scope := { kind := .function, names := [(PySem.Str.ofString "item", .local), (PySem.Str.ofString "worth", .local), (PySem.Str.ofString "lot", .local)], isGenerator := false, isCoroutine := false, more := [] }
theorem ldK {M : Model} {s : Shared} {name : Str} {scope : Scope} {L a : Addr} {cd : Value} {m : Str → Option Value} {x : Str} {pos : Pos} {v : Value} {Q : Value → Shared → Prop} {A : Around} {E : Value → Shared → Prop} (hn : s.heap.Ns L m) (hv : m x = some v) (h : Q v s)
    (hk : scope.kind = .function := by rfl) (hl : (envOfC name scope L a cd).kindOf x = some .local := by rfl) (hd : (x == ("__debug__" : Str)) = false := by decide) :
    wpAny M A (eval (.Name x pos) (envOfC name scope L a cd)) Q E s := wpAny_Name (wpAny_loadName_local hk hl hn hv h) hd
def keyOf (w : Int) (ls : List Int) : PyData := .tuple [.int (-w), .tuple (ls.map .int)]
section
variable {prog : Program} {wo : World} {A : Around} {s : Shared} {K : Frag} {f : Addr} {fd : FuncData} {st : Stmt}
theorem rank_call {pa : Pos} {k1 k2 : Nat} {p1 p2 p3 p4 p5 p6 p7 p8 p9 p10 : Pos} (X : K.In s.heap) (hlim : s.heap.NoLimit) (F : Fun K "rank" "rank" st f fd) (ha : defArgs st = rkA pa) (hb : defBody st = rkB k1 k2 p1 p2 p3 p4 p5 p6 p7 p8 p9 p10) (hs : defScope st = rkS)
    (hh : A.handled = none) (hroom : A.depth < recursionLimit) {p q : Addr} {w : Int} {t : Nat} {ls : List Int} (hp : IsTup s.heap p #[.int w t, .ref q]) (hq : Reads s.heap (.ref q) (.tuple (ls.map .int)) []) :
    wpAny (model prog wo) A (call (.ref f) [.ref p]) (KeyPure (keyOf w ls) s) (fun _ _ => False) s := by
  obtain ⟨oc, od, kV, doc, pm, an, cdv, ct, osl, rfl, lk, hcd⟩ := F.ex
  rw [ha, hb, hs] at lk
  refine wpAny_call (Att.call_fn (binds := [("item", .ref p)]) X hlim lk hcd hroom (BindsTo.of_eq (by first | rfl | with_unfolding_all rfl)) (by first | rfl | decide | with_unfolding_all rfl) (fun s₁ IC => ?_) rfl rfl rfl)
  obtain ⟨h₁, tk₁, rfl⟩ := IC.toInCall.same
  have k : ∀ b o, s.heap.get? b = some o → h₁.get? b = some o := IC.toInCall.keep
  have hn := IC.toInCall.ns
  have z : s.heap.objs.size < h₁.objs.size := hn.lt
  show wpAny _ _ (execs (rkB k1 k2 p1 p2 p3 p4 p5 p6 p7 p8 p9 p10) _) _ _ _
  refine wpAny_execs_cons (Assign_Tuple ?_)
  refine ldK (v := .ref p) hn (by first | rfl | with_unfolding_all rfl | kernel_rfl) ?_
  refine assign_Tuple_tuple hh (hp.keeps k) rfl rfl fun h₂ he => ?_
  have k2 : ∀ b o, s.heap.get? b = some o → h₂.get? b = some o := fun b o e => he b o (Nat.ne_of_lt (Nat.lt_trans (Heap.lt_size e) z)) (k b o e)
  have hn2 := hn.extBut he (Nat.ne_of_lt z)
  refine assignInOrder_cons (wpAny_assign_Name (wpAny_storeName_local rfl hn2 fun h₃ hn3 sm => ?_))
  have k3 : ∀ b o, s.heap.get? b = some o → h₃.get? b = some o := fun b o e => sm.extBut b o (Nat.ne_of_lt (Heap.lt_size e)) (k2 b o e)
  refine assignInOrder_cons (wpAny_assign_Name (wpAny_storeName_local rfl hn3 fun h₄ hn4 sm4 => ?_))
  have k4 : ∀ b o, s.heap.get? b = some o → h₄.get? b = some o := fun b o e => sm4.extBut b o (Nat.ne_of_lt (Heap.lt_size e)) (k3 b o e)
  refine assignInOrder_nil ?_
  refine wpAny_execs_cons (wpAny_Return_some (wpAny_Tuple ?_))
  refine wpAny_items_cons (wpAny_UnaryOp (ldK (v := .int w t) hn4 (by first | rfl | with_unfolding_all rfl | kernel_rfl) (neg_int ?_)))
  refine wpAny_items_cons (ldK (v := .ref q) hn4 (by first | rfl | with_unfolding_all rfl | kernel_rfl) ?_)
  refine spliced_nil ⟨by rw [sizeLine_eq]; exact (by decide : 2 ≤ 16777216), ?_⟩
  refine ⟨_, _, rfl, fun b o e => Heap.get?_push_of_some _ (k4 b o e), ?_⟩
  exact .tuple (as := []) (Heap.get?_push_size _ rfl) rfl rfl (.cons (as := []) (bs := []) (.int _ _) (.cons (as := []) (bs := []) (PyProof.Rows.Reads.keeps (fun b o e => Heap.get?_push_of_some _ (k4 b o e)) hq) .nil))
end

/-! ### the order of items: the greater worth first, then the lesser lot -/
abbrev Itm := Int × List Int
def rkLt (x y : Itm) : Prop := y.1 < x.1 ∨ (x.1 = y.1 ∧ x.2 < y.2)
instance (x y : Itm) : Decidable (rkLt x y) := inferInstanceAs (Decidable (_ ∨ _))
def itKey (x : Itm) : PyData := keyOf x.1 x.2
theorem alike_key (x y : Itm) : alike (itKey x) (itKey y) = true := by
  unfold itKey keyOf
  simp [alike, alikeAll, alike_ints]
theorem eqv_intsT (xs ys : List Int) : PyData.eqv (.tuple (xs.map .int)) (.tuple (ys.map .int)) = decide (xs = ys) := Enc.eqvAll (K := []) eInt xs ys
theorem lt_key (x y : Itm) : dataLt (itKey x) (itKey y) = decide (rkLt x y) := by
  unfold itKey keyOf
  rw [dataLt_pair (by simp [alike]) (by simp [alike, alike_ints]), dataLt_int, dataLt_tuple]
  show (if PyData.eqv (.int (-x.1)) (.int (-y.1)) = true then (if PyData.eqv (.tuple (x.2.map .int)) (.tuple (y.2.map .int)) = true then false else rowLt (x.2.map .int) (y.2.map .int)) else decide (-x.1 < -y.1)) = _
  rw [eqv_intsT, dataLt_ints]
  simp only [PyData.eqv, beq_iff_eq]
  have hirr : ∀ l : List Int, ¬ l < l := fun l => List.lt_irrefl l
  rw [Bool.eq_iff_iff]
  rw [decide_eq_true_iff (p := rkLt x y)]
  by_cases h1 : -x.1 = -y.1
  · have h3 : x.1 = y.1 := by omega
    have h4 : rkLt x y ↔ x.2 < y.2 := ⟨fun h => h.elim (fun z => by omega) fun z => z.2, fun h => .inr ⟨h3, h⟩⟩
    rw [if_pos h1, h4]
    by_cases h2 : x.2 = y.2
    · rw [h2]
      simp [hirr]
    · simp [h2]
  · have h3 : ¬ x.1 = y.1 := by omega
    have h4 : rkLt x y ↔ -x.1 < -y.1 := ⟨fun h => h.elim (fun z => by omega) fun z => absurd z.1 h3, fun h => .inl (by omega)⟩
    rw [if_neg h1, h4]
    simp
def rkLe (x y : Itm) : Bool := !decide (rkLt y x)
theorem le_key : dataLe false itKey = rkLe := by
  funext x y
  show (!dataLt (itKey y) (itKey x)) = _
  rw [lt_key]
  rfl
def rankOf (bs : List Itm) : List Itm := bs.mergeSort rkLe
theorem rkLe_total : TotalLe rkLe := by
  rw [← le_key]
  exact sortLe_total _ _ _
theorem rankOf_perm (bs : List Itm) : (rankOf bs).Perm bs := List.mergeSort_perm bs rkLe
theorem rankOf_up (bs : List Itm) : (rankOf bs).Pairwise fun x y => rkLe x y = true := sort_pairwise rkLe_total bs
theorem depth_key (x : Itm) : (itKey x).depth = 2 := by
  unfold itKey keyOf
  simp [PyData.depth, PyData.depthAll, depth_ints]
/-! ### sorted(xs, key=rank) -/
abbrev rIt : Rep Itm := rPair rInt (rTup rInt)
def rSortRk (K : Frag) (f : Addr) : List V → List V → Hp → VK → Prop := fun vs zs H Q => ∃ (a : Addr) (xs : List V) (bs : List Itm) (G : Hp), vs = [.ref a] ∧ zs = [.ref f] ∧ Ex G H ∧ SqL K H a xs ∧ Al (rIt.rel G) xs bs ∧
  ∀ ys p, Al (rIt.rel G) ys (rankOf bs) → H p = none → Q (.ref p) (upd H p (.lst ys))
theorem each_al {R : V → Itm → Prop} : ∀ {xs : List V} {bs : List Itm} {us : List Value}, Al R xs bs → Vals xs us → EachIs (fun u b => ∃ x, RelV x u ∧ R x b) us bs
  | _, _, _, .nil, .nil => .nil
  | _, _, _, .cons h t, .cons r rs => .cons ⟨_, r, h⟩ (each_al t rs)
theorem al_each {R : V → Itm → Prop} : ∀ {us : List Value} {bs : List Itm}, EachIs (fun u b => ∃ x, RelV x u ∧ R x b) us bs → ∃ ys, Vals ys us ∧ Al R ys bs
  | _, _, .nil => ⟨[], .nil, .nil⟩
  | _, _, .cons ⟨x, r, h⟩ t => by
    obtain ⟨ys, h1, h2⟩ := al_each t
    exact ⟨x :: ys, .cons r h1, .cons h h2⟩
theorem reads_ints {h : Heap} : ∀ {us : List Value} {ns : List Int}, IntsAre us ns → ReadsAll h us (ns.map PyData.int) []
  | _, _, .nil => .nil
  | _, _, .cons n t r => .cons (as := []) (bs := []) (.int _ _) (reads_ints r)
theorem reads_tupI {h : Heap} {q : Addr} {us : List Value} {ns : List Int} (ht : IsTup h q us.toArray) (hi : IntsAre us ns) : Reads h (.ref q) (.tuple (ns.map .int)) [] := by
  obtain ⟨o, h1, h2, n, h3⟩ := ht
  exact .tuple h1 h2 h3 (by rw [List.toList_toArray]; exact reads_ints hi)
section
variable {X : Cx} {f : Addr} {fd : FuncData} {st : Stmt}
structure IsRank (K : Frag) (f : Addr) : Prop where
  ex : ∃ (st : Stmt) (fd : FuncData) (pa : Pos) (k1 k2 : Nat) (p1 p2 p3 p4 p5 p6 p7 p8 p9 p10 : Pos), Fun K "rank" "rank" st f fd ∧ defArgs st = rkA pa ∧ defBody st = rkB k1 k2 p1 p2 p3 p4 p5 p6 p7 p8 p9 p10 ∧ defScope st = rkS
theorem cr_sortRk {n : Nat} (hk : IsRank X.K f) (hr : Room n X.A) : CallRK X (.builtin "sorted") [Str.ofString "key"] (rSortRk X.K f) := by
  intro pins s σ H vs zs us ws Q I r rz h
  obtain ⟨a, xs, bs, G, rfl, rfl, eG, hs, hal, q⟩ := h
  obtain rfl := Vals.ref1 r
  obtain rfl := Vals.ref1 rz
  obtain ⟨its, rv, hl, hz⟩ := I.list hs
  obtain ⟨st, fd, pa, k1, k2, p1, p2, p3, p4, p5, p6, p7, p8, p9, p10, F, h1, h2, h3⟩ := hk.ex
  have hd := hr.dp
  have hu := hr.un
  have e := each_al hal rv
  have hlen : bs.length ≤ sizeLine := by rw [← hal.len]; exact hz
  refine sorted_key_data (b := false) itKey hl.isList e (AllAlike.of alike_key) (Sortable.tuples fun _ => ⟨_, _, rfl⟩) hlen (fun p _ => by rw [depth_key]; omega) (ksk_s1 _ _) (fun _ => ksk_l1 _ _) (fun _ => ksk_t1 _ _)
    (fun v b ⟨x, rx, p, y, z, ex, hp, hy, q2, zs2, ez, hq, hal2⟩ _ h tk kp => ?_) fun out c h' tk kp fr hD hlo eo => ?_
  · subst ex
    subst ez
    obtain rfl := show v = Value.ref p from rx
    have hy' : y = V.int b.1 := hy
    subst hy'
    rw [rel_ints hal2] at hq
    obtain ⟨i1, r1, t1, _⟩ := I.tuple (SqT.of (eG _ _ hp))
    obtain ⟨u1, u2, e1, ru1, ru2⟩ := vals2 r1
    subst e1
    obtain ⟨tt, rfl⟩ := (show ∃ t, u1 = Value.int b.1 t from ru1)
    obtain rfl := show u2 = Value.ref q2 from ru2
    obtain ⟨i2, r2, t2, _⟩ := I.tuple (SqT.of (eG _ _ hq))
    exact rank_call (A := X.A.in1.in1) (s := { s with heap := h, toks := tk }) (I.kIn.keeps kp) (I.nolimit.keeps kp) F h1 h2 h3 hr.hd (by show X.A.depth < _; omega) (t1.keeps kp) (reads_tupI (t2.keeps kp) r2.ints)
  · rw [le_key] at eo
    obtain ⟨ys, ry, hy⟩ := al_each eo
    have new : H (s.heap.objs.size + 1) = none := I.hok.fresh (Nat.le_succ _)
    refine ⟨.ref _, upd H (s.heap.objs.size + 1) (.lst ys), I.laid (t' := tk) kp (Nat.le_succ _) ⟨?_, out, c, ry, hD⟩, rfl, q _ _ hy new⟩
    rw [ry.length, hlo]
    exact hlen
end
section
variable {K : Frag} {σ : L2.St} {F : Hp} {ta : TE} {f : Addr}
theorem en_sortRk {bs : List Itm} (h : Er (rLst rIt) ta σ F bs) : En rIt (tCKw (rSortRk K f) (tCons ta tNil) (tCons (tC (.ref f)) tNil)) σ F (rankOf bs) := fun H1 e Q q => h H1 e _ fun v H2 e2 ⟨p, xs, hx, hp, hal⟩ => by
  refine ⟨p, xs, bs, part F H1 H2, congrArg (· :: []) hx, rfl, part_sub (e.trans e2), SqL.of (part_sub (e.trans e2) p _ hp), hal, fun ys c hy hc => q c _ (e2.trans (Ex.new hc)) (new_at e e2 hc hy)⟩
end
end DL
set_option Elab.async false
set_option linter.all false
set_option maxRecDepth 100000
set_option maxHeartbeats 4000000
/-! while, insert, tuples before one another, one list read as another -/
namespace DL
open PySem L2 Evl
section
variable {α β γ δ : Type} {K : PySem.W.Frag} {σ σ2 : L2.St} {F0 H0 F G G2 G3 H H1 H2 H3 : Hp} {ta tb te tl : TE} {t c : TT} {v : V} {r : Rep α} {s : Rep β} {a : α} {b : β} {as : List α} {bs : List β} {p q : Addr} {x y : Option Addr} {D : Ends} {tu tw tz : TS} {g : TG} {i : Nat}
/-- a greater frame was of use for a while -/
theorem Wd.back (w : Wd F0 H0 G H) (w2 : Wd F0 H0 G2 H2) (e : Ex G G2) : Wd F0 H0 G H2 := ⟨w.old, e.trans w2.sub, w2.up, w.nw⟩
theorem v_while {tb : TS} (w : Wd F0 H0 G H) (Pv : Nat → L2.St → Hp → Hp → Prop) (m0 : Nat) (h0 : Pv m0 σ G H)
    (hs : ∀ m σ' G' H', Wd F0 H0 G' H' → Ex G G' → Pv m σ' G' H' → ∃ b, EvT c σ' G' b ∧
      (b = true → ∀ H2, Wd F0 H0 G' H2 → Stp none G' H' G' H2 → tb { D with nx := Nxt F0 H0 G (fun σ2 G2 H2 => ∃ m2, m2 < m ∧ Pv m2 σ2 G2 H2), ct := Nxt F0 H0 G (fun σ2 G2 H2 => ∃ m2, m2 < m ∧ Pv m2 σ2 G2 H2), bk := D.nx } σ' H2) ∧
      (b = false → ∀ H2, Wd F0 H0 G' H2 → Stp none G' H' G' H2 → D.nx σ' H2)) : tWhile c tb D σ H := by
  refine ⟨fun m σ' H' => Nxt F0 H0 G (Pv m) σ' H', ⟨m0, G, w, Ex.refl _, h0⟩, ?_⟩
  rintro m σ' H' ⟨G', w', e', hP⟩
  obtain ⟨b, hb, h1, h2⟩ := hs m σ' G' H' w' e' hP
  refine hb H' w'.sub _ fun H2 e2 => ?_
  cases b with
  | true => exact ⟨_, fun σ3 H3 ⟨G3, w3, e3, m2, hm, hP3⟩ => ⟨m2, hm, G3, w3, e3, hP3⟩, h1 rfl H2 (w'.same e2) (stp_same e2)⟩
  | false => exact h2 rfl H2 (w'.same e2) (stp_same e2)
theorem w_while {tb : TS} (w : Wd F0 H0 G H) (Pv : Nat → L2.St → Hp → Hp → Prop) (m0 : Nat) (h0 : Pv m0 σ G H)
    (hs : ∀ m σ' G' H', Wd F0 H0 G' H' → Ex G G' → Pv m σ' G' H' → ∃ b, EvT c σ' G' b ∧
      (b = true → ∀ H2, Wd F0 H0 G' H2 → Stp none G' H' G' H2 → tb { D with nx := Nxt F0 H0 G (fun σ2 G2 H2 => ∃ m2, m2 < m ∧ Pv m2 σ2 G2 H2), ct := Nxt F0 H0 G (fun σ2 G2 H2 => ∃ m2, m2 < m ∧ Pv m2 σ2 G2 H2), bk := tz D } σ' H2) ∧
      (b = false → ∀ H2, Wd F0 H0 G' H2 → Stp none G' H' G' H2 → tz D σ' H2)) : tSeq (tWhile c tb) tz D σ H := v_while (D := { D with nx := tz D }) w Pv m0 h0 hs
/-- xs.insert(i, e), a list of one's own -/
def rIns : V → List V → Hp → VK → Prop := fun x vs H Q => ∃ (l : Addr) (xs : List V) (i : Int) (y : V), x = .ref l ∧ vs = [.int i, y] ∧ H l = some (.lst xs) ∧ xs.length < sizeLine ∧ 0 ≤ i ∧ i < 2 ^ 63 ∧
    Q .non (upd H l (.lst (xs.take i.toNat ++ [y] ++ xs.drop i.toNat)))
theorem mt_ins {X : Cx} : MtR X "list.insert" rIns := mt_insert
theorem Al.take' {R : V → α → Prop} : ∀ (n : Nat) {xs : List V} {as : List α}, Al R xs as → Al R (xs.take n) (as.take n)
  | 0, _, _, _ => by
    rw [List.take_zero, List.take_zero]
    exact .nil
  | n + 1, _, _, .nil => .nil
  | n + 1, _, _, .cons h t => .cons h (Al.take' n t)
theorem Al.drop' {R : V → α → Prop} : ∀ (n : Nat) {xs : List V} {as : List α}, Al R xs as → Al R (xs.drop n) (as.drop n)
  | 0, _, _, h => h
  | n + 1, _, _, .nil => .nil
  | n + 1, _, _, .cons h t => Al.drop' n t
theorem v_ins {n : Nat} {tp : TE} (w : Wd F0 H0 G H) (hi : σ[i]? = some (some (.ref p))) (m : Mu r as G H p) (h0 : H0 p = none) (hl : as.length < 100000) (hn : n ≤ 100000) (hp : Er rInt tp σ G (n : Int)) (h : Er r te σ G a)
    (k : ∀ G2 H2, Wd F0 H0 G2 H2 → Stp (some p) G H G2 H2 → Mu r (as.take n ++ [a] ++ as.drop n) G2 H2 p → D.nx σ H2) : tDrop (tBM K "list" rIns (tVar i) (tCons tp (tCons te tNil))) D σ H := by
  obtain ⟨h1, xs, h2, h3⟩ := m
  refine ⟨_, hi, Or.inl ⟨rfl, xs, SqL.of h2⟩, hp H w.sub _ fun u H1 e1 hu => h H1 (w.sub.trans e1) _ fun v H2 e2 hv => ?_⟩
  cases (show u = V.int (n : Int) from hu)
  have e12 := e1.trans e2
  refine ⟨p, xs, (n : Int), v, rfl, rfl, e12 p _ h2, by rw [h3.len]; exact sz_lt hl, by omega, by omega, ?_⟩
  have hG : part G H H2 p = none := part_old h1 h2
  refine k (part G H H2) _ ((w.ev e12).put hG h0) (Stp.trans (stp_ev e12).any stp_put) ⟨hG, _, upd_same, ?_⟩
  have h4 := h3.imp fun _ _ k => r.mono (part_ex (F := G) (H1 := H) (H2 := H2)) k
  exact Al.app (Al.app (Al.take' _ h4) (.cons (r.mono (part_back e1) hv) .nil)) (Al.drop' _ h4)
theorem w_ins {n : Nat} {tp : TE} (w : Wd F0 H0 G H) (hi : σ[i]? = some (some (.ref p))) (m : Mu r as G H p) (h0 : H0 p = none) (hl : as.length < 100000) (hn : n ≤ 100000) (hp : Er rInt tp σ G (n : Int)) (h : Er r te σ G a)
    (k : ∀ G2 H2, Wd F0 H0 G2 H2 → Stp (some p) G H G2 H2 → Mu r (as.take n ++ [a] ++ as.drop n) G2 H2 p → tz D σ H2) : tSeq (tDrop (tBM K "list" rIns (tVar i) (tCons tp (tCons te tNil)))) tz D σ H := v_ins (D := { D with nx := tz D }) w hi m h0 hl hn hp h k
/-- what stands for one thing stands for another -/
theorem Al.re {R : V → α → Prop} {S : V → β → Prop} {f : β → α} (h : ∀ v c, R v (f c) → S v c) : ∀ {xs : List V} {cs : List β}, Al R xs (cs.map f) → Al S xs cs
  | _, [], h1 => by
    cases h1
    exact .nil
  | _, c :: cs, h1 => by
    rw [List.map_cons] at h1
    cases h1 with
    | cons h2 t => exact .cons (h _ _ h2) (Al.re h t)
theorem er_re {f : β → α} {c : β} (h : Er r te σ F (f c)) (hf : ∀ H v c, r.rel H v (f c) → s.rel H v c) : Er s te σ F c := fun H1 e Q q => h H1 e Q fun v H2 e2 hv => q v H2 e2 (hf _ _ _ hv)
theorem en_re {f : β → α} (hf : ∀ H v c, r.rel H v (f c) → s.rel H v c) (h : En r te σ F (bs.map f)) : En s te σ F bs := fun H1 e Q q => h H1 e Q fun p H2 e2 ⟨h1, xs, h2, h3⟩ => q p H2 e2 ⟨h1, xs, h2, Al.re (fun v c => hf _ v c) h3⟩
theorem lexLt_dec : ∀ xs ys : List Int, HT.lexLt xs ys = decide (xs < ys)
  | [], [] => by simp [HT.lexLt]
  | [], y :: ys => by simp [HT.lexLt]
  | x :: xs, [] => by simp [HT.lexLt]
  | x :: xs, y :: ys => by
    rw [HT.lexLt_cons, lexLt_dec xs ys]
    by_cases h : x = y
    · subst h
      simp [List.cons_lt_cons_iff]
    · by_cases h2 : x < y
      · simp [List.cons_lt_cons_iff, h, h2]
      · simp [List.cons_lt_cons_iff, h, h2]
theorem er_ltT {xs ys : List Int} (ha : Er (rTup rInt) ta σ F xs) (hb : Er (rTup rInt) tb σ F ys) : Er rBl (tOp (rLtT K) ta tb) σ F (decide (xs < ys)) := fun H1 e Q q =>
  ha H1 e _ fun v H2 e2 ⟨p, zs, hx, hp, hal⟩ => hb H2 (e.trans e2) _ fun u H3 e3 ⟨p2, zs2, hx2, hp2, hal2⟩ => by
    rw [rel_ints hal] at hp
    rw [rel_ints hal2] at hp2
    have h1 := (part_sub (e.trans e2)) p _ hp
    have h2 := (part_sub (e.trans (e2.trans e3))) p2 _ hp2
    refine ⟨p, p2, xs, ys, hx, hx2, SqT.of (e3 _ _ h1), SqT.of h2, ?_⟩
    rw [lexLt_dec]
    exact q _ H3 (e2.trans e3) rfl
end
end DL
set_option Elab.async false
set_option linter.all false
set_option maxRecDepth 100000
set_option maxHeartbeats 4000000
/-! an own error over an own error over ValueError, whose __init__ says super().__init__('..') and keeps one field -/
namespace DLE
open PySem PySem.W PySem.Calls PyProof.Rows PySem.HandSPX
def iA (fld : Str) (p1 p2 : Pos) : Arguments := { posonlyargs := [], args := [{ arg := "self", annotation := none, pos := p1 }, { arg := fld, annotation := none, pos := p2 }], vararg := none, kwonlyargs := [], kw_defaults := [], kwarg := none, defaults := [] }
def iB (fld txt : Str) (k : Nat) (q1 q2 q3 q4 q5 q6 r1 r2 r3 r4 : Pos) : List Stmt :=
  [.Expr (.Call (.Attribute (.Call (.Name "super" q1) [] [] q2) "__init__" q3) [.Constant (.str txt) k q4] [] q5) q6,
   .Assign [.Attribute (.Name "self" r1) fld r2] (.Name fld r3) r4]
def iS (fld : Str) : Scope := { kind := .function, names := [(PySem.Str.ofString "self", .local), (fld, .local), (PySem.Str.ofString "__class__", .free), (PySem.Str.ofString "super", .globalImplicit)], isGenerator := false, isCoroutine := false, more := [] }
/-- the call is on one row: how it is read -/
def OneRow (txt : Str) (k : Nat) (q1 q2 q3 q4 q5 : Pos) : Prop := ∃ pl : Sem Bool, ∀ env : Env, eval (.Call (.Attribute (.Call (.Name "super" q1) [] [] q2) "__init__" q3) [.Constant (.str txt) k q4] [] q5) env = (do
      let ov ← attributeBase (.Call (.Name "super" q1) [] [] q2) "__init__" env (eval (.Call (.Name "super" q1) [] [] q2) env)
      standAt q3.atName
      let (f, first) ← holding [ov] (getMethod ov "__init__" pl)
      callWith q5 f first (backTo q5 (starEach [.Constant (.str txt) k q4] env)) [])
/-- what the written part says of the class at C, whose __init__ is at fI, its cell at cc, its code at cd -/
structure OwnTxt (P : Program) (K : Frag) (mg : Str → Option Value) (qn fld : Str) (C fI cc cd : Addr) : Prop where
  f1 : (("self" : Str) == fld) = false
  f2 : (iS fld).names.lookup ("super" : Str) = some .globalImplicit
  f3 : (iS fld).names.lookup ("__class__" : Str) = some .free
  f4 : (iS fld).names.lookup fld = some .local
  f5 : (fld == ("__debug__" : Str)) = false
  bnd : ∀ (B : List Stmt) (doc pm : Value) (an : Option Addr) (cdv ct : Value) (p1 p2 : Pos) (a b : Value), bindArgs (ksFn "__init__" qn (iA fld p1 p2) B (iS fld) .none .none doc pm an cdv ct cc) ⟨[a, b], []⟩ = pure [((PySem.Str.ofString "self"), a), (fld, b)]
  cls : ∃ nm q N bs bm sn sub ab col dd k0 k1 k2 k3 k5, K.lookup C = some (excClassObj nm q C N bs bm true sn sub ab col dd k0 k1 k2 k3 k5 "ValueError.__new__") ∧ refsVE bm = true ∧ alongIn K "__init__" bm = some (some (.builtin "ValueError.__init__"))
  sa : findIn K (.ref C) "__setattr__" = some (some (.builtin "object.__setattr__"))
  noN : findIn K (.ref C) fld = some none
  vE : subIn K (.ref C) (.type "ValueError") = some true
  iC : findIn K (.ref C) "__init__" = some (some (.ref fI))
  tC : typeIn K (.ref fI) = some (.type "function")
  ga : findIn K (.ref C) "__getattribute__" = some (some (.builtin "BaseException.__getattribute__"))
  gg : findIn K (.ref C) "__getattr__" = some none
  kC : keepIn K (.ref C) = true
  exC : subIn K (.ref C) (.type "BaseException") = some true
  tyC : typeIn K (.ref C) = some (.type "type")
  hdC : hasDictIn K C = true
  opq : nsIn K cStatics "thirdparty.any" = some none
  cell : ∃ cl cld csl, K.lookup cc = some ⟨cl, cld, .cell (some (.ref C)), csl⟩
  code : ∃ ccl cdd vs ccs file tf, K.lookup cd = some ⟨ccl, cdd, .fields vs, ccs⟩ ∧ vs[2]? = some (.str file tf) ∧ ((P.main.file : Str) == file) = true
  top : (P.main.scope.names.lookup ("super" : Str)).isSome = false
  sup : mg "super" = none
  fn : ∃ (oc : Value) (od : Option Addr) (doc pm : Value) (an : Option Addr) (ct : Value) (osl : Array (Option Value)) (p1 p2 : Pos) (txt : Str) (k : Nat) (q1 q2 q3 q4 q5 q6 r1 r2 r3 r4 : Pos),
    K.lookup fI = some ⟨oc, od, .func (ksFn "__init__" qn (iA fld p1 p2) (iB fld txt k q1 q2 q3 q4 q5 q6 r1 r2 r3 r4) (iS fld) .none .none doc pm an (.ref cd) ct cc), osl⟩ ∧ codeIn K (.ref cd) qn = true ∧ OneRow txt k q1 q2 q3 q4 q5
/-- what __init__ leaves of a fresh exception at x -/
structure InitEnd (fld : Str) (h h' : Heap) (x C dx t1 : Addr) (v : Value) : Prop where
  keep : ∀ b o, b ≠ x → h.get? b = some o → h'.get? b = some o
  obj : h'.get? x = some { cls := .ref C, dict := some dx, data := .fields #[.ref t1, .none, .none, .none, .bool false, .none] }
  dbig : h.objs.size ≤ dx
  dne : dx ≠ x
  ns : h'.Ns1 dx (fun y => if y = fld then some v else none)
section
variable {prog : Program} {w : World} {A : Around} {E : Value → Shared → Prop} {h : Heap} {g : Array GenState} {d : Drawn} {t : Nat} {os : OsState}
/-- super().__init__(..) called: the args are laid anew -/
theorem call_mw {nm q : Str} {C N u e t0 : Addr} {bs bm : List Value} {hdct : Bool} {sn : List Str} {sub : List Value} {ab : Bool} {col : Option Bool} {dd : Option Addr} {k0 k1 k2 k3 k5 : Option Value} {rest : List Value} {Q : Value → Shared → Prop}
    (hC : h.get? C = some (excClassObj nm q C N bs bm hdct sn sub ab col dd k0 k1 k2 k3 k5 "ValueError.__new__")) (he : h.get? e = some (excO C t0)) (hu : h.get? u = some (kxs_mw "ValueError.__init__" e)) (hrest : rest.length ≤ sizeLine)
    (hq : ∀ h' t1, (∀ b o, b ≠ e → h.get? b = some o → h'.get? b = some o) → h'.get? e = some (excO C t1) → Q .none ⟨h', g, d, t, os⟩) :
    wpAny (model prog w) A (call (.ref u) rest) Q E ⟨h, g, d, t, os⟩ := by
  refine wpAny_call (codeAny_of_tree ?_)
  show wpAny _ A.in1 (callAny (.ref u) ⟨rest, []⟩) _ _ _
  simp only [callAny]
  refine wpAny_bind (wpAny_load hu ?_)
  simp only [kxs_mw, show (Value.type "method-wrapper" == Value.type "method" || Value.type "method-wrapper" == Value.type "builtin_function_or_method" || Value.type "method-wrapper" == Value.type "method-wrapper") = true by decide, if_true]
  refine W.KFB.if_so (by decide) ?_
  refine wpAny_bind (check_bound_init F.excBase_ValueError.toExcCallFacts hC he rfl ?_)
  refine wpAny_bind (wpAny_pure (wpAny_pure ?_))
  refine ⟨Code.quiet_builtin _ (by decide +kernel), codeAny_builtin F.excBase_ValueError.initEntry ?_⟩
  exact exc_init_tree (cls := .ref C) (t0 := t0) (dv := none) (c2 := .none) (c3 := .none) (b4 := .bool false) he hrest fun h' k1 k2 _ => hq h' _ k1 k2
end
section
variable {P : Program} {w : World} {A : Around} {R : Result → Shared → Prop} {s : Shared} {K : Frag} {mg : Str → Option Value} {qn fld : Str} {C fI cc cd : Addr}
theorem own_init (T : OwnTxt P K mg qn fld C fI cc cd) {x t0 : Addr} {v : Value} (X : K.In s.heap) (hlim : s.heap.NoLimit) (hg : s.heap.Ns mainGlobals mg) (hb : ∃ mb, s.heap.Ns builtinsNs mb ∧ ∀ x : Str, x ≠ "__name__" → mb x = bootBuiltins x)
    (hx : s.heap.get? x = some (excO C t0)) (hnx : K.lookup x = none) (hroom : A.depth < recursionLimit)
    (hq : ∀ h' tk dx t1, InitEnd fld s.heap h' x C dx t1 v → R (.ok (.ret .none)) { s with heap := h', toks := tk }) :
    codeAny (model P w) A (.call (.ref fI) ⟨[.ref x, v], []⟩) R s := by
  obtain ⟨oc, od, doc, pm, an, ct, osl, p1, p2, txt, k, q1, q2, q3, q4, q5, q6, r1, r2, r3, r4, ho, hcd, pl, hrow⟩ := T.fn
  obtain ⟨nm, q, N, bs, bm, sn, sub, ab, col, dd, k0, k1, k2, k3, k5, hC, hbm, hal⟩ := T.cls
  obtain ⟨ccl, cdd, vs, ccs, file, tf, hcode, hvs, hfile⟩ := T.code
  obtain ⟨cl, cld, csl, hcell⟩ := T.cell
  obtain ⟨mb, hbn, hbb⟩ := hb
  have hcl : clsIn K C = some { name := nm, bases := bs, mro := .ref C :: bm, ns := N, qualname := q, hasDict := true, slotNames := sn, subclasses := sub, abstract := ab, collection := col, hasDel := false } := by unfold clsIn; rw [hC] <;> rfl
  have hmro : mroIn K C (.ref C) = some true := by
    unfold mroIn
    rw [hcl, Option.bind_some, if_neg (show ¬ (List.isEmpty (Value.ref C :: bm) = true) from Bool.false_ne_true)]
    show some ((Value.ref C :: bm).contains (Value.ref C)) = some true
    rw [List.contains_cons, beq_self_eq_true, Bool.true_or]
  refine ks_codeAny_call_defAt (fd := ksFn "__init__" qn (iA fld p1 p2) (iB fld txt k q1 q2 q3 q4 q5 q6 r1 r2 r3 r4) (iS fld) .none .none doc pm an (.ref cd) ct cc) (body := iB fld txt k q1 q2 q3 q4 q5 q6 r1 r2 r3 r4) (binds := [((PySem.Str.ofString "self"), .ref x), (fld, v)]) hroom (X _ _ ho) rfl hlim (codeRec_of X hcd) rfl (BindsTo.of_eq (T.bnd _ _ _ _ _ _ _ _ _ _)) ?_ ?_ (fun h₁ hns kp => ?_) rfl rfl rfl
  · intro y hy
    rcases List.mem_cons.mp hy with e | hy
    · rw [e]; exact fun z => nomatch z
    rcases List.mem_cons.mp hy with e | hy
    · rw [e]; exact fun z => nomatch z
    rcases List.mem_cons.mp hy with e | hy
    · rw [e]; exact fun z => nomatch z
    rcases List.mem_cons.mp hy with e | hy
    · rw [e]; exact fun z => nomatch z
    · cases hy
  · intro y hy
    rcases List.mem_cons.mp hy with e | hy
    · rw [e]; rfl
    rcases List.mem_cons.mp hy with e | hy
    · rw [e]; exact T.f4
    · cases hy
  · have X₁ : K.In h₁ := X.keeps kp
    have hx₁ := kp _ _ hx
    have z : s.heap.objs.size < h₁.objs.size := hns.lt
    have hself : (fun y => [((fld : Str), v), (("self" : Str), Value.ref x)].lookup y) "self" = some (.ref x) := by
      show List.lookup ("self" : Str) [((fld : Str), v), (("self" : Str), Value.ref x)] = _
      rw [List.lookup_cons, T.f1]
      rfl
    have hfld : (fun y => [((fld : Str), v), (("self" : Str), Value.ref x)].lookup y) fld = some v := by
      show List.lookup fld [((fld : Str), v), (("self" : Str), Value.ref x)] = _
      rw [List.lookup_cons, beq_self_eq_true]
    have hloc : (ksEnv qn (iS fld) s.heap.objs.size fI (.ref cd) cc).kindOf "self" = some .local := rfl
    have hxC : x ≠ C := fun e => by
      rw [e, hC] at hnx
      cases hnx
    have lab : ∀ {h' : Heap}, K.In h' → Looks (model P w) h' (mroOf (.ref C)) (.ref C :: bm) := fun X' A Q E s k q => wpAny_bind ((looks_clsIn X' hcl) A _ E s k (wpAny_pure q))
    show _root_.PySem.wpAt _ _ _ (execs (iB fld txt k q1 q2 q3 q4 q5 q6 r1 r2 r3 r4) _) _ _ _
    refine ks_wpAt_execs_cons (ks_wpAt_Expr_any (ks_wpAt_MethodCall (pl := pl) ?_ (hrow _)))
    refine ks_wpAt_super_base (env := ksEnv qn (iS fld) s.heap.objs.size fI (.ref cd) cc) T.f2 T.f3 (by decide) rfl (X₁ _ _ ho) rfl rfl rfl (X₁ _ _ hcode) rfl hvs hfile T.top ?_
    refine ks_loadName_global rfl T.f2 (loadGlobal_builtin (env := ksEnv qn (iS fld) s.heap.objs.size fI (.ref cd) cc) (hg.keeps kp) T.sup (hbn.keeps kp) ((hbb _ (by decide)).trans (by rfl)) ⟨rfl, ?_⟩)
    refine wpAny_loadName_free rfl T.f3 rfl ⟨_, X₁ _ _ hcell, rfl⟩ ?_
    refine wpAny_loadName_local rfl hloc hns hself ?_
    refine ks_wpAny_isType_cls (X₁ _ _ hC) rfl ⟨rfl, ?_⟩
    refine ks_wpAny_call_super (X₁ _ _ hC) rfl hx₁ rfl (fun c e => nomatch e) (looks_mroIn X₁ hmro) (fun h₂ e2 k2 => ?_)
    have X₂ : K.In h₂ := X₁.keeps k2
    have hx₂ := k2 _ _ hx₁
    have hns2 := hns.keeps k2
    have I₂ : InstAt h₂ x (excO C t0) C none := ⟨hx₂, rfl, rfl, trivial⟩
    refine kxs_getMethod kxs_ValueError e2 (looks_opaque X₂ T.opq) (lab X₂) (l := bm) (by simp [List.dropWhile_cons]) X₂ hal (I₂.type.andThen (looks_subIn X₂ T.vE)) hxC (by decide) ?_
    have k3 : ∀ b o, h₂.get? b = some o → (h₂.push (kxs_mw "ValueError.__init__" x)).get? b = some o := fun b o e => Heap.get?_push_of_some _ e
    have hu : (h₂.push (kxs_mw "ValueError.__init__" x)).get? h₂.objs.size = some (kxs_mw "ValueError.__init__" x) := Heap.get?_push_at rfl rfl
    refine kxs_callWith (i := "ValueError.__init__") (x := x) rfl ?_
    refine evalArgs_plain (show wpAny _ _ (spliced (backTo q5 (starEach [Expr.Constant (.str txt) k q4] (ksEnv qn (iS fld) s.heap.objs.size fI (.ref cd) cc)))) _ _ _ from ?_)
    refine wpAny_items_cons (Constant_str (spliced_nil ⟨hu, ?_⟩))
    have hC3 := k3 _ _ (X₂ _ _ hC)
    refine call_mw hC3 (k3 _ _ hx₂) hu (by rw [sizeLine_eq]; exact (by decide : 1 ≤ 16777216)) (fun h₄ t1 k4 hx₄ => ?_)
    have hxL : s.heap.objs.size ≠ x := Nat.ne_of_gt (Heap.lt_size hx)
    have hns4 := (hns2.keeps k3).extBut k4 hxL
    have X₄ : K.In h₄ := fun a o e => k4 a o (fun z => by rw [z, hnx] at e; cases e) (k3 _ _ (X₂ a o e))
    show _root_.PySem.wpAt _ _ _ (execs _ _) _ _ _
    refine wpAt_of_wpAny ?_
    refine wpAny_execs_cons (plainObj_wpAny_Assign_Attribute ?_)
    refine wpAny_Name (wpAny_loadName_local rfl T.f4 hns4 hfld ?_) T.f5
    refine wpAny_Name (wpAny_loadName_local rfl hloc hns4 hself ?_) (by decide)
    refine set_plain X₄ (ox := excO C t1) (od := none) ⟨hx₄, rfl, rfl, trivial⟩ T.sa ?_
    refine exc_osa X₄ hx₄ hcl (show refsVE (.ref C :: bm) = true from hbm) rfl T.noN (fun h₅ tk₅ dx k₅ dn dne hx₅ hn₅ => ?_)
    show wpAny _ _ (execs _ _) _ _ _
    exact wpAny_execs_nil (hq h₅ tk₅ dx t1 ⟨fun b o hb e => k₅ b o hb (k4 b o hb (k3 b o (k2 b o (kp b o e)))), hx₅, Nat.le_of_lt (Nat.lt_of_lt_of_le hns4.lt dn), dne, hn₅⟩)
end

/-- a made error -/
structure Made (fld : Str) (h h' : Heap) (e C d : Addr) (v : Value) : Prop where
  keep : ∀ b o, h.get? b = some o → h'.get? b = some o
  new : h.objs.size ≤ e
  obj : ∃ oe vs, h'.get? e = some oe ∧ oe.cls = .ref C ∧ oe.dict = some d ∧ oe.data = .fields vs ∧ vs[1]? = some .none
  dbig : h.objs.size ≤ d
  dne : d ≠ e
  ns : h'.Ns1 d (fun y => if y = fld then some v else none)
section
variable {P : Program} {w : World} {A : Around} {R : Result → Shared → Prop} {s : Shared} {K : Frag} {mg : Str → Option Value} {qn fld : Str} {C fI cc cd : Addr}
theorem own_made (T : OwnTxt P K mg qn fld C fI cc cd) {v : Value} (X : K.In s.heap) (hlim : s.heap.NoLimit) (hg : s.heap.Ns mainGlobals mg) (hb : ∃ mb, s.heap.Ns builtinsNs mb ∧ ∀ x : Str, x ≠ "__name__" → mb x = bootBuiltins x) (hroom : A.depth + 1 < recursionLimit)
    (hq : ∀ h' tk e d, Made fld s.heap h' e C d v → R (.ok (.ret (.ref e))) { s with heap := h', toks := tk }) :
    codeAny (model P w) A (.call (.ref C) ⟨[v], []⟩) R s := by
  obtain ⟨nm, q, N, bs, bm, sn, sub, ab, col, dd, k0, k1, k2, k3, k5, hC, hbm, _⟩ := T.cls
  obtain ⟨hp, g, dr, tk, os⟩ := s
  obtain ⟨mb, hbn, hbb⟩ := hb
  have k : ∀ b o, hp.get? b = some o → ((hp.push (kdv_tup [v])).push (excO C hp.objs.size)).get? b = some o := fun b o e => Heap.get?_push_of_some _ (Heap.get?_push_of_some _ e)
  have hget : ((hp.push (kdv_tup [v])).push (excO C hp.objs.size)).get? (hp.objs.size + 1) = some (excO C hp.objs.size) := by heap_get
  have hnx : K.lookup (hp.objs.size + 1) = none := by
    cases e : K.lookup (hp.objs.size + 1) with
    | none => rfl
    | some o =>
      have z : hp.get? (hp.objs.size + 1) = some o := X _ _ e
      exact absurd (Nat.lt_of_succ_lt (Heap.lt_size z)) (Nat.lt_irrefl _)
  refine call_own F.excBase_ValueError (fun X => refsVE_contains X bm hbm) (X _ _ hC) (looks_findIn X T.iC) (fun self => bind_fn X self T.tC) (by rw [sizeLine_eq]; exact (by decide : 1 ≤ 16777216)) ?_
  refine own_init (s := ⟨(hp.push (kdv_tup [v])).push (excO C hp.objs.size), g, dr, tk, os⟩) T (X.keeps k) (hlim.keeps k) (hg.keeps k) ⟨mb, hbn.keeps k, hbb⟩ hget hnx ?_ fun h' tk' dx t1 M => ?_
  · show A.depth + 1 < recursionLimit
    exact hroom
  · have old : ∀ b o, hp.get? b = some o → h'.get? b = some o := fun b o e => M.keep b o (Nat.ne_of_lt (Nat.lt_succ_of_lt (Heap.lt_size e))) (k b o e)
    have z : hp.objs.size + 1 + 1 ≤ dx := by
      have q := M.dbig
      first
        | (simpa only [Heap.size_push] using q)
        | exact q
        | (rw [Heap.size_push, Heap.size_push] at q; exact q)
    exact ⟨rfl, hq h' tk' (hp.objs.size + 1) dx ⟨old, Nat.le_succ _, ⟨_, _, M.obj, rfl, rfl, rfl, rfl⟩, Nat.le_trans (Nat.le_trans (Nat.le_succ _) (Nat.le_succ _)) z, M.dne, M.ns⟩⟩
end
end DLE
namespace DLF
open PySem PySem.Spec PyProof.Rows L2
theorem relO_fld {fld : Str} {v : V} {v' : Value} (r : RelV v v') (f : Str) : RelO (List.lookup f [(fld, v)]) (if f = fld then some v' else none) := by
  rw [List.lookup_cons]
  by_cases h : f = fld
  · subst h
    rw [beq_self_eq_true, if_pos rfl]
    exact r
  · rw [beq_eq_false_iff_ne.mpr h, if_neg h]
    trivial
section
variable {X : Cx} {C fI cc cd : Addr} {qn fld : Str}
/-- C(e): a new error with the field fld -/
def tMkOwn (C : Addr) (fld : Str) (ta : TA) : L2.St → Hp → XK → Prop := fun σ H Q => ta σ H fun vs H1 => ∃ v, vs = [v] ∧ ∀ d, H1 d = none → Q (.ref C) (some d) (upd H1 d (.xd [(fld, v)]))
theorem pmk_fld {x : Str} {a : Expr} {ta : TA} {p pos : Pos} {k : Nat} (T : DLE.OwnTxt X.prog X.K X.mg qn fld C fI cc cd) (hm : X.mg x = some (.ref C)) (hr : Room k X.A) (ha : PA X [a] ta) (hg : Gl X x := by rfl)
    (he : starEach (a :: []) X.env = (false, eval a X.env) :: starEach [] X.env := by rfl) (hpl : (backTo pos (starEach [] X.env)).any (·.1) = false := by rfl) (hdb : (x == ("__debug__" : Str)) = false := by decide) :
    PMk X (.Call (.Name x p) [a] [] pos) (tMkOwn C fld ta) := by
  intro pins s σ H Q I h
  refine wpAny_Call_Name_kw (ld_glob I hg hm ?_ hdb)
  refine PySem.W.callWith_K (h₀ := X.base) I.ok.mod.kin T.kC (thn (ha.run pos pins s σ H _ I h) fun us s1 hh => ?_) he hpl
  obtain ⟨vs, H1, I1, r1, v, ev, q1⟩ := hh
  subst ev
  refine ⟨I1.kIn, ?_⟩
  obtain ⟨v', rfl, rv⟩ := vals1 r1
  have hlim := I1.nolimit
  have hgl := I1.mod.glob.keeps I1.bk
  obtain ⟨mb, hb1, hb2⟩ := I1.mod.blt
  have hb1 := hb1.keeps I1.bk
  obtain ⟨hp, g, dr, tk, os⟩ := s1
  refine wpAny_call (DLE.own_made T I1.kIn hlim hgl ⟨mb, hb1, hb2⟩ (by have := hr.dp; omega) fun h' tk' e d M => ?_)
  show MkP X pins σ Q (.ref e) ⟨h', g, dr, tk', os⟩
  obtain ⟨oe, fv, hoe, hc, hd, hdat, h1⟩ := M.obj
  have hns := M.ns
  obtain ⟨G', g1, g2⟩ := restrict h' fun b => decide (b ≠ e)
  have gk : ∀ b, b ≠ e → G'.get? b = h'.get? b := fun b hb => g1 b (decide_eq_true hb)
  have ge : G'.get? e = none := g2 e (by simp)
  have old : ∀ b o, hp.get? b = some o → G'.get? b = some o := fun b o q => (gk b (Nat.ne_of_lt (Nat.lt_of_lt_of_le (Heap.lt_size q) M.new))).trans (M.keep b o q)
  have ob : ObjOk X.prog X.w (upd H1 d (.xd [(fld, v)])) G' d (.xd [(fld, v)]) := ⟨_, hns.at (fun o q => (gk d M.dne).trans q), fun f => relO_fld rv f⟩
  have J : Inv X pins σ (upd H1 d (.xd [(fld, v)])) ⟨G', g, dr, tk', os⟩ := I1.laid (t' := tk') old M.dbig ob
  refine ⟨e, oe, fv, ⟨G', g, dr, tk', os⟩, _, .ref C, some d, rfl, J, fun b o q => ?_, ge, hoe, ⟨hc, hd⟩, hdat, h1, ?_, rfl, I1.bare, raises_own T.exC T.tyC, q1 d (I1.hok.fresh M.dbig)⟩
  · by_cases hb : b = e
    · have q' : G'.get? b = some o := q
      rw [hb, ge] at q'
      cases q'
    · exact (gk b hb).symm.trans q
  · rw [upd_ne (Ne.symm M.dne)]
    exact I1.hok.fresh M.new
/-- raise C(e) -/
def tRaiseOwn (C : Addr) (fld : Str) (W : WX) (ta : TA) : TS := fun _ σ H => tMkOwn C fld ta σ H fun cls d H' => W cls d σ H'
theorem ps_raiseOwn {x : Str} {a : Expr} {ta : TA} {W : WX} {p pos pos2 : Pos} {k : Nat} (hc : X.calm = true) (T : DLE.OwnTxt X.prog X.K X.mg qn fld C fI cc cd) (hm : X.mg x = some (.ref C)) (hr : Room k X.A) (tk : Takes X W) (ha : PA X [a] ta) (hg : Gl X x := by rfl)
    (he : starEach (a :: []) X.env = (false, eval a X.env) :: starEach [] X.env := by rfl) (hpl : (backTo pos (starEach [] X.env)).any (·.1) = false := by rfl) (hdb : (x == ("__debug__" : Str)) = false := by decide) :
    PS X (.Raise (some (.Call (.Name x p) [a] [] pos)) none pos2) (tRaiseOwn C fld W ta) := ps_raise hc tk (pmk_fld T hm hr ha hg he hpl hdb)
/-- e.fld, e the error that the suite holds (at a; its class cls, its dict d) -/
def tOwnF (C : Addr) (fld : Str) (a : Addr) (cls : Value) (d : Option Addr) (te : TE) : TE := fun σ H Q => te σ H fun x H1 => x = .ref a ∧ cls = .ref C ∧ ∃ (dd : Addr) (v : V), d = some dd ∧ H1 dd = some (.xd [(fld, v)]) ∧ Q v H1
theorem pe_ownF {a : Addr} {oe : Obj} {cls : Value} {d : Option Addr} {pn : List (Addr × Obj)} {e : Expr} {te : TE} {pos : Pos} (T : DLE.OwnTxt X.prog X.K X.mg qn fld C fI cc cd) (hz : Zc cls d oe) (hf : ∃ vs, oe.data = .fields vs) (he : PE (X.suite a ((a, oe) :: pn)) e te)
    (hb : attributeBase e fld X.env (eval e X.env) = eval e X.env := by rfl) :
    PE (X.suite a ((a, oe) :: pn)) (.Attribute e fld pos) (tOwnF C fld a cls d te) := by
  refine ⟨fun pins s σ H Q I h => ?_⟩
  refine attr_of hb (thn (he.run pins s σ H _ I h) fun u s1 hh => ?_)
  obtain ⟨x, H1, I1, rx, ex, ec, dd, v, ed, ea, q⟩ := hh
  subst ex
  obtain rfl : u = Value.ref a := rx
  subst ec
  subst ed
  obtain ⟨ha, _⟩ := I1.pin (a, oe) (List.mem_append_left _ List.mem_cons_self)
  obtain ⟨vs, hd⟩ := hf
  have hx : ObjOk X.prog X.w H1 s1.heap dd (.xd [(fld, v)]) := I1.hok dd _ ea
  obtain ⟨mA, hns, hr⟩ := hx
  obtain ⟨od, ho, hl⟩ := lookIn_ns hns
  have l : List.lookup fld [(fld, v)] = some v := by
    rw [List.lookup_cons, beq_self_eq_true]
  obtain ⟨u, hu, ru⟩ := RelO.some_of (v := v) (o := mA fld) (by rw [← l]; exact hr fld)
  have J : PySem.W.InstAt s1.heap a oe C (some od) := ⟨ha, hz.1, by unfold PySem.W.notCls; rw [hd] <;> rfl, by rw [hz.2]; exact ho⟩
  exact HandSPX.exc_get I1.kIn J T.ga T.gg T.exC (PySem.W.findObj_own T.hdC T.noN rfl (by rw [hl, hu])) (handed_of ru) ⟨v, H1, I1.tok _, ru, q⟩
end
end DLF
set_option Elab.async false
set_option linter.all false
set_option maxRecDepth 100000
set_option maxHeartbeats 4000000
/-! isinstance(e, c), e the own error with a field that the suite holds -/
namespace DLF
open PySem PySem.Spec PyProof.Rows L2
structure IsTxt (K : PySem.W.Frag) (C : Addr) : Prop where
  cl : (PySem.W.clsIn K C).isSome = true
  ha : PySem.W.findIn K (.ref C) "__class__" = some (some (.builtin "object.__class__"))
  hn : PySem.W.specialIn K (.builtin "object.__class__") "__get__" = some (some (.builtin "getset_descriptor.__get__"))
  ht : PySem.W.takesIn K (.builtin "object.__class__") = some true
  hm : PySem.W.mroIn K C (.type "object") = some true
def rIsF (K : PySem.W.Frag) (C a dd : Addr) : List V → Hp → VK → Prop := fun xs H Q => ∃ (c : V) (cv : Value) (b : Bool) (fs : List (Str × V)), xs = [.ref a, c] ∧ (∀ u, RelV c u → u = cv) ∧ PySem.W.kitOne K (.ref C) cv = some b ∧ H dd = some (.xd fs) ∧ Q (.bl b) H
theorem call_isF {X : Cx} {a C dd fI cc cd : Addr} {qn fld : Str} {oe : Obj} {pn : List (Addr × Obj)} (T : DLE.OwnTxt X.prog X.K X.mg qn fld C fI cc cd) (I0 : IsTxt X.K C) (hz : Zc (.ref C) (some dd) oe) (hf : ∃ vs, oe.data = .fields vs) :
    CallR (X.suite a ((a, oe) :: pn)) (.builtin "isinstance") (rIsF X.K C a dd) := by
  intro pins s σ H xs us Q I r h
  obtain ⟨c, cv, b, fs, rfl, hcv, e, hd, q⟩ := h
  obtain ⟨u1, u2, rfl, rx, rt⟩ := vals2 r
  obtain rfl : u1 = Value.ref a := rx
  have ec := hcv _ rt
  subst ec
  obtain ⟨hget, _⟩ := I.pin (a, oe) (List.mem_append.mpr (.inl List.mem_cons_self))
  obtain ⟨vs, hv⟩ := hf
  have hxd : ObjOk X.prog X.w H s.heap dd (.xd fs) := I.hok dd _ hd
  obtain ⟨mA, hns, _⟩ := hxd
  obtain ⟨od, ho, _⟩ := lookIn_ns hns
  have J : PySem.W.InstAt s.heap a oe C (some od) := ⟨hget, hz.1, by unfold PySem.W.notCls; rw [hv] <;> rfl, by rw [hz.2]; exact ho⟩
  exact PySem.W.kia_one (PySem.W.kitx_exc I0.cl T.ga T.gg T.exC I0.ha I0.hn I0.ht I0.hm) I.kIn J e (fun z => nomatch z) fun tk => ⟨.bl b, H, I.kept (t' := tk) fun _ _ z => z, rfl, q⟩
end DLF
set_option Elab.async false
set_option linter.all false
set_option maxRecDepth 100000
set_option maxHeartbeats 1000000
/-! rows modulo 97: independence, and how steps of an elimination keep it. A row is a function of the column; w columns count -/
namespace LA97
abbrev Vec := Nat → Int
abbrev Z (x : Int) : Prop := (97 : Int) ∣ x
theorem inv_table : ∀ r : Fin 97, r.val ≠ 0 → ∃ s : Fin 97, (r.val * s.val) % 97 = 1 := by decide +kernel
theorem inv_of {a : Int} (h : ¬ Z a) : ∃ b : Int, Z (b * a - 1) := by
  have h1 : a % 97 ≠ 0 := fun e => h (Int.dvd_of_emod_eq_zero e)
  have h0 := Int.emod_nonneg a (show (97 : Int) ≠ 0 by decide)
  have h9 := Int.emod_lt_of_pos a (show (0 : Int) < 97 by decide)
  obtain ⟨n, hn⟩ := Int.eq_ofNat_of_zero_le h0
  obtain ⟨s, hs⟩ := inv_table ⟨n, by omega⟩ (by show n ≠ 0; omega)
  have hs' : n * s.val % 97 = 1 := hs
  refine ⟨(s.val : Int), ?_⟩
  have e1 : a = 97 * (a / 97) + n := by
    have := Int.mul_ediv_add_emod a 97
    omega
  have e2 : ((n * s.val : Nat) : Int) = 97 * ((n * s.val / 97 : Nat) : Int) + 1 := by
    have := Nat.div_add_mod (n * s.val) 97
    omega
  refine ⟨(s.val : Int) * (a / 97) + ((n * s.val / 97 : Nat) : Int), ?_⟩
  rw [Int.natCast_mul] at e2
  have e3 : (s.val : Int) * a = (s.val : Int) * (97 * (a / 97)) + (n : Int) * s.val := by
    conv => lhs; rw [e1]
    rw [Int.mul_add, Int.mul_comm (s.val : Int) (n : Int)]
  have e4 : (s.val : Int) * (97 * (a / 97)) = 97 * ((s.val : Int) * (a / 97)) := by
    rw [← Int.mul_assoc, Int.mul_comm (s.val : Int) 97, Int.mul_assoc]
  rw [e3, e4, e2, Int.mul_add]
  omega
theorem Z.add {a b : Int} (h : Z a) (k : Z b) : Z (a + b) := Int.dvd_add h k
theorem Z.sub {a b : Int} (h : Z a) (k : Z b) : Z (a - b) := Int.dvd_sub h k
theorem Z.mulL {a : Int} (h : Z a) (b : Int) : Z (b * a) := Int.dvd_mul_of_dvd_right h
theorem Z.mulR {a : Int} (h : Z a) (b : Int) : Z (a * b) := Int.dvd_mul_of_dvd_left h
theorem Z.zero : Z 0 := ⟨0, rfl⟩
/-- 97 is prime -/
theorem Z.prime {a b : Int} (h : Z (a * b)) (ha : ¬ Z a) : Z b := by
  obtain ⟨c, hc⟩ := inv_of ha
  have h1 : Z (c * (a * b)) := h.mulL c
  have h2 : Z ((c * a - 1) * b) := hc.mulR b
  have e : c * (a * b) - (c * a - 1) * b = b := by
    rw [Int.sub_mul, Int.one_mul, Int.mul_assoc]
    omega
  rw [← e]
  exact h1.sub h2
def comb : List (Int × Vec) → Vec
  | [], _ => 0
  | p :: ps, j => p.1 * p.2 j + comb ps j
theorem comb_app (ps qs : List (Int × Vec)) (j : Nat) : comb (ps ++ qs) j = comb ps j + comb qs j := by
  induction ps with
  | nil => simp [comb]
  | cons p ps ih =>
    show p.1 * p.2 j + comb (ps ++ qs) j = p.1 * p.2 j + comb ps j + comb qs j
    rw [ih, Int.add_assoc]
theorem comb_perm {ps qs : List (Int × Vec)} (h : ps.Perm qs) (j : Nat) : comb ps j = comb qs j := by
  induction h with
  | nil => rfl
  | cons x _ ih =>
    show x.1 * x.2 j + _ = x.1 * x.2 j + _
    rw [ih]
  | swap x y l =>
    show y.1 * y.2 j + (x.1 * x.2 j + comb l j) = x.1 * x.2 j + (y.1 * y.2 j + comb l j)
    omega
  | trans _ _ h1 h2 => rw [h1, h2]
/-- no combination of them is zero but with zeros -/
def Indep (w : Nat) (vs : List Vec) : Prop := ∀ ps : List (Int × Vec), ps.map (·.2) = vs → (∀ j, j < w → Z (comb ps j)) → ∀ p ∈ ps, Z p.1
theorem lift_perm {l m : List Vec} (h : l.Perm m) : ∀ qs : List (Int × Vec), qs.map (·.2) = m → ∃ ps : List (Int × Vec), ps.map (·.2) = l ∧ ps.Perm qs := by
  induction h with
  | nil =>
    intro qs e
    exact ⟨qs, e, .refl _⟩
  | cons x _ ih =>
    intro qs e
    cases qs with
    | nil => cases e
    | cons q qs =>
      obtain ⟨e1, e2⟩ := List.cons.inj e
      obtain ⟨ps, h1, h2⟩ := ih qs e2
      exact ⟨q :: ps, by rw [List.map_cons, h1, show q.2 = x from e1], h2.cons q⟩
  | swap x y l =>
    intro qs e
    match qs, e with
    | a :: b :: t, e =>
      obtain ⟨e1, e2⟩ := List.cons.inj e
      obtain ⟨e3, e4⟩ := List.cons.inj e2
      exact ⟨b :: a :: t, by rw [List.map_cons, List.map_cons, e4, show a.2 = x from e1, show b.2 = y from e3], .swap a b t⟩
  | trans _ _ h1 h2 =>
    intro qs e
    obtain ⟨ps, k1, k2⟩ := h2 qs e
    obtain ⟨rs, k3, k4⟩ := h1 ps k1
    exact ⟨rs, k3, k4.trans k2⟩
theorem Indep.perm {w : Nat} {l m : List Vec} (h : l.Perm m) (i : Indep w l) : Indep w m := fun qs e hz p hp => by
  obtain ⟨ps, h1, h2⟩ := lift_perm h qs e
  exact i ps h1 (fun j hj => by rw [comb_perm h2]; exact hz j hj) p (h2.mem_iff.mpr hp)
theorem indep_perm {w : Nat} {l m : List Vec} (h : l.Perm m) : Indep w l ↔ Indep w m := ⟨Indep.perm h, Indep.perm h.symm⟩
theorem split_map {ps : List (Int × Vec)} {a b : List Vec} {v : Vec} (e : ps.map (·.2) = a ++ v :: b) : ∃ (p1 p2 : List (Int × Vec)) (c : Int), ps = p1 ++ (c, v) :: p2 ∧ p1.map (·.2) = a ∧ p2.map (·.2) = b := by
  obtain ⟨p1, p2, e1, e2, e3⟩ := List.map_eq_append_iff.mp e
  obtain ⟨q, p3, rfl, e5, e6⟩ := List.map_eq_cons_iff.mp e3
  obtain ⟨c, u⟩ := q
  cases (show u = v from e5)
  exact ⟨p1, p3, c, e1, e2, e6⟩
/-- the coefficients that stand before the lead, in sum -/
def leads (β : Vec → Int) : List (Int × Vec) → Int
  | [] => 0
  | p :: ps => p.1 * β p.2 + leads β ps
theorem leads_zero {β : Vec → Int} : ∀ {ps : List (Int × Vec)}, (∀ p ∈ ps, Z p.1) → Z (leads β ps)
  | [], _ => Z.zero
  | p :: ps, h => ((h p List.mem_cons_self).mulR _).add (leads_zero fun q hq => h q (List.mem_cons_of_mem _ hq))
/-- f s is a multiple of s less a multiple of the lead, modulo 97 -/
def Op (w : Nat) (α : Int) (β : Vec → Int) (lead : Vec) (f : Vec → Vec) : Prop := ∀ s j, j < w → Z (f s j - (α * s j - β s * lead j))
theorem comb_op {w : Nat} {α : Int} {β : Vec → Int} {lead : Vec} {f : Vec → Vec} (h : Op w α β lead f) (j : Nat) (hj : j < w) : ∀ ps : List (Int × Vec), Z (comb (ps.map fun p => (p.1, f p.2)) j - (α * comb ps j - leads β ps * lead j))
  | [] => by
    show Z (0 - (α * 0 - 0 * lead j))
    rw [Int.mul_zero, Int.zero_mul]
    exact Z.zero
  | p :: ps => by
    have h1 := comb_op h j hj ps
    have h2 := (h p.2 j hj).mulL p.1
    have e : comb ((p :: ps).map fun p => (p.1, f p.2)) j - (α * comb (p :: ps) j - leads β (p :: ps) * lead j) = p.1 * (f p.2 j - (α * p.2 j - β p.2 * lead j)) + (comb (ps.map fun p => (p.1, f p.2)) j - (α * comb ps j - leads β ps * lead j)) := by
      show p.1 * f p.2 j + comb (ps.map fun p => (p.1, f p.2)) j - (α * (p.1 * p.2 j + comb ps j) - (p.1 * β p.2 + leads β ps) * lead j) = _
      have a1 : p.1 * (f p.2 j - (α * p.2 j - β p.2 * lead j)) = p.1 * f p.2 j - (α * (p.1 * p.2 j) - p.1 * β p.2 * lead j) := by
        rw [Int.mul_sub, Int.mul_sub, ← Int.mul_assoc p.1 α, Int.mul_comm p.1 α, Int.mul_assoc α, ← Int.mul_assoc p.1 (β p.2)]
      rw [a1, Int.mul_add, Int.add_mul]
      omega
    rw [e]
    exact h2.add h1
theorem map_op {f : Vec → Vec} {b : List Vec} : ∀ {qs : List (Int × Vec)}, qs.map (·.2) = b.map f → ∃ ps : List (Int × Vec), ps.map (·.2) = b ∧ qs = ps.map fun p => (p.1, f p.2) := by
  induction b with
  | nil =>
    intro qs e
    rw [List.map_nil] at e
    rw [List.map_eq_nil_iff.mp e]
    exact ⟨[], rfl, rfl⟩
  | cons v b ih =>
    intro qs e
    cases qs with
    | nil => cases e
    | cons q qs =>
      obtain ⟨e1, e2⟩ := List.cons.inj e
      obtain ⟨ps, h1, h2⟩ := ih e2
      refine ⟨(q.1, v) :: ps, by rw [List.map_cons, h1], ?_⟩
      rw [List.map_cons, ← h2]
      show q :: qs = (q.1, f v) :: qs
      rw [← e1]
theorem indep_op {w : Nat} {α : Int} {β : Vec → Int} {lead : Vec} {f : Vec → Vec} (h : Op w α β lead f) (hα : ¬ Z α) (a b : List Vec) : Indep w (a ++ lead :: b) ↔ Indep w (a ++ lead :: b.map f) := by
  constructor
  · intro i qs e hz
    obtain ⟨p1, q2, c, rfl, e1, e2⟩ := split_map e
    obtain ⟨p2, e3, rfl⟩ := map_op e2
    have i2 := i (p1 ++ (c - leads β p2, lead) :: p2.map fun p => (α * p.1, p.2)) (by
      rw [List.map_append, List.map_cons, e1, List.map_map]
      show a ++ lead :: p2.map (·.2) = _
      rw [e3]) fun j hj => by
        have h1 := hz j hj
        have h2 := comb_op h j hj p2
        have hs : ∀ ps : List (Int × Vec), comb (ps.map fun p => (α * p.1, p.2)) j = α * comb ps j := by
          intro ps
          induction ps with
          | nil =>
            show (0 : Int) = α * 0
            rw [Int.mul_zero]
          | cons p ps ih =>
            show α * p.1 * p.2 j + _ = α * (p.1 * p.2 j + comb ps j)
            rw [ih, Int.mul_add, Int.mul_assoc]
        rw [comb_app] at h1 ⊢
        have h1' : Z (comb p1 j + (c * lead j + comb (p2.map fun p => (p.1, f p.2)) j)) := h1
        show Z (comb p1 j + ((c - leads β p2) * lead j + comb (p2.map fun p => (α * p.1, p.2)) j))
        rw [hs, Int.sub_mul]
        have := h1'.sub h2
        have e : comb p1 j + (c * lead j + comb (p2.map fun p => (p.1, f p.2)) j) - (comb (p2.map fun p => (p.1, f p.2)) j - (α * comb p2 j - leads β p2 * lead j)) = comb p1 j + (c * lead j - leads β p2 * lead j + α * comb p2 j) := by omega
        rw [← e]
        exact this
    have z2 : ∀ p ∈ p2, Z p.1 := fun p hp => Z.prime (i2 (α * p.1, p.2) (List.mem_append_right _ (List.mem_cons_of_mem _ (List.mem_map.mpr ⟨p, hp, rfl⟩)))) hα
    intro p hp
    rcases List.mem_append.mp hp with q | q
    · exact i2 p (List.mem_append_left _ q)
    · rcases List.mem_cons.mp q with q | q
      · rw [q]
        have h3 : Z (c - leads β p2) := i2 (c - leads β p2, lead) (List.mem_append_right _ List.mem_cons_self)
        have := h3.add (leads_zero (β := β) z2)
        show Z c
        have e : c - leads β p2 + leads β p2 = c := by omega
        rw [← e]
        exact this
      · obtain ⟨u, hu, rfl⟩ := List.mem_map.mp q
        exact z2 u hu
  · intro i ps e hz
    obtain ⟨p1, p2, c, rfl, e1, e2⟩ := split_map e
    have i2 := i (p1.map (fun p => (α * p.1, p.2)) ++ (α * c + leads β p2, lead) :: p2.map fun p => (p.1, f p.2)) (by
      rw [List.map_append, List.map_cons, List.map_map, List.map_map]
      show p1.map (·.2) ++ lead :: p2.map (fun p => f p.2) = _
      rw [e1, ← e2, List.map_map]
      rfl) fun j hj => by
        have h1 := (hz j hj).mulL α
        have h2 := comb_op h j hj p2
        have hs : ∀ ps : List (Int × Vec), comb (ps.map fun p => (α * p.1, p.2)) j = α * comb ps j := by
          intro ps
          induction ps with
          | nil =>
            show (0 : Int) = α * 0
            rw [Int.mul_zero]
          | cons p ps ih =>
            show α * p.1 * p.2 j + _ = α * (p.1 * p.2 j + comb ps j)
            rw [ih, Int.mul_add, Int.mul_assoc]
        rw [comb_app] at h1 ⊢
        have h1' : Z (α * (comb p1 j + (c * lead j + comb p2 j))) := h1
        show Z (comb (p1.map fun p => (α * p.1, p.2)) j + ((α * c + leads β p2) * lead j + comb (p2.map fun p => (p.1, f p.2)) j))
        rw [hs, Int.add_mul]
        have := h1'.add h2
        have e : α * (comb p1 j + (c * lead j + comb p2 j)) + (comb (p2.map fun p => (p.1, f p.2)) j - (α * comb p2 j - leads β p2 * lead j)) = α * comb p1 j + (α * c * lead j + leads β p2 * lead j + comb (p2.map fun p => (p.1, f p.2)) j) := by
          rw [Int.mul_add, Int.mul_add, Int.mul_assoc]
          omega
        rw [← e]
        exact this
    have z2 : ∀ p ∈ p2, Z p.1 := fun p hp => i2 (p.1, f p.2) (List.mem_append_right _ (List.mem_cons_of_mem _ (List.mem_map.mpr ⟨p, hp, rfl⟩)))
    intro p hp
    rcases List.mem_append.mp hp with q | q
    · exact Z.prime (i2 (α * p.1, p.2) (List.mem_append_left _ (List.mem_map.mpr ⟨p, q, rfl⟩))) hα
    · rcases List.mem_cons.mp q with q | q
      · rw [q]
        have h3 : Z (α * c + leads β p2) := i2 (α * c + leads β p2, lead) (List.mem_append_right _ List.mem_cons_self)
        have h4 := h3.sub (leads_zero (β := β) z2)
        have e : α * c + leads β p2 - leads β p2 = α * c := by omega
        rw [e] at h4
        exact Z.prime h4 hα
      · exact z2 p q

/-! ### rows in steps: each has a column of its own, where those behind it are 0 -/
def Ech (w : Nat) : List Vec → List Vec → Prop
  | [], _ => True
  | r :: rs, post => (∃ c, c < w ∧ ¬ Z (r c) ∧ ∀ s ∈ rs ++ post, Z (s c)) ∧ Ech w rs post
theorem comb_zero {j : Nat} : ∀ {ps : List (Int × Vec)}, (∀ p ∈ ps, Z (p.2 j)) → Z (comb ps j)
  | [], _ => Z.zero
  | p :: ps, h => ((h p List.mem_cons_self).mulL _).add (comb_zero fun q hq => h q (List.mem_cons_of_mem _ hq))
theorem comb_null {j : Nat} : ∀ {ps : List (Int × Vec)}, (∀ p ∈ ps, Z p.1) → Z (comb ps j)
  | [], _ => Z.zero
  | p :: ps, h => ((h p List.mem_cons_self).mulR _).add (comb_null fun q hq => h q (List.mem_cons_of_mem _ hq))
theorem ech_indep {w : Nat} : ∀ {rs : List Vec}, Ech w rs [] → Indep w rs
  | [], _ => fun ps e _ p hp => by
    rw [List.map_eq_nil_iff.mp e] at hp
    cases hp
  | r :: rs, h => fun ps e hz p hp => by
    obtain ⟨⟨c, hc, hr, hs⟩, ht⟩ := h
    cases ps with
    | nil => cases e
    | cons q qs =>
      obtain ⟨e1, e2⟩ := List.cons.inj e
      have e1 : q.2 = r := e1
      rw [List.append_nil] at hs
      have hq0 : Z (q.1 * r c) := by
        have h1 : Z (q.1 * q.2 c + comb qs c) := hz c hc
        have h2 : Z (comb qs c) := comb_zero fun u hu => hs _ (by rw [← e2]; exact List.mem_map.mpr ⟨u, hu, rfl⟩)
        have h3 := h1.sub h2
        rw [e1] at h3
        have e : q.1 * r c + comb qs c - comb qs c = q.1 * r c := by omega
        rw [← e]
        exact h3
      have hq : Z q.1 := by
        rw [Int.mul_comm] at hq0
        exact Z.prime hq0 hr
      rcases List.mem_cons.mp hp with z | z
      · rw [z]
        exact hq
      · refine ech_indep ht qs e2 (fun j hj => ?_) p z
        have h1 : Z (q.1 * q.2 j + comb qs j) := hz j hj
        have h3 := h1.sub (hq.mulR (q.2 j))
        have e : q.1 * q.2 j + comb qs j - q.1 * q.2 j = comb qs j := by omega
        rw [← e]
        exact h3
/-- a row of zeros -/
theorem zero_dep {w : Nat} {a b : List Vec} {v : Vec} (h : ∀ j, j < w → Z (v j)) : ¬ Indep w (a ++ v :: b) := fun i => by
  have := i (a.map (fun u => ((0 : Int), u)) ++ (1, v) :: b.map fun u => ((0 : Int), u)) (by
    rw [List.map_append, List.map_cons, List.map_map, List.map_map]
    show a.map (fun u => u) ++ v :: b.map (fun u => u) = _
    rw [List.map_id', List.map_id']) (fun j hj => by
      rw [comb_app]
      refine Z.add (comb_null fun p hp => ?_) (Z.add ((h j hj).mulL _) (comb_null fun p hp => ?_))
      · obtain ⟨u, _, rfl⟩ := List.mem_map.mp hp
        exact Z.zero
      · obtain ⟨u, _, rfl⟩ := List.mem_map.mp hp
        exact Z.zero) (1, v) (List.mem_append_right _ List.mem_cons_self)
  have h1 : (97 : Int) ∣ 1 := this
  omega
/-- what stands between two columns of the elimination: c columns are done, rows ahead are in steps, rows behind are 0 in these columns -/
structure Mid (w : Nat) (rows pre post : List Vec) (c : Nat) : Prop where
  ech : Ech w pre post
  low : ∀ s ∈ post, ∀ j, j < c → Z (s j)
  ind : Indep w (pre ++ post) ↔ Indep w rows
theorem mid_start {w : Nat} {rows : List Vec} : Mid w rows [] rows 0 := ⟨trivial, fun _ _ j hj => absurd hj (Nat.not_lt_zero j), Iff.rfl⟩
theorem ech_sub {w : Nat} : ∀ {pre post post' : List Vec}, Ech w pre post → (∀ c, c < w → (∀ s ∈ post, Z (s c)) → ∀ s ∈ post', Z (s c)) → Ech w pre post'
  | [], _, _, _, _ => trivial
  | r :: rs, post, post', ⟨⟨c, hc, hr, hs⟩, ht⟩, h => ⟨⟨c, hc, hr, fun s hm => by
    rcases List.mem_append.mp hm with q | q
    · exact hs s (List.mem_append_left _ q)
    · exact h c hc (fun u hu => hs u (List.mem_append_right _ hu)) s q⟩, ech_sub ht h⟩
theorem ech_snoc {w : Nat} {v : Vec} {post : List Vec} {c : Nat} (hc : c < w) (hv : ¬ Z (v c)) (hp : ∀ s ∈ post, Z (s c)) : ∀ {pre : List Vec}, Ech w pre (v :: post) → Ech w (pre ++ [v]) post
  | [], _ => ⟨⟨c, hc, hv, hp⟩, trivial⟩
  | r :: rs, ⟨⟨d, hd, hr, hs⟩, ht⟩ => ⟨⟨d, hd, hr, fun s hm => hs s (by
    rcases List.mem_append.mp hm with q | q
    · rcases List.mem_append.mp q with q | q
      · exact List.mem_append_left _ q
      · rw [List.mem_singleton] at q
        rw [q]
        exact List.mem_append_right _ List.mem_cons_self
    · exact List.mem_append_right _ (List.mem_cons_of_mem _ q))⟩, ech_snoc hc hv hp ht⟩
/-- a column where all rows behind are 0 -/
theorem mid_none {w : Nat} {rows pre post : List Vec} {c : Nat} (m : Mid w rows pre post c) (h : ∀ s ∈ post, Z (s c)) : Mid w rows pre post (c + 1) := ⟨m.ech, fun s hs j hj => by
  by_cases e : j = c
  · rw [e]
    exact h s hs
  · exact m.low s hs j (by omega), m.ind⟩
/-- a column with a lead: the rows behind are taken in another order, then each less a multiple of the lead -/
theorem mid_lead {w : Nat} {rows pre post others : List Vec} {c : Nat} {lead : Vec} {f : Vec → Vec} (m : Mid w rows pre post c) (hc : c < w) (hl : ¬ Z (lead c)) (hp : post.Perm (lead :: others)) (hf : Op w (lead c) (fun s => s c) lead f) : Mid w rows (pre ++ [lead]) (others.map f) (c + 1) := by
  have hlm : lead ∈ post := hp.mem_iff.mpr List.mem_cons_self
  have hom : ∀ s ∈ others, s ∈ post := fun s hs => hp.mem_iff.mpr (List.mem_cons_of_mem _ hs)
  have zf : ∀ s j, j < w → Z (s j) → Z (lead j) → Z (f s j) := fun s j hj h1 h2 => by
    have h3 := hf s j hj
    have h4 : Z (lead c * s j - s c * lead j) := (h1.mulL _).sub (h2.mulL _)
    have := h3.add h4
    have e : f s j - (lead c * s j - s c * lead j) + (lead c * s j - s c * lead j) = f s j := by omega
    rw [← e]
    exact this
  have zc : ∀ s, Z (f s c) := fun s => by
    have h3 := hf s c hc
    rw [Int.mul_comm (s c) (lead c), Int.sub_self, Int.sub_zero] at h3
    exact h3
  refine ⟨ech_snoc hc hl (fun s hs => ?_) (ech_sub m.ech fun d hd h s hs => ?_), fun s hs j hj => ?_, ?_⟩
  · obtain ⟨u, _, rfl⟩ := List.mem_map.mp hs
    exact zc u
  · rcases List.mem_cons.mp hs with q | q
    · rw [q]
      exact h _ hlm
    · obtain ⟨u, hu, rfl⟩ := List.mem_map.mp q
      exact zf u d hd (h u (hom u hu)) (h _ hlm)
  · obtain ⟨u, hu, rfl⟩ := List.mem_map.mp hs
    by_cases e : j = c
    · rw [e]
      exact zc u
    · exact zf u j (by omega) (m.low u (hom u hu) j (by omega)) (m.low _ hlm j (by omega))
  · rw [List.append_assoc]
    show Indep w (pre ++ lead :: others.map f) ↔ _
    rw [← indep_op hf hl, ← m.ind]
    exact indep_perm (hp.symm.append_left pre)
/-- behind the last column: as many rows in steps as there are rows, just if they are independent -/
theorem mid_end {w : Nat} {rows pre post : List Vec} (m : Mid w rows pre post w) : post = [] ↔ Indep w rows := by
  rw [← m.ind]
  constructor
  · rintro rfl
    rw [List.append_nil]
    exact ech_indep m.ech
  · intro h
    cases post with
    | nil => rfl
    | cons s t => exact absurd h (zero_dep (m.low s List.mem_cons_self))

/-! ### a row is exchanged for a multiple of it, less a multiple of another -/
theorem unit_not {s t : Int} (h : Z (t * s - 1)) : ¬ Z t := fun ht => by
  have h1 : Z (t * s) := ht.mulR s
  have h2 := h1.sub h
  have e : t * s - (t * s - 1) = 1 := by omega
  rw [e] at h2
  have h3 : (97 : Int) ∣ 1 := h2
  omega
theorem indep_scale {w : Nat} {a b : List Vec} {u v : Vec} {s : Int} (hs : ¬ Z s) (h : ∀ j, j < w → Z (v j - s * u j)) : Indep w (a ++ u :: b) ↔ Indep w (a ++ v :: b) := by
  have go : ∀ {u v : Vec} {s : Int}, ¬ Z s → (∀ j, j < w → Z (v j - s * u j)) → Indep w (a ++ u :: b) → Indep w (a ++ v :: b) := by
    intro u v s hs h i ps e hz
    obtain ⟨p1, p2, c, rfl, e1, e2⟩ := split_map e
    have i2 := i (p1 ++ (c * s, u) :: p2) (by rw [List.map_append, List.map_cons, e1, e2]) fun j hj => by
      have h1 := hz j hj
      rw [comb_app] at h1 ⊢
      have h1' : Z (comb p1 j + (c * v j + comb p2 j)) := h1
      show Z (comb p1 j + (c * s * u j + comb p2 j))
      have h2 := h1'.sub ((h j hj).mulL c)
      have e : comb p1 j + (c * v j + comb p2 j) - c * (v j - s * u j) = comb p1 j + (c * s * u j + comb p2 j) := by
        rw [Int.mul_sub, ← Int.mul_assoc]
        omega
      rw [← e]
      exact h2
    intro p hp
    rcases List.mem_append.mp hp with q | q
    · exact i2 p (List.mem_append_left _ q)
    · rcases List.mem_cons.mp q with q | q
      · rw [q]
        have h3 : Z (c * s) := i2 (c * s, u) (List.mem_append_right _ List.mem_cons_self)
        rw [Int.mul_comm] at h3
        exact Z.prime h3 hs
      · exact i2 p (List.mem_append_right _ (List.mem_cons_of_mem _ q))
  refine ⟨go hs h, ?_⟩
  obtain ⟨t, ht⟩ := inv_of hs
  refine go (unit_not ht) fun j hj => ?_
  have h1 := (h j hj).mulL t
  have h2 := ht.mulR (u j)
  have h3 : Z (0 - (t * (v j - s * u j) + (t * s - 1) * u j)) := Z.zero.sub (h1.add h2)
  have e : 0 - (t * (v j - s * u j) + (t * s - 1) * u j) = u j - t * v j := by
    rw [Int.mul_sub, Int.sub_mul, ← Int.mul_assoc, Int.one_mul]
    omega
  rw [← e]
  exact h3
theorem indep_row {w : Nat} {a b : List Vec} {l u v : Vec} {s c : Int} (hs : ¬ Z s) (hl : l ∈ a) (h : ∀ j, j < w → Z (v j - (s * u j - c * l j))) : Indep w (a ++ u :: b) ↔ Indep w (a ++ v :: b) := by
  obtain ⟨a1, a2, rfl⟩ := List.append_of_mem hl
  have pm : ∀ x : Vec, (a1 ++ l :: a2 ++ x :: b).Perm (a1 ++ a2 ++ b ++ l :: [x]) := fun x => by
    refine List.perm_middle.trans ?_
    refine ((List.Perm.append_right b List.perm_middle).cons x).trans ?_
    refine List.Perm.trans (List.Perm.swap l x _) ?_
    exact (List.perm_append_comm (l₁ := [l, x]) (l₂ := a1 ++ a2 ++ b))
  have f1 : Op w s (fun _ => c) l (fun y j => s * y j - c * l j) := fun y j hj => by
    show Z (s * y j - c * l j - (s * y j - c * l j))
    rw [Int.sub_self]
    exact Z.zero
  rw [indep_perm (pm u), indep_op f1 hs, indep_perm (pm v)]
  have k := indep_scale (w := w) (a := a1 ++ a2 ++ b ++ [l]) (b := []) (s := 1) (u := fun j => s * u j - c * l j) (v := v) (fun h => by
    have h3 : (97 : Int) ∣ 1 := h
    omega) (fun j hj => by
      rw [Int.one_mul]
      exact h j hj)
  have e : ∀ x : Vec, a1 ++ a2 ++ b ++ [l] ++ [x] = a1 ++ a2 ++ b ++ l :: [x] := fun x => by
    rw [List.append_assoc (a1 ++ a2 ++ b)]
    rfl
  rw [e, e] at k
  exact k
/-! ### a kept list of rows and its basis -/
/-- rows of a basis, each with its column: 1 there (not 0 at least), and 0 in the columns of those before it -/
structure Bas (w : Nat) (rows : List Vec) (bs : List (Nat × Vec)) : Prop where
  eqv : ∀ tail, Indep w (rows ++ tail) ↔ Indep w (bs.map (·.2) ++ tail)
  ech : bs.Pairwise fun p q => Z (q.2 p.1)
  one : ∀ p ∈ bs, p.1 < w ∧ ¬ Z (p.2 p.1)
theorem bas_nil {w : Nat} : Bas w [] [] := ⟨fun _ => Iff.rfl, .nil, fun p hp => by cases hp⟩
theorem bas_ech {w : Nat} {post : List Vec} : ∀ {bs : List (Nat × Vec)}, bs.Pairwise (fun p q => Z (q.2 p.1)) → (∀ p ∈ bs, p.1 < w ∧ ¬ Z (p.2 p.1)) → (∀ s ∈ post, ∀ p ∈ bs, Z (s p.1)) → Ech w (bs.map (·.2)) post
  | [], _, _, _ => trivial
  | p :: bs, h1, h2, h3 => by
    rw [List.pairwise_cons] at h1
    refine ⟨⟨p.1, (h2 p List.mem_cons_self).1, (h2 p List.mem_cons_self).2, fun s hs => ?_⟩, bas_ech h1.2 (fun q hq => h2 q (List.mem_cons_of_mem _ hq)) fun s hs q hq => h3 s hs q (List.mem_cons_of_mem _ hq)⟩
    rcases List.mem_append.mp hs with q | q
    · obtain ⟨u, hu, rfl⟩ := List.mem_map.mp q
      exact h1.1 u hu
    · exact h3 s q p List.mem_cons_self
/-- the rest of a row, behind each row of the basis -/
def restOf (v : Vec) : List (Nat × Vec) → Vec
  | [] => v
  | p :: bs => restOf (fun j => v j - v p.1 * p.2 j) bs
/-- rows equal modulo 97 in the columns that count -/
def Cong (w : Nat) (u v : Vec) : Prop := ∀ j, j < w → Z (u j - v j)
/-- x is v less multiples of rows of a, by steps -/
inductive Less (w : Nat) (a : List Vec) : Vec → Vec → Prop
  | refl (v : Vec) : Less w a v v
  | step {v u x : Vec} (l : Vec) (c : Int) (hl : l ∈ a) (h : ∀ j, j < w → Z (u j - (v j - c * l j))) (t : Less w a u x) : Less w a v x
theorem less_indep {w : Nat} {a b : List Vec} {v x : Vec} (h : Less w a v x) : Indep w (a ++ v :: b) ↔ Indep w (a ++ x :: b) := by
  induction h with
  | refl v => exact Iff.rfl
  | step l c hl h t ih =>
    refine Iff.trans ?_ ih
    refine indep_row (s := 1) (c := c) (fun h => by
      have h3 : (97 : Int) ∣ 1 := h
      omega) hl fun j hj => ?_
    rw [Int.one_mul]
    exact h j hj
theorem not_z1 : ¬ Z 1 := fun h => by
  have h3 : (97 : Int) ∣ 1 := h
  omega
/-- a row whose rest is all zero is no more to be kept; one whose rest is not is -/
theorem bas_test {w : Nat} {rows : List Vec} {bs : List (Nat × Vec)} {v x : Vec} (B : Bas w rows bs) (h : Less w (bs.map (·.2)) v x) (hx : ∀ p ∈ bs, Z (x p.1)) : Indep w (rows ++ [v]) ↔ ∃ c, c < w ∧ ¬ Z (x c) := by
  rw [B.eqv, less_indep h]
  constructor
  · intro i
    apply Classical.byContradiction
    intro n
    refine zero_dep (fun j hj => ?_) i
    apply Classical.byContradiction
    intro z
    exact n ⟨j, hj, z⟩
  · rintro ⟨c, hc, hz⟩
    have e1 : Ech w (bs.map (·.2)) [x] := bas_ech B.ech B.one fun s hs p hp => by
      rw [List.mem_singleton] at hs
      rw [hs]
      exact hx p hp
    have e2 := ech_snoc (post := []) hc hz (fun s hs => by cases hs) e1
    exact ech_indep e2
/-- the basis grown by a multiple of the rest -/
theorem bas_grow {w : Nat} {rows : List Vec} {bs : List (Nat × Vec)} {v x y : Vec} {c : Nat} {s : Int} (B : Bas w rows bs) (h : Less w (bs.map (·.2)) v x) (hx : ∀ p ∈ bs, Z (x p.1)) (hc : c < w) (hz : ¬ Z (x c)) (hs : ¬ Z s) (hy : ∀ j, j < w → Z (y j - s * x j)) : Bas w (rows ++ [v]) (bs ++ [(c, y)]) := by
  have ky : ∀ j, j < w → Z (x j) → Z (y j) := fun j hj h1 => by
    have h2 := (hy j hj).add (h1.mulL s)
    have e : y j - s * x j + s * x j = y j := by omega
    rw [← e]
    exact h2
  have kz : ¬ Z (y c) := fun h1 => by
    have h2 := h1.sub (hy c hc)
    have e : y c - (y c - s * x c) = s * x c := by omega
    rw [e] at h2
    exact hz (Z.prime h2 hs)
  refine ⟨fun tail => ?_, List.pairwise_append.mpr ⟨B.ech, List.pairwise_singleton _ _, fun p hp q hq => ?_⟩, fun p hp => ?_⟩
  · rw [List.append_assoc, B.eqv, List.map_append, List.append_assoc]
    show Indep w (bs.map (·.2) ++ v :: tail) ↔ Indep w (bs.map (·.2) ++ y :: tail)
    rw [less_indep h]
    exact indep_scale hs hy
  · rw [List.mem_singleton] at hq
    rw [hq]
    exact ky p.1 (B.one p hp).1 (hx p hp)
  · rcases List.mem_append.mp hp with q | q
    · exact B.one p q
    · rw [List.mem_singleton] at q
      rw [q]
      exact ⟨hc, kz⟩
end LA97
set_option Elab.async false
set_option linter.all false
set_option maxRecDepth 100000
set_option maxHeartbeats 1000000
/-! the inverse modulo 97 by powers -/
namespace LA97
def powR (r : Int) : Nat → Int
  | 0 => 1
  | n + 1 => powR r n * r % 97
theorem pow_table : ∀ k : Fin 97, k.val ≠ 0 → powR (k.val : Int) 95 * (k.val : Int) % 97 = 1 ∧ 0 < powR (k.val : Int) 95 ∧ powR (k.val : Int) 95 < 97 := by decide +kernel
theorem pow_inv {n : Int} (h : ¬ Z n) : powR (n % 97) 95 * n % 97 = 1 ∧ 0 < powR (n % 97) 95 ∧ powR (n % 97) 95 < 97 := by
  have h1 : n % 97 ≠ 0 := fun e => h (Int.dvd_of_emod_eq_zero e)
  have h0 := Int.emod_nonneg n (show (97 : Int) ≠ 0 by decide)
  have h9 := Int.emod_lt_of_pos n (show (0 : Int) < 97 by decide)
  obtain ⟨k, hk⟩ := Int.eq_ofNat_of_zero_le h0
  have t := pow_table ⟨k, by omega⟩ (by show k ≠ 0; omega)
  have t : powR (k : Int) 95 * (k : Int) % 97 = 1 ∧ 0 < powR (k : Int) 95 ∧ powR (k : Int) 95 < 97 := t
  rw [← hk] at t
  refine ⟨?_, t.2⟩
  have e : powR (n % 97) 95 * n % 97 = powR (n % 97) 95 * (n % 97) % 97 := by
    rw [Int.mul_emod, Int.mul_emod (powR (n % 97) 95) (n % 97), Int.emod_emod_of_dvd n (show (97 : Int) ∣ 97 by decide)]
  rw [e]
  exact t.1
end LA97
set_option Elab.async false
set_option linter.all false
set_option maxRecDepth 100000
set_option maxHeartbeats 1000000
/-! the program's elimination and the law's, as functions of lists; what they say of independence modulo 97 -/
namespace K00
open LA97
abbrev Row := List Int
def vec (r : Row) : Vec := fun j => r.getD j 0
theorem vec_get {r : Row} {j : Nat} (h : j < r.length) : vec r j = r[j] := by
  unfold vec
  rw [List.getD_eq_getElem?_getD, List.getElem?_eq_getElem h]
  rfl
theorem vec_some {r : Row} {j : Nat} {x : Int} (h : r[j]? = some x) : vec r j = x := by
  unfold vec
  rw [List.getD_eq_getElem?_getD, h]
  rfl
theorem z_mod (x : Int) : Z (x % 97 - x) := ⟨-(x / 97), by have := Int.mul_ediv_add_emod x 97; omega⟩
theorem z_res {x : Int} (h : Z x) (h0 : 0 ≤ x) (h1 : x < 97) : x = 0 := by
  obtain ⟨k, hk⟩ := h
  omega
theorem z_one {x : Int} (h : Z (x - 1)) (h0 : 0 ≤ x) (h1 : x < 97) : x = 1 := by
  obtain ⟨k, hk⟩ := h
  omega
def Res (r : Row) : Prop := ∀ x ∈ r, 0 ≤ x ∧ x < 97
theorem res_map {α : Type} (l : List α) (f : α → Int) : Res (l.map fun a => f a % 97) := fun x hx => by
  obtain ⟨a, _, rfl⟩ := List.mem_map.mp hx
  exact ⟨Int.emod_nonneg _ (by decide), Int.emod_lt_of_pos _ (by decide)⟩
theorem res_vec {r : Row} (h : Res r) (j : Nat) : 0 ≤ vec r j ∧ vec r j < 97 := by
  by_cases hj : j < r.length
  · rw [vec_get hj]
    exact h _ (List.getElem_mem hj)
  · unfold vec
    rw [List.getD_eq_getElem?_getD, List.getElem?_eq_none (by omega)]
    exact ⟨by decide, by decide⟩
/-! ### the program's functions -/
def mod97 (r : Row) : Row := r.map fun x => x % 97
def invF (n : Int) : Int := powR (n % 97) 95
def dotF (a b : Row) : Int := ((List.zip a b).map fun p => p.1 * p.2).sum % 97
def combF (cs : Row) (rows : List Row) (w : Nat) : Row := (List.range w).map fun j => dotF cs (rows.map fun r => vec r j)
def unitF (c n : Nat) : Row := (List.range n).map fun j => if j = c then 1 else 0
def leadF (r : Row) : Option Nat := r.findIdx? fun x => decide (x ≠ 0)
def lessF (rest : Row) (f : Int) (o : Row) : Row := (List.zip rest o).map fun p => (p.1 - f * p.2) % 97
def subF (rest : Row) (b : Nat × Row) : Row := if vec rest b.1 = 0 then rest else lessF rest (vec rest b.1) b.2
def redF (r : Row) (bs : List (Nat × Row)) : Row := bs.foldl subF (mod97 r)
def sclF (r : Row) (c : Nat) : Row := r.map fun n => n * invF (vec r c) % 97
def indF : List Row → Nat → List (Nat × Row) → List Nat → List Nat
  | [], _, _, found => found
  | r :: rs, i, bs, found => if bs.length = r.length then found else
    match leadF (redF r bs) with
    | some c => indF rs (i + 1) (bs ++ [(c, sclF (redF r bs) c)]) (found ++ [i])
    | none => indF rs (i + 1) bs found
def relF (many : Nat) : List Row → Nat → List (Nat × Row) → Option Row
  | [], _, _ => none
  | r :: rs, i, bs => match leadF ((redF (r ++ unitF i many) bs).take r.length) with
    | none => some ((redF (r ++ unitF i many) bs).drop r.length)
    | some c => relF many rs (i + 1) (bs ++ [(c, sclF (redF (r ++ unitF i many) bs) c)])
/-! ### lengths and residues -/
theorem less_len {rest o : Row} {f : Int} {W : Nat} (h : rest.length = W) (ho : o.length = W) : (lessF rest f o).length = W := by
  unfold lessF
  rw [List.length_map, List.length_zip, h, ho, Nat.min_self]
theorem sub_len {rest : Row} {b : Nat × Row} {W : Nat} (h : rest.length = W) (ho : b.2.length = W) : (subF rest b).length = W := by
  unfold subF
  split
  · exact h
  · exact less_len h ho
theorem sub_res {rest : Row} {b : Nat × Row} (h : Res rest) : Res (subF rest b) := by
  unfold subF
  split
  · exact h
  · exact res_map _ _
theorem fold_len {W : Nat} : ∀ (bs : List (Nat × Row)) (rest : Row), rest.length = W → (∀ b ∈ bs, b.2.length = W) → (bs.foldl subF rest).length = W
  | [], rest, h, _ => h
  | b :: bs, rest, h, hb => fold_len bs _ (sub_len h (hb b List.mem_cons_self)) fun q hq => hb q (List.mem_cons_of_mem _ hq)
theorem fold_res : ∀ (bs : List (Nat × Row)) (rest : Row), Res rest → Res (bs.foldl subF rest)
  | [], rest, h => h
  | b :: bs, rest, h => fold_res bs _ (sub_res h)
theorem mod_len {r : Row} : (mod97 r).length = r.length := by
  unfold mod97
  rw [List.length_map]
theorem red_len {W : Nat} {bs : List (Nat × Row)} {r : Row} (h : r.length = W) (hb : ∀ b ∈ bs, b.2.length = W) : (redF r bs).length = W := fold_len bs _ (by rw [mod_len]; exact h) hb
theorem red_res {bs : List (Nat × Row)} {r : Row} : Res (redF r bs) := fold_res bs _ (res_map _ _)
theorem scl_len {r : Row} {c : Nat} : (sclF r c).length = r.length := by
  unfold sclF
  rw [List.length_map]
theorem unit_len {c n : Nat} : (unitF c n).length = n := by
  unfold unitF
  rw [List.length_map, List.length_range]
/-! ### the functions as functions of columns -/
theorem vec_map {r : Row} {f : Int → Int} {j : Nat} (h : j < r.length) : vec (r.map f) j = f (vec r j) := by
  rw [vec_get h, vec_get (by rw [List.length_map]; exact h), List.getElem_map]
theorem vec_less {rest o : Row} {f : Int} {j : Nat} (h : j < rest.length) (ho : j < o.length) : vec (lessF rest f o) j = (vec rest j - f * vec o j) % 97 := by
  have hz : j < (List.zip rest o).length := by
    rw [List.length_zip]
    omega
  show vec ((List.zip rest o).map fun p => (p.1 - f * p.2) % 97) j = _
  rw [vec_get (by rw [List.length_map]; exact hz), List.getElem_map, List.getElem_zip, vec_get h, vec_get ho]
theorem less_one {w : Nat} {a : List Vec} {v u : Vec} {l : Vec} {c : Int} (hl : l ∈ a) (h : ∀ j, j < w → Z (u j - (v j - c * l j))) : Less w a v u := .step l c hl h (.refl u)
theorem less_trans {w : Nat} {a : List Vec} {u v x : Vec} (h : Less w a u v) (k : Less w a v x) : Less w a u x := by
  induction h with
  | refl v => exact k
  | step l c hl h t ih => exact .step l c hl h (ih k)
theorem less_narrow {w W : Nat} (hw : w ≤ W) {a : List Vec} {u v : Vec} (h : Less W a u v) : Less w a u v := by
  induction h with
  | refl v => exact .refl v
  | step l c hl h t ih => exact .step l c hl (fun j hj => h j (by omega)) ih
theorem less_grow {w : Nat} {a b : List Vec} (hab : ∀ l ∈ a, l ∈ b) {u v : Vec} (h : Less w a u v) : Less w b u v := by
  induction h with
  | refl v => exact .refl v
  | step l c hl h t ih => exact .step l c (hab l hl) h ih
/-- what every row has, and the first, has the rest: a linear form -/
theorem less_form {w : Nat} {a : List Vec} {u v : Vec} (φ : Vec → Int) (hφ : ∀ (x y l : Vec) (c : Int), (∀ j, j < w → Z (y j - (x j - c * l j))) → Z (φ y - (φ x - c * φ l))) (ha : ∀ l ∈ a, Z (φ l)) (h : Less w a u v) : Z (φ v - φ u) := by
  induction h with
  | refl v =>
    rw [Int.sub_self]
    exact Z.zero
  | step l c hl h t ih =>
    rename_i x y z
    have h1 := hφ _ _ l c h
    have h2 := (ha l hl).mulL c
    have e : φ z - φ x = (φ z - φ y) + (φ y - (φ x - c * φ l)) - c * φ l := by omega
    rw [e]
    exact (ih.add h1).sub h2
/-- a basis: rows of W residues, each with 1 at its column (below w), 0 at the columns of those before it -/
structure Bs (W w : Nat) (bs : List (Nat × Row)) : Prop where
  len : ∀ b ∈ bs, b.2.length = W
  one : ∀ b ∈ bs, b.1 < w ∧ Z (vec b.2 b.1 - 1)
  ech : bs.Pairwise fun p q => Z (vec q.2 p.1)
def rowsOf (bs : List (Nat × Row)) : List Vec := bs.map fun b => vec b.2
theorem fold_less {W w : Nat} (hw : w ≤ W) {all : List Vec} : ∀ (pre bs : List (Nat × Row)) (rest : Row), rest.length = W → Bs W w (pre ++ bs) → (∀ b ∈ bs, vec b.2 ∈ all) → (∀ b ∈ pre, Z (vec rest b.1)) →
    Less W all (vec rest) (vec (bs.foldl subF rest)) ∧ ∀ b ∈ pre ++ bs, Z (vec (bs.foldl subF rest) b.1)
  | pre, [], rest, h, B, _, hz => ⟨.refl _, fun b hb => hz b (by rw [List.append_nil] at hb; exact hb)⟩
  | pre, b :: bs, rest, h, B, ha, hz => by
    have hbm : b ∈ pre ++ b :: bs := List.mem_append_right _ List.mem_cons_self
    have hlen := B.len b hbm
    obtain ⟨hc, h1⟩ := B.one b hbm
    have hstep : ∀ j, j < W → Z (vec (subF rest b) j - (vec rest j - vec rest b.1 * vec b.2 j)) := fun j hj => by
      unfold subF
      split
      · rename_i e
        rw [e, Int.zero_mul]
        have e2 : vec rest j - (vec rest j - 0) = 0 := by omega
        rw [e2]
        exact Z.zero
      · rw [vec_less (by omega) (by omega)]
        exact z_mod _
    have ech := List.pairwise_append.mp B.ech
    have key : ∀ p ∈ pre ++ [b], Z (vec (subF rest b) p.1) := fun p hp => by
      rcases List.mem_append.mp hp with q | q
      · have z1 := hz p q
        have z2 : Z (vec b.2 p.1) := ech.2.2 p q b List.mem_cons_self
        have hpc := (B.one p (List.mem_append_left _ q)).1
        have z3 := hstep p.1 (by omega)
        have e : vec (subF rest b) p.1 = vec (subF rest b) p.1 - (vec rest p.1 - vec rest b.1 * vec b.2 p.1) + (vec rest p.1 - vec rest b.1 * vec b.2 p.1) := by omega
        rw [e]
        exact z3.add (z1.sub (z2.mulL _))
      · rw [List.mem_singleton] at q
        subst q
        have z3 := hstep p.1 (by omega)
        have z4 := h1.mulL (vec rest p.1)
        have e : vec (subF rest p) p.1 = vec (subF rest p) p.1 - (vec rest p.1 - vec rest p.1 * vec p.2 p.1) - vec rest p.1 * (vec p.2 p.1 - 1) := by
          rw [Int.mul_sub, Int.mul_one]
          omega
        rw [e]
        exact z3.sub z4
    have ih := fold_less hw (all := all) (pre ++ [b]) bs (subF rest b) (sub_len h hlen) (by rw [List.append_assoc]; exact B) (fun q hq => ha q (List.mem_cons_of_mem _ hq)) key
    refine ⟨less_trans (less_one (ha b List.mem_cons_self) hstep) ih.1, fun p hp => ih.2 p ?_⟩
    rw [List.append_assoc]
    exact hp
theorem red_less {W w : Nat} (hw : w ≤ W) {bs : List (Nat × Row)} (B : Bs W w bs) {r : Row} (h : r.length = W) : Less W (rowsOf bs) (vec (mod97 r)) (vec (redF r bs)) ∧ ∀ b ∈ bs, Z (vec (redF r bs) b.1) :=
  fold_less hw [] bs (mod97 r) (by rw [mod_len]; exact h) B (fun b hb => List.mem_map.mpr ⟨b, hb, rfl⟩) fun b hb => by cases hb
theorem mod_cong {r : Row} {W : Nat} (h : r.length = W) (j : Nat) (hj : j < W) : Z (vec (mod97 r) j - vec r j) := by
  unfold mod97
  rw [vec_map (by omega)]
  exact z_mod _
theorem inv_ok {n : Int} (h : ¬ Z n) : Z (invF n * n - 1) ∧ ¬ Z (invF n) := by
  obtain ⟨h1, _, _⟩ := pow_inv h
  have h2 : Z (invF n * n - 1) := by
    have := z_mod (powR (n % 97) 95 * n)
    rw [h1] at this
    have e : invF n * n - 1 = 0 - (1 - powR (n % 97) 95 * n) := by
      show powR (n % 97) 95 * n - 1 = _
      omega
    rw [e]
    exact Z.zero.sub this
  exact ⟨h2, unit_not h2⟩
theorem scl_cong {r : Row} {c j : Nat} (hj : j < r.length) : Z (vec (sclF r c) j - invF (vec r c) * vec r j) := by
  unfold sclF
  rw [vec_map hj, Int.mul_comm (invF _)]
  exact z_mod _
/-! ### the leading column -/
theorem lead_none {r : Row} (h : leadF r = none) : ∀ x ∈ r, x = 0 := by
  unfold leadF at h
  rw [List.findIdx?_eq_none_iff] at h
  intro x hx
  have := h x hx
  simpa using this
theorem lead_some {r : Row} {c : Nat} (h : leadF r = some c) : ∃ hc : c < r.length, r[c] ≠ 0 := by
  unfold leadF at h
  rw [List.findIdx?_eq_some_iff_getElem] at h
  obtain ⟨hc, h1, _⟩ := h
  exact ⟨hc, by simpa using h1⟩
theorem not_z_res {x : Int} (h0 : 0 ≤ x) (h1 : x < 97) (h : x ≠ 0) : ¬ Z x := fun z => h (z_res z h0 h1)
/-- a basis grown by the rest -/
theorem bs_grow {W w : Nat} {bs : List (Nat × Row)} (B : Bs W w bs) {x : Row} (hx : x.length = W) (hw : w ≤ W) (hz : ∀ b ∈ bs, Z (vec x b.1)) {c : Nat} (hc : c < w) (hn : ¬ Z (vec x c)) : Bs W w (bs ++ [(c, sclF x c)]) := by
  refine ⟨fun b hb => ?_, fun b hb => ?_, List.pairwise_append.mpr ⟨B.ech, List.pairwise_singleton _ _, fun p hp q hq => ?_⟩⟩
  · rcases List.mem_append.mp hb with q | q
    · exact B.len b q
    · rw [List.mem_singleton] at q
      rw [q]
      exact scl_len.trans hx
  · rcases List.mem_append.mp hb with q | q
    · exact B.one b q
    · rw [List.mem_singleton] at q
      rw [q]
      refine ⟨hc, ?_⟩
      have h1 := scl_cong (r := x) (c := c) (j := c) (by omega)
      have h2 := (inv_ok hn).1
      have := h1.add h2
      have e : vec (sclF x c) c - invF (vec x c) * vec x c + (invF (vec x c) * vec x c - 1) = vec (sclF x c) c - 1 := by omega
      rw [← e]
      exact this
  · rw [List.mem_singleton] at hq
    rw [hq]
    have hpc := (B.one p hp).1
    have h1 := scl_cong (r := x) (c := c) (j := p.1) (by omega)
    have h2 := (hz p hp).mulL (invF (vec x c))
    have := h1.add h2
    have e : vec (sclF x c) p.1 - invF (vec x c) * vec x p.1 + invF (vec x c) * vec x p.1 = vec (sclF x c) p.1 := by omega
    rw [← e]
    exact this
theorem bs_nil {W w : Nat} : Bs W w [] := ⟨fun b hb => (by cases hb), fun b hb => (by cases hb), .nil⟩
end K00
set_option Elab.async false
set_option linter.all false
set_option maxRecDepth 100000
set_option maxHeartbeats 1000000
namespace K00
open LA97
def bv (bs : List (Nat × Row)) : List (Nat × Vec) := bs.map fun b => (b.1, vec b.2)
theorem bv_rows {bs : List (Nat × Row)} : (bv bs).map (·.2) = rowsOf bs := by
  unfold bv rowsOf
  rw [List.map_map]
  rfl
theorem bas_cong {w : Nat} {R : List Vec} {u v : Vec} {bs : List (Nat × Vec)} (B : Bas w (R ++ [u]) bs) (h : ∀ j, j < w → Z (v j - u j)) : Bas w (R ++ [v]) bs := by
  refine ⟨fun tail => ?_, B.ech, B.one⟩
  rw [← B.eqv, List.append_assoc, List.append_assoc]
  refine (indep_scale (s := 1) not_z1 fun j hj => ?_).symm
  rw [Int.one_mul]
  exact h j hj
theorem indep_cong {w : Nat} {a b : List Vec} {u v : Vec} (h : ∀ j, j < w → Z (v j - u j)) : Indep w (a ++ u :: b) ↔ Indep w (a ++ v :: b) := indep_scale (s := 1) not_z1 fun j hj => by
  rw [Int.one_mul]
  exact h j hj
theorem indep_pre {w : Nat} {a b : List Vec} (i : Indep w (a ++ b)) : Indep w a := fun ps e hz p hp => by
  refine i (ps ++ b.map fun v => ((0 : Int), v)) (by
    rw [List.map_append, e, List.map_map]
    show a ++ b.map (fun v => v) = _
    rw [List.map_id']) (fun j hj => ?_) p (List.mem_append_left _ hp)
  rw [comb_app]
  refine (hz j hj).add (comb_null fun q hq => ?_)
  obtain ⟨u, _, rfl⟩ := List.mem_map.mp hq
  exact Z.zero
/-- one step: the rest tells whether the row is to be kept, and the basis grows -/
theorem step_ok {W w : Nat} (hw : w ≤ W) {R : List Vec} {bs : List (Nat × Row)} (A : Bas w R (bv bs)) (B : Bs W w bs) {r : Row} (hr : r.length = W) {v : Vec} (hv : ∀ j, j < w → vec r j = v j) :
    (Indep w (R ++ [v]) ↔ ∃ c, c < w ∧ ¬ Z (vec (redF r bs) c)) ∧ (∀ c, c < w → ¬ Z (vec (redF r bs) c) → Bas w (R ++ [v]) (bv (bs ++ [(c, sclF (redF r bs) c)]))) := by
  obtain ⟨h1, h2⟩ := red_less hw B hr
  have hx := red_len hr B.len
  have h3 : Less w ((bv bs).map (·.2)) (vec (mod97 r)) (vec (redF r bs)) := by
    rw [bv_rows]
    exact less_narrow hw h1
  have h4 : ∀ p ∈ bv bs, Z (vec (redF r bs) p.1) := fun p hp => by
    obtain ⟨b, hb, rfl⟩ := List.mem_map.mp hp
    exact h2 b hb
  have hm : ∀ j, j < w → Z (v j - vec (mod97 r) j) := fun j hj => by
    have := mod_cong hr j (by omega)
    rw [hv j hj] at this
    have e : v j - vec (mod97 r) j = 0 - (vec (mod97 r) j - v j) := by omega
    rw [e]
    exact Z.zero.sub this
  refine ⟨?_, fun c hc hn => ?_⟩
  · rw [← bas_test A h3 h4]
    exact (indep_cong hm).symm
  · have := bas_grow (y := vec (sclF (redF r bs) c)) (s := invF (vec (redF r bs) c)) A h3 h4 hc hn (inv_ok hn).2 fun j hj => scl_cong (by omega)
    refine bas_cong ?_ hm
    unfold bv at this ⊢
    rw [List.map_append]
    exact this
/-! ### which rows are kept -/
open Classical in
noncomputable def dueN (w : Nat) (rows : List Row) : Nat → List Nat
  | 0 => []
  | k + 1 => if Indep w ((dueN w rows k).map (fun i => vec (rows.getD i [])) ++ [vec (rows.getD k [])]) then dueN w rows k ++ [k] else dueN w rows k
open Classical in
theorem due_yes {w : Nat} {rows : List Row} {k : Nat} (h : Indep w ((dueN w rows k).map (fun i => vec (rows.getD i [])) ++ [vec (rows.getD k [])])) : dueN w rows (k + 1) = dueN w rows k ++ [k] := by
  show (if _ then _ else _) = _
  rw [if_pos h]
open Classical in
theorem due_no {w : Nat} {rows : List Row} {k : Nat} (h : ¬ Indep w ((dueN w rows k).map (fun i => vec (rows.getD i [])) ++ [vec (rows.getD k [])])) : dueN w rows (k + 1) = dueN w rows k := by
  show (if _ then _ else _) = _
  rw [if_neg h]
theorem due_indep {w : Nat} {rows : List Row} : ∀ k, Indep w ((dueN w rows k).map fun i => vec (rows.getD i []))
  | 0 => fun ps e _ p hp => by
    rw [List.map_eq_nil_iff.mp e] at hp
    cases hp
  | k + 1 => by
    by_cases h : Indep w ((dueN w rows k).map (fun i => vec (rows.getD i [])) ++ [vec (rows.getD k [])])
    · rw [due_yes h, List.map_append]
      exact h
    · rw [due_no h]
      exact due_indep k
theorem due_lt {w : Nat} {rows : List Row} : ∀ k, ∀ i ∈ dueN w rows k, i < k
  | 0, i, h => by cases h
  | k + 1, i, h => by
    by_cases c : Indep w ((dueN w rows k).map (fun i => vec (rows.getD i [])) ++ [vec (rows.getD k [])])
    · rw [due_yes c] at h
      rcases List.mem_append.mp h with q | q
      · have := due_lt k i q
        omega
      · rw [List.mem_singleton] at q
        omega
    · rw [due_no c] at h
      have := due_lt k i h
      omega
theorem due_len {w : Nat} {rows : List Row} : ∀ k, (dueN w rows k).length ≤ k
  | 0 => Nat.le_refl _
  | k + 1 => by
    have := due_len (w := w) (rows := rows) k
    by_cases c : Indep w ((dueN w rows k).map (fun i => vec (rows.getD i [])) ++ [vec (rows.getD k [])])
    · rw [due_yes c, List.length_append]
      show _ + 1 ≤ _
      omega
    · rw [due_no c]
      omega
theorem nodup_len : ∀ (w : Nat) (l : List Nat), l.Nodup → (∀ x ∈ l, x < w) → l.length ≤ w
  | 0, l, _, h => by
    cases l with
    | nil => exact Nat.le_refl _
    | cons x t => exact absurd (h x List.mem_cons_self) (Nat.not_lt_zero _)
  | w + 1, l, hn, h => by
    have h1 := nodup_len w (l.erase w) (hn.erase w) fun x hx => by
      have h2 := h x (List.mem_of_mem_erase hx)
      have h3 : x ≠ w := fun e => by
        rw [e] at hx
        exact (List.Nodup.not_mem_erase hn) hx
      omega
    have h4 : l.length ≤ (l.erase w).length + 1 := by
      by_cases hm : w ∈ l
      · rw [List.length_erase_of_mem hm]
        omega
      · rw [List.erase_of_not_mem hm]
        omega
    omega
theorem full_all {w : Nat} {l : List Nat} (hn : l.Nodup) (h : ∀ x ∈ l, x < w) (hl : l.length = w) : ∀ c, c < w → c ∈ l := fun c hc => by
  apply Classical.byContradiction
  intro n
  have := nodup_len w (c :: l) (List.nodup_cons.mpr ⟨n, hn⟩) fun x hx => by
    rcases List.mem_cons.mp hx with q | q
    · omega
    · exact h x q
  rw [List.length_cons] at this
  omega
theorem bs_nodup {W w : Nat} {bs : List (Nat × Row)} (B : Bs W w bs) : (bs.map (·.1)).Nodup := by
  unfold List.Nodup
  rw [List.pairwise_map]
  refine List.Pairwise.imp_of_mem (fun {p q} hp hq h e => ?_) B.ech
  have := (B.one q hq).2
  rw [← e] at this
  exact not_z1 (by
    have h2 := h.sub this
    have e2 : vec q.2 p.1 - (vec q.2 p.1 - 1) = 1 := by omega
    rw [e2] at h2
    exact h2)
/-- as many rows as columns: no more are to be kept -/
theorem full_no {w : Nat} {R : List Vec} {bs : List (Nat × Row)} (A : Bas w R (bv bs)) (B : Bs w w bs) (hl : bs.length = w) {r : Row} (hr : r.length = w) : ¬ Indep w (R ++ [vec r]) := by
  rw [(step_ok (Nat.le_refl _) A B hr (fun _ _ => rfl)).1]
  rintro ⟨c, hc, hn⟩
  have hm := full_all (bs_nodup B) (fun x hx => by
    obtain ⟨b, hb, rfl⟩ := List.mem_map.mp hx
    exact (B.one b hb).1) (by rw [List.length_map]; exact hl) c hc
  obtain ⟨b, hb, rfl⟩ := List.mem_map.mp hm
  exact hn ((red_less (Nat.le_refl _) B hr).2 b hb)
theorem ind_due {w : Nat} {rows : List Row} (hw : ∀ r ∈ rows, r.length = w) : ∀ (rest pre : List Row) (bs : List (Nat × Row)), rows = pre ++ rest → Bs w w bs → Bas w ((dueN w rows pre.length).map fun i => vec (rows.getD i [])) (bv bs) →
    indF rest pre.length bs (dueN w rows pre.length) = dueN w rows rows.length
  | [], pre, bs, e, B, A => by
    rw [e, List.append_nil]
    rfl
  | r :: rest, pre, bs, e, B, A => by
    have hr : r.length = w := hw r (by rw [e]; exact List.mem_append_right _ List.mem_cons_self)
    have hg : rows.getD pre.length [] = r := by
      rw [e, List.getD_eq_getElem?_getD, List.getElem?_append_right (Nat.le_refl _), Nat.sub_self]
      rfl
    unfold indF
    split
    · rename_i hf
      rw [hr] at hf
      have stay : ∀ m, dueN w rows (pre.length + m) = dueN w rows pre.length ∨ rows.length < pre.length + m := by
        intro m
        induction m with
        | zero => exact .inl rfl
        | succ m ih =>
          rcases ih with ih | ih
          · by_cases hl : pre.length + m < rows.length
            · refine .inl ?_
              have hr2 : (rows.getD (pre.length + m) []).length = w := by
                rw [List.getD_eq_getElem?_getD, List.getElem?_eq_getElem hl]
                exact hw _ (List.getElem_mem hl)
              rw [← Nat.add_assoc, due_no (by rw [ih]; exact full_no A B hf hr2), ih]
            · exact .inr (by omega)
          · exact .inr (by omega)
      have := stay (rows.length - pre.length)
      have hle : pre.length ≤ rows.length := by
        rw [e, List.length_append]
        omega
      rw [show pre.length + (rows.length - pre.length) = rows.length by omega] at this
      rcases this with q | q
      · exact q.symm
      · omega
    · obtain ⟨s1, s2⟩ := step_ok (Nat.le_refl _) A B hr (v := vec r) fun _ _ => rfl
      have hx := red_len hr B.len
      split
      · rename_i c hc
        obtain ⟨h1, h2⟩ := lead_some hc
        have hcw : c < w := by omega
        have hn : ¬ Z (vec (redF r bs) c) := by
          rw [vec_get h1]
          have := red_res (r := r) (bs := bs) _ (List.getElem_mem h1)
          exact not_z_res this.1 this.2 h2
        have hy := due_yes (w := w) (rows := rows) (k := pre.length) (by
          rw [hg]
          exact s1.mpr ⟨c, hcw, hn⟩)
        have ih := ind_due hw rest (pre ++ [r]) (bs ++ [(c, sclF (redF r bs) c)]) (by rw [e, List.append_assoc]; rfl) (bs_grow B hx (Nat.le_refl _) (red_less (Nat.le_refl _) B hr).2 hcw hn) (by
          rw [List.length_append, show pre.length + [r].length = pre.length + 1 from rfl, hy, List.map_append]
          show Bas w (_ ++ [vec (rows.getD pre.length [])]) _
          rw [hg]
          exact s2 c hcw hn)
        rw [List.length_append, show pre.length + [r].length = pre.length + 1 from rfl, hy] at ih
        exact ih
      · rename_i hc
        have hy := due_no (w := w) (rows := rows) (k := pre.length) (by
          rw [hg, s1]
          rintro ⟨c, hcw, hn⟩
          refine hn ?_
          rw [vec_get (by omega), lead_none hc _ (List.getElem_mem (by omega))]
          exact Z.zero)
        have ih := ind_due hw rest (pre ++ [r]) bs (by rw [e, List.append_assoc]; rfl) B (by
          rw [List.length_append, show pre.length + [r].length = pre.length + 1 from rfl, hy]
          exact A)
        rw [List.length_append, show pre.length + [r].length = pre.length + 1 from rfl, hy] at ih
        exact ih
theorem ind_is {w : Nat} {rows : List Row} (hw : ∀ r ∈ rows, r.length = w) : indF rows 0 [] [] = dueN w rows rows.length := ind_due hw rows [] [] rfl bs_nil bas_nil
theorem due_all {w : Nat} {rows : List Row} : ∀ i, i ≤ rows.length → Indep w ((rows.take i).map vec) → dueN w rows i = List.range i ∧ (dueN w rows i).map (fun i => vec (rows.getD i [])) = (rows.take i).map vec
  | 0, _, _ => ⟨rfl, by
    rw [List.take_zero]
    rfl⟩
  | i + 1, hi, h => by
    have hl : i < rows.length := hi
    have et : rows.take (i + 1) = rows.take i ++ [rows[i]] := by
      rw [List.take_add_one, List.getElem?_eq_getElem hl]
      rfl
    have hg : rows.getD i [] = rows[i] := by
      rw [List.getD_eq_getElem?_getD, List.getElem?_eq_getElem hl]
      rfl
    rw [et, List.map_append] at h
    obtain ⟨e1, e2⟩ := due_all i (by omega) (indep_pre h)
    have hy := due_yes (w := w) (rows := rows) (k := i) (by
      rw [e2, hg]
      exact h)
    refine ⟨?_, ?_⟩
    · rw [hy, e1, List.range_succ]
    · rw [hy, List.map_append, e2, et, List.map_append]
      show _ ++ [vec (rows.getD i [])] = _
      rw [hg]
      rfl
/-- what the rows kept are when row i is the first other one -/
theorem due_first {w : Nat} {rows : List Row} {i : Nat} (hi : i < rows.length) (h : Indep w ((rows.take i).map vec)) (hn : ¬ Indep w ((rows.take (i + 1)).map vec)) :
    ∀ m, ∃ tail, dueN w rows (i + 1 + m) = List.range i ++ tail ∧ (∀ x ∈ tail, i < x) ∧ tail.length ≤ m
  | 0 => by
    obtain ⟨e1, e2⟩ := due_all i (by omega) h
    have et : rows.take (i + 1) = rows.take i ++ [rows[i]] := by
      rw [List.take_add_one, List.getElem?_eq_getElem hi]
      rfl
    have hg : rows.getD i [] = rows[i] := by
      rw [List.getD_eq_getElem?_getD, List.getElem?_eq_getElem hi]
      rfl
    refine ⟨[], ?_, fun x hx => (by cases hx), Nat.le_refl _⟩
    rw [Nat.add_zero, due_no (by
      rw [e2, hg]
      rw [et, List.map_append] at hn
      exact hn), e1, List.append_nil]
  | m + 1 => by
    obtain ⟨tail, e, h1, h2⟩ := due_first hi h hn m
    rw [← Nat.add_assoc]
    by_cases c : Indep w ((dueN w rows (i + 1 + m)).map (fun i => vec (rows.getD i [])) ++ [vec (rows.getD (i + 1 + m) [])])
    · refine ⟨tail ++ [i + 1 + m], ?_, fun x hx => ?_, ?_⟩
      · rw [due_yes c, e, List.append_assoc]
      · rcases List.mem_append.mp hx with q | q
        · exact h1 x q
        · rw [List.mem_singleton] at q
          omega
      · rw [List.length_append]
        show _ + 1 ≤ _
        omega
    · exact ⟨tail, (due_no c).trans e, h1, by omega⟩
end K00
set_option Elab.async false
set_option linter.all false
set_option maxRecDepth 100000
set_option maxHeartbeats 1000000
/-! the law's own elimination -/
namespace K00
open LA97
/-- the first of the rows from done on that is not 0 at the column -/
def okAt (rest : List Row) (c k : Nat) : Bool := decide (vec (rest.getD k []) c % 97 ≠ 0)
def findF (rest : List Row) (c done : Nat) : Option Nat := ((List.range (rest.length - done)).map (fun i => done + i)).find? (okAt rest c)
def elimF (w c : Nat) (lead s : Row) : Row := (List.range w).map fun j => (vec lead c * vec s j - vec s c * vec lead j) % 97
def swapF (rest : List Row) (at' done : Nat) : List Row := (rest.set at' (rest.getD done [])).set done (rest.getD at' [])
def colF (w : Nat) (st : List Row × Nat) (c : Nat) : List Row × Nat := match findF st.1 c st.2 with
  | none => st
  | some a => ((swapF st.1 a st.2).take (st.2 + 1) ++ ((swapF st.1 a st.2).drop (st.2 + 1)).map (elimF w c (st.1.getD a [])), st.2 + 1)
def cntF (w : Nat) (rows : List Row) : Nat := ((List.range w).foldl (colF w) (rows, 0)).2
structure Cnt (w : Nat) (rows : List Row) (st : List Row × Nat) (c : Nat) : Prop where
  len : st.1.length = rows.length
  done : st.2 ≤ rows.length
  wid : ∀ r ∈ st.1, r.length = w
  mid : Mid w (rows.map vec) ((st.1.take st.2).map vec) ((st.1.drop st.2).map vec) c
theorem find_none {rest : List Row} {c d : Nat} (h : findF rest c d = none) : ∀ s ∈ rest.drop d, Z (vec s c) := fun s hs => by
  unfold findF at h
  rw [List.find?_eq_none] at h
  obtain ⟨i, hi, e⟩ := List.mem_iff_getElem.mp hs
  rw [List.length_drop] at hi
  have := h (d + i) (List.mem_map.mpr ⟨i, List.mem_range.mpr hi, rfl⟩)
  unfold okAt at this
  rw [List.getElem_drop] at e
  rw [List.getD_eq_getElem?_getD, List.getElem?_eq_getElem (by omega)] at this
  simp only [Option.getD_some, e] at this
  exact Int.dvd_of_emod_eq_zero (by simpa using this)
theorem find_some {rest : List Row} {c d a : Nat} (h : findF rest c d = some a) : d ≤ a ∧ a < rest.length ∧ ¬ Z (vec (rest.getD a []) c) := by
  unfold findF at h
  have h1 := List.mem_of_find?_eq_some h
  have h2 := List.find?_some h
  obtain ⟨i, hi, rfl⟩ := List.mem_map.mp h1
  rw [List.mem_range] at hi
  refine ⟨by omega, by omega, fun z => ?_⟩
  unfold okAt at h2
  have := of_decide_eq_true h2
  exact this (Int.emod_eq_zero_of_dvd z)
theorem vec_out {r : Row} {j : Nat} (h : r.length ≤ j) : vec r j = 0 := by
  unfold vec
  rw [List.getD_eq_getElem?_getD, List.getElem?_eq_none h]
  rfl
theorem col_ok {w : Nat} {rows : List Row} {st : List Row × Nat} {c : Nat} (S : Cnt w rows st c) (hc : c < w) : Cnt w rows (colF w st c) (c + 1) := by
  obtain ⟨rest, d⟩ := st
  obtain ⟨hlen, hdone, hwid, hmid⟩ := S
  dsimp only at hlen hdone hwid hmid
  unfold colF
  cases hf : findF rest c d with
  | none =>
    dsimp only
    refine ⟨hlen, hdone, hwid, mid_none hmid fun s hs => ?_⟩
    obtain ⟨r, hr, rfl⟩ := List.mem_map.mp hs
    exact find_none hf r hr
  | some a =>
    dsimp only
    obtain ⟨h1, h2, h3⟩ := find_some hf
    have hd : d < rest.length := by omega
    have gA : rest.getD a [] = rest[a] := by
      rw [List.getD_eq_getElem?_getD, List.getElem?_eq_getElem h2]
      rfl
    have gD : rest.getD d [] = rest[d] := by
      rw [List.getD_eq_getElem?_getD, List.getElem?_eq_getElem hd]
      rfl
    have wl : (rest.getD a []).length = w := by
      rw [gA]
      exact hwid _ (List.getElem_mem h2)
    have swl : (swapF rest a d).length = rest.length := by
      unfold swapF
      rw [List.length_set, List.length_set]
    have sget : ∀ k, k < rest.length → (swapF rest a d)[k]? = if k = d then some rest[a] else if k = a then some rest[d] else rest[k]? := fun k hk => by
      unfold swapF
      rw [List.getElem?_set, List.length_set]
      by_cases e : d = k
      · rw [if_pos e, if_pos (by omega), if_pos e.symm, gA]
      · rw [if_neg e, if_neg (fun x => e x.symm), List.getElem?_set]
        by_cases e2 : a = k
        · rw [if_pos e2, if_pos h2, if_pos e2.symm, gD]
        · rw [if_neg e2, if_neg (fun x => e2 x.symm)]
    have swid : ∀ r ∈ swapF rest a d, r.length = w := fun r hr => by
      unfold swapF at hr
      rcases List.mem_or_eq_of_mem_set hr with q | q
      · rcases List.mem_or_eq_of_mem_set q with q | q
        · exact hwid r q
        · rw [q, gD]
          exact hwid _ (List.getElem_mem hd)
      · rw [q, gA]
        exact hwid _ (List.getElem_mem h2)
    have take0 : (swapF rest a d).take d = rest.take d := by
      unfold swapF
      rw [List.take_set_of_le (Nat.le_refl _), List.take_set_of_le h1]
    have take1 : (swapF rest a d).take (d + 1) = rest.take d ++ [rest.getD a []] := by
      rw [List.take_add_one, take0, sget d hd, if_pos rfl, gA]
      rfl
    have dropE : (swapF rest a d).drop d = rest.getD a [] :: (swapF rest a d).drop (d + 1) := by
      rw [List.drop_eq_getElem_cons (by omega)]
      have := sget d hd
      rw [if_pos rfl, List.getElem?_eq_getElem (by omega)] at this
      rw [Option.some.inj this, gA]
    have perm : (rest.drop d).Perm (rest.getD a [] :: (swapF rest a d).drop (d + 1)) := by
      rw [← dropE]
      have p1 : (rest.take d ++ (swapF rest a d).drop d).Perm (rest.take d ++ rest.drop d) := by
        rw [← take0, List.take_append_drop]
        rw [take0, List.take_append_drop]
        unfold swapF
        rw [gA, gD]
        exact List.set_set_perm h2 hd
      exact ((List.perm_append_left_iff _).mp p1).symm
    have hl : (((swapF rest a d).take (d + 1)).map vec) = (rest.take d).map vec ++ [vec (rest.getD a [])] := by
      rw [take1, List.map_append]
      rfl
    have ef : ∀ s : Row, s.length = w → vec (elimF w c (rest.getD a []) s) = fun j => (vec (rest.getD a []) c * vec s j - vec s c * vec (rest.getD a []) j) % 97 := fun s hs => by
      funext j
      by_cases hj : j < w
      · rw [vec_get (by unfold elimF; rw [List.length_map, List.length_range]; exact hj)]
        unfold elimF
        rw [List.getElem_map, List.getElem_range]
      · rw [vec_out (by unfold elimF; rw [List.length_map, List.length_range]; omega), vec_out (r := s) (by omega), vec_out (r := rest.getD a []) (j := j) (by omega), Int.mul_zero, Int.mul_zero]
        rfl
    have tl : ((swapF rest a d).take (d + 1)).length = d + 1 := by
      rw [List.length_take, swl]
      omega
    have M := mid_lead (f := fun s j => (vec (rest.getD a []) c * s j - s c * vec (rest.getD a []) j) % 97) hmid hc h3 (by
      have := perm.map vec
      rw [List.map_cons] at this
      exact this) (fun s j hj => z_mod _)
    have em : (((swapF rest a d).drop (d + 1)).map (elimF w c (rest.getD a []))).map vec = (((swapF rest a d).drop (d + 1)).map vec).map (fun s j => (vec (rest.getD a []) c * s j - s c * vec (rest.getD a []) j) % 97) := by
      rw [List.map_map, List.map_map]
      refine List.map_congr_left fun s hs => ?_
      exact ef s (swid s (List.mem_of_mem_drop hs))
    refine ⟨?_, by show d + 1 ≤ _; omega, fun r hr => ?_, ?_⟩
    · show ((swapF rest a d).take (d + 1) ++ ((swapF rest a d).drop (d + 1)).map (elimF w c (rest.getD a []))).length = _
      rw [List.length_append, List.length_map, List.length_drop, List.length_take, swl]
      omega
    · rcases List.mem_append.mp hr with q | q
      · exact swid r (List.mem_of_mem_take q)
      · obtain ⟨s, hs, rfl⟩ := List.mem_map.mp q
        unfold elimF
        rw [List.length_map, List.length_range]
    · show Mid w (rows.map vec) ((((swapF rest a d).take (d + 1) ++ ((swapF rest a d).drop (d + 1)).map (elimF w c (rest.getD a []))).take (d + 1)).map vec) ((((swapF rest a d).take (d + 1) ++ ((swapF rest a d).drop (d + 1)).map (elimF w c (rest.getD a []))).drop (d + 1)).map vec) (c + 1)
      rw [List.take_append_of_le_length (by omega), List.take_of_length_le (by omega), List.drop_append_of_le_length (by omega), List.drop_of_length_le (by omega), List.nil_append, hl, em]
      exact M
theorem cnt_fold {w : Nat} {rows : List Row} (hw : ∀ r ∈ rows, r.length = w) : ∀ c, c ≤ w → Cnt w rows ((List.range c).foldl (colF w) (rows, 0)) c
  | 0, _ => ⟨rfl, Nat.zero_le _, hw, by
    show Mid w (rows.map vec) ((rows.take 0).map vec) ((rows.drop 0).map vec) 0
    rw [List.take_zero, List.drop_zero]
    exact mid_start⟩
  | c + 1, h => by
    rw [List.range_succ, List.foldl_append]
    exact col_ok (cnt_fold hw c (by omega)) (by omega)
theorem cnt_ok {w : Nat} {rows : List Row} (hw : ∀ r ∈ rows, r.length = w) : cntF w rows ≤ rows.length ∧ (cntF w rows = rows.length ↔ Indep w (rows.map vec)) := by
  have S := cnt_fold hw w (Nat.le_refl _)
  refine ⟨S.done, ?_⟩
  rw [← mid_end S.mid, List.map_eq_nil_iff, List.drop_eq_nil_iff, S.len]
  unfold cntF
  have := S.done
  omega
end K00
set_option Elab.async false
set_option linter.all false
set_option maxRecDepth 100000
set_option maxHeartbeats 1000000
/-! the first relation -/
namespace K00
open LA97
/-- the sum of the rows, times the numbers from o on -/
def lin (x : Vec) : List Row → Nat → Nat → Int
  | [], _, _ => 0
  | r :: rs, o, j => x o * vec r j + lin x rs (o + 1) j
theorem lin_cong {x y l : Vec} {c : Int} {W : Nat} (h : ∀ j, j < W → Z (y j - (x j - c * l j))) {j : Nat} : ∀ (rs : List Row) (o : Nat), o + rs.length ≤ W → Z (lin y rs o j - (lin x rs o j - c * lin l rs o j))
  | [], o, _ => by
    show Z (0 - (0 - c * 0))
    rw [Int.mul_zero]
    exact Z.zero
  | r :: rs, o, ho => by
    rw [List.length_cons] at ho
    have h1 := lin_cong h (j := j) rs (o + 1) (by omega)
    have h2 := (h o (by omega)).mulR (vec r j)
    show Z (y o * vec r j + lin y rs (o + 1) j - (x o * vec r j + lin x rs (o + 1) j - c * (l o * vec r j + lin l rs (o + 1) j)))
    have e : y o * vec r j + lin y rs (o + 1) j - (x o * vec r j + lin x rs (o + 1) j - c * (l o * vec r j + lin l rs (o + 1) j)) = (y o - (x o - c * l o)) * vec r j + (lin y rs (o + 1) j - (lin x rs (o + 1) j - c * lin l rs (o + 1) j)) := by
      rw [Int.sub_mul, Int.sub_mul, Int.mul_add, Int.mul_assoc]
      omega
    rw [e]
    exact h2.add h1
theorem lin_zero {x : Vec} {j : Nat} : ∀ (rs : List Row) (o : Nat), (∀ k, k < rs.length → Z (x (o + k))) → Z (lin x rs o j)
  | [], _, _ => Z.zero
  | r :: rs, o, h => by
    refine Z.add ?_ (lin_zero rs (o + 1) fun k hk => ?_)
    · exact (h 0 (by rw [List.length_cons]; omega)).mulR _
    · have := h (k + 1) (by rw [List.length_cons]; omega)
      rw [show o + (k + 1) = o + 1 + k by omega] at this
      exact this
theorem lin_unit {x : Vec} {j : Nat} : ∀ (rs : List Row) (o i : Nat) (hi : i < rs.length), (∀ k, k < rs.length → x (o + k) = if k = i then 1 else 0) → lin x rs o j = vec rs[i] j
  | r :: rs, o, 0, hi, h => by
    have h0 := h 0 hi
    rw [if_pos rfl, Nat.add_zero] at h0
    show x o * vec r j + lin x rs (o + 1) j = vec r j
    rw [h0, Int.one_mul]
    have : ∀ (rs : List Row) (o : Nat), (∀ k, k < rs.length → x (o + k) = 0) → lin x rs o j = 0 := by
      intro rs
      induction rs with
      | nil => intros; rfl
      | cons r rs ih =>
        intro o h
        show x o * vec r j + lin x rs (o + 1) j = 0
        have h0 := h 0 (by rw [List.length_cons]; omega)
        rw [Nat.add_zero] at h0
        rw [h0, Int.zero_mul, Int.zero_add]
        exact ih (o + 1) fun k hk => by
          have := h (k + 1) (by rw [List.length_cons]; omega)
          rw [show o + (k + 1) = o + 1 + k by omega] at this
          exact this
    rw [this rs (o + 1) fun k hk => by
      have := h (k + 1) (by rw [List.length_cons]; omega)
      rw [if_neg (by omega), show o + (k + 1) = o + 1 + k by omega] at this
      exact this]
    omega
  | r :: rs, o, i + 1, hi, h => by
    have h0 := h 0 (by rw [List.length_cons]; omega)
    rw [if_neg (by omega), Nat.add_zero] at h0
    show x o * vec r j + lin x rs (o + 1) j = vec (rs[i]'(by rw [List.length_cons] at hi; omega)) j
    rw [h0, Int.zero_mul, Int.zero_add]
    exact lin_unit rs (o + 1) i (by rw [List.length_cons] at hi; omega) fun k hk => by
      have := h (k + 1) (by rw [List.length_cons]; omega)
      rw [show o + (k + 1) = o + 1 + k by omega] at this
      rw [this]
      by_cases e : k = i
      · rw [if_pos e, if_pos (by omega)]
      · rw [if_neg e, if_neg (by omega)]
theorem lin_shift {x y : Vec} {j : Nat} : ∀ (rs : List Row) (o p : Nat), (∀ k, k < rs.length → x (o + k) = y (p + k)) → lin x rs o j = lin y rs p j
  | [], _, _, _ => rfl
  | r :: rs, o, p, h => by
    show x o * vec r j + lin x rs (o + 1) j = y p * vec r j + lin y rs (p + 1) j
    have h0 := h 0 (by rw [List.length_cons]; omega)
    rw [Nat.add_zero, Nat.add_zero] at h0
    rw [h0, lin_shift rs (o + 1) (p + 1) fun k hk => by
      have := h (k + 1) (by rw [List.length_cons]; omega)
      rw [show o + (k + 1) = o + 1 + k by omega, show p + (k + 1) = p + 1 + k by omega] at this
      exact this]
/-- what the answer must be: row i is the first other one -/
structure Told (w : Nat) (rows : List Row) (t : Row) (i : Nat) : Prop where
  lt : i < rows.length
  fst : Indep w ((rows.take i).map vec)
  dep : ¬ Indep w ((rows.take (i + 1)).map vec)
  len : t.length = rows.length
  res : Res t
  one : vec t i = 1
  zer : ∀ k, i < k → vec t k = 0
  sum : ∀ j, j < w → Z (lin (vec t) rows 0 j)
theorem vec_app {r u : Row} {j : Nat} : vec (r ++ u) j = if j < r.length then vec r j else vec u (j - r.length) := by
  unfold vec
  rw [List.getD_eq_getElem?_getD]
  by_cases h : j < r.length
  · rw [if_pos h, List.getElem?_append_left h, ← List.getD_eq_getElem?_getD]
  · rw [if_neg h, List.getElem?_append_right (by omega), ← List.getD_eq_getElem?_getD]
theorem vec_unit {c n k : Nat} (h : k < n) : vec (unitF c n) k = if k = c then 1 else 0 := by
  rw [vec_get (by rw [unit_len]; exact h)]
  unfold unitF
  rw [List.getElem_map, List.getElem_range]
theorem vec_drop {r : Row} {w k : Nat} : vec (r.drop w) k = vec r (w + k) := by
  unfold vec
  rw [List.getD_eq_getElem?_getD, List.getD_eq_getElem?_getD, List.getElem?_drop]
/-- what is told of each row of the lengthened basis: its left part is the sum that its right part tells; it has no row from i on -/
structure Acc (w : Nat) (rows : List Row) (i : Nat) (x : Vec) : Prop where
  sum : ∀ j, j < w → Z (x j - lin x rows w j)
  low : ∀ k, i ≤ k → k < rows.length → Z (x (w + k))
theorem rel_ok {w : Nat} {rows : List Row} (hw : ∀ r ∈ rows, r.length = w) : ∀ (rest pre : List Row) (bs : List (Nat × Row)), rows = pre ++ rest → Bs (w + rows.length) w bs → Bas w (pre.map vec) (bv bs) → (∀ b ∈ bs, Acc w rows pre.length (vec b.2)) → Indep w (pre.map vec) →
    match relF rows.length rest pre.length bs with
    | none => Indep w (rows.map vec)
    | some t => ∃ i, Told w rows t i
  | [], pre, bs, e, B, A, C, I => by
    rw [List.append_nil] at e
    rw [e]
    exact I
  | r :: rest, pre, bs, e, B, A, C, I => by
    have hr : r.length = w := hw r (by rw [e]; exact List.mem_append_right _ List.mem_cons_self)
    have hpl : pre.length < rows.length := by
      rw [e, List.length_append, List.length_cons]
      omega
    have hg : rows[pre.length] = r := by
      have : rows[pre.length]? = some r := by
        rw [e, List.getElem?_append_right (Nat.le_refl _), Nat.sub_self]
        rfl
      rw [List.getElem?_eq_getElem hpl] at this
      exact Option.some.inj this
    have hu : (r ++ unitF pre.length rows.length).length = w + rows.length := by rw [List.length_append, unit_len, hr]
    have hv : ∀ j, j < w → vec (r ++ unitF pre.length rows.length) j = vec r j := fun j hj => by rw [vec_app, if_pos (by omega)]
    have hv2 : ∀ k, k < rows.length → vec (r ++ unitF pre.length rows.length) (w + k) = if k = pre.length then 1 else 0 := fun k hk => by
      rw [vec_app, if_neg (by omega), hr, show w + k - w = k by omega, vec_unit hk]
    obtain ⟨s1, s2⟩ := step_ok (w := w) (by omega) A B hu hv
    obtain ⟨l1, l2⟩ := red_less (w := w) (by omega) B hu
    have hx := red_len hu B.len
    have hres := red_res (r := r ++ unitF pre.length rows.length) (bs := bs)
    -- what the rest is
    have mc := mod_cong hu
    have sumx : ∀ j, j < w → Z (vec (redF (r ++ unitF pre.length rows.length) bs) j - lin (vec (redF (r ++ unitF pre.length rows.length) bs)) rows w j) := fun j hj => by
      have f1 := less_form (fun x => x j - lin x rows w j) (fun x y l c h => by
        have a1 := h j (by omega)
        have a2 := lin_cong h (j := j) rows w (Nat.le_refl _)
        have := a1.sub a2
        have e : y j - (x j - c * l j) - (lin y rows w j - (lin x rows w j - c * lin l rows w j)) = y j - lin y rows w j - (x j - lin x rows w j - c * (l j - lin l rows w j)) := by
          rw [Int.mul_sub]
          omega
        rw [← e]
        exact this) (fun l hl => by
          obtain ⟨b, hb, rfl⟩ := List.mem_map.mp hl
          exact (C b hb).sum j hj) l1
      have f2 : Z (vec (mod97 (r ++ unitF pre.length rows.length)) j - lin (vec (mod97 (r ++ unitF pre.length rows.length))) rows w j) := by
        have a1 := mc j (by omega)
        have a2 := lin_cong (x := vec (r ++ unitF pre.length rows.length)) (y := vec (mod97 (r ++ unitF pre.length rows.length))) (l := fun _ => 0) (c := 0) (W := w + rows.length) (fun j hj => by
          rw [Int.zero_mul, Int.sub_zero]
          exact mc j hj) (j := j) rows w (Nat.le_refl _)
        have a3 := lin_unit (x := vec (r ++ unitF pre.length rows.length)) (j := j) rows w pre.length hpl hv2
        rw [hg] at a3
        rw [hv j hj] at a1
        rw [Int.zero_mul, Int.sub_zero, a3] at a2
        have := a1.sub a2
        have e : vec (mod97 (r ++ unitF pre.length rows.length)) j - vec r j - (lin (vec (mod97 (r ++ unitF pre.length rows.length))) rows w j - vec r j) = vec (mod97 (r ++ unitF pre.length rows.length)) j - lin (vec (mod97 (r ++ unitF pre.length rows.length))) rows w j := by omega
        rw [← e]
        exact this
      have := f1.add f2
      have e : ∀ a b : Int, a - b + b = a := fun a b => by omega
      rw [e] at this
      exact this
    have hik : ∀ k, pre.length ≤ k → k < rows.length → Z (vec (redF (r ++ unitF pre.length rows.length) bs) (w + k) - if k = pre.length then 1 else 0) := fun k hk hk2 => by
      have f1 := less_form (fun x => x (w + k)) (fun x y l c h => h (w + k) (by omega)) (fun l hl => by
          obtain ⟨b, hb, rfl⟩ := List.mem_map.mp hl
          exact (C b hb).low k hk hk2) l1
      have f2 := mc (w + k) (by omega)
      rw [hv2 k hk2] at f2
      have := f1.add f2
      have e : ∀ a b c : Int, a - b + (b - c) = a - c := fun a b c => by omega
      rw [e] at this
      exact this
    have et : rows.take (pre.length + 1) = pre ++ [r] := by
      rw [e, show pre ++ r :: rest = (pre ++ [r]) ++ rest by simp, show pre.length + 1 = (pre ++ [r]).length by simp, List.take_left]
    have et0 : rows.take pre.length = pre := by
      rw [e, List.take_left]
    unfold relF
    rw [hr]
    cases hl : leadF ((redF (r ++ unitF pre.length rows.length) bs).take w) with
    | none =>
      dsimp only
      have hz := lead_none hl
      have hz2 : ∀ j, j < w → vec (redF (r ++ unitF pre.length rows.length) bs) j = 0 := fun j hj => by
        rw [vec_get (by omega)]
        refine hz _ (List.mem_take_iff_getElem.mpr ⟨j, by omega, rfl⟩)
      refine ⟨pre.length, hpl, by rw [et0]; exact I, ?_, by rw [List.length_drop, hx]; omega, fun x hx => hres x (List.mem_of_mem_drop hx), ?_, fun k hk => ?_, fun j hj => ?_⟩
      · rw [et, List.map_append]
        refine fun i => ?_
        obtain ⟨c, hc, hn⟩ := s1.mp i
        rw [hz2 c hc] at hn
        exact hn Z.zero
      · rw [vec_drop]
        have := hik pre.length (Nat.le_refl _) hpl
        rw [if_pos rfl] at this
        exact z_one this (res_vec hres _).1 (res_vec hres _).2
      · rw [vec_drop]
        by_cases hk2 : k < rows.length
        · have := hik k (by omega) hk2
          rw [if_neg (by omega), Int.sub_zero] at this
          exact z_res this (res_vec hres _).1 (res_vec hres _).2
        · unfold vec
          rw [List.getD_eq_getElem?_getD, List.getElem?_eq_none (by omega)]
          rfl
      · have := sumx j hj
        rw [hz2 j hj] at this
        rw [lin_shift (y := vec (redF (r ++ unitF pre.length rows.length) bs)) rows 0 w fun k _ => by rw [vec_drop, Nat.zero_add]]
        have h2 := Z.zero.sub this
        have e : ∀ a : Int, 0 - (0 - a) = a := fun a => by omega
        rw [e] at h2
        exact h2
    | some c =>
      dsimp only
      obtain ⟨h1, h2⟩ := lead_some hl
      have hcw : c < w := by
        rw [List.length_take] at h1
        omega
      have hn : ¬ Z (vec (redF (r ++ unitF pre.length rows.length) bs) c) := by
        rw [vec_get (by omega)]
        rw [List.getElem_take] at h2
        have := hres _ (List.getElem_mem (show c < (redF (r ++ unitF pre.length rows.length) bs).length by omega))
        exact not_z_res this.1 this.2 h2
      have ih := rel_ok hw rest (pre ++ [r]) (bs ++ [(c, sclF (redF (r ++ unitF pre.length rows.length) bs) c)]) (by rw [e, List.append_assoc]; rfl) (bs_grow B hx (by omega) l2 hcw hn) (by
        rw [List.map_append]
        exact s2 c hcw hn) (fun b hb => by
          rw [List.length_append, show pre.length + [r].length = pre.length + 1 from rfl]
          rcases List.mem_append.mp hb with q | q
          · exact ⟨(C b q).sum, fun k hk hk2 => (C b q).low k (by omega) hk2⟩
          · rw [List.mem_singleton] at q
            rw [q]
            have sc : ∀ j, j < w + rows.length → Z (vec (sclF (redF (r ++ unitF pre.length rows.length) bs) c) j - invF (vec (redF (r ++ unitF pre.length rows.length) bs) c) * vec (redF (r ++ unitF pre.length rows.length) bs) j) := fun j hj => scl_cong (by omega)
            refine ⟨fun j hj => ?_, fun k hk hk2 => ?_⟩
            · have a1 := sc j (by omega)
              have a2 := lin_cong (x := fun _ => 0) (y := vec (sclF (redF (r ++ unitF pre.length rows.length) bs) c)) (l := vec (redF (r ++ unitF pre.length rows.length) bs)) (c := - invF (vec (redF (r ++ unitF pre.length rows.length) bs) c)) (W := w + rows.length) (fun j hj => by
                have := sc j hj
                rw [Int.neg_mul]
                have e : ∀ a b : Int, a - (0 - -b) = a - b := fun a b => by omega
                rw [e]
                exact this) (j := j) rows w (Nat.le_refl _)
              have a3 := (sumx j hj).mulL (invF (vec (redF (r ++ unitF pre.length rows.length) bs) c))
              have z0 : ∀ (rs : List Row) (o : Nat), lin (fun _ => 0) rs o j = 0 := by
                intro rs
                induction rs with
                | nil => intros; rfl
                | cons r rs ih =>
                  intro o
                  show 0 * _ + lin (fun _ => 0) rs (o + 1) j = 0
                  rw [ih, Int.zero_mul]
                  rfl
              rw [z0, Int.neg_mul] at a2
              rw [Int.mul_sub] at a3
              have := (a1.sub a2).add a3
              have e : ∀ p q s t : Int, p - q - (t - (0 - -s)) + (q - s) = p - t := fun p q s t => by omega
              rw [e] at this
              exact this
            · have a1 := sc (w + k) (by omega)
              have a2 := hik k (by omega) hk2
              rw [if_neg (by omega), Int.sub_zero] at a2
              have := a1.add (a2.mulL (invF (vec (redF (r ++ unitF pre.length rows.length) bs) c)))
              have e : ∀ p q : Int, p - q + q = p := fun p q => by omega
              rw [e] at this
              exact this) (by
        rw [List.map_append]
        exact s1.mpr ⟨c, hcw, hn⟩)
      rw [List.length_append, show pre.length + [r].length = pre.length + 1 from rfl] at ih
      exact ih
theorem rel_is {w : Nat} {rows : List Row} (hw : ∀ r ∈ rows, r.length = w) : match relF rows.length rows 0 [] with
    | none => Indep w (rows.map vec)
    | some t => ∃ i, Told w rows t i := rel_ok hw rows [] [] rfl bs_nil bas_nil (fun b hb => (by cases hb)) (fun ps e _ p hp => by
      rw [List.map_eq_nil_iff.mp e] at hp
      cases hp)
end K00
set_option Elab.async false
set_option linter.all false
set_option maxRecDepth 100000
set_option maxHeartbeats 4000000
namespace K00
open PySem PySem.Spec PyProof.Rows L2 Evl DL
def topS (i : Nat) : Stmt := PySem.Challenge.pw_fewserve_k00_first_relation.main.body.getD i (.Pass ⟨0, 0, 0, 0⟩)
structure DefAt (K : PySem.W.Frag) (mg : Str → Option Value) (x : Str) (st : Stmt) (ps : List Str) (f : Addr) (fd : FuncData) : Prop where
  F : Fun K x x st f fd
  g : mg x = some (.ref f)
  b : Binds K fd ps []
/-! ### the mathematics -/
def cell (ns : List Int) (k : Nat) : Int := match ns[k]? with
  | some n => n
  | none => 7919 * (k : Int) + 104729
def draws (rest state : Int) : List Int → List Int
  | [] => []
  | m :: ms =>
    let st := (state * 16807 + 10007) % 2147483647
    if 0 < rest then rest % m :: draws (rest / m) st ms else st / 64 % m :: draws rest st ms
def drawn (c : Int) (ms : List Int) : List Int := draws (if 10 ^ 18 ≤ c then c - 10 ^ 18 else 0) (c * 48271 % 2147483647) ms
theorem draws_len : ∀ (ms : List Int) (r s : Int), (draws r s ms).length = ms.length
  | [], _, _ => rfl
  | m :: ms, r, s => by
    unfold draws
    dsimp only
    split
    · rw [List.length_cons, List.length_cons, draws_len ms]
    · rw [List.length_cons, List.length_cons, draws_len ms]
theorem drawn_len {c : Int} {ms : List Int} : (drawn c ms).length = ms.length := draws_len ms _ _
theorem draws_get : ∀ (ms : List Int) (r s : Int) (i : Nat) (m : Int), (∀ x ∈ ms, 0 < x) → ms[i]? = some m → ∃ x, (draws r s ms)[i]? = some x ∧ 0 ≤ x ∧ x < m
  | [], _, _, i, m, _, h => by simp at h
  | m :: ms, r, s, 0, m', hp, h => by
    cases h
    have h0 := hp m List.mem_cons_self
    unfold draws
    dsimp only
    split
    · exact ⟨_, rfl, Int.emod_nonneg _ (by omega), Int.emod_lt_of_pos _ h0⟩
    · exact ⟨_, rfl, Int.emod_nonneg _ (by omega), Int.emod_lt_of_pos _ h0⟩
  | m :: ms, r, s, i + 1, m', hp, h => by
    unfold draws
    dsimp only
    split
    · exact draws_get ms _ _ i m' (fun x hx => hp x (List.mem_cons_of_mem _ hx)) h
    · exact draws_get ms _ _ i m' (fun x hx => hp x (List.mem_cons_of_mem _ hx)) h
/-! ### the law's cells and draws -/
abbrev s_law_cell : Stmt := topS 17
theorem sc_law_cell : FnScope ["script", "k"] ["script", "k"] (defScope s_law_cell) := ⟨rfl, rfl, rfl, by decide +kernel, rfl, by decide +kernel, by decide +kernel⟩
/- 0 script, 1 k -/
abbrev s_law_draws : Stmt := topS 18
theorem sc_law_draws : FnScope ["cell", "limits", "rest", "state", "drawn", "limit"] ["cell", "limits"] (defScope s_law_draws) := ⟨rfl, rfl, rfl, by decide +kernel, rfl, by decide +kernel, by decide +kernel⟩
/- 0 cell, 1 limits, 2 rest, 3 state, 4 drawn, 5 limit -/
def wCell (K : PySem.W.Frag) : (Hp → List V → Prop) → Int → Prop := fun P b => ∃ (ns : List Int) (k : Nat), P = A2 (rFro K) rInt ns (k : Int) ∧ ns.length ≤ 63 ∧ k ≤ 1000 ∧ b = cell ns k
def wDraws : (Hp → List V → Prop) → List Int → Prop := fun P b => ∃ (c : Int) (ms : List Int), P = A2 rInt (rLst rInt) c ms ∧ ms.length ≤ 1000 ∧ (∀ m ∈ ms, 0 < m ∧ m < 2 ^ 100) ∧ b = drawn c ms
section
variable {P : Program} {w : World} {K : PySem.W.Frag} {mg : Str → Option Value} {base : Heap}
theorem ok_law_cell {f : Addr} {fd : FuncData} (D : DefAt K mg "_law_cell" s_law_cell ["script", "k"] f fd) (mB_len : mg "len" = none) : FnOk P w K mg base CX0 1 f fd ["script", "k"] (spV rInt (wCell K)) := by
  refine D.F.ok sc_law_cell (fun vs H Q E h => ?_) (fun cdv A outer s H vs Q E hr h => ?_)
  · obtain ⟨F, Pp, b, _, _, ⟨ns, k, rfl, _⟩, ⟨v, w, rfl, _⟩, _⟩ := h
    rfl
  · obtain ⟨F, Pp, b, eF, _, ⟨ns, k, rfl, hl, hk, rfl⟩, ⟨v, w', rfl, hv, hw⟩, q⟩ := h
    cases (show w' = V.int k from hw)
    refine ⟨_, (pss_cons (ps_if (pt_cmpR op_lt (pv 1) (pe_callB (r := rLenQ K) call_len_seq (by rfl) mB_len (by decide +kernel) (pa_cons (pv 0) pa_nil)) (nomark _))
    (pss_one (ps_ret (pe_ix (r := rIxL K) ix_list (pv 0) (pv 1) (fun _ _ => rfl))))
    pss_nil)
  (pss_one (ps_ret (pe_op op_add (pe_op op_mul pe_int (pv 1)) pe_int)))), ?_⟩
    have e0 : Er (rFro K) (tVar 0) [some v, some (.int (k : Int))] F ns := er_var rfl hv
    refine q_when (F := F) (et_test (er_cmp0 (er_vi rfl) (er_lenF e0))) eF (fun hb H2 e2 => ?_) (fun hb H2 e2 => ?_)
    · have hb := of_decide_eq_true hb
      have hg : ns[k]? = some ns[k] := List.getElem?_eq_getElem (by omega)
      refine s_retI (F := F) (er_ixF e0 (er_vi rfl) (atI_nat hg)) (eF.trans e2) fun H3 e3 => ?_
      have ec : cell ns k = ns[k] := by
        unfold cell
        rw [hg]
      rw [ec] at q
      exact q _ H3 (e2.trans e3) rfl
    · have hb := of_decide_eq_false hb
      have hg : ns[k]? = none := List.getElem?_eq_none (by omega)
      refine s_retI (F := F) (er_I0 (er_I er_int (er_vi rfl) (Or.inl (by decide))) er_int) (eF.trans e2) fun H3 e3 => ?_
      have ec : cell ns k = 7919 * (k : Int) + 104729 := by
        unfold cell
        rw [hg]
      rw [ec] at q
      exact q _ H3 (e2.trans e3) rfl
theorem ok_law_draws {f : Addr} {fd : FuncData} (D : DefAt K mg "_law_draws" s_law_draws ["cell", "limits"] f fd) (mB_int : mg "int" = none) : FnOk P w K mg base CX0 1 f fd ["cell", "limits"] (spN rInt wDraws) := by
  refine D.F.ok sc_law_draws (fun vs H Q E h => ?_) (fun cdv A outer s H vs Q E hr h => ?_)
  · obtain ⟨F, Pp, b, _, _, ⟨c, ms, rfl, _⟩, ⟨v, w, rfl, _⟩, _⟩ := h
    rfl
  · obtain ⟨F, Pp, b, eF, _, ⟨c, ms, rfl, hl, hm, rfl⟩, ⟨v, w', rfl, hv, hw⟩, q⟩ := h
    cases (show v = V.int c from hv)
    refine ⟨_, (pss_cons (ps_set (i := 2) sc_law_draws.nd rfl (by first | exact Or.inl rfl | exact Or.inr rfl) pe_int)
  (pss_cut (ps_if (pt_cmpR op_ge (pv 0) (pe_op op_pow pe_int pe_int) (nomark _))
    (pss_one (ps_set (i := 2) sc_law_draws.nd rfl (by first | exact Or.inl rfl | exact Or.inr rfl) (pe_op op_sub (pv 0) (pe_op op_pow pe_int pe_int))))
    pss_nil)
  (pss_cons (ps_set (i := 3) sc_law_draws.nd rfl (by first | exact Or.inl rfl | exact Or.inr rfl) (pe_op op_mod (pe_op op_mul (pe_callTy (r := rInt1) call_int1 (by rfl) mB_int (by decide +kernel) (pa_cons (pv 0) pa_nil)) pe_int) pe_int))
  (pss_cons (ps_set (i := 4) sc_law_draws.nd rfl (by first | exact Or.inl rfl | exact Or.inr rfl) (pe_lst pa_nil))
  (pss_cons (ps_for PassesOwn.never rfl (pi_listK (K := K) (pv 1)) (pg_name (i := 5) sc_law_draws.nd rfl (by first | exact Or.inl rfl | exact Or.inr rfl))
    (pss_cons (ps_set (i := 3) sc_law_draws.nd rfl (by first | exact Or.inl rfl | exact Or.inr rfl) (pe_op op_mod (pe_op op_add (pe_op op_mul (pv 3) pe_int) pe_int) pe_int))
  (pss_one (ps_if (pt_cmpR op_gt (pv 2) pe_int (nomark _))
    (pss_cons (ps_expr (pe_bm PySem.F.plainAttrs_list PySem.F.slot_list_append PySem.F.type_list_append mt_append (pv 4) (pa_cons (pe_op op_mod (pv 2) (pv 5)) pa_nil)))
  (pss_one (ps_set (i := 2) sc_law_draws.nd rfl (by first | exact Or.inl rfl | exact Or.inr rfl) (pe_op op_fdivW (pv 2) (pv 5)))))
    (pss_one (ps_expr (pe_bm PySem.F.plainAttrs_list PySem.F.slot_list_append PySem.F.type_list_append mt_append (pv 4) (pa_cons (pe_op op_mod (pe_op op_fdivW (pv 3) pe_int) (pv 5)) pa_nil))))))))
  (pss_one (ps_ret (pv 4)))))))), ?_⟩
    -- rest = 0; if cell >= 10 ** 18: rest = cell - 10 ** 18
    refine q_asgI (F := F) er_int eF fun H1 e1 => ?_
    refine ⟨fun σ' H' => Ex H H' ∧ σ' = [some (.int c), some w', some (.int (if 10 ^ 18 ≤ c then c - 10 ^ 18 else 0)), none, none, none], ?_, fun σ2 H2 ⟨e2, hσ⟩ => ?_⟩
    · refine s_if (F := F) (et_test (er_cmp0 (er_vi rfl) (er_I (C := CPow) er_int er_int ⟨by decide, by decide, by decide⟩))) (eF.trans e1) (fun hb H2 e2 => ?_) (fun hb H2 e2 => ?_)
      · have hb : (10 : Int) ^ 18 ≤ c := of_decide_eq_true hb
        refine s_asgI (F := F) (er_I0 (er_vi rfl) (er_I (C := CPow) er_int er_int ⟨by decide, by decide, by decide⟩)) (eF.trans (e1.trans e2)) fun H3 e3 => ?_
        refine ⟨e1.trans (e2.trans e3), ?_⟩
        rw [if_pos hb]
        rfl
      · have hb : ¬ (10 : Int) ^ 18 ≤ c := of_decide_eq_false hb
        refine ⟨e1.trans e2, ?_⟩
        rw [if_neg hb]
        rfl
    subst hσ
    -- state, drawn
    refine q_asgI (F := F) (er_I (er_I (er_int1 (er_vi rfl)) er_int (Or.inr (by decide))) er_int (by decide)) (eF.trans e2) fun H3 e3 => ?_
    refine q_asgN (F := F) (r := rInt) (en_lst eal_nil (Nat.zero_le _)) (eF.trans (e2.trans e3)) fun p H4 e4 hp => ?_
    have eF3 := eF.trans (e2.trans e3)
    have e0 : Er (rLst rInt) (tVar 1) [some (.int c), some w', some (.int (if 10 ^ 18 ≤ c then c - 10 ^ 18 else 0)), some (.int (c * 48271 % 2147483647)), some (.ref p), none] F ms := er_var rfl hw
    have nF : F p = none := back_none eF3 hp.1
    -- the loop
    refine d_for (F := mns (part F H3 H4) p) (S := SN rInt 5) (src_list (e0.mono (hp.ex eF3))) tgt_n (hp.sub eF3 e4) (fun G pre σ' H' => ∃ (G' : Hp) (r s : Int) (ds : List Int) (x : Option V), Ex G G' ∧ Ex G' H' ∧ Ex H3 (mns H' p) ∧ Mu rInt ds G' H' p ∧ ds.length = pre.length ∧
      σ' = [some (.int c), some w', some (.int r), some (.int s), some (.ref p), x] ∧ ds ++ draws r s (ms.drop pre.length) = drawn c ms) (fun G pre σ' H' ⟨G', _, _, _, _, h1, h2, _⟩ => h1.trans h2) (fun H5 e5 => ?_) (fun G pre a post σ' H' H'' σ2 has hP e5 hS => ?_) (fun G σ' H' hP => ?_)
    · refine ⟨part (mns (part F H3 H4) p) H4 H5, _, _, [], none, Ex.refl _, part_sub ((hp.sub eF3 e4).trans e5), ?_, ?_, rfl, rfl, rfl⟩
      · exact ex_mns (e4.trans e5) hp.1
      · exact (hp.mu).part e5
    · obtain ⟨G', r, s, ds, x, g1, g2, g3, g4, g5, rfl, g6⟩ := hP
      obtain ⟨y, hy, rfl⟩ := hS
      cases (show y = V.int a from hy)
      have hma := hm a (by rw [has]; exact List.mem_append_right _ List.mem_cons_self)
      have hd : ms.drop pre.length = a :: post := by
        rw [has, List.drop_left]
      have hd2 : ms.drop (pre ++ [a]).length = post := by
        rw [has, List.length_append, show pre ++ a :: post = (pre ++ [a]) ++ post by simp, ← List.length_append, List.drop_left]
      have hlen : ds.length < 100000 := by
        have : pre.length ≤ ms.length := by
          rw [has, List.length_append]
          omega
        omega
      rw [hd] at g6
      unfold draws at g6
      dsimp only at g6
      -- state = ..
      refine q_asgI (F := G') (er_I (er_I0 (er_I (er_vi rfl) er_int (Or.inr (by decide))) er_int) er_int (by decide)) (g2.trans e5) fun H6 e6 => ?_
      have m6 := g4.up (Ex.refl _) g4.1 (e5.trans e6)
      refine s_if (F := G') (et_test (er_cmp0 (er_vi rfl) er_int)) (g2.trans (e5.trans e6)) (fun hb H7 e7 => ?_) (fun hb H7 e7 => ?_)
      · have hb := of_decide_eq_true hb
        rw [if_pos hb] at g6
        refine q_app (F := G') rfl (m6.up (Ex.refl _) g4.1 e7) hlen (er_I (er_vi rfl) (er_vi rfl) hma.1) (g2.trans (e5.trans (e6.trans e7))) fun o H8 G2 e8 i1 i2 i3 i4 => ?_
        refine s_asgI (F := G2) (er_I (C := CDivW) (er_vi rfl) (er_vi rfl) (wide_div hma.1 (b := 101) (by omega) (by decide) (by decide))) i2 fun H9 e9 => ?_
        refine ⟨G2, r / a, _, ds ++ [r % a], _, g1.trans i1, i2.trans e9, ?_, i3.up (Ex.refl _) i3.1 e9, ?_, rfl, ?_⟩
        · refine (ex_mns ((g3.trans mns_sub).trans (e5.trans (e6.trans (e7.trans e8)))) hp.1).trans ?_
          rw [← mns_upd (u := o)]
          exact mns_up e9
        · rw [List.length_append, List.length_append, g5]
          rfl
        · rw [hd2, List.append_assoc]
          exact g6
      · have hb := of_decide_eq_false hb
        rw [if_neg hb] at g6
        refine s_app (F := G') rfl (m6.up (Ex.refl _) g4.1 e7) hlen (er_I (er_I (C := CDivW) (er_vi rfl) er_int (wide_div (by decide) (b := 101) (by decide) (by decide) (by decide))) (er_vi rfl) hma.1) (g2.trans (e5.trans (e6.trans e7))) fun o H8 G2 e8 i1 i2 i3 i4 => ?_
        refine ⟨G2, r, _, ds ++ [_], _, g1.trans i1, i2, ?_, i3, ?_, rfl, ?_⟩
        · rw [mns_upd]
          exact ex_mns ((g3.trans mns_sub).trans (e5.trans (e6.trans (e7.trans e8)))) hp.1
        · rw [List.length_append, List.length_append, g5]
          rfl
        · rw [hd2, List.append_assoc]
          exact g6
    · obtain ⟨G', r, s, ds, x, g1, g2, g3, g4, g5, rfl, g6⟩ := hP
      rw [List.drop_length, show draws r s [] = [] from rfl, List.append_nil] at g6
      subst g6
      obtain ⟨h1, xs, h2, h3⟩ := g4
      refine ⟨_, rfl, q p H' (e2.trans (e3.trans (g3.trans mns_sub))) ⟨back_none (e2.trans e3) hp.1, xs, h2, h3.imp fun _ _ k => k⟩⟩
end
end K00
set_option Elab.async false
set_option linter.all false
set_option maxRecDepth 100000
set_option maxHeartbeats 4000000
namespace K00
open PySem PySem.Spec PyProof.Rows L2 Evl DL
abbrev s_inverse : Stmt := topS 6
theorem sc_inverse : FnScope ["number", "residue", "power", "_"] ["number"] (defScope s_inverse) := ⟨rfl, rfl, rfl, by decide +kernel, rfl, by decide +kernel, by decide +kernel⟩
/- 0 number, 1 residue, 2 power, 3 _ -/
abbrev s_dot : Stmt := topS 7
theorem sc_dot : FnScope ["first", "second", "a", "b"] ["first", "second"] (defScope s_dot) := ⟨rfl, rfl, rfl, by decide +kernel, rfl, by decide +kernel, by decide +kernel⟩
/- 0 first, 1 second, 2 a, 3 b -/
abbrev s_combine : Stmt := topS 8
theorem sc_combine : FnScope ["coefficients", "rows", "width", "at", "row"] ["coefficients", "rows", "width"] (defScope s_combine) := ⟨rfl, rfl, rfl, by decide +kernel, rfl, by decide +kernel, by decide +kernel⟩
/- 0 coefficients, 1 rows, 2 width, 3 at, 4 row -/
abbrev s_unit_row : Stmt := topS 9
theorem sc_unit_row : FnScope ["column", "columns", "at"] ["column", "columns"] (defScope s_unit_row) := ⟨rfl, rfl, rfl, by decide +kernel, rfl, by decide +kernel, by decide +kernel⟩
/- 0 column, 1 columns, 2 at -/
abbrev s_leading_column : Stmt := topS 10
theorem sc_leading_column : FnScope ["row", "column", "number"] ["row"] (defScope s_leading_column) := ⟨rfl, rfl, rfl, by decide +kernel, rfl, by decide +kernel, by decide +kernel⟩
/- 0 row, 1 column, 2 number -/
abbrev s_reduced : Stmt := topS 11
theorem sc_reduced : FnScope ["row", "basis", "rest", "column", "other", "factor", "number", "a", "b"] ["row", "basis"] (defScope s_reduced) := ⟨rfl, rfl, rfl, by decide +kernel, rfl, by decide +kernel, by decide +kernel⟩
/- 0 row, 1 basis, 2 rest, 3 column, 4 other, 5 factor, 6 number, 7 a, 8 b -/
abbrev s_scaled : Stmt := topS 12
theorem sc_scaled : FnScope ["row", "column", "factor", "number"] ["row", "column"] (defScope s_scaled) := ⟨rfl, rfl, rfl, by decide +kernel, rfl, by decide +kernel, by decide +kernel⟩
/- 0 row, 1 column, 2 factor, 3 number -/
/-- the scope of the outer one of combine's two comprehensions -/
abbrev sc_at : Scope := { kind := .function, names := [(Str.ofString ".0", .local), (Str.ofString "at", .cell), (Str.ofString "dot", .globalImplicit), (Str.ofString "coefficients", .cell), (Str.ofString "rows", .cell)], isGenerator := false, isCoroutine := false }
def rNat : Rep Nat := ⟨fun _ v n => v = .int (n : Int), fun _ h => h⟩
section
variable {α β : Type} {K : PySem.W.Frag} {σ : L2.St} {F : Hp} {ta tb te : TE} {as : List Int}
theorem er_nat {n : Nat} (h : Er rInt te σ F (n : Int)) : Er rNat te σ F n := er_to h fun _ _ k => k
theorem er_ofNat {n : Nat} (h : Er rNat te σ F n) : Er rInt te σ F (n : Int) := er_to h fun _ _ k => k
theorem er_sum {ns : List Int} (h : Er (rLst rInt) ta σ F ns) : Er rInt (tCB (rSum K) (tCons ta tNil)) σ F ns.sum := fun H1 e Q q => h H1 e _ fun v H2 e2 ⟨p, xs, hx, hp, hal⟩ => by
  rw [rel_ints hal] at hp
  exact ⟨p, ns, congrArg (· :: []) hx, SqL.of (part_sub (e.trans e2) p _ hp), q _ H2 e2 rfl⟩
theorem sol_nat : Sol rNat := fun _ _ h => by cases (show V.non = V.int _ from h)
theorem atI_vec {r : Row} {j : Nat} (h : j < r.length) : atI r (j : Int) = some (vec r j) := by
  rw [vec_get h]
  exact atI_nat (List.getElem?_eq_getElem h)
theorem rng0 {n : Nat} : rng 0 n = (List.range n).map fun (i : Nat) => (i : Int) := by
  unfold rng
  exact List.map_congr_left fun i _ => Int.zero_add _
end
def wInv : (Hp → List V → Prop) → Int → Prop := fun P b => ∃ n : Int, P = A1 rInt n ∧ ¬ LA97.Z n ∧ b = invF n
def wDot : (Hp → List V → Prop) → Int → Prop := fun P b => ∃ x y : Row, P = A2 (rLst rInt) (rLst rInt) x y ∧ x.length ≤ 1000 ∧ Res x ∧ b = dotF x y
def wComb : (Hp → List V → Prop) → Row → Prop := fun P b => ∃ (cs : Row) (rows : List Row) (n : Nat), P = A3 (rLst rInt) (rLst (rLst rInt)) rInt cs rows (n : Int) ∧ cs.length ≤ 1000 ∧ Res cs ∧ rows.length ≤ 1000 ∧ n ≤ 1000 ∧ (∀ r ∈ rows, r.length = n) ∧ b = combF cs rows n
def wUnit : (Hp → List V → Prop) → Row → Prop := fun P b => ∃ c n : Nat, P = A2 rInt rInt (c : Int) (n : Int) ∧ n ≤ 1000 ∧ b = unitF c n
def wLead : (Hp → List V → Prop) → Option Nat → Prop := fun P b => ∃ r : Row, P = A1 (rLst rInt) r ∧ r.length ≤ 1000 ∧ b = leadF r
abbrev rBas : Rep (List (Nat × Row)) := rLst (rPair rNat (rLst rInt))
def wRed : (Hp → List V → Prop) → Row → Prop := fun P b => ∃ (r : Row) (bs : List (Nat × Row)), P = A2 (rLst rInt) rBas r bs ∧ r.length ≤ 1000 ∧ (∀ q ∈ bs, q.1 < r.length ∧ q.2.length = r.length) ∧ b = redF r bs
def wScl : (Hp → List V → Prop) → Row → Prop := fun P b => ∃ (r : Row) (c : Nat), P = A2 (rLst rInt) rInt r (c : Int) ∧ r.length ≤ 1000 ∧ c < r.length ∧ ¬ LA97.Z (vec r c) ∧ b = sclF r c
section
variable {P : Program} {w : World} {K : PySem.W.Frag} {mg : Str → Option Value} {base : Heap} {t : Tok}
theorem res_cmul {x : Int} (h : 0 ≤ x ∧ x < 97) : -(2 ^ 64) < x ∧ x < 2 ^ 64 := ⟨by omega, by omega⟩
theorem inv_res {n : Int} (h : ¬ LA97.Z n) : 0 ≤ invF n ∧ invF n < 97 := ⟨Int.le_of_lt (LA97.pow_inv h).2.1, (LA97.pow_inv h).2.2⟩
theorem ok_inverse0 {f : Addr} {fd : FuncData} (D : DefAt K mg "inverse" s_inverse ["number"] f fd) (c_PRIME : mg "PRIME" = some (.int 97 t)) (mB_range : mg "range" = none) : FnOk P w K mg base CX0 1 f fd ["number"] (spV rInt wInv) := by
  refine D.F.ok sc_inverse (fun vs H Q E h => ?_) (fun cdv A outer s H vs Q E hr h => ?_)
  · obtain ⟨F, Pp, b, _, _, ⟨n, rfl, _⟩, ⟨v, rfl, _⟩, _⟩ := h
    rfl
  · obtain ⟨F, Pp, b, eF, _, ⟨n, rfl, hn, rfl⟩, ⟨v, rfl, hv⟩, q⟩ := h
    cases (show v = V.int n from hv)
    refine ⟨_, (pss_cons (ps_set (i := 1) sc_inverse.nd rfl (by first | exact Or.inl rfl | exact Or.inr rfl) (pe_op op_mod (pv 0) (pe_glob (v := .int 97) rfl c_PRIME ⟨_, rfl⟩)))
  (pss_cons (ps_if (pt_cmpR op_eq (pv 1) pe_int (nomark _))
    pss_never
    pss_nil)
  (pss_cons (ps_set (i := 2) sc_inverse.nd rfl (by first | exact Or.inl rfl | exact Or.inr rfl) pe_int)
  (pss_cons (ps_for PassesOwn.never rfl (pi_range1 (by rfl) mB_range (pa_cons (pe_op op_sub (pe_glob (v := .int 97) rfl c_PRIME ⟨_, rfl⟩) pe_int) pa_nil)) (pg_name (i := 3) sc_inverse.nd rfl (by first | exact Or.inl rfl | exact Or.inr rfl))
    (pss_one (ps_set (i := 2) sc_inverse.nd rfl (by first | exact Or.inl rfl | exact Or.inr rfl) (pe_op op_mod (pe_op op_mul (pv 2) (pv 1)) (pe_glob (v := .int 97) rfl c_PRIME ⟨_, rfl⟩)))))
  (pss_one (ps_ret (pv 2))))))), ?_⟩
    refine w_asgI (Wd.start eF) (er_I (er_vi rfl) er_int (by decide)) fun H1 w1 s1 => ?_
    refine w_no w1 (et_test (er_eqI (er_vi rfl) er_int)) (decide_eq_false fun e => hn (Int.dvd_of_emod_eq_zero e)) fun H2 w2 s2 => ?_
    refine w_asgI w2 er_int fun H3 w3 s3 => ?_
    have hm : 0 ≤ n % 97 ∧ n % 97 < 97 := ⟨Int.emod_nonneg _ (by decide), Int.emod_lt_of_pos _ (by decide)⟩
    refine w_for w3 (src_rng1 (ea1 (er_I0 er_int er_int)) (by decide)) tgt_n mono_sn (fun pre σ' G' H' => ∃ x : Option V, σ' = [some (.int n), some (.int (n % 97)), some (.int (LA97.powR (n % 97) pre.length)), x])
      (fun G2 H2 w2 s2 => ⟨none, rfl⟩) (fun Gs pre a post σ' σ2 G' H' G2 H2 has hP s2 w2 eGs hS => ?_) (fun σ' G' H' w2 hP => ?_)
    · obtain ⟨x, rfl⟩ := hP
      obtain ⟨z, hz, rfl⟩ := hS
      refine v_asgI w2 (er_I (er_I (er_vi rfl) (er_vi rfl) (Or.inr (res_cmul hm))) er_int (by decide)) fun H5 w5 s5 => ?_
      refine ⟨_, w5, eGs, some z, ?_⟩
      rw [List.length_append]
      rfl
    · obtain ⟨x, rfl⟩ := hP
      refine v_retI w2 (er_vi rfl) fun H5 e5 => q _ H5 e5 ?_
      rfl
theorem ok_dot {f : Addr} {fd : FuncData} (D : DefAt K mg "dot" s_dot ["first", "second"] f fd) (c_PRIME : mg "PRIME" = some (.int 97 t)) (mB_zip : mg "zip" = none) (mB_sum : mg "sum" = none) : FnOk P w K mg base CX0 1 f fd ["first", "second"] (spV rInt wDot) := by
  refine D.F.ok sc_dot (fun vs H Q E h => ?_) (fun cdv A outer s H vs Q E hr h => ?_)
  · obtain ⟨F, Pp, b, _, _, ⟨x, y, rfl, _⟩, ⟨v, u, rfl, _⟩, _⟩ := h
    rfl
  · obtain ⟨F, Pp, b, eF, _, ⟨x, y, rfl, hl, hx, rfl⟩, ⟨v, u, rfl, hv, hu⟩, q⟩ := h
    refine ⟨_, (pss_one (ps_ret (pe_op op_mod (pe_callB (r := rSum K) (cr_sum rfl) (by rfl) mB_sum (by decide +kernel) (pa_cons (pe_lc (own := [("a", 2), ("b", 3)]) (g := gTup K 2 (gCons (gName 2) (gCons (gName 3) gNil))) rfl sc_dot.nd (pi_zipK (K := K) (by rfl) mB_zip (pa_cons (pv 0) (pa_cons (pv 1) pa_nil))) (blkOk_by (own := [("a", 2), ("b", 3)]) (N := ["first", "second", "a", "b"]) (sc := defScope s_dot) (by decide +kernel)) (fun _ _ _ _ _ => (pg_tupK (K := K) (by rfl) (pgs_cons (pg_name (i := 2) sc_dot.nd rfl (by first | exact Or.inl rfl | exact Or.inr rfl)) (pgs_cons (pg_name (i := 3) sc_dot.nd rfl (by first | exact Or.inl rfl | exact Or.inr rfl)) pgs_nil)))) (fun _ _ _ _ _ => pts_nil) (fun _ _ _ _ _ => (pe_op op_mul (pv 2) (pv 3)))) pa_nil)) (pe_glob (v := .int 97) rfl c_PRIME ⟨_, rfl⟩)))), ?_⟩
    refine s_ret (F := F) (er_I (er_sum (En.er (en_is (en_lc (s := rInt) (fun _ => true) (fun p => p.1 * p.2) (src_zip (ea2 (er_var rfl hv) (er_var rfl hu))) tgt_p (by rw [List.length_zip]; omega) (fun p hp G σ2 eG hS => ?_)) ?_))) er_int (by decide)) eF fun v2 H2 e2 hv2 => q v2 H2 e2 hv2
    · obtain ⟨a, b, ha, hb, rfl⟩ := hS
      cases (show a = V.int p.1 from ha)
      cases (show b = V.int p.2 from hb)
      exact ⟨rfl, fun H1 _ Q q => q H1 (Ex.refl _), fun _ => er_I (er_vi rfl) (er_vi rfl) (Or.inl (res_cmul (hx _ (List.of_mem_zip hp).1)))⟩
    · rw [List.filter_eq_self.mpr fun _ _ => rfl]
theorem ok_combine {f fD : Addr} {fd fdD : FuncData} (D : DefAt K mg "combine" s_combine ["coefficients", "rows", "width"] f fd) (D_dot : DefAt K mg "dot" s_dot ["first", "second"] fD fdD) (c_PRIME : mg "PRIME" = some (.int 97 t)) (mB_zip : mg "zip" = none) (mB_sum : mg "sum" = none) (mB_range : mg "range" = none) : FnOk P w K mg base CX0 2 f fd ["coefficients", "rows", "width"] (spV (rLst rInt) wComb) := by
  have G_dot : FnOk P w K mg base CX0 1 fD fdD ["first", "second"] (spV rInt wDot) := ok_dot D_dot c_PRIME mB_zip mB_sum
  refine D.F.ok sc_combine (fun vs H Q E h => ?_) (fun cdv A outer s H vs Q E hr h => ?_)
  · obtain ⟨F, Pp, b, _, _, ⟨x, y, n, rfl, _⟩, ⟨v, u, z, rfl, _⟩, _⟩ := h
    rfl
  · obtain ⟨F, Pp, b, eF, _, ⟨cs, rows, n, rfl, hl, hcs, hrl, hn, hw, rfl⟩, ⟨v, u, z, rfl, hv, hu, hz⟩, q⟩ := h
    cases (show z = V.int (n : Int) from hz)
    refine ⟨_, (pss_one (ps_ret (pe_lc (own := [("at", 3)]) (g := gName 3) rfl sc_combine.nd (pi_range1 (by rfl) mB_range (pa_cons (pv 2) pa_nil)) (blkOk_by (own := [("at", 3)]) (N := ["coefficients", "rows", "width", "at", "row"]) (sc := defScope s_combine) (by decide +kernel)) (fun _ _ _ _ _ => (pg_name (i := 3) sc_combine.nd rfl (by first | exact Or.inl rfl | exact Or.inr rfl))) (fun _ _ _ _ _ => pts_nil) (fun _ _ _ _ _ => (pe_call G_dot (hr.mono (by decide)) (by rfl) D_dot.g D_dot.F.kp D_dot.b .nil pass0 (pa_cons (pv 0) (pa_cons (pe_lc (own := [("row", 4)]) (g := gName 4) rfl sc_combine.nd (pi_listK (K := K) (pv 1)) (blkOk_by (own := [("row", 4)]) (N := ["coefficients", "rows", "width", "at", "row"]) (sc := sc_at) (by decide +kernel)) (fun _ _ _ _ _ => (pg_name (i := 4) sc_combine.nd rfl (by first | exact Or.inl rfl | exact Or.inr rfl))) (fun _ _ _ _ _ => pts_nil) (fun _ _ _ _ _ => (pe_ix (r := rIxL K) ix_list (pv 4) (pv 3) (fun _ _ => rfl)))) pa_nil))))))), ?_⟩
    refine s_ret (F := F) (En.er (en_is (en_lc (s := rInt) (fun _ => true) (fun j => dotF cs (rows.map fun r => vec r j.toNat)) (src_rng1 (ea1 (er_vi rfl)) (by omega)) tgt_n (by rw [rng_len]; omega) (fun a ha G σ2 eG hS => ?_)) ?_)) eF fun v2 H2 e2 hv2 => q v2 H2 e2 hv2
    · obtain ⟨x, hx, rfl⟩ := hS
      cases (show x = V.int a from hx)
      have ha := mem_rng.mp ha
      obtain ⟨j, rfl⟩ := Int.eq_ofNat_of_zero_le ha.1
      refine ⟨rfl, fun H1 _ Q q => q H1 (Ex.refl _), fun _ => ?_⟩
      refine er_call (s := rInt) (ea2 (er_var rfl ((rLst rInt).mono eG hv)) (En.er (en_is (en_lc (s := rInt) (fun _ => true) (fun r => vec r j) (src_list (er_var rfl ((rLst (rLst rInt)).mono eG hu))) tgt_n (by omega) (fun r hr G2 σ3 eG2 hS2 => ?_)) ?_))) mono2 ⟨cs, _, rfl, hl, hcs, rfl⟩
      · obtain ⟨y, hy, rfl⟩ := hS2
        refine ⟨rfl, fun H1 _ Q q => q H1 (Ex.refl _), fun _ => er_ixL (er_var rfl hy) (er_vi rfl) (atI_vec (by rw [hw r hr]; omega))⟩
      · rw [List.filter_eq_self.mpr fun _ _ => rfl]
        rfl
    · rw [List.filter_eq_self.mpr fun _ _ => rfl, rng0, List.map_map]
      rfl
theorem ok_unit_row {f : Addr} {fd : FuncData} (D : DefAt K mg "unit_row" s_unit_row ["column", "columns"] f fd) (mB_range : mg "range" = none) : FnOk P w K mg base CX0 1 f fd ["column", "columns"] (spV (rLst rInt) wUnit) := by
  refine D.F.ok sc_unit_row (fun vs H Q E h => ?_) (fun cdv A outer s H vs Q E hr h => ?_)
  · obtain ⟨F, Pp, b, _, _, ⟨x, y, rfl, _⟩, ⟨v, u, rfl, _⟩, _⟩ := h
    rfl
  · obtain ⟨F, Pp, b, eF, _, ⟨c, n, rfl, hn, rfl⟩, ⟨v, u, rfl, hv, hu⟩, q⟩ := h
    cases (show v = V.int (c : Int) from hv)
    cases (show u = V.int (n : Int) from hu)
    refine ⟨_, (pss_one (ps_ret (pe_lc (own := [("at", 2)]) (g := gName 2) rfl sc_unit_row.nd (pi_range1 (by rfl) mB_range (pa_cons (pv 1) pa_nil)) (blkOk_by (own := [("at", 2)]) (N := ["column", "columns", "at"]) (sc := defScope s_unit_row) (by decide +kernel)) (fun _ _ _ _ _ => (pg_name (i := 2) sc_unit_row.nd rfl (by first | exact Or.inl rfl | exact Or.inr rfl))) (fun _ _ _ _ _ => pts_nil) (fun _ _ _ _ _ => (pe_ifExp (pt_cmpR op_eq (pv 2) (pv 0) (nomark _)) pe_int pe_int))))), ?_⟩
    refine s_ret (F := F) (En.er (en_is (en_lc (s := rInt) (fun _ => true) (fun j => if j = (c : Int) then 1 else 0) (src_rng1 (ea1 (er_vi rfl)) (by omega)) tgt_n (by rw [rng_len]; omega) (fun a ha G σ2 eG hS => ?_)) ?_)) eF fun v2 H2 e2 hv2 => q v2 H2 e2 hv2
    · obtain ⟨x, hx, rfl⟩ := hS
      cases (show x = V.int a from hx)
      refine ⟨rfl, fun H1 _ Q q => q H1 (Ex.refl _), fun _ => er_if (et_test (er_eqI (er_vi rfl) (er_vi rfl))) (fun hb => ?_) (fun hb => ?_)⟩
      · rw [if_pos (of_decide_eq_true hb)]
        exact er_int
      · rw [if_neg (of_decide_eq_false hb)]
        exact er_int
    · rw [List.filter_eq_self.mpr fun _ _ => rfl, rng0, List.map_map]
      unfold unitF
      refine List.map_congr_left fun i _ => ?_
      show (if (i : Int) = (c : Int) then (1 : Int) else 0) = if i = c then 1 else 0
      by_cases e : i = c
      · rw [if_pos e, if_pos (by omega)]
      · rw [if_neg e, if_neg (by omega)]
end
end K00
set_option Elab.async false
set_option linter.all false
set_option maxRecDepth 100000
set_option maxHeartbeats 4000000
namespace K00
open PySem PySem.Spec PyProof.Rows L2 Evl DL
theorem enum_split {α : Type} {r : List α} {pre post : List (Int × α)} {a : Int × α} (h : List.zip (rng 0 r.length) r = pre ++ a :: post) : r = pre.map (·.2) ++ a.2 :: post.map (·.2) ∧ a.1 = (pre.length : Int) := by
  constructor
  · have := congrArg (List.map (·.2)) h
    rw [List.map_snd_zip (by rw [rng_len]; exact Nat.le_refl _), List.map_append] at this
    exact this
  · have h2 : (List.zip (rng 0 r.length) r)[pre.length]? = some a := by
      rw [h, List.getElem?_append_right (Nat.le_refl _), Nat.sub_self]
      rfl
    rw [List.getElem?_zip_eq_some] at h2
    obtain ⟨h3, h4⟩ := h2
    have hl : pre.length < r.length := by
      obtain ⟨h5, _⟩ := List.getElem?_eq_some_iff.mp h4
      exact h5
    rw [rng_get hl] at h3
    have := Option.some.inj h3
    omega
theorem lead_at {p q : Row} {x : Int} (h : ∀ y ∈ p, y = 0) (hx : x ≠ 0) : leadF (p ++ x :: q) = some p.length := by
  unfold leadF
  rw [List.findIdx?_eq_some_iff_getElem]
  refine ⟨by rw [List.length_append, List.length_cons]; omega, ?_, fun j hj => ?_⟩
  · rw [List.getElem_append_right (Nat.le_refl _)]
    simp [hx]
  · rw [List.getElem_append_left hj]
    simp [h _ (List.getElem_mem hj)]
theorem lead_zero {r : Row} (h : ∀ y ∈ r, y = 0) : leadF r = none := by
  unfold leadF
  rw [List.findIdx?_eq_none_iff]
  intro x hx
  simp [h x hx]
theorem sub_no {rest : Row} {b : Nat × Row} (h : vec rest b.1 = 0) : subF rest b = rest := if_pos h
theorem sub_yes {rest : Row} {b : Nat × Row} (h : vec rest b.1 ≠ 0) : subF rest b = lessF rest (vec rest b.1) b.2 := if_neg h
section
variable {P : Program} {w : World} {K : PySem.W.Frag} {mg : Str → Option Value} {base : Heap} {t : Tok}
theorem ok_leading_column {f : Addr} {fd : FuncData} (D : DefAt K mg "leading_column" s_leading_column ["row"] f fd) (mB_enumerate : mg "enumerate" = none) : FnOk P w K mg base CX0 1 f fd ["row"] (spV (rOpt rNat) wLead) := by
  refine D.F.ok sc_leading_column (fun vs H Q E h => ?_) (fun cdv A outer s H vs Q E hr h => ?_)
  · obtain ⟨F, Pp, b, _, _, ⟨n, rfl, _⟩, ⟨v, rfl, _⟩, _⟩ := h
    rfl
  · obtain ⟨F, Pp, b, eF, _, ⟨r, rfl, hl, rfl⟩, ⟨v, rfl, hv⟩, q⟩ := h
    refine ⟨_, (pss_cons (ps_for PassesOwn.never rfl (pi_enumK (K := K) (by rfl) mB_enumerate (pa_cons (pv 0) pa_nil)) (pg_tupK (K := K) (by rfl) (pgs_cons (pg_name (i := 1) sc_leading_column.nd rfl (by first | exact Or.inl rfl | exact Or.inr rfl)) (pgs_cons (pg_name (i := 2) sc_leading_column.nd rfl (by first | exact Or.inl rfl | exact Or.inr rfl)) pgs_nil)))
    (pss_one (ps_if (pt_cmpR op_ne (pv 2) pe_int (nomark _))
    (pss_one (ps_ret (pv 1)))
    pss_nil)))
  (pss_one (ps_ret pe_non))), ?_⟩
    refine w_for (Wd.start eF) (src_enum (ea1 (er_var rfl hv))) tgt_p mono_sp (fun pre σ' G' H' => (∀ y ∈ pre.map (·.2), y = 0) ∧ ∃ x1 x2 : Option V, σ' = [some v, x1, x2])
      (fun G2 H2 w2 s2 => ⟨fun y hy => (by cases hy), none, none, rfl⟩) (fun Gs pre a post σ' σ2 G' H' G2 H2 has hP s2 w2 eGs hS => ?_) (fun σ' G' H' w2 hP => ?_)
    · obtain ⟨hz, x1, x2, rfl⟩ := hP
      obtain ⟨x, y, hx, hy, rfl⟩ := hS
      obtain ⟨e1, e2⟩ := enum_split has
      cases (show x = V.int a.1 from hx)
      cases (show y = V.int a.2 from hy)
      refine v_when w2 (et_test (er_neI (er_vi rfl) er_int)) (fun hb H4 w4 s4 => ?_) (fun hb H4 w4 s4 => ?_)
      · have hb : a.2 ≠ 0 := by simpa using hb
        have el : leadF r = some pre.length := by
          rw [e1, lead_at hz hb, List.length_map]
        refine v_ret w4 (er_some (er_nat (er_is (er_vi rfl) e2))) fun v3 H3 e3 hv3 => q v3 H3 e3 ?_
        rw [el]
        exact hv3
      · have hb : a.2 = 0 := by simpa using hb
        refine ⟨_, w4, eGs, fun y hy => ?_, _, _, rfl⟩
        rw [List.map_append] at hy
        rcases List.mem_append.mp hy with k | k
        · exact hz y k
        · rw [List.map_singleton, List.mem_singleton] at k
          rw [k]
          exact hb
    · obtain ⟨hz, x1, x2, rfl⟩ := hP
      rw [List.map_snd_zip (by rw [rng_len]; exact Nat.le_refl _)] at hz
      refine v_ret w2 (er_nonO (r := rNat)) fun v3 H3 e3 hv3 => q v3 H3 e3 ?_
      rw [lead_zero hz]
      exact hv3
theorem ok_reduced {f : Addr} {fd : FuncData} (D : DefAt K mg "reduced" s_reduced ["row", "basis"] f fd) (c_PRIME : mg "PRIME" = some (.int 97 t)) (mB_zip : mg "zip" = none) : FnOk P w K mg base CX0 1 f fd ["row", "basis"] (spN rInt wRed) := by
  refine D.F.ok sc_reduced (fun vs H Q E h => ?_) (fun cdv A outer s H vs Q E hr h => ?_)
  · obtain ⟨F, Pp, b, _, _, ⟨n, u, rfl, _⟩, ⟨v, z, rfl, _⟩, _⟩ := h
    rfl
  · obtain ⟨F, Pp, b, eF, _, ⟨r, bs, rfl, hl, hbs, rfl⟩, ⟨v, u, rfl, hv, hu⟩, q⟩ := h
    refine ⟨_, (pss_cons (ps_setLc (i := 2) (own := [("number", 6)]) (g := gName 6) rfl sc_reduced.nd rfl rfl (sw_true rfl rfl rfl (by decide +kernel)) (pi_listK (K := K) (pv 0)) (blkOk_by (own := [("number", 6)]) (N := ["row", "basis", "rest", "column", "other", "factor", "number", "a", "b"]) (sc := defScope s_reduced) (by decide +kernel)) (fun _ _ _ _ _ => (pg_name (i := 6) sc_reduced.nd rfl (by first | exact Or.inl rfl | exact Or.inr rfl))) (fun _ _ _ _ _ => pts_nil) (fun _ _ _ _ _ => (pe_op op_mod (pv 6) (pe_glob (v := .int 97) rfl c_PRIME ⟨_, rfl⟩))))
  (pss_cons (ps_for PassesOwn.never rfl (pi_listK (K := K) (pv 1)) (pg_tupK (K := K) (by rfl) (pgs_cons (pg_name (i := 3) sc_reduced.nd rfl (by first | exact Or.inl rfl | exact Or.inr rfl)) (pgs_cons (pg_name (i := 4) sc_reduced.nd rfl (by first | exact Or.inl rfl | exact Or.inr rfl)) pgs_nil)))
    (pss_cons (ps_set (i := 5) sc_reduced.nd rfl (by first | exact Or.inl rfl | exact Or.inr rfl) (pe_ix (r := rIxL K) ix_list (pv 2) (pv 3) (fun _ _ => rfl)))
  (pss_one (ps_if (pt_cmpR op_ne (pv 5) pe_int (nomark _))
    (pss_one (ps_setLc (i := 2) (own := [("a", 7), ("b", 8)]) (g := gTup K 2 (gCons (gName 7) (gCons (gName 8) gNil))) rfl sc_reduced.nd rfl rfl (sw_true rfl rfl rfl (by decide +kernel)) (pi_zipK (K := K) (by rfl) mB_zip (pa_cons (pv 2) (pa_cons (pv 4) pa_nil))) (blkOk_by (own := [("a", 7), ("b", 8)]) (N := ["row", "basis", "rest", "column", "other", "factor", "number", "a", "b"]) (sc := defScope s_reduced) (by decide +kernel)) (fun _ _ _ _ _ => (pg_tupK (K := K) (by rfl) (pgs_cons (pg_name (i := 7) sc_reduced.nd rfl (by first | exact Or.inl rfl | exact Or.inr rfl)) (pgs_cons (pg_name (i := 8) sc_reduced.nd rfl (by first | exact Or.inl rfl | exact Or.inr rfl)) pgs_nil)))) (fun _ _ _ _ _ => pts_nil) (fun _ _ _ _ _ => (pe_op op_mod (pe_op op_sub (pv 7) (pe_op op_mul (pv 5) (pv 8))) (pe_glob (v := .int 97) rfl c_PRIME ⟨_, rfl⟩)))))
    pss_nil))))
  (pss_one (ps_ret (pv 2))))), ?_⟩
    refine w_asgN (r := rInt) (as := mod97 r) (Wd.start eF) (en_is (en_lc (s := rInt) (fun _ => true) (fun x => x % 97) (src_list (er_var rfl hv)) tgt_n (by omega) (fun a ha G σ2 eG hS => ?_)) ?_) fun p G1 H1 w1 s1 mp np => ?_
    · obtain ⟨x, hx, rfl⟩ := hS
      cases (show x = V.int a from hx)
      exact ⟨rfl, fun H1 _ Q q => q H1 (Ex.refl _), fun _ => er_I (er_vi rfl) er_int (by decide)⟩
    · rw [List.filter_eq_self.mpr fun _ _ => rfl]
      rfl
    refine w_for w1 (src_list (er_var rfl (rBas.mono s1.fr hu))) tgt_p mono_sp (fun pre σ' G' H' => ∃ (p : Addr) (x3 x4 x5 : Option V), Mu rInt (pre.foldl subF (mod97 r)) G' H' p ∧ H p = none ∧ σ' = [some v, some u, some (.ref p), x3, x4, x5, none, none, none])
      (fun G2 H2 w2 s2 => ⟨p, none, none, none, mp.go s2, np, rfl⟩) (fun Gs pre a post σ' σ2 G' H' G2 H2 has hP s2 w2 eGs hS => ?_) (fun σ' G' H' w2 hP => ?_)
    · obtain ⟨p, x3, x4, x5, m, n0, rfl⟩ := hP
      obtain ⟨x, y, hx, hy, rfl⟩ := hS
      cases (show x = V.int (a.1 : Int) from hx)
      have m2 := m.go s2
      obtain ⟨G3, w3, e3, ry, _⟩ := m2.froz w2 n0
      have hab := hbs a (by rw [has]; exact List.mem_append_right _ List.mem_cons_self)
      have hlen : (pre.foldl subF (mod97 r)).length = r.length := fold_len pre _ mod_len fun q hq => (hbs q (by rw [has]; exact List.mem_append_left _ hq)).2
      have hres : Res (pre.foldl subF (mod97 r)) := fold_res pre _ (res_map _ _)
      have hfac := res_vec hres a.1
      have efold : (pre ++ [a]).foldl subF (mod97 r) = subF (pre.foldl subF (mod97 r)) a := by
        rw [List.foldl_append]
        rfl
      refine w_asgI (n := vec (pre.foldl subF (mod97 r)) a.1) w3 (er_ixL (er_var rfl ry) (er_vi rfl) (atI_vec (by rw [hlen]; exact hab.1))) fun H4 w4 s4 => ?_
      refine v_when w4 (et_test (er_neI (er_vi rfl) er_int)) (fun hb H5 w5 s5 => ?_) (fun hb H5 w5 s5 => ?_)
      · have hb : vec (pre.foldl subF (mod97 r)) a.1 ≠ 0 := by simpa using hb
        refine v_asgN (r := rInt) (as := subF (pre.foldl subF (mod97 r)) a) w5 (en_is (en_lc (s := rInt) (fun _ => true) (fun z => (z.1 - vec (pre.foldl subF (mod97 r)) a.1 * z.2) % 97) (src_zip (ea2 (er_var rfl ry) (er_var rfl ((rLst rInt).mono e3 hy)))) tgt_p (by rw [List.length_zip]; omega) (fun z hz G σ2 eG hS => ?_)) ?_) fun p2 G6 H6 w6 s6 m6 n6 => ?_
        · obtain ⟨x7, x8, h7, h8, rfl⟩ := hS
          cases (show x7 = V.int z.1 from h7)
          cases (show x8 = V.int z.2 from h8)
          exact ⟨rfl, fun H1 _ Q q => q H1 (Ex.refl _), fun _ => er_I (er_I0 (er_vi rfl) (er_I (er_vi rfl) (er_vi rfl) (Or.inl (res_cmul hfac)))) er_int (by decide)⟩
        · rw [List.filter_eq_self.mpr fun _ _ => rfl]
          exact (sub_yes hb).symm
        · refine ⟨G6, w6, eGs.trans (e3.trans s6.fr), p2, _, _, _, ?_, back_none w5.up n6, rfl⟩
          rw [efold]
          exact m6
      · have hb : vec (pre.foldl subF (mod97 r)) a.1 = 0 := by simpa using hb
        have s6 : Stp none G2 H2 G2 H5 := stp_same (s4.ex.trans s5.ex)
        refine ⟨G2, w2.back w5 e3, eGs, p, _, _, _, ?_, n0, rfl⟩
        rw [efold]
        rw [sub_no hb]
        exact m2.go s6
    · obtain ⟨p, x3, x4, x5, m, n0, rfl⟩ := hP
      exact v_retM w2 rfl m n0 fun n => q p H' w2.up n
theorem ok_scaled {f fI : Addr} {fd fdI : FuncData} (D : DefAt K mg "scaled" s_scaled ["row", "column"] f fd) (D_inverse : DefAt K mg "inverse" s_inverse ["number"] fI fdI) (c_PRIME : mg "PRIME" = some (.int 97 t)) (mB_range : mg "range" = none) : FnOk P w K mg base CX0 2 f fd ["row", "column"] (spV (rLst rInt) wScl) := by
  have G_inverse : FnOk P w K mg base CX0 1 fI fdI ["number"] (spV rInt wInv) := ok_inverse0 D_inverse c_PRIME mB_range
  refine D.F.ok sc_scaled (fun vs H Q E h => ?_) (fun cdv A outer s H vs Q E hr h => ?_)
  · obtain ⟨F, Pp, b, _, _, ⟨n, u, rfl, _⟩, ⟨v, z, rfl, _⟩, _⟩ := h
    rfl
  · obtain ⟨F, Pp, b, eF, _, ⟨r, c, rfl, hl, hc, hz, rfl⟩, ⟨v, u, rfl, hv, hu⟩, q⟩ := h
    cases (show u = V.int (c : Int) from hu)
    refine ⟨_, (pss_cons (ps_set (i := 2) sc_scaled.nd rfl (by first | exact Or.inl rfl | exact Or.inr rfl) (pe_call G_inverse (hr.mono (by decide)) (by rfl) D_inverse.g D_inverse.F.kp D_inverse.b .nil pass0 (pa_cons (pe_ix (r := rIxL K) ix_list (pv 0) (pv 1) (fun _ _ => rfl)) pa_nil)))
  (pss_one (ps_ret (pe_lc (own := [("number", 3)]) (g := gName 3) rfl sc_scaled.nd (pi_listK (K := K) (pv 0)) (blkOk_by (own := [("number", 3)]) (N := ["row", "column", "factor", "number"]) (sc := defScope s_scaled) (by decide +kernel)) (fun _ _ _ _ _ => (pg_name (i := 3) sc_scaled.nd rfl (by first | exact Or.inl rfl | exact Or.inr rfl))) (fun _ _ _ _ _ => pts_nil) (fun _ _ _ _ _ => (pe_op op_mod (pe_op op_mul (pv 3) (pv 2)) (pe_glob (v := .int 97) rfl c_PRIME ⟨_, rfl⟩))))))), ?_⟩
    refine w_asgI (n := invF (vec r c)) (Wd.start eF) (er_call (s := rInt) (ea1 (er_ixL (er_var rfl hv) (er_vi rfl) (atI_vec hc))) mono1 ⟨_, rfl, hz, rfl⟩) fun H1 w1 s1 => ?_
    refine v_ret w1 (En.er (en_is (en_lc (s := rInt) (fun _ => true) (fun x => x * invF (vec r c) % 97) (src_list (er_var rfl hv)) tgt_n (by omega) (fun a ha G σ2 eG hS => ?_)) ?_)) fun v2 H2 e2 hv2 => q v2 H2 e2 hv2
    · obtain ⟨x, hx, rfl⟩ := hS
      cases (show x = V.int a from hx)
      exact ⟨rfl, fun H1 _ Q q => q H1 (Ex.refl _), fun _ => er_I (er_I (er_vi rfl) (er_vi rfl) (Or.inr (res_cmul (inv_res hz)))) er_int (by decide)⟩
    · rw [List.filter_eq_self.mpr fun _ _ => rfl]
      rfl
end
end K00
set_option Elab.async false
set_option linter.all false
set_option maxRecDepth 100000
set_option maxHeartbeats 4000000
namespace K00
open PySem PySem.Spec PyProof.Rows L2 Evl DL
abbrev s_independent_indexes : Stmt := topS 13
theorem sc_independent_indexes : FnScope ["rows", "basis", "found", "index", "row", "rest", "column"] ["rows"] (defScope s_independent_indexes) := ⟨rfl, rfl, rfl, by decide +kernel, rfl, by decide +kernel, by decide +kernel⟩
/- 0 rows, 1 basis, 2 found, 3 index, 4 row, 5 rest, 6 column -/
abbrev s_independent : Stmt := topS 14
theorem sc_independent : FnScope ["rows"] ["rows"] (defScope s_independent) := ⟨rfl, rfl, rfl, by decide +kernel, rfl, by decide +kernel, by decide +kernel⟩
/- 0 rows -/
abbrev s_relation : Stmt := topS 15
theorem sc_relation : FnScope ["rows", "many", "basis", "index", "row", "rest", "column"] ["rows"] (defScope s_relation) := ⟨rfl, rfl, rfl, by decide +kernel, rfl, by decide +kernel, by decide +kernel⟩
/- 0 rows, 1 many, 2 basis, 3 index, 4 row, 5 rest, 6 column -/
def zs (l : List Nat) : List Int := l.map fun (i : Nat) => (i : Int)
theorem zs_app {a b : List Nat} : zs (a ++ b) = zs a ++ zs b := List.map_append
theorem zs_len {a : List Nat} : (zs a).length = a.length := List.length_map _
theorem enum_drop {α : Type} {r : List α} {pre post : List (Int × α)} {a : Int × α} (h : List.zip (rng 0 r.length) r = pre ++ a :: post) : r.drop pre.length = a.2 :: post.map (·.2) ∧ r.drop (pre ++ [a]).length = post.map (·.2) ∧ a.2 ∈ r ∧ pre.length < r.length := by
  obtain ⟨e, _⟩ := enum_split h
  have hl : pre.length = (pre.map (·.2)).length := by rw [List.length_map]
  refine ⟨?_, ?_, by rw [e]; exact List.mem_append_right _ List.mem_cons_self, by rw [e, List.length_append, List.length_map, List.length_cons]; omega⟩
  · rw [hl]
    conv => lhs; rw [e]
    rw [List.drop_left]
  · have h2 : (pre ++ [a]).length = (pre.map (·.2) ++ [a.2]).length := by
      rw [List.length_append, List.length_append, List.length_map]
      rfl
    rw [h2]
    conv => lhs; rw [e, show pre.map (·.2) ++ a.2 :: post.map (·.2) = (pre.map (·.2) ++ [a.2]) ++ post.map (·.2) by simp]
    rw [List.drop_left]
/-- a def whose result is None or a new list -/
def spO {β : Type} (s : Rep β) (W : (Hp → List V → Prop) → Option (List β) → Prop) : Sp := fun vs H Q _ => ∃ F P b, Ex F H ∧ MonoP P ∧ W P b ∧ P F vs ∧ (b = none → ∀ H2, Ex H H2 → Q .non H2) ∧ (∀ t, b = some t → ∀ p H2, Ex H H2 → New s t F H H2 p → Q (.ref p) H2)
section
variable {α β : Type} {K : PySem.W.Frag} {σ : L2.St} {F0 H0 F G G3 H H1 H2 : Hp} {te : TE} {s : Rep β} {as : List Int} {D : Ends} {tz : TS} {i : Nat}
theorem en_callO {W : (Hp → List V → Prop) → Option (List β) → Prop} {P : Hp → List V → Prop} {bs : List β} {E : XK} {tr : TA} (h : Ea P tr σ F) (hP : MonoP P) (w : W P (some bs)) : En s (tCall (spO s W) [] E tr) σ F bs := fun H1 e Q q =>
  h H1 e _ fun vs H2 e2 k => ⟨part F H1 H2, P, some bs, part_sub (e.trans e2), hP, w, by rw [List.append_nil]; exact k, fun z => (by cases z), fun t ht p H3 e3 ⟨k1, xs, k2, k3⟩ => by
    cases ht
    exact q p H3 (e2.trans e3) ⟨back_none e2 k1, xs, k2, k3.imp fun _ _ k => s.mono (mns_up (part_part e2 (Ex.refl H2) e3)) k⟩⟩
theorem er_callO {W : (Hp → List V → Prop) → Option (List β) → Prop} {P : Hp → List V → Prop} {b : Option (List β)} {E : XK} {tr : TA} (h : Ea P tr σ F) (hP : MonoP P) (w : W P b) : Er (rOpt (rLst s)) (tCall (spO s W) [] E tr) σ F b := by
  cases b with
  | some bs => exact er_some (En.er (en_callO h hP w))
  | none => exact fun H1 e Q q => h H1 e _ fun vs H2 e2 k => ⟨part F H1 H2, P, none, part_sub (e.trans e2), hP, w, by rw [List.append_nil]; exact k, fun _ H3 e3 => q _ H3 (e2.trans e3) rfl, fun t ht => (by cases ht)⟩
/-- a new list of ints is asked for over a greater frame, and kept over the lesser one -/
theorem w_asgNB (w : Wd F0 H0 G H) (w3 : Wd F0 H0 G3 H) (h : En rInt te σ G3 as) (k : ∀ p H2, Wd F0 H0 (part G H H2) H2 → Stp none G H (part G H H2) H2 → (rLst rInt).rel (part G H H2) (.ref p) as → tz D (σ.set i (some (.ref p))) H2) : tSeq (tAsg te (gName i)) tz D σ H :=
  h H w3.sub _ fun p H2 e ⟨n1, xs, n2, n3⟩ => k p H2 (w.ev e) (stp_ev e) (New.rel (r := rInt) ⟨n1, xs, n2, n3.imp fun _ _ k => k⟩ w.sub)
end
def wInd : (Hp → List V → Prop) → Row → Prop := fun P b => ∃ (rows : List Row) (n : Nat), P = A1 (rLst (rLst rInt)) rows ∧ rows.length ≤ 100 ∧ n ≤ 100 ∧ (∀ r ∈ rows, r.length = n) ∧ b = zs (indF rows 0 [] [])
def wIndep : (Hp → List V → Prop) → Bool → Prop := fun P b => ∃ (rows : List Row) (n : Nat), P = A1 (rLst (rLst rInt)) rows ∧ rows.length ≤ 100 ∧ n ≤ 100 ∧ (∀ r ∈ rows, r.length = n) ∧ b = decide ((indF rows 0 [] []).length = rows.length)
def wRel : (Hp → List V → Prop) → Option Row → Prop := fun P b => ∃ (rows : List Row) (n : Nat), P = A1 (rLst (rLst rInt)) rows ∧ rows.length ≤ 100 ∧ n ≤ 100 ∧ (∀ r ∈ rows, r.length = n) ∧ b = relF rows.length rows 0 []
section
variable {P : Program} {w : World} {K : PySem.W.Frag} {mg : Str → Option Value} {base : Heap} {t : Tok}
theorem ok_independent_indexes {f fR fL fS fI : Addr} {fd fdR fdL fdS fdI : FuncData} (D : DefAt K mg "independent_indexes" s_independent_indexes ["rows"] f fd)
    (D_reduced : DefAt K mg "reduced" s_reduced ["row", "basis"] fR fdR) (D_leading_column : DefAt K mg "leading_column" s_leading_column ["row"] fL fdL) (D_scaled : DefAt K mg "scaled" s_scaled ["row", "column"] fS fdS) (D_inverse : DefAt K mg "inverse" s_inverse ["number"] fI fdI)
    (c_PRIME : mg "PRIME" = some (.int 97 t)) (mB_zip : mg "zip" = none) (mB_range : mg "range" = none) (mB_enumerate : mg "enumerate" = none) (mB_len : mg "len" = none) : FnOk P w K mg base CX0 3 f fd ["rows"] (spN rInt wInd) := by
  have G_reduced : FnOk P w K mg base CX0 1 fR fdR ["row", "basis"] (spN rInt wRed) := ok_reduced D_reduced c_PRIME mB_zip
  have G_leading_column : FnOk P w K mg base CX0 1 fL fdL ["row"] (spV (rOpt rNat) wLead) := ok_leading_column D_leading_column mB_enumerate
  have G_scaled : FnOk P w K mg base CX0 2 fS fdS ["row", "column"] (spV (rLst rInt) wScl) := ok_scaled D_scaled D_inverse c_PRIME mB_range
  refine D.F.ok sc_independent_indexes (fun vs H Q E h => ?_) (fun cdv A outer s H vs Q E hr h => ?_)
  · obtain ⟨F, Pp, b, _, _, ⟨n, u, rfl, _⟩, ⟨v, rfl, _⟩, _⟩ := h
    rfl
  · obtain ⟨F, Pp, b, eF, _, ⟨rows, n, rfl, hl, hn, hw, rfl⟩, ⟨v, rfl, hv⟩, q⟩ := h
    refine ⟨_, (pss_cons (ps_set (i := 1) sc_independent_indexes.nd rfl (by first | exact Or.inl rfl | exact Or.inr rfl) (pe_lst pa_nil))
  (pss_cons (ps_set (i := 2) sc_independent_indexes.nd rfl (by first | exact Or.inl rfl | exact Or.inr rfl) (pe_lst pa_nil))
  (pss_cons (ps_for PassesOwn.never rfl (pi_enumK (K := K) (by rfl) mB_enumerate (pa_cons (pv 0) pa_nil)) (pg_tupK (K := K) (by rfl) (pgs_cons (pg_name (i := 3) sc_independent_indexes.nd rfl (by first | exact Or.inl rfl | exact Or.inr rfl)) (pgs_cons (pg_name (i := 4) sc_independent_indexes.nd rfl (by first | exact Or.inl rfl | exact Or.inr rfl)) pgs_nil)))
    (pss_cons (ps_if (pt_cmpR op_eq (pe_callB (r := rLenQ K) call_len_seq (by rfl) mB_len (by decide +kernel) (pa_cons (pv 1) pa_nil)) (pe_callB (r := rLenQ K) call_len_seq (by rfl) mB_len (by decide +kernel) (pa_cons (pv 4) pa_nil)) (nomark _))
    (pss_one ps_break)
    pss_nil)
  (pss_cons (ps_set (i := 5) sc_independent_indexes.nd rfl (by first | exact Or.inl rfl | exact Or.inr rfl) (pe_call G_reduced (hr.mono (by decide)) (by rfl) D_reduced.g D_reduced.F.kp D_reduced.b .nil pass0 (pa_cons (pv 4) (pa_cons (pv 1) pa_nil))))
  (pss_cons (ps_set (i := 6) sc_independent_indexes.nd rfl (by first | exact Or.inl rfl | exact Or.inr rfl) (pe_call G_leading_column (hr.mono (by decide)) (by rfl) D_leading_column.g D_leading_column.F.kp D_leading_column.b .nil pass0 (pa_cons (pv 5) pa_nil)))
  (pss_one (ps_if (pt_cmpR (r := rNotNq) op_notN (pv 6) pe_non (nomark _))
    (pss_cons (ps_expr (pe_bm PySem.F.plainAttrs_list PySem.F.slot_list_append PySem.F.type_list_append mt_append (pv 1) (pa_cons (pe_tup (pa_cons (pv 6) (pa_cons (pe_call G_scaled (hr.mono (by decide)) (by rfl) D_scaled.g D_scaled.F.kp D_scaled.b .nil pass0 (pa_cons (pv 5) (pa_cons (pv 6) pa_nil))) pa_nil))) pa_nil)))
  (pss_one (ps_expr (pe_bm PySem.F.plainAttrs_list PySem.F.slot_list_append PySem.F.type_list_append mt_append (pv 2) (pa_cons (pv 3) pa_nil)))))
    pss_nil))))))
  (pss_one (ps_ret (pv 2)))))), ?_⟩
    generalize hRes : indF rows 0 [] [] = R at q
    refine w_asgN (r := rPair rNat (rLst rInt)) (Wd.start eF) (en_lst eal_nil (Nat.zero_le _)) fun p1 G1 H1 w1 s1 mp1 np1 => ?_
    refine w_asgN (r := rInt) w1 (en_lst eal_nil (Nat.zero_le _)) fun p2 G1b H1b w1b s1b mp2 np2 => ?_
    have np2' : H p2 = none := back_none w1.up np2
    have hne : p1 ≠ p2 := fun e => by
      obtain ⟨_, xs, h2, _⟩ := mp1
      rw [e, np2] at h2
      cases h2
    refine w_for w1b (src_enum (ea1 (er_var rfl ((rLst (rLst rInt)).mono (s1.fr.trans s1b.fr) hv)))) tgt_p mono_sp (fun pre σ' G' H' => ∃ (bs : List (Nat × Row)) (fo : List Nat) (x3 x4 x5 x6 : Option V), Mu (rPair rNat (rLst rInt)) bs G' H' p1 ∧ Mu rInt (zs fo) G' H' p2 ∧ Bs n n bs ∧ indF (rows.drop pre.length) pre.length bs fo = R ∧ bs.length ≤ pre.length ∧ fo.length ≤ pre.length ∧ σ' = [some v, some (.ref p1), some (.ref p2), x3, x4, x5, x6])
      (fun G2 H2 w2 s2 => ⟨[], [], none, none, none, none, (mp1.go s1b).go s2, mp2.go s2, bs_nil, hRes, Nat.le_refl _, Nat.le_refl _, rfl⟩) (fun Gs pre a post σ' σ2 G' H' G2 H2 has hP s2 w2 eGs hS => ?_) (fun σ' G' H' w2 hP => ?_)
    · obtain ⟨bs, fo, x3, x4, x5, x6, m1, m2, B, hR, l1, l2, rfl⟩ := hP
      obtain ⟨x, y, hx, hy, rfl⟩ := hS
      cases (show x = V.int a.1 from hx)
      obtain ⟨_, ei⟩ := enum_split has
      obtain ⟨d1, d2, dm, dl⟩ := enum_drop has
      have hra := hw _ dm
      rw [d1] at hR
      unfold indF at hR
      have m1' := m1.go s2
      have m2' := m2.go s2
      obtain ⟨G3, w3, e3, ry, _⟩ := m1'.froz w2 np1
      refine w_when w3 (et_test (er_eqI (er_lenL (er_var rfl ry)) (er_lenL (er_var rfl ((rLst rInt).mono e3 hy))))) (fun hb H4 w4 s4 => ?_) (fun hb H4 w4 s4 => ?_)
      · have hb := of_decide_eq_true hb
        rw [if_pos (by omega)] at hR
        show tRet (tVar 2) _ _ H4
        refine v_retM (w2.back w4 e3) rfl (m2'.go (stp_same s4.ex)) np2' fun nn => ?_
        rw [hR] at nn
        exact q p2 H4 w4.up nn
      · have hb := of_decide_eq_false hb
        rw [if_neg (by omega)] at hR
        have wb := w2.back w4 e3
        refine w_asgNB wb w4 (en_call (s := rInt) (ea2 (er_var rfl ((rLst rInt).mono e3 hy)) (er_var rfl ry)) mono2 ⟨a.2, bs, rfl, by omega, fun z hz => ⟨by rw [hra]; exact (B.one z hz).1, by rw [hra]; exact B.len z hz⟩, rfl⟩) fun pr H5 w5 s5 hrest => ?_
        have hxl : (redF a.2 bs).length = n := red_len hra B.len
        refine w_asg (r := rOpt rNat) w5 (er_call (s := rOpt rNat) (ea1 (er_var rfl hrest)) mono1 ⟨_, rfl, by omega, rfl⟩) fun v6 G6 H6 w6 s6 hv6 => ?_
        have m16 := ((m1'.go (stp_same s4.ex)).go s5).go s6
        have m26 := ((m2'.go (stp_same s4.ex)).go s5).go s6
        cases hc : leadF (redF a.2 bs) with
        | none =>
          rw [hc] at hR hv6
          refine v_no w6 (et_test (er_notN sol_nat (er_var rfl hv6))) rfl fun H7 w7 s7 => ?_
          refine ⟨G6, w7, eGs.trans (s5.fr.trans s6.fr), bs, fo, _, _, _, _, m16.go s7, m26.go s7, B, ?_, ?_, ?_, rfl⟩
          · rw [d2, List.length_append]
            exact hR
          · rw [List.length_append]
            omega
          · rw [List.length_append]
            omega
        | some c =>
          rw [hc] at hR hv6
          obtain ⟨hc1, hc2⟩ := lead_some hc
          have hcn : c < n := by omega
          have hnz : ¬ LA97.Z (vec (redF a.2 bs) c) := by
            rw [vec_get hc1]
            have := red_res (r := a.2) (bs := bs) _ (List.getElem_mem hc1)
            exact not_z_res this.1 this.2 hc2
          refine v_when w6 (et_test (er_notN sol_nat (er_var rfl hv6))) (fun _ H7 w7 s7 => ?_) (fun hb => by cases hb)
          have hrest7 := (rLst rInt).mono (s6.fr.trans s7.fr) hrest
          have hv7 : rNat.rel G6 v6 c := hv6
          refine w_app (a := (c, sclF (redF a.2 bs) c)) w7 rfl (m16.go s7) np1 (by omega) (er_pair (ea2 (er_var rfl hv7) (er_call (s := rLst rInt) (ea2 (er_var rfl hrest7) (er_ofNat (er_var rfl hv7))) mono2 ⟨_, c, rfl, by omega, hc1, hnz, rfl⟩))) fun G8 H8 w8 s8 m8 => ?_
          refine v_app w8 rfl ((m26.go s7).step s8 fun e => hne (Option.some.inj e).symm) np2' (by rw [zs_len]; omega) (er_is (er_vi rfl) ei) fun G9 H9 w9 s9 m9 => ?_
          refine ⟨G9, w9, eGs.trans ((s5.fr.trans s6.fr).trans (s7.fr.trans (s8.fr.trans s9.fr))), bs ++ [(c, sclF (redF a.2 bs) c)], fo ++ [pre.length], _, _, _, _, m8.step s9 (fun e => hne (Option.some.inj e)), ?_, bs_grow B hxl (Nat.le_refl _) (red_less (Nat.le_refl _) B hra).2 hcn hnz, ?_, ?_, ?_, rfl⟩
          · rw [zs_app]
            exact m9
          · rw [d2, List.length_append]
            exact hR
          · rw [List.length_append, List.length_append]
            show _ + 1 ≤ _ + 1
            omega
          · rw [List.length_append, List.length_append]
            show _ + 1 ≤ _ + 1
            omega
    · obtain ⟨bs, fo, x3, x4, x5, x6, m1, m2, B, hR, l1, l2, rfl⟩ := hP
      rw [List.length_zip, rng_len, Nat.min_self, List.drop_length] at hR
      refine v_retM w2 rfl m2 np2' fun nn => ?_
      rw [show fo = R from hR] at nn
      exact q p2 H' w2.up nn
theorem ok_independent {f fX fR fL fS fI : Addr} {fd fdX fdR fdL fdS fdI : FuncData} (D : DefAt K mg "independent" s_independent ["rows"] f fd) (D_independent_indexes : DefAt K mg "independent_indexes" s_independent_indexes ["rows"] fX fdX)
    (D_reduced : DefAt K mg "reduced" s_reduced ["row", "basis"] fR fdR) (D_leading_column : DefAt K mg "leading_column" s_leading_column ["row"] fL fdL) (D_scaled : DefAt K mg "scaled" s_scaled ["row", "column"] fS fdS) (D_inverse : DefAt K mg "inverse" s_inverse ["number"] fI fdI)
    (c_PRIME : mg "PRIME" = some (.int 97 t)) (mB_zip : mg "zip" = none) (mB_range : mg "range" = none) (mB_enumerate : mg "enumerate" = none) (mB_len : mg "len" = none) : FnOk P w K mg base CX0 4 f fd ["rows"] (spV rBl wIndep) := by
  have G_independent_indexes : FnOk P w K mg base CX0 3 fX fdX ["rows"] (spN rInt wInd) := ok_independent_indexes D_independent_indexes D_reduced D_leading_column D_scaled D_inverse c_PRIME mB_zip mB_range mB_enumerate mB_len
  refine D.F.ok sc_independent (fun vs H Q E h => ?_) (fun cdv A outer s H vs Q E hr h => ?_)
  · obtain ⟨F, Pp, b, _, _, ⟨n, u, rfl, _⟩, ⟨v, rfl, _⟩, _⟩ := h
    rfl
  · obtain ⟨F, Pp, b, eF, _, ⟨rows, n, rfl, hl, hn, hw, rfl⟩, ⟨v, rfl, hv⟩, q⟩ := h
    refine ⟨_, (pss_one (ps_ret (pe_cmpR op_eq (pe_callB (r := rLenQ K) call_len_seq (by rfl) mB_len (by decide +kernel) (pa_cons (pe_call G_independent_indexes (hr.mono (by decide)) (by rfl) D_independent_indexes.g D_independent_indexes.F.kp D_independent_indexes.b .nil pass0 (pa_cons (pv 0) pa_nil)) pa_nil)) (pe_callB (r := rLenQ K) call_len_seq (by rfl) mB_len (by decide +kernel) (pa_cons (pv 0) pa_nil)) (nomark _)))), ?_⟩
    refine v_retB (n := decide ((indF rows 0 [] []).length = rows.length)) (Wd.start eF) (er_is (er_eqI (er_lenL (En.er (en_call (s := rInt) (ea1 (er_var rfl hv)) mono1 ⟨rows, n, rfl, hl, hn, hw, rfl⟩))) (er_lenL (er_var rfl hv))) ?_) fun H2 e2 => q _ H2 e2 rfl
    rw [zs_len]
    exact decide_eq_decide.mpr ⟨fun h => by omega, fun h => by omega⟩
theorem cut_to {r : Row} {k : Nat} (h : k ≤ r.length) : cutA r none (some (k : Int)) = r.take k := by
  unfold cutA
  rw [HT.sIx_nat, HT.sIx_none, Nat.sub_zero, List.drop_zero, Nat.min_eq_left h]
theorem cut_from {r : Row} {k : Nat} (h : k ≤ r.length) : cutA r (some (k : Int)) none = r.drop k := by
  unfold cutA
  rw [HT.sIx_nat, HT.sIx_none, Nat.min_eq_left h]
  exact List.take_of_length_le (by rw [List.length_drop]; exact Nat.le_refl _)
theorem ok_relation {f fU fR fL fS fI : Addr} {fd fdU fdR fdL fdS fdI : FuncData} (D : DefAt K mg "relation" s_relation ["rows"] f fd) (D_unit_row : DefAt K mg "unit_row" s_unit_row ["column", "columns"] fU fdU)
    (D_reduced : DefAt K mg "reduced" s_reduced ["row", "basis"] fR fdR) (D_leading_column : DefAt K mg "leading_column" s_leading_column ["row"] fL fdL) (D_scaled : DefAt K mg "scaled" s_scaled ["row", "column"] fS fdS) (D_inverse : DefAt K mg "inverse" s_inverse ["number"] fI fdI)
    (c_PRIME : mg "PRIME" = some (.int 97 t)) (mB_zip : mg "zip" = none) (mB_range : mg "range" = none) (mB_enumerate : mg "enumerate" = none) (mB_len : mg "len" = none) : FnOk P w K mg base CX0 3 f fd ["rows"] (spO rInt wRel) := by
  have G_unit_row : FnOk P w K mg base CX0 1 fU fdU ["column", "columns"] (spV (rLst rInt) wUnit) := ok_unit_row D_unit_row mB_range
  have G_reduced : FnOk P w K mg base CX0 1 fR fdR ["row", "basis"] (spN rInt wRed) := ok_reduced D_reduced c_PRIME mB_zip
  have G_leading_column : FnOk P w K mg base CX0 1 fL fdL ["row"] (spV (rOpt rNat) wLead) := ok_leading_column D_leading_column mB_enumerate
  have G_scaled : FnOk P w K mg base CX0 2 fS fdS ["row", "column"] (spV (rLst rInt) wScl) := ok_scaled D_scaled D_inverse c_PRIME mB_range
  refine D.F.ok sc_relation (fun vs H Q E h => ?_) (fun cdv A outer s H vs Q E hr h => ?_)
  · obtain ⟨F, Pp, b, _, _, ⟨n, u, rfl, _⟩, ⟨v, rfl, _⟩, _⟩ := h
    rfl
  · obtain ⟨F, Pp, b, eF, _, ⟨rows, n, rfl, hl, hn, hw, rfl⟩, ⟨v, rfl, hv⟩, q0, q⟩ := h
    refine ⟨_, (pss_cons (ps_set (i := 1) sc_relation.nd rfl (by first | exact Or.inl rfl | exact Or.inr rfl) (pe_callB (r := rLenQ K) call_len_seq (by rfl) mB_len (by decide +kernel) (pa_cons (pv 0) pa_nil)))
  (pss_cons (ps_set (i := 2) sc_relation.nd rfl (by first | exact Or.inl rfl | exact Or.inr rfl) (pe_lst pa_nil))
  (pss_cons (ps_for PassesOwn.never rfl (pi_enumK (K := K) (by rfl) mB_enumerate (pa_cons (pv 0) pa_nil)) (pg_tupK (K := K) (by rfl) (pgs_cons (pg_name (i := 3) sc_relation.nd rfl (by first | exact Or.inl rfl | exact Or.inr rfl)) (pgs_cons (pg_name (i := 4) sc_relation.nd rfl (by first | exact Or.inl rfl | exact Or.inr rfl)) pgs_nil)))
    (pss_cons (ps_set (i := 5) sc_relation.nd rfl (by first | exact Or.inl rfl | exact Or.inr rfl) (pe_call G_reduced (hr.mono (by decide)) (by rfl) D_reduced.g D_reduced.F.kp D_reduced.b .nil pass0 (pa_cons (pe_op (r := rCat) op_cat (pv 4) (pe_call G_unit_row (hr.mono (by decide)) (by rfl) D_unit_row.g D_unit_row.F.kp D_unit_row.b .nil pass0 (pa_cons (pv 3) (pa_cons (pv 1) pa_nil)))) (pa_cons (pv 2) pa_nil))))
  (pss_cons (ps_set (i := 6) sc_relation.nd rfl (by first | exact Or.inl rfl | exact Or.inr rfl) (pe_call G_leading_column (hr.mono (by decide)) (by rfl) D_leading_column.g D_leading_column.F.kp D_leading_column.b .nil pass0 (pa_cons (pe_slice (r := rSlL K) sl_list (pv 5) po_none (po_some (pe_callB (r := rLenQ K) call_len_seq (by rfl) mB_len (by decide +kernel) (pa_cons (pv 4) pa_nil)))) pa_nil)))
  (pss_cons (ps_if (pt_cmpR (r := rIsNq) op_isN (pv 6) pe_non (nomark _))
    (pss_one (ps_ret (pe_slice (r := rSlL K) sl_list (pv 5) (po_some (pe_callB (r := rLenQ K) call_len_seq (by rfl) mB_len (by decide +kernel) (pa_cons (pv 4) pa_nil))) po_none)))
    pss_nil)
  (pss_one (ps_expr (pe_bm PySem.F.plainAttrs_list PySem.F.slot_list_append PySem.F.type_list_append mt_append (pv 2) (pa_cons (pe_tup (pa_cons (pv 6) (pa_cons (pe_call G_scaled (hr.mono (by decide)) (by rfl) D_scaled.g D_scaled.F.kp D_scaled.b .nil pass0 (pa_cons (pv 5) (pa_cons (pv 6) pa_nil))) pa_nil))) pa_nil))))))))
  (pss_one (ps_ret pe_non))))), ?_⟩
    generalize hRes : relF rows.length rows 0 [] = R at q0 q
    refine w_asgI (n := (rows.length : Int)) (Wd.start eF) (er_lenL (er_var rfl hv)) fun H0 w0 s0 => ?_
    refine w_asgN (r := rPair rNat (rLst rInt)) w0 (en_lst eal_nil (Nat.zero_le _)) fun p1 G1 H1 w1 s1 mp1 np1 => ?_
    have np1 : H p1 = none := back_none w0.up np1
    refine w_for w1 (src_enum (ea1 (er_var rfl ((rLst (rLst rInt)).mono (s0.fr.trans s1.fr) hv)))) tgt_p mono_sp (fun pre σ' G' H' => ∃ (bs : List (Nat × Row)) (x3 x4 x5 x6 : Option V), Mu (rPair rNat (rLst rInt)) bs G' H' p1 ∧ Bs (n + rows.length) n bs ∧ relF rows.length (rows.drop pre.length) pre.length bs = R ∧ bs.length ≤ pre.length ∧ σ' = [some v, some (.int (rows.length : Int)), some (.ref p1), x3, x4, x5, x6])
      (fun G2 H2 w2 s2 => ⟨[], none, none, none, none, mp1.go s2, bs_nil, hRes, Nat.le_refl _, rfl⟩) (fun Gs pre a post σ' σ2 G' H' G2 H2 has hP s2 w2 eGs hS => ?_) (fun σ' G' H' w2 hP => ?_)
    · obtain ⟨bs, x3, x4, x5, x6, m1, B, hR, l1, rfl⟩ := hP
      obtain ⟨x, y, hx, hy, rfl⟩ := hS
      cases (show x = V.int a.1 from hx)
      obtain ⟨_, ei⟩ := enum_split has
      obtain ⟨d1, d2, dm, dl⟩ := enum_drop has
      have hra := hw _ dm
      rw [d1] at hR
      unfold relF at hR
      have m1' := m1.go s2
      have hul : (a.2 ++ unitF pre.length rows.length).length = n + rows.length := by rw [List.length_append, unit_len, hra]
      obtain ⟨G3, w3, e3, ry, _⟩ := m1'.froz w2 np1
      have hy3 := (rLst rInt).mono e3 hy
      refine w_asgNB w2 w3 (en_call (s := rInt) (ea2 (En.er (en_catL (er_var rfl hy3) (er_call (s := rLst rInt) (b := unitF pre.length rows.length) (ea2 (er_is (er_vi rfl) ei) (er_vi rfl)) mono2 ⟨pre.length, rows.length, rfl, by omega, rfl⟩) (by rw [unit_len]; omega))) (er_var rfl ry)) mono2 ⟨_, bs, rfl, by omega, fun z hz => ⟨by rw [hul]; have := (B.one z hz).1; omega, by rw [hul]; exact B.len z hz⟩, rfl⟩) fun pr H5 w5 s5 hrest => ?_
      have hxl : (redF (a.2 ++ unitF pre.length rows.length) bs).length = n + rows.length := red_len hul B.len
      have hy5 := (rLst rInt).mono s5.fr hy
      refine w_asg (r := rOpt rNat) w5 (er_call (s := rOpt rNat) (ea1 (En.er (en_is (en_sl (er_var rfl hrest) eo_none (eo_part (er_lenL (er_var rfl hy5)))) (cut_to (by omega))))) mono1 ⟨_, rfl, by rw [List.length_take]; omega, rfl⟩) fun v6 G6 H6 w6 s6 hv6 => ?_
      have m16 := (m1'.go s5).go s6
      have hrest6 := (rLst rInt).mono s6.fr hrest
      have hy6 := (rLst rInt).mono s6.fr hy5
      cases hc : leadF ((redF (a.2 ++ unitF pre.length rows.length) bs).take a.2.length) with
      | none =>
        rw [hc] at hR hv6
        refine w_when w6 (et_test (er_isN sol_nat (er_var rfl hv6))) (fun _ H7 w7 s7 => ?_) (fun hb => by cases hb)
        refine v_retN w7 (en_is (en_sl (er_var rfl ((rLst rInt).mono s7.fr hrest6)) (eo_part (er_lenL (er_var rfl ((rLst rInt).mono s7.fr hy6)))) eo_none) (cut_from (by omega))) fun p H8 e8 nn => q _ hR.symm p H8 e8 nn
      | some c =>
        rw [hc] at hR hv6
        obtain ⟨hc1, hc2⟩ := lead_some hc
        have hcn : c < n := by
          rw [List.length_take] at hc1
          omega
        have hc3 : c < (redF (a.2 ++ unitF pre.length rows.length) bs).length := by omega
        have hnz : ¬ LA97.Z (vec (redF (a.2 ++ unitF pre.length rows.length) bs) c) := by
          rw [vec_get hc3]
          rw [List.getElem_take] at hc2
          have := red_res (r := a.2 ++ unitF pre.length rows.length) (bs := bs) _ (List.getElem_mem hc3)
          exact not_z_res this.1 this.2 hc2
        refine w_no w6 (et_test (er_isN sol_nat (er_var rfl hv6))) rfl fun H7 w7 s7 => ?_
        have hv7 : rNat.rel G6 v6 c := hv6
        refine v_app (a := (c, sclF (redF (a.2 ++ unitF pre.length rows.length) bs) c)) w7 rfl (m16.go s7) np1 (by omega) (er_pair (ea2 (er_var rfl hv7) (er_call (s := rLst rInt) (ea2 (er_var rfl ((rLst rInt).mono s7.fr hrest6)) (er_ofNat (er_var rfl hv7))) mono2 ⟨_, c, rfl, by omega, hc3, hnz, rfl⟩))) fun G8 H8 w8 s8 m8 => ?_
        refine ⟨G8, w8, eGs.trans ((s5.fr.trans s6.fr).trans (s7.fr.trans s8.fr)), bs ++ [(c, sclF (redF (a.2 ++ unitF pre.length rows.length) bs) c)], _, _, _, _, m8, bs_grow B hxl (by omega) (red_less (by omega) B hul).2 hcn hnz, ?_, ?_, rfl⟩
        · rw [d2, List.length_append]
          exact hR
        · rw [List.length_append, List.length_append]
          show _ + 1 ≤ _ + 1
          omega
    · obtain ⟨bs, x3, x4, x5, x6, m1, B, hR, l1, rfl⟩ := hP
      rw [List.length_zip, rng_len, Nat.min_self, List.drop_length] at hR
      refine v_ret w2 (er_nonO (r := rNat)) fun v3 H3 e3 hv3 => ?_
      rw [show v3 = V.non from hv3]
      exact q0 hR.symm H3 e3
end
end K00
set_option Elab.async false
set_option linter.all false
set_option maxRecDepth 100000
set_option maxHeartbeats 8000000
namespace K00
open PySem PySem.Spec PyProof.Rows L2 Evl DL
abbrev s_law_count_free : Stmt := topS 19
theorem sc_law_count_free : FnScope ["rows", "width", "rest", "done", "column", "at", "k", "lead", "own", "row", "j"] ["rows", "width"] (defScope s_law_count_free) := ⟨rfl, rfl, rfl, by decide +kernel, rfl, by decide +kernel, by decide +kernel⟩
/- 0 rows, 1 width, 2 rest, 3 done, 4 column, 5 at, 6 k, 7 lead, 8 own, 9 row, 10 j -/
/-! what an expression gives at this very heap -/
section
variable {α β : Type} {K : PySem.W.Frag} {σ : L2.St} {F0 H0 F G G3 H H1 H2 : Hp} {te tb tj : TE} {r : Rep α} {s : Rep β} {a : α} {as : List α} {ns : List Int} {D : Ends} {tz : TS} {i i' : Nat} {p : Addr}
def Ev1 (r : Rep α) (te : TE) (σ : L2.St) (G H : Hp) (a : α) : Prop := ∀ Q : VK, (∀ v H2, Ex H H2 → r.rel (part G H H2) v a → Q v H2) → te σ H Q
theorem ev_er (w : Wd F0 H0 G H) (h : Er r te σ G a) : Ev1 r te σ G H a := fun Q q => h H w.sub Q q
theorem ev_newB (w : Wd F0 H0 G H) (w3 : Wd F0 H0 G3 H) (h : En rInt te σ G3 ns) : Ev1 (rLst rInt) te σ G H ns := fun Q q => h H w3.sub _ fun p H2 e ⟨n1, xs, n2, n3⟩ => q _ H2 e (New.rel (r := rInt) ⟨n1, xs, n2, n3.imp fun _ _ k => k⟩ w.sub)
theorem al_get {R : V → α → Prop} : ∀ {xs : List V} {as : List α}, Al R xs as → ∀ (j : Nat) (h1 : j < xs.length) (h2 : j < as.length), R xs[j] as[j]
  | _, _, .nil, _, h1, _ => absurd h1 (Nat.not_lt_zero _)
  | _, _, .cons a t, 0, _, _ => a
  | _, _, .cons a t, n + 1, h1, h2 => al_get t n (Nat.lt_of_succ_lt_succ h1) (Nat.lt_of_succ_lt_succ h2)
/-- an item of a list of one's own -/
theorem ev_at {j : Nat} (w : Wd F0 H0 G H) (hi : σ[i]? = some (some (.ref p))) (m : Mu r as G H p) (hj : Er rInt tj σ G (j : Int)) (hl : j < as.length) : Ev1 r (tOp (rIxL K) (tVar i) tj) σ G H as[j] := fun Q q => by
  obtain ⟨h1, xs, h2, h3⟩ := m
  have hlx : j < xs.length := by
    rw [h3.len]
    exact hl
  refine ⟨_, hi, hj H w.sub _ fun u H2 e2 hu => ?_⟩
  cases (show u = V.int (j : Int) from hu)
  exact ⟨p, xs, (j : Int), xs[j], rfl, rfl, SqL.of (e2 p _ h2), atI_nat (List.getElem?_eq_getElem hlx), q _ H2 e2 (r.mono part_ex (al_get h3 j hlx hl))⟩
theorem w_asg1 (w : Wd F0 H0 G H) (h : Ev1 r te σ G H a) (k : ∀ v G2 H2, Wd F0 H0 G2 H2 → Stp none G H G2 H2 → r.rel G2 v a → tz D (σ.set i (some v)) H2) : tSeq (tAsg te (gName i)) tz D σ H := h _ fun v H2 e hv => k v _ H2 (w.ev e) (stp_ev e) hv
theorem v_put1 {j : Nat} (w : Wd F0 H0 G H) (h : Ev1 r te σ G H a) (hi : σ[i]? = some (some (.ref p))) (m : Mu r as G H p) (h0 : H0 p = none) (hj : Er rInt tb σ G (j : Int)) (hl : j < as.length)
    (k : ∀ G2 H2, Wd F0 H0 G2 H2 → Stp (some p) G H G2 H2 → Mu r (as.set j a) G2 H2 p → D.nx σ H2) : tAsg te (gSub (tVar i) tb rSetL) D σ H :=
  h _ fun v H2 e2 hv => ⟨.ref p, hi, hj H2 (w.sub.trans e2) _ fun x H3 e3 hx => by
    obtain ⟨h1, xs, h2, h3⟩ := m
    cases (show x = V.int (j : Int) from hx)
    have e23 := e2.trans e3
    have hG : part G H H3 p = none := part_old h1 h2
    exact ⟨p, xs, (j : Int), j, rfl, rfl, e23 p _ h2, ixN_nat (by rw [h3.len]; exact hl), k (part G H H3) _ ((w.ev e23).put hG h0) (Stp.trans (stp_ev e23).any stp_put)
      ⟨hG, _, upd_same, Al.set (r.mono (part_up e3) hv) j (h3.imp fun _ _ k => r.mono part_ex k)⟩⟩⟩
theorem w_put1 {j : Nat} (w : Wd F0 H0 G H) (h : Ev1 r te σ G H a) (hi : σ[i]? = some (some (.ref p))) (m : Mu r as G H p) (h0 : H0 p = none) (hj : Er rInt tb σ G (j : Int)) (hl : j < as.length)
    (k : ∀ G2 H2, Wd F0 H0 G2 H2 → Stp (some p) G H G2 H2 → Mu r (as.set j a) G2 H2 p → tz D σ H2) : tSeq (tAsg te (gSub (tVar i) tb rSetL)) tz D σ H := v_put1 (D := { D with nx := tz D }) w h hi m h0 hj hl k
end
/-! the mirror's columns, turn by turn -/
def elimTo (sw : List Row) (d m : Nat) (f : Row → Row) : List Row := (List.range sw.length).map fun i => if d < i ∧ i < d + 1 + m then f (sw.getD i []) else sw.getD i []
theorem elimTo_len {sw : List Row} {d m : Nat} {f : Row → Row} : (elimTo sw d m f).length = sw.length := by
  unfold elimTo
  rw [List.length_map, List.length_range]
theorem elimTo_get {sw : List Row} {d m : Nat} {f : Row → Row} {i : Nat} (h : i < sw.length) : (elimTo sw d m f)[i]? = some (if d < i ∧ i < d + 1 + m then f (sw.getD i []) else sw.getD i []) := by
  unfold elimTo
  rw [List.getElem?_map, List.getElem?_range h]
  rfl
theorem getD_some {l : List Row} {i : Nat} (h : i < l.length) : l[i]? = some (l.getD i []) := by
  rw [List.getD_eq_getElem?_getD, List.getElem?_eq_getElem h]
  rfl
theorem elimTo_zero {sw : List Row} {d : Nat} {f : Row → Row} : elimTo sw d 0 f = sw := by
  apply List.ext_getElem?
  intro i
  by_cases h : i < sw.length
  · rw [elimTo_get h, if_neg (by omega), getD_some h]
  · rw [List.getElem?_eq_none (by rw [elimTo_len]; omega), List.getElem?_eq_none (by omega)]
theorem elimTo_set {sw : List Row} {d m : Nat} {f : Row → Row} (h : d + 1 + m < sw.length) : (elimTo sw d m f).set (d + 1 + m) (f (sw.getD (d + 1 + m) [])) = elimTo sw d (m + 1) f := by
  apply List.ext_getElem?
  intro i
  by_cases hi : i < sw.length
  · rw [elimTo_get hi, List.getElem?_set, elimTo_len]
    by_cases e : d + 1 + m = i
    · subst e
      rw [if_pos rfl, if_pos h, if_pos (by omega)]
    · rw [if_neg e, elimTo_get hi]
      by_cases c : d < i ∧ i < d + 1 + m
      · rw [if_pos c, if_pos (by omega)]
      · rw [if_neg c, if_neg (by omega)]
  · rw [List.getElem?_eq_none (by rw [List.length_set, elimTo_len]; omega), List.getElem?_eq_none (by rw [elimTo_len]; omega)]
theorem elimTo_all {sw : List Row} {d : Nat} {f : Row → Row} (hd : d < sw.length) : elimTo sw d (sw.length - (d + 1)) f = sw.take (d + 1) ++ (sw.drop (d + 1)).map f := by
  apply List.ext_getElem?
  intro i
  by_cases hi : i < sw.length
  · rw [elimTo_get hi]
    by_cases c : d < i
    · rw [if_pos (by omega), List.getElem?_append_right (by rw [List.length_take]; omega), List.length_take, Nat.min_eq_left (by omega), List.getElem?_map, List.getElem?_drop, show d + 1 + (i - (d + 1)) = i by omega, getD_some hi]
      rfl
    · rw [if_neg (by omega), List.getElem?_append_left (by rw [List.length_take]; omega), List.getElem?_take, if_pos (by omega), getD_some hi]
  · rw [List.getElem?_eq_none (by rw [elimTo_len]; omega), List.getElem?_eq_none (by rw [List.length_append, List.length_take, List.length_map, List.length_drop]; omega)]
/-- the first of the rows gone through -/
def atV (rest : List Row) (c : Nat) (l : List Int) : Int := match l.find? (fun k => okAt rest c k.toNat) with
  | some k => k
  | none => -1
theorem atV_find {rest : List Row} {c d : Nat} : atV rest c (rng (d : Int) (rest.length - d)) = match findF rest c d with
    | some a => (a : Int)
    | none => -1 := by
  have e : rng (d : Int) (rest.length - d) = ((List.range (rest.length - d)).map fun i => d + i).map fun (i : Nat) => (i : Int) := by
    unfold rng
    rw [List.map_map]
    exact List.map_congr_left fun i _ => rfl
  unfold atV findF
  rw [e, List.find?_map]
  have e2 : ((fun (k : Int) => okAt rest c k.toNat) ∘ fun (i : Nat) => (i : Int)) = okAt rest c := rfl
  rw [e2]
  cases ((List.range (rest.length - d)).map fun i => d + i).find? (okAt rest c) with
  | none => rfl
  | some a => rfl
def Bd (rows : List Row) : Prop := ∀ r ∈ rows, ∀ x ∈ r, x.natAbs < 2 ^ 200
theorem bd_vec {rows : List Row} (h : Bd rows) {r : Row} (hr : r ∈ rows) (j : Nat) : (vec r j).natAbs < 2 ^ 200 := by
  by_cases hj : j < r.length
  · rw [vec_get hj]
    exact h r hr _ (List.getElem_mem hj)
  · rw [vec_out (by omega)]
    decide
theorem elim_res {w c : Nat} {lead s : Row} : Res (elimF w c lead s) := res_map _ _
theorem bd_res {r : Row} (h : Res r) : ∀ x ∈ r, x.natAbs < 2 ^ 200 := fun x hx => by
  have := h x hx
  have h2 : x.natAbs < 97 := by omega
  exact Nat.lt_of_lt_of_le h2 (by decide)
theorem getD_mem {l : List Row} {i : Nat} (h : i < l.length) : l.getD i [] ∈ l := List.mem_of_getElem? (getD_some h)
theorem swap_mem {rest : List Row} {a d : Nat} (ha : a < rest.length) (hd : d < rest.length) : ∀ r ∈ swapF rest a d, r ∈ rest := fun r hr => by
  unfold swapF at hr
  rcases List.mem_or_eq_of_mem_set hr with q | q
  · rcases List.mem_or_eq_of_mem_set q with q | q
    · exact q
    · rw [q]
      exact getD_mem hd
  · rw [q]
    exact getD_mem ha
theorem elimTo_mem {sw : List Row} {d m : Nat} {f : Row → Row} : ∀ r ∈ elimTo sw d m f, r ∈ sw ∨ ∃ s ∈ sw, r = f s := fun r hr => by
  unfold elimTo at hr
  obtain ⟨i, hi, rfl⟩ := List.mem_map.mp hr
  rw [List.mem_range] at hi
  split
  · exact .inr ⟨_, getD_mem hi, rfl⟩
  · exact .inl (getD_mem hi)
def wCnt : (Hp → List V → Prop) → Int → Prop := fun P b => ∃ (rows : List Row) (n : Nat), P = A2 (rLst (rLst rInt)) rInt rows (n : Int) ∧ rows.length ≤ 100 ∧ n ≤ 100 ∧ (∀ r ∈ rows, r.length = n) ∧ Bd rows ∧ b = (cntF n rows : Int)
abbrev rRows : Rep (List Row) := rLst (rLst rInt)
section
variable {P : Program} {w : World} {K : PySem.W.Frag} {mg : Str → Option Value} {base : Heap} {t : Tok}
theorem rng_mid {lo : Int} {n : Nat} {pre post : List Int} {a : Int} (h : rng lo n = pre ++ a :: post) : a = lo + (pre.length : Int) ∧ pre.length < n ∧ pre = rng lo pre.length := by
  have hl : pre.length < n := by
    have := congrArg List.length h
    rw [rng_len, List.length_append, List.length_cons] at this
    omega
  refine ⟨?_, hl, ?_⟩
  · have h2 : (rng lo n)[pre.length]? = some a := by
      rw [h, List.getElem?_append_right (Nat.le_refl _), Nat.sub_self]
      rfl
    rw [rng_get hl] at h2
    exact (Option.some.inj h2).symm
  · have h2 : pre = (rng lo n).take pre.length := by
      rw [h, List.take_left]
    conv => lhs; rw [h2]
    unfold rng
    rw [← List.map_take, List.take_range, Nat.min_eq_left (by omega)]
end
end K00
set_option Elab.async false
set_option linter.all false
set_option maxRecDepth 100000
set_option maxHeartbeats 8000000
namespace K00
open PySem PySem.Spec PyProof.Rows L2 Evl DL
section
variable {α β : Type} {K : PySem.W.Frag} {σ σ2 : L2.St} {F0 H0 F G G3 H H1 H2 : Hp} {te tb tj : TE} {ta : TA} {r : Rep α} {a : α} {as : List α} {D : Ends} {tu tz : TS} {g : TG} {i : Nat} {p : Addr}
/-- what a loop goes through, at this very heap -/
def Src1 (wi : TI) (σ : L2.St) (G H : Hp) (r : Rep α) (as : List α) : Prop := ∀ R : It → Hp → Prop, (∀ J H2, Ex H H2 → Walk J as.length (fun H' => Ex (part G H H2) H') (YD (part G H H2) r as) → R J H2) → wi σ H R
theorem src1_rng2 {lo n : Int} (w3 : Wd F0 H0 G3 H) (h : Ea (A2 rInt rInt lo n) ta σ G3) (hn : -1000000 ≤ lo ∧ lo ≤ 1000000 ∧ -1000000 ≤ n ∧ n ≤ 1000000) : Src1 (iRng2 ta) σ G H rInt (rng lo (n - lo).toNat) := fun R k => h H w3.sub _ fun vs H2 e2 ⟨v, w, hv, hr, hw⟩ => by
  cases (show v = V.int lo from hr)
  cases (show w = V.int n from hw)
  exact ⟨lo, n, hv, by omega, k _ H2 e2 walkR⟩
theorem src1_is {wi : TI} {as' : List α} (h : Src1 wi σ G H r as) (e : as = as') : Src1 wi σ G H r as' := e ▸ h
theorem v_for1 {wi : TI} {S : Hp → α → L2.St → L2.St → Prop} (w : Wd F0 H0 G H) (h : Src1 wi σ G H r as) (hg : Tgt g r S) (hm : MonoS S) (Pv : List α → L2.St → Hp → Hp → Prop)
    (h0 : ∀ G1 H1, Wd F0 H0 G1 H1 → Stp none G H G1 H1 → Pv [] σ G1 H1)
    (hs : ∀ G1 pre a post σ' σ2 G' H' G2 H2, as = pre ++ a :: post → Pv pre σ' G' H' → Stp none G' H' G2 H2 → Wd F0 H0 G2 H2 → Ex G1 G2 → S G2 a σ' σ2 →
      tu { D with nx := Nxt F0 H0 G1 (Pv (pre ++ [a])), ct := Nxt F0 H0 G1 (Pv (pre ++ [a])), bk := D.nx } σ2 H2)
    (hd : ∀ σ' G' H', Wd F0 H0 G' H' → Pv as σ' G' H' → D.nx σ' H') : tFor wi g tu D σ H :=
  (v_for (wi := fun _ H1 R => H1 = H → wi σ H R) (tb := tu) (D := D) w (fun H1 e R k eq => by subst eq; exact h R k) hg hm Pv h0 hs hd) rfl
theorem w_for1 {wi : TI} {S : Hp → α → L2.St → L2.St → Prop} (w : Wd F0 H0 G H) (h : Src1 wi σ G H r as) (hg : Tgt g r S) (hm : MonoS S) (Pv : List α → L2.St → Hp → Hp → Prop)
    (h0 : ∀ G1 H1, Wd F0 H0 G1 H1 → Stp none G H G1 H1 → Pv [] σ G1 H1)
    (hs : ∀ G1 pre a post σ' σ2 G' H' G2 H2, as = pre ++ a :: post → Pv pre σ' G' H' → Stp none G' H' G2 H2 → Wd F0 H0 G2 H2 → Ex G1 G2 → S G2 a σ' σ2 →
      tu { D with nx := Nxt F0 H0 G1 (Pv (pre ++ [a])), ct := Nxt F0 H0 G1 (Pv (pre ++ [a])), bk := tz D } σ2 H2)
    (hd : ∀ σ' G' H', Wd F0 H0 G' H' → Pv as σ' G' H' → tz D σ' H') : tSeq (tFor wi g tu) tz D σ H := v_for1 (D := { D with nx := tz D }) w h hg hm Pv h0 hs hd
end
def stF (n : Nat) (rows : List Row) (c : Nat) : List Row × Nat := (List.range c).foldl (colF n) (rows, 0)
theorem stF_succ {n : Nat} {rows : List Row} {c : Nat} : stF n rows (c + 1) = colF n (stF n rows c) c := by
  unfold stF
  rw [List.range_succ, List.foldl_append]
  rfl
theorem col_none {n c : Nat} {st : List Row × Nat} (h : findF st.1 c st.2 = none) : colF n st c = st := by
  unfold colF
  rw [h]
theorem col_some {n c a : Nat} {st : List Row × Nat} (h : findF st.1 c st.2 = some a) (hd : st.2 < (swapF st.1 a st.2).length) : colF n st c = (elimTo (swapF st.1 a st.2) st.2 ((swapF st.1 a st.2).length - (st.2 + 1)) (elimF n c (st.1.getD a [])), st.2 + 1) := by
  unfold colF
  rw [h, elimTo_all hd]
theorem atV_step {rest : List Row} {c : Nat} {l : List Int} {k : Int} (h : ∀ x ∈ l, 0 ≤ x) : atV rest c (l ++ [k]) = if atV rest c l < 0 ∧ okAt rest c k.toNat = true then k else atV rest c l := by
  unfold atV
  rw [List.find?_append]
  cases hf : l.find? (fun k => okAt rest c k.toNat) with
  | some x =>
    have hx := h x (List.mem_of_find?_eq_some hf)
    show x = if x < 0 ∧ _ then _ else x
    rw [if_neg (by omega)]
  | none =>
    show (match [k].find? (fun k => okAt rest c k.toNat) with | some k => k | none => -1) = if (-1 : Int) < 0 ∧ _ then k else -1
    cases ho : okAt rest c k.toNat with
    | true =>
      rw [List.find?_cons, ho, if_pos ⟨by decide, rfl⟩]
    | false =>
      rw [List.find?_cons, ho, if_neg (fun z => by cases z.2)]
      rfl
section
variable {P : Program} {w : World} {K : PySem.W.Frag} {mg : Str → Option Value} {base : Heap} {t : Tok}
theorem mul_w {x y : Int} (hx : x.natAbs < 2 ^ 200) (hy : y.natAbs < 2 ^ 200) : CMulW x y := wide_mul hx hy (by decide) (by decide) (by decide)
theorem ok_law_count_free {f : Addr} {fd : FuncData} (D : DefAt K mg "_law_count_free" s_law_count_free ["rows", "width"] f fd) (mB_range : mg "range" = none) (mB_len : mg "len" = none) (mB_list : mg "list" = none) (mB_int : mg "int" = none) : FnOk P w K mg base CX0 1 f fd ["rows", "width"] (spV rInt wCnt) := by
  refine D.F.ok sc_law_count_free (fun vs H Q E h => ?_) (fun cdv A outer s H vs Q E hr h => ?_)
  · obtain ⟨F, Pp, b, _, _, ⟨n, u, rfl, _⟩, ⟨v, z, rfl, _⟩, _⟩ := h
    rfl
  · obtain ⟨F, Pp, b, eF, _, ⟨rows, n, rfl, hl, hn, hw, hbd, rfl⟩, ⟨v, u, rfl, hv, hu⟩, q⟩ := h
    cases (show u = V.int (n : Int) from hu)
    refine ⟨_, (pss_cons (ps_set (i := 2) sc_law_count_free.nd rfl (by first | exact Or.inl rfl | exact Or.inr rfl) (pe_lc (own := [("row", 9)]) (g := gName 9) rfl sc_law_count_free.nd (pi_listK (K := K) (pv 0)) (blkOk_by (own := [("row", 9)]) (N := ["rows", "width", "rest", "done", "column", "at", "k", "lead", "own", "row", "j"]) (sc := defScope s_law_count_free) (by decide +kernel)) (fun _ _ _ _ _ => (pg_name (i := 9) sc_law_count_free.nd rfl (by first | exact Or.inl rfl | exact Or.inr rfl))) (fun _ _ _ _ _ => pts_nil) (fun _ _ _ _ _ => (pe_callTy (r := rLstQ K) call_list_of (by rfl) mB_list (by decide +kernel) (pa_cons (pv 9) pa_nil)))))
  (pss_cons (ps_set (i := 3) sc_law_count_free.nd rfl (by first | exact Or.inl rfl | exact Or.inr rfl) pe_int)
  (pss_cons (ps_for PassesOwn.never rfl (pi_range1 (by rfl) mB_range (pa_cons (pv 1) pa_nil)) (pg_name (i := 4) sc_law_count_free.nd rfl (by first | exact Or.inl rfl | exact Or.inr rfl))
    (pss_cons (ps_set (i := 5) sc_law_count_free.nd rfl (by first | exact Or.inl rfl | exact Or.inr rfl) (pe_un un_neg pe_int))
  (pss_cons (ps_for PassesOwn.never rfl (pi_range2 (by rfl) mB_range (pa_cons (pv 3) (pa_cons (pe_callB (r := rLenQ K) call_len_seq (by rfl) mB_len (by decide +kernel) (pa_cons (pv 2) pa_nil)) pa_nil))) (pg_name (i := 6) sc_law_count_free.nd rfl (by first | exact Or.inl rfl | exact Or.inr rfl))
    (pss_one (ps_if (PW.pt (pw_and (pt_cmpR op_lt (pv 5) pe_int (nomark _)) (pw_and1 (pt_cmpR op_ne (pe_op op_mod (pe_callTy (r := rInt1) call_int1 (by rfl) mB_int (by decide +kernel) (pa_cons (pe_ix (r := rIxL K) ix_list (pe_ix (r := rIxL K) ix_list (pv 2) (pv 6) (fun _ _ => rfl)) (pv 4) (fun _ _ => rfl)) pa_nil)) pe_int) pe_int (nomark _)))))
    (pss_one (ps_set (i := 5) sc_law_count_free.nd rfl (by first | exact Or.inl rfl | exact Or.inr rfl) (pv 6)))
    pss_nil)))
  (pss_one (ps_if (pt_cmpR op_ge (pv 5) pe_int (nomark _))
    (pss_cons (ps_set (i := 7) sc_law_count_free.nd rfl (by first | exact Or.inl rfl | exact Or.inr rfl) (pe_ix (r := rIxL K) ix_list (pv 2) (pv 5) (fun _ _ => rfl)))
  (pss_cons (ps_asg (pe_ix (r := rIxL K) ix_list (pv 2) (pv 3) (fun _ _ => rfl)) (pg_sub (pv 2) (pv 5) set_list))
  (pss_cons (ps_asg (pv 7) (pg_sub (pv 2) (pv 3) set_list))
  (pss_cons (ps_for PassesOwn.never rfl (pi_range2 (by rfl) mB_range (pa_cons (pe_op op_add (pv 3) pe_int) (pa_cons (pe_callB (r := rLenQ K) call_len_seq (by rfl) mB_len (by decide +kernel) (pa_cons (pv 2) pa_nil)) pa_nil))) (pg_name (i := 6) sc_law_count_free.nd rfl (by first | exact Or.inl rfl | exact Or.inr rfl))
    (pss_cons (ps_set (i := 8) sc_law_count_free.nd rfl (by first | exact Or.inl rfl | exact Or.inr rfl) (pe_ix (r := rIxL K) ix_list (pe_ix (r := rIxL K) ix_list (pv 2) (pv 6) (fun _ _ => rfl)) (pv 4) (fun _ _ => rfl)))
  (pss_one (ps_asg (pe_lc (own := [("j", 10)]) (g := gName 10) rfl sc_law_count_free.nd (pi_range1 (by rfl) mB_range (pa_cons (pv 1) pa_nil)) (blkOk_by (own := [("j", 10)]) (N := ["rows", "width", "rest", "done", "column", "at", "k", "lead", "own", "row", "j"]) (sc := defScope s_law_count_free) (by decide +kernel)) (fun _ _ _ _ _ => (pg_name (i := 10) sc_law_count_free.nd rfl (by first | exact Or.inl rfl | exact Or.inr rfl))) (fun _ _ _ _ _ => pts_nil) (fun _ _ _ _ _ => (pe_op op_mod (pe_op op_sub (pe_op op_mulW (pe_ix (r := rIxL K) ix_list (pv 7) (pv 4) (fun _ _ => rfl)) (pe_ix (r := rIxL K) ix_list (pe_ix (r := rIxL K) ix_list (pv 2) (pv 6) (fun _ _ => rfl)) (pv 10) (fun _ _ => rfl))) (pe_op op_mulW (pv 8) (pe_ix (r := rIxL K) ix_list (pv 7) (pv 10) (fun _ _ => rfl)))) pe_int))) (pg_sub (pv 2) (pv 6) set_list)))))
  (pss_one (ps_set (i := 3) sc_law_count_free.nd rfl (by first | exact Or.inl rfl | exact Or.inr rfl) (pe_op op_add (pv 3) pe_int)))))))
    pss_nil)))))
  (pss_one (ps_ret (pv 3)))))), ?_⟩
    refine w_asgN (r := rLst rInt) (as := rows) (Wd.start eF) (en_is (en_lc (s := rLst rInt) (fun _ => true) (fun r => r) (src_list (er_var rfl hv)) tgt_n (by omega) (fun r hr2 G σ2 eG hS => ?_)) ?_) fun p G1 H1 w1 s1 mp np => ?_
    · obtain ⟨x, hx, rfl⟩ := hS
      exact ⟨rfl, fun H1 _ Q q => q H1 (Ex.refl _), fun _ => En.er (en_listL (er_var rfl hx))⟩
    · rw [List.filter_eq_self.mpr fun _ _ => rfl, List.map_id']
    refine w_asgI (n := 0) w1 er_int fun H2 w2 s2 => ?_
    refine w_for w2 (src_rng1 (ea1 (er_vi rfl)) (by omega)) tgt_n mono_sn (fun pre σ' G' H' => ∃ (x4 x5 x6 x7 x8 : Option V), Mu (rLst rInt) (stF n rows pre.length).1 G' H' p ∧ Bd (stF n rows pre.length).1 ∧ σ' = [some v, some (.int (n : Int)), some (.ref p), some (.int ((stF n rows pre.length).2 : Int)), x4, x5, x6, x7, x8, none, none])
      (fun G2 H2 w3 s3 => ⟨none, none, none, none, none, (mp.go s2).go s3, hbd, rfl⟩) (fun Gs pre a post σ' σ2 G' H' G2 H2 has hP s3 w3 eGs hS => ?_) (fun σ' G' H' w3 hP => ?_)
    · obtain ⟨x4, x5, x6, x7, x8, m, bd, rfl⟩ := hP
      obtain ⟨x, hx, rfl⟩ := hS
      cases (show x = V.int a from hx)
      obtain ⟨ea, hc, _⟩ := rng_mid has
      have hc : pre.length < n := by omega
      have ea : a = (pre.length : Int) := by omega
      subst ea
      have S := cnt_fold hw pre.length (by omega)
      have eS : (List.range pre.length).foldl (colF n) (rows, 0) = stF n rows pre.length := rfl
      rw [eS] at S
      have esucc : stF n rows (pre ++ [(pre.length : Int)]).length = colF n (stF n rows pre.length) pre.length := by
        rw [List.length_append]
        exact stF_succ
      generalize stF n rows pre.length = st at m bd S esucc ⊢
      obtain ⟨rest, d⟩ := st
      have Slen : rest.length = rows.length := S.len
      have Sd : d ≤ rows.length := S.done
      have Sw : ∀ r ∈ rest, r.length = n := S.wid
      have bd : Bd rest := bd
      have m2 := m.go s3
      refine w_asgI (n := -1) w3 (er_neg er_int) fun H3 w4 s4 => ?_
      have m4 := m2.go s4
      obtain ⟨G3, w5, e3, ry, _⟩ := m4.froz w4 np
      refine w_for w5 (src_is (src_rng2 (ea2 (er_vi rfl) (er_lenL (er_var rfl ry))) (by dsimp only; omega)) (show rng (d : Int) ((rest.length : Int) - (d : Int)).toNat = rng (d : Int) (rest.length - d) by rw [show ((rest.length : Int) - (d : Int)).toNat = rest.length - d by omega])) tgt_n mono_sn
        (fun pre2 σ' G' H' => Ex G3 G' ∧ Ex H3 H' ∧ ∃ x6 : Option V, σ' = [some v, some (.int (n : Int)), some (.ref p), some (.int (d : Int)), some (.int (pre.length : Int)), some (.int (atV rest pre.length pre2)), x6, x7, x8, none, none])
        (fun Ga Ha wa sa => ⟨sa.fr, sa.ex, x6, rfl⟩) (fun Gt pre2 k post2 σ' σ2 G' H' Gb Hb has2 hP2 sb wb eGt hS2 => ?_) (fun σ' G' H' w6 hP2 => ?_)
      · obtain ⟨g1, g2, y6, rfl⟩ := hP2
        obtain ⟨x, hx2, rfl⟩ := hS2
        cases (show x = V.int k from hx2)
        obtain ⟨ek, hk, epre⟩ := rng_mid has2
        have ek : k = ((d + pre2.length : Nat) : Int) := by omega
        have hkl : d + pre2.length < rest.length := by omega
        have hpos : ∀ x ∈ pre2, (0 : Int) ≤ x := fun x hx => by
          rw [epre] at hx
          have := (mem_rng.mp hx).1
          omega
        have rb := rRows.mono (g1.trans sb.fr) ry
        have hwk := Sw _ (getD_mem hkl)
        have est := atV_step (rest := rest) (c := pre.length) (k := k) hpos
        refine v_when wb (et_and (a := decide (atV rest pre.length pre2 < 0)) (b := okAt rest pre.length k.toNat) (et_test (er_cmp0 (er_vi rfl) er_int)) fun _ => et_test (er_is (er_neI (er_I (er_int1 (er_ixL (a := vec (rest.getD (d + pre2.length) []) pre.length) (er_ixL (a := rest.getD (d + pre2.length) []) (er_var rfl rb) (er_vi rfl) (by rw [ek]; exact atI_nat (getD_some hkl))) (er_vi rfl) (atI_vec (by omega)))) er_int (by decide)) er_int) ?_)) (fun hb Hc wc sc => ?_) (fun hb Hc wc sc => ?_)
        · rw [ek]
          unfold okAt
          rw [Int.toNat_natCast]
          simp
        · rw [Bool.and_eq_true, decide_eq_true_eq] at hb
          rw [if_pos hb] at est
          refine v_asgI wc (er_vi rfl) fun Hd wd sd => ⟨_, wd, eGt, g1.trans sb.fr, g2.trans (sb.ex.trans (sc.ex.trans sd.ex)), some (.int k), ?_⟩
          rw [est]
          rfl
        · have hb : ¬ (atV rest pre.length pre2 < 0 ∧ okAt rest pre.length k.toNat = true) := fun z => by
            rw [Bool.and_eq_false_iff, decide_eq_false_iff_not] at hb
            rcases hb with hb | hb
            · exact hb z.1
            · rw [hb] at z
              cases z.2
          rw [if_neg hb] at est
          refine ⟨_, wc, eGt, g1.trans sb.fr, g2.trans (sb.ex.trans sc.ex), some (.int k), ?_⟩
          rw [est]
          rfl
      · obtain ⟨g1, g2, y6, rfl⟩ := hP2
        have w7 := w4.back w6 (e3.trans g1)
        have m7 := m4.go (stp_same g2)
        have eav := atV_find (rest := rest) (c := pre.length) (d := d)
        cases hf : findF rest pre.length d with
        | none =>
          rw [hf] at eav
          have eav : atV rest pre.length (rng (d : Int) (rest.length - d)) = -1 := eav
          rw [eav]
          refine v_no w7 (et_test (er_cmp0 (er_vi rfl) er_int)) (by decide) fun H8 w8 s8 => ?_
          rw [esucc, col_none hf]
          exact ⟨_, w8, eGs, _, _, _, _, _, m7.go s8, bd, rfl⟩
        | some aa =>
          rw [hf] at eav
          have eav : atV rest pre.length (rng (d : Int) (rest.length - d)) = (aa : Int) := eav
          rw [eav]
          obtain ⟨h1, h2, h3⟩ := find_some hf
          have hd : d < rest.length := by omega
          refine v_when w7 (et_test (er_cmp0 (er_vi rfl) er_int)) (fun _ H8 w8 s8 => ?_) (fun hb => by have := of_decide_eq_false hb; omega)
          have m8 := m7.go s8
          refine w_asg1 w8 (ev_at w8 rfl m8 (er_vi rfl) h2) fun v7 G9 H9 w9 s9 hv7 => ?_
          have m9 := m8.go s9
          refine w_put1 (j := aa) w9 (ev_at w9 rfl m9 (er_vi rfl) hd) rfl m9 np (er_vi rfl) h2 fun G10 H10 w10 s10 m10 => ?_
          have hv10 := (rLst rInt).mono s10.fr hv7
          refine w_put1 (j := d) w10 (ev_er w10 (er_var rfl hv10)) rfl m10 np (er_vi rfl) (by rw [List.length_set]; exact hd) fun G11 H11 w11 s11 m11 => ?_
          have hv11 := (rLst rInt).mono s11.fr hv10
          have gA : rest[aa] = rest.getD aa [] := by
            have := getD_some h2
            rw [List.getElem?_eq_getElem h2] at this
            exact Option.some.inj this
          have gD : rest[d] = rest.getD d [] := by
            have := getD_some hd
            rw [List.getElem?_eq_getElem hd] at this
            exact Option.some.inj this
          have esw : (rest.set aa rest[d]).set d rest[aa] = swapF rest aa d := by
            unfold swapF
            rw [gA, gD]
          rw [esw] at m11
          rw [gA] at hv11
          have swl : (swapF rest aa d).length = rest.length := by
            unfold swapF
            rw [List.length_set, List.length_set]
          have smem := swap_mem h2 hd
          have bdL := bd_vec bd (getD_mem h2)
          have wL := Sw _ (getD_mem h2)
          have ecol := col_some (n := n) (c := pre.length) (st := (rest, d)) hf (by dsimp only; omega)
          dsimp only at ecol
          rw [swl] at ecol
          generalize swapF rest aa d = sw at m11 swl smem ecol
          generalize rest.getD aa [] = lead at hv11 bdL wL ecol
          obtain ⟨G12, w12, e12, ry2, _⟩ := m11.froz w11 np
          refine w_for1 w11 (src1_is (src1_rng2 w12 (ea2 (er_I0 (er_vi rfl) er_int) (er_lenL (er_var rfl ry2))) (by rw [swl]; omega)) (show rng ((d : Int) + 1) ((sw.length : Int) - ((d : Int) + 1)).toNat = rng ((d + 1 : Nat) : Int) (rest.length - (d + 1)) by
              rw [swl, show ((rest.length : Int) - ((d : Int) + 1)).toNat = rest.length - (d + 1) by omega]
              rfl)) tgt_n mono_sn
            (fun pre3 σ' G' H' => ∃ x6 x8 : Option V, Mu (rLst rInt) (elimTo sw d pre3.length (elimF n pre.length lead)) G' H' p ∧ (rLst rInt).rel G' v7 lead ∧ Ex G2 G' ∧ σ' = [some v, some (.int (n : Int)), some (.ref p), some (.int (d : Int)), some (.int (pre.length : Int)), some (.int (aa : Int)), x6, some v7, x8, none, none])
            (fun Ga Ha wa sa => ⟨_, _, by rw [show ([] : List Int).length = 0 from rfl, elimTo_zero]; exact m11.go sa, (rLst rInt).mono sa.fr hv11, (s9.fr.trans (s10.fr.trans s11.fr)).trans sa.fr, rfl⟩) (fun Gt pre3 k post3 σ' σ2 G' H' Gb Hb has3 hP3 sb wb eGt hS3 => ?_) (fun σ' G' H' w13 hP3 => ?_)
          · obtain ⟨y6, y8, m12, hv12, eg, rfl⟩ := hP3
            obtain ⟨x, hx3, rfl⟩ := hS3
            cases (show x = V.int k from hx3)
            obtain ⟨ek, hk, _⟩ := rng_mid has3
            have ek : k = ((d + 1 + pre3.length : Nat) : Int) := by omega
            have hkl : d + 1 + pre3.length < sw.length := by omega
            have mb := m12.go sb
            have hvb := (rLst rInt).mono sb.fr hv12
            have hel : d + 1 + pre3.length < (elimTo sw d pre3.length (elimF n pre.length lead)).length := by
              rw [elimTo_len]
              exact hkl
            have hcur : (elimTo sw d pre3.length (elimF n pre.length lead))[d + 1 + pre3.length]? = some (sw.getD (d + 1 + pre3.length) []) := by
              rw [elimTo_get hkl, if_neg (by omega)]
            obtain ⟨G14, w14, e14, ry3, _⟩ := mb.froz wb np
            have hsm := smem _ (getD_mem hkl)
            have wS := Sw _ hsm
            have bdS := bd_vec bd hsm
            generalize hs0 : sw.getD (d + 1 + pre3.length) [] = s0 at hcur wS bdS
            have erow : Er (rLst rInt) (tOp (rIxL K) (tVar 2) (tVar 6)) [some v, some (.int (n : Int)), some (.ref p), some (.int (d : Int)), some (.int (pre.length : Int)), some (.int (aa : Int)), some (.int k), some v7, y8, none, none] G14 s0 := er_ixL (er_var rfl ry3) (er_vi rfl) (by rw [ek]; exact atI_nat hcur)
            refine w_asgI (n := vec s0 pre.length) w14 (er_ixL erow (er_vi rfl) (atI_vec (by omega))) fun H15 w15 s15 => ?_
            have wb2 := wb.back w15 e14
            have mb2 := mb.go (stp_same s15.ex)
            refine v_put1 (j := d + 1 + pre3.length) (a := elimF n pre.length lead s0) wb2 (ev_newB wb2 w15 (en_is (en_lc (s := rInt) (fun _ => true) (fun j => (vec lead pre.length * vec s0 j.toNat - vec s0 pre.length * vec lead j.toNat) % 97) (src_rng1 (ea1 (er_vi rfl)) (by omega)) tgt_n (by rw [rng_len]; omega) (fun j hj G σ2 eG hS => ?_)) ?_)) rfl mb2 np (er_is (er_vi rfl) ek) hel fun G16 H16 w16 s16 m16 => ?_
            · obtain ⟨x, hx, rfl⟩ := hS
              cases (show x = V.int j from hx)
              have hj := mem_rng.mp hj
              obtain ⟨jn, rfl⟩ := Int.eq_ofNat_of_zero_le hj.1
              have hjn : jn < n := by omega
              have rL := (rLst rInt).mono (e14.trans eG) hvb
              have rR := rRows.mono eG ry3
              refine ⟨rfl, fun H1 _ Q q => q H1 (Ex.refl _), fun _ => er_I (er_I0 (er_I (er_ixL (er_var rfl rL) (er_vi rfl) (atI_vec (by omega))) (er_ixL (a := vec s0 jn) (er_ixL (a := s0) (er_var rfl rR) (er_vi rfl) (by rw [ek]; exact atI_nat hcur)) (er_vi rfl) (atI_vec (by omega))) (mul_w (bdL _) (bdS _))) (er_I (er_vi rfl) (er_ixL (er_var rfl rL) (er_vi rfl) (atI_vec (by omega))) (mul_w (bdS _) (bdL _)))) er_int (by decide)⟩
            · rw [List.filter_eq_self.mpr fun _ _ => rfl, show ((n : Int)).toNat = n by omega, rng0, List.map_map]
              rfl
            · refine ⟨G16, w16, eGt.trans s16.fr, _, _, ?_, (rLst rInt).mono s16.fr hvb, (eg.trans sb.fr).trans s16.fr, rfl⟩
              have e := elimTo_set (sw := sw) (d := d) (m := pre3.length) (f := elimF n pre.length lead) hkl
              rw [hs0] at e
              rw [e] at m16
              rw [List.length_append]
              exact m16
          · obtain ⟨y6, y8, m12, hv12, eg, rfl⟩ := hP3
            rw [rng_len] at m12
            refine v_asgI (n := (d : Int) + 1) w13 (er_I0 (er_vi rfl) er_int) fun H14 w14 s14 => ?_
            rw [esucc, ecol]
            refine ⟨_, w14, eGs.trans eg, _, _, _, _, _, m12.go s14, ?_, rfl⟩
            intro r hr x hx
            rcases elimTo_mem r hr with z | ⟨s, _, z⟩
            · exact bd r (smem r z) x hx
            · rw [z] at hx
              exact bd_res elim_res x hx
    · obtain ⟨x4, x5, x6, x7, x8, m, bd, rfl⟩ := hP
      rw [rng_len, show ((n : Int)).toNat = n by omega]
      exact v_retI w3 (er_vi rfl) fun H5 e5 => q _ H5 e5 rfl
end
end K00
set_option Elab.async false
set_option linter.all false
set_option maxRecDepth 100000
set_option maxHeartbeats 8000000
namespace K00
open PySem PySem.Spec PyProof.Rows L2 Evl DL
abbrev s_law_rows : Stmt := topS 20
theorem sc_law_rows : FnScope ["script", "width", "rows", "k", "drawn", "row", "number", "j"] ["script", "width"] (defScope s_law_rows) := ⟨rfl, rfl, rfl, by decide +kernel, rfl, by decide +kernel, by decide +kernel⟩
/- 0 script, 1 width, 2 rows, 3 k, 4 drawn, 5 row, 6 number, 7 j -/
/-! a def whose result is any of some lists -/
def spNA {β : Type} (s : Rep β) (W : (Hp → List V → Prop) → List β → Prop) : Sp := fun vs H Q _ => ∃ F P, Ex F H ∧ MonoP P ∧ (∃ b, W P b) ∧ P F vs ∧ ∀ b p H2, W P b → Ex H H2 → New s b F H H2 p → Q (.ref p) H2
section
variable {α β : Type} {K : PySem.W.Frag} {σ : L2.St} {F0 H0 F G H H1 H2 : Hp} {te : TE} {r : Rep α} {s : Rep β} {a : α} {D : Ends} {tu tz : TS} {i : Nat}
theorem w_callA {W : (Hp → List V → Prop) → List β → Prop} {P : Hp → List V → Prop} {E : XK} {tr : TA} (w : Wd F0 H0 G H) (h : Ea P tr σ G) (hP : MonoP P) (ex : ∃ b, W P b)
    (k : ∀ b p G2 H2, W P b → Wd F0 H0 G2 H2 → Stp none G H G2 H2 → Mu s b G2 H2 p → H p = none → tz D (σ.set i (some (.ref p))) H2) : tSeq (tAsg (tCall (spNA s W) [] E tr) (gName i)) tz D σ H :=
  h H w.sub _ fun vs H2 e2 hk => ⟨part G H H2, P, part_sub (w.sub.trans e2), hP, ex, by rw [List.append_nil]; exact hk, fun b p H3 wb e3 ⟨k1, xs, k2, k3⟩ => by
    have n : New s b G H H3 p := ⟨back_none e2 k1, xs, k2, k3.imp fun _ _ k => s.mono (mns_up (part_part e2 (Ex.refl H2) e3)) k⟩
    exact k b p _ H3 wb (w.new n (e2.trans e3)) (stp_new n w.sub (e2.trans e3)) n.mu n.1⟩
theorem v_asg1 (w : Wd F0 H0 G H) (h : Ev1 r te σ G H a) (k : ∀ v G2 H2, Wd F0 H0 G2 H2 → Stp none G H G2 H2 → r.rel G2 v a → D.nx (σ.set i (some v)) H2) : tAsg te (gName i) D σ H := h _ fun v H2 e hv => k v _ H2 (w.ev e) (stp_ev e) hv
/-- two ways that meet -/
theorem w_cut (Pv : L2.St → Hp → Hp → Prop) (h : tu { D with nx := Nxt F0 H0 G Pv } σ H) (k : ∀ σ2 G2 H2, Wd F0 H0 G2 H2 → Ex G G2 → Pv σ2 G2 H2 → tz D σ2 H2) : tCut tu tz D σ H := ⟨_, h, fun σ2 H2 ⟨G2, w2, e2, hP⟩ => k σ2 G2 H2 w2 e2 hP⟩
end
def msR : List Int := [8, 97, 97, 97, 97, 97, 97, 10 ^ 15]
structure Good (n : Nat) (rows : List Row) : Prop where
  len : rows.length ≤ 6
  wid : ∀ r ∈ rows, r.length = n
  bd : Bd rows
def wRows (K : PySem.W.Frag) : (Hp → List V → Prop) → List Row → Prop := fun P b => ∃ (ns : List Int) (n : Nat), P = A2 (rFro K) rInt ns (n : Int) ∧ ns.length ≤ 63 ∧ n ≤ 4 ∧ Good n b
theorem good_nil {n : Nat} : Good n [] := ⟨Nat.zero_le _, fun r hr => (by cases hr), fun r hr => (by cases hr)⟩
/-- all entries below a bound -/
def Sm (B : Nat) (r : Row) : Prop := ∀ x ∈ r, x.natAbs < B
theorem sm_map {α : Type} {B : Nat} {l : List α} {f : α → Int} (h : ∀ a ∈ l, (f a).natAbs < B) : Sm B (l.map f) := fun x hx => by
  obtain ⟨a, ha, rfl⟩ := List.mem_map.mp hx
  exact h a ha
theorem sm_vec {B : Nat} {r : Row} (h : Sm B r) (hB : 0 < B) (j : Nat) : (vec r j).natAbs < B := by
  by_cases hj : j < r.length
  · rw [vec_get hj]
    exact h _ (List.getElem_mem hj)
  · rw [vec_out (by omega)]
    exact hB
theorem cut_mid {r : Row} {n : Nat} (h : n + 1 ≤ r.length) : cutA r (some 1) (some (1 + (n : Int))) = (r.drop 1).take n := by
  unfold cutA
  rw [show (1 : Int) = ((1 : Nat) : Int) from rfl, show ((1 : Nat) : Int) + (n : Int) = ((1 + n : Nat) : Int) by omega, HT.sIx_nat, HT.sIx_nat, Nat.min_eq_left (by omega), Nat.min_eq_left (by omega), show 1 + n - 1 = n by omega]
section
variable {P : Program} {w : World} {K : PySem.W.Frag} {mg : Str → Option Value} {base : Heap} {t : Tok}
theorem ok_law_rows {f fC fD : Addr} {fd fdC fdD : FuncData} (D : DefAt K mg "_law_rows" s_law_rows ["script", "width"] f fd) (D_law_cell : DefAt K mg "_law_cell" s_law_cell ["script", "k"] fC fdC) (D_law_draws : DefAt K mg "_law_draws" s_law_draws ["cell", "limits"] fD fdD)
    (mB_len : mg "len" = none) (mB_int : mg "int" = none) (mB_range : mg "range" = none) (mB_list : mg "list" = none) : FnOk P w K mg base CX0 2 f fd ["script", "width"] (spNA (rLst rInt) (wRows K)) := by
  have G_law_cell : FnOk P w K mg base CX0 1 fC fdC ["script", "k"] (spV rInt (wCell K)) := ok_law_cell D_law_cell mB_len
  have G_law_draws : FnOk P w K mg base CX0 1 fD fdD ["cell", "limits"] (spN rInt wDraws) := ok_law_draws D_law_draws mB_int
  refine D.F.ok sc_law_rows (fun vs H Q E h => ?_) (fun cdv A outer s H vs Q E hr h => ?_)
  · obtain ⟨F, Pp, _, _, ⟨b, ns, n, rfl, _⟩, ⟨v, w, rfl, _⟩, _⟩ := h
    rfl
  · obtain ⟨F, Pp, eF, _, ⟨b, ns, n, rfl, hl, hn, _⟩, ⟨v, u, rfl, hv, hu⟩, q⟩ := h
    cases (show u = V.int (n : Int) from hu)
    refine ⟨_, (pss_cons (ps_set (i := 2) sc_law_rows.nd rfl (by first | exact Or.inl rfl | exact Or.inr rfl) (pe_lst pa_nil))
  (pss_cons (ps_for PassesOwn.never rfl (pi_range1 (by rfl) mB_range (pa_cons (pe_ix (r := rIxL K) ix_list (pe_call G_law_draws (hr.mono (by decide)) (by rfl) D_law_draws.g D_law_draws.F.kp D_law_draws.b .nil pass0 (pa_cons (pe_call G_law_cell (hr.mono (by decide)) (by rfl) D_law_cell.g D_law_cell.F.kp D_law_cell.b .nil pass0 (pa_cons (pv 0) (pa_cons pe_int pa_nil))) (pa_cons (pe_lst (pa_cons pe_int (pa_cons pe_int (pa_cons pe_int pa_nil)))) pa_nil))) pe_int (fun _ _ => rfl)) pa_nil)) (pg_name (i := 3) sc_law_rows.nd rfl (by first | exact Or.inl rfl | exact Or.inr rfl))
    (pss_cons (ps_set (i := 4) sc_law_rows.nd rfl (by first | exact Or.inl rfl | exact Or.inr rfl) (pe_call G_law_draws (hr.mono (by decide)) (by rfl) D_law_draws.g D_law_draws.F.kp D_law_draws.b .nil pass0 (pa_cons (pe_call G_law_cell (hr.mono (by decide)) (by rfl) D_law_cell.g D_law_cell.F.kp D_law_cell.b .nil pass0 (pa_cons (pv 0) (pa_cons (pe_op op_add pe_int (pv 3)) pa_nil))) (pa_cons (pe_lst (pa_cons pe_int (pa_cons pe_int (pa_cons pe_int (pa_cons pe_int (pa_cons pe_int (pa_cons pe_int (pa_cons pe_int (pa_cons (pe_op op_pow pe_int pe_int) pa_nil))))))))) pa_nil))))
  (pss_cons (ps_setLc (i := 5) (own := [("number", 6)]) (g := gName 6) rfl sc_law_rows.nd rfl rfl (sw_true rfl rfl rfl (by decide +kernel)) (pi_listK (K := K) (pe_slice (r := rSlL K) sl_list (pv 4) (po_some pe_int) (po_some (pe_op op_add pe_int (pv 1))))) (blkOk_by (own := [("number", 6)]) (N := ["script", "width", "rows", "k", "drawn", "row", "number", "j"]) (sc := defScope s_law_rows) (by decide +kernel)) (fun _ _ _ _ _ => (pg_name (i := 6) sc_law_rows.nd rfl (by first | exact Or.inl rfl | exact Or.inr rfl))) (fun _ _ _ _ _ => pts_nil) (fun _ _ _ _ _ => (pv 6)))
  (pss_cut (ps_if (pt_cmpR op_eq (pe_ix (r := rIxL K) ix_list (pv 4) pe_int (fun _ _ => rfl)) pe_int (nomark _))
    (pss_one (ps_setLc (i := 5) (own := [("number", 6)]) (g := gName 6) rfl sc_law_rows.nd rfl rfl (sw_true rfl rfl rfl (by decide +kernel)) (pi_listK (K := K) (pv 5)) (blkOk_by (own := [("number", 6)]) (N := ["script", "width", "rows", "k", "drawn", "row", "number", "j"]) (sc := defScope s_law_rows) (by decide +kernel)) (fun _ _ _ _ _ => (pg_name (i := 6) sc_law_rows.nd rfl (by first | exact Or.inl rfl | exact Or.inr rfl))) (fun _ _ _ _ _ => pts_nil) (fun _ _ _ _ _ => (pe_op op_sub (pe_op op_mod (pv 6) pe_int) pe_int))))
    pss_nil)
  (pss_cut (ps_if (pt_cmpR op_eq (pe_ix (r := rIxL K) ix_list (pv 4) pe_int (fun _ _ => rfl)) pe_int (nomark _))
    (pss_one (ps_setLc (i := 5) (own := [("number", 6)]) (g := gName 6) rfl sc_law_rows.nd rfl rfl (sw_true rfl rfl rfl (by decide +kernel)) (pi_listK (K := K) (pv 5)) (blkOk_by (own := [("number", 6)]) (N := ["script", "width", "rows", "k", "drawn", "row", "number", "j"]) (sc := defScope s_law_rows) (by decide +kernel)) (fun _ _ _ _ _ => (pg_name (i := 6) sc_law_rows.nd rfl (by first | exact Or.inl rfl | exact Or.inr rfl))) (fun _ _ _ _ _ => pts_nil) (fun _ _ _ _ _ => (pe_op op_add (pe_op op_mul (pe_op op_sub (pv 6) pe_int) (pe_op op_add (pe_op op_pow pe_int pe_int) (pe_ix (r := rIxL K) ix_list (pv 4) pe_int (fun _ _ => rfl)))) pe_int))))
    pss_nil)
  (pss_cut (ps_if (PW.pt (pw_and (pt_cmpR op_eq (pe_ix (r := rIxL K) ix_list (pv 4) pe_int (fun _ _ => rfl)) pe_int (nomark _)) (pw_and1 (pt_cmpR op_gt (pv 3) pe_int (nomark _)))))
    (pss_one (ps_set (i := 5) sc_law_rows.nd rfl (by first | exact Or.inl rfl | exact Or.inr rfl) (pe_callTy (r := rLstQ K) call_list_of (by rfl) mB_list (by decide +kernel) (pa_cons (pe_ix (r := rIxL K) ix_list (pv 2) (pe_op op_mod (pe_ix (r := rIxL K) ix_list (pv 4) pe_int (fun _ _ => rfl)) (pv 3)) (fun _ _ => rfl)) pa_nil))))
    pss_nil)
  (pss_cut (ps_if (PW.pt (pw_and (pt_cmpR op_eq (pe_ix (r := rIxL K) ix_list (pv 4) pe_int (fun _ _ => rfl)) pe_int (nomark _)) (pw_and1 (pt_cmpR op_gt (pv 3) pe_int (nomark _)))))
    (pss_one (ps_setLc (i := 5) (own := [("number", 6)]) (g := gName 6) rfl sc_law_rows.nd rfl rfl (sw_true rfl rfl rfl (by decide +kernel)) (pi_listK (K := K) (pe_ix (r := rIxL K) ix_list (pv 2) (pe_op op_mod (pe_ix (r := rIxL K) ix_list (pv 4) pe_int (fun _ _ => rfl)) (pv 3)) (fun _ _ => rfl))) (blkOk_by (own := [("number", 6)]) (N := ["script", "width", "rows", "k", "drawn", "row", "number", "j"]) (sc := defScope s_law_rows) (by decide +kernel)) (fun _ _ _ _ _ => (pg_name (i := 6) sc_law_rows.nd rfl (by first | exact Or.inl rfl | exact Or.inr rfl))) (fun _ _ _ _ _ => pts_nil) (fun _ _ _ _ _ => (pe_op op_mul (pe_ix (r := rIxL K) ix_list (pv 4) pe_int (fun _ _ => rfl)) (pv 6)))))
    pss_nil)
  (pss_cut (ps_if (PW.pt (pw_and (pt_cmpR op_eq (pe_ix (r := rIxL K) ix_list (pv 4) pe_int (fun _ _ => rfl)) pe_int (nomark _)) (pw_and1 (pt_cmpR op_gt (pv 3) pe_int (nomark _)))))
    (pss_one (ps_setLc (i := 5) (own := [("j", 7)]) (g := gName 7) rfl sc_law_rows.nd rfl rfl (sw_true rfl rfl rfl (by decide +kernel)) (pi_range1 (by rfl) mB_range (pa_cons (pv 1) pa_nil)) (blkOk_by (own := [("j", 7)]) (N := ["script", "width", "rows", "k", "drawn", "row", "number", "j"]) (sc := defScope s_law_rows) (by decide +kernel)) (fun _ _ _ _ _ => (pg_name (i := 7) sc_law_rows.nd rfl (by first | exact Or.inl rfl | exact Or.inr rfl))) (fun _ _ _ _ _ => pts_nil) (fun _ _ _ _ _ => (pe_op op_add (pe_ix (r := rIxL K) ix_list (pe_ix (r := rIxL K) ix_list (pv 2) (pe_op op_mod (pe_ix (r := rIxL K) ix_list (pv 4) pe_int (fun _ _ => rfl)) (pv 3)) (fun _ _ => rfl)) (pv 7) (fun _ _ => rfl)) (pe_op op_mul (pe_ix (r := rIxL K) ix_list (pv 4) pe_int (fun _ _ => rfl)) (pe_ix (r := rIxL K) ix_list (pe_ix (r := rIxL K) ix_list (pv 2) (pe_op op_mod (pe_ix (r := rIxL K) ix_list (pv 4) pe_int (fun _ _ => rfl)) (pv 3)) (fun _ _ => rfl)) (pv 7) (fun _ _ => rfl)))))))
    pss_nil)
  (pss_one (ps_expr (pe_bm PySem.F.plainAttrs_list PySem.F.slot_list_append PySem.F.type_list_append mt_append (pv 2) (pa_cons (pv 5) pa_nil))))))))))))
  (pss_one (ps_ret (pv 2))))), ?_⟩
    obtain ⟨d1, hd1, h10, h17⟩ : ∃ x, (drawn (cell ns 0) [5, 7, 4])[1]? = some x ∧ 0 ≤ x ∧ x < 7 := draws_get [5, 7, 4] _ _ 1 7 (by decide) rfl
    refine w_asgN (r := rLst rInt) (Wd.start eF) (en_lst eal_nil (Nat.zero_le _)) fun p G1 H1 w1 s1 mp np => ?_
    refine w_for w1 (src_rng1 (n := d1) (ea1 (er_ixL (En.er (en_call (ea2 (er_call (ea2 (er_var rfl ((rFro K).mono w1.old hv)) er_int) mono2 ⟨ns, 0, rfl, hl, by omega, rfl⟩) (En.er (en_lst (as := [5, 7, 4]) (eal_cons er_int (eal_cons er_int (eal_cons er_int eal_nil))) (by show 3 ≤ 100000; decide)))) mono2 ⟨cell ns 0, [5, 7, 4], rfl, by decide, by decide, rfl⟩)) er_int (show L2.atI _ (1 : Int) = some d1 from atI_nat (j := 1) hd1))) (by omega)) tgt_n mono_sn
      (fun pre σ' G' H' => ∃ (rs : List Row) (x3 x4 x5 : Option V), rs.length = pre.length ∧ (∀ r ∈ rs, r.length = n ∧ Sm (2 ^ (60 + 8 * pre.length)) r) ∧ Mu (rLst rInt) rs G' H' p ∧ σ' = [some v, some (.int (n : Int)), some (.ref p), x3, x4, x5, none, none])
      (fun G2 H2 w2 s2 => ⟨[], _, _, _, rfl, fun r hr => (by cases hr), mp.go s2, rfl⟩) (fun Gs pre a post σ' σ2 G' H' G2 H2 has hP s2 w2 eGs hS => ?_) (fun σ' G' H' w2 hP => ?_)
    · obtain ⟨rs, x3, x4, x5, hlen, hgood, mp2, rfl⟩ := hP
      obtain ⟨z, hz, rfl⟩ := hS
      cases (show z = V.int a from hz)
      have m2 := mp2.go s2
      obtain ⟨ea, hk7, _⟩ := rng_mid has
      have hk : pre.length < 7 := by omega
      generalize hkd : pre.length = k at *
      have ea : a = (k : Int) := by omega
      subst ea
      have hd : ∀ (i : Nat) (m : Int), msR[i]? = some m → ∃ x, (drawn (cell ns (1 + k)) msR)[i]? = some x ∧ 0 ≤ x ∧ x < m := fun i m h => draws_get msR _ _ i m (by decide) h
      have hdl : (drawn (cell ns (1 + k)) msR).length = 8 := drawn_len
      refine w_asg (r := rLst rInt) (a := drawn (cell ns (1 + k)) msR) w2 (En.er (en_call (s := rInt) (ea2 (er_call (s := rInt) (ea2 (er_var rfl ((rFro K).mono w2.old hv)) (er_is (er_I0 er_int (er_vi rfl)) (show (1 : Int) + (k : Int) = ((1 + k : Nat) : Int) by omega))) mono2 ⟨ns, 1 + k, rfl, hl, by omega, rfl⟩)
        (En.er (en_lst (as := msR) (eal_cons er_int (eal_cons er_int (eal_cons er_int (eal_cons er_int (eal_cons er_int (eal_cons er_int (eal_cons er_int (eal_cons (er_I (C := CPow) er_int er_int ⟨by decide, by decide, by decide⟩) eal_nil)))))))) (by decide)))) mono2 ⟨_, msR, rfl, by decide, by decide, rfl⟩)) fun vd G3 H3 w3 s3 hvd => ?_
      generalize drawn (cell ns (1 + k)) msR = ds at hd hdl hvd
      obtain ⟨e0, he0, _⟩ := hd 0 _ rfl
      obtain ⟨e4, he4, l4, u4⟩ := hd 4 _ rfl
      obtain ⟨e5, he5, l5, u5⟩ := hd 5 _ rfl
      obtain ⟨e6, he6, l6, u6⟩ := hd 6 _ rfl
      obtain ⟨e7, he7, l7, u7⟩ := hd 7 _ rfl
      have a0 : L2.atI ds (0 : Int) = some e0 := atI_nat (j := 0) he0
      have a4 : L2.atI ds (4 : Int) = some e4 := atI_nat (j := 4) he4
      have a5 : L2.atI ds (5 : Int) = some e5 := atI_nat (j := 5) he5
      have a6 : L2.atI ds (6 : Int) = some e6 := atI_nat (j := 6) he6
      have a7 : L2.atI ds (7 : Int) = some e7 := atI_nat (j := 7) he7
      have hsm0 : Sm (2 ^ 7) ((ds.drop 1).take n) := fun x hx => by
        obtain ⟨i, hi, e⟩ := List.mem_iff_getElem.mp hx
        rw [List.length_take, List.length_drop] at hi
        rw [List.getElem_take, List.getElem_drop] at e
        have hi6 : i < 6 := by omega
        have : ∀ m, msR[1 + i]? = some m → m = 97 := by
          intro m hm
          match i, hi6, hm with
          | 0, _, hm => exact (Option.some.inj hm).symm
          | 1, _, hm => exact (Option.some.inj hm).symm
          | 2, _, hm => exact (Option.some.inj hm).symm
          | 3, _, hm => exact (Option.some.inj hm).symm
          | 4, _, hm => exact (Option.some.inj hm).symm
          | 5, _, hm => exact (Option.some.inj hm).symm
        have hml : 1 + i < msR.length := by
          show 1 + i < 8
          omega
        obtain ⟨y, hy, y0, y1⟩ := hd (1 + i) _ (List.getElem?_eq_getElem hml)
        have e97 := this _ (List.getElem?_eq_getElem hml)
        rw [List.getElem?_eq_getElem (by omega)] at hy
        rw [Option.some.inj hy] at e
        rw [e97] at y1
        have hb : (2 : Nat) ^ 7 = 128 := rfl
        omega
      have m3 := m2.go s3
      -- row = [number for number in drawn[1:1 + width]]
      refine w_asg (r := rLst rInt) (a := (ds.drop 1).take n) w3 (En.er (en_is (en_lc (s := rInt) (fun _ => true) (fun x => x) (src_list (En.er (en_sl (er_var rfl hvd) (eo_part er_int) (eo_part (er_I0 er_int (er_vi rfl)))))) tgt_n (by rw [cut_mid (by omega), List.length_take]; omega) (fun x hx G σ2 eG hS => ?_)) ?_)) fun vr G4 H4 w4 s4 hvr => ?_
      · obtain ⟨y, hy, rfl⟩ := hS
        exact ⟨rfl, fun H1 _ Q q => q H1 (Ex.refl _), fun _ => er_var rfl hy⟩
      · rw [List.filter_eq_self.mpr fun _ _ => rfl, List.map_id', cut_mid (by omega)]
      have m4 := m3.go s4
      have hvd4 := (rLst rInt).mono s4.fr hvd
      have hlen0 : ((ds.drop 1).take n).length = n := by
        rw [List.length_take, List.length_drop]
        omega
      generalize (ds.drop 1).take n = row0 at hvr hsm0 hlen0
      -- drawn[0] == 1
      refine w_cut (F0 := F) (H0 := H) (G := G4) (fun σ' G' H' => Mu (rLst rInt) rs G' H' p ∧ ∃ (row : Row) (vr : V), (rLst rInt).rel G' vr row ∧ row.length = n ∧ Sm (2 ^ 7) row ∧ σ' = [some v, some (.int (n : Int)), some (.ref p), some (.int (k : Int)), some vd, some vr, none, none]) ?_ fun σ5 G5 H5 w5 e45 hP5 => ?_
      · refine v_when w4 (et_test (er_eqI (er_ixL (er_var rfl hvd4) er_int a0) er_int)) (fun hb H5 w5 s5 => ?_) (fun hb H5 w5 s5 => ?_)
        · refine v_asg (r := rLst rInt) (a := row0.map fun x => x % 5 - 2) w5 (En.er (en_is (en_lc (s := rInt) (fun _ => true) (fun x => x % 5 - 2) (src_list (er_var rfl ((rLst rInt).mono s5.fr hvr))) tgt_n (by omega) (fun x hx G σ2 eG hS => ?_)) ?_)) fun v6 G6 H6 w6 s6 hv6 => ?_
          · obtain ⟨y, hy, rfl⟩ := hS
            cases (show y = V.int x from hy)
            exact ⟨rfl, fun H1 _ Q q => q H1 (Ex.refl _), fun _ => er_I0 (er_I (er_vi rfl) er_int (by decide)) er_int⟩
          · rw [List.filter_eq_self.mpr fun _ _ => rfl]
          · refine ⟨G6, w6, s5.fr.trans s6.fr, (m4.go s5).go s6, _, _, hv6, by rw [List.length_map]; exact hlen0, sm_map fun x hx => ?_, rfl⟩
            have hb : (2 : Nat) ^ 7 = 128 := rfl
            omega
        · exact ⟨_, w5, s5.fr, m4.go s5, _, _, (rLst rInt).mono s5.fr hvr, hlen0, hsm0, rfl⟩
      clear hsm0 hlen0 hvr
      obtain ⟨m5, row1, vr1, hvr1, hlen1, hsm1, rfl⟩ := hP5
      have hvd5 := (rLst rInt).mono e45 hvd4
      -- drawn[0] == 2
      refine w_cut (F0 := F) (H0 := H) (G := G5) (fun σ' G' H' => Mu (rLst rInt) rs G' H' p ∧ ∃ (row : Row) (vr : V), (rLst rInt).rel G' vr row ∧ row.length = n ∧ Sm (2 ^ (60 + 8 * (k + 1))) row ∧ σ' = [some v, some (.int (n : Int)), some (.ref p), some (.int (k : Int)), some vd, some vr, none, none]) ?_ fun σ6 G6 H6 w6 e56 hP6 => ?_
      · have hpow : (2 : Nat) ^ 60 ≤ 2 ^ (60 + 8 * (k + 1)) := Nat.pow_le_pow_right (by decide) (by omega)
        have hb60 : (2 : Nat) ^ 60 = 1152921504606846976 := rfl
        have hb7 : (2 : Nat) ^ 7 = 128 := rfl
        refine v_when w5 (et_test (er_eqI (er_ixL (er_var rfl hvd5) er_int a0) er_int)) (fun hb H7 w7 s7 => ?_) (fun hb H7 w7 s7 => ?_)
        · have hvd7 := (rLst rInt).mono s7.fr hvd5
          refine v_asg (r := rLst rInt) (a := row1.map fun x => (x - 48) * (10 ^ 12 + e7) + 1) w7 (En.er (en_is (en_lc (s := rInt) (fun _ => true) (fun x => (x - 48) * (10 ^ 12 + e7) + 1) (src_list (er_var rfl ((rLst rInt).mono s7.fr hvr1))) tgt_n (by omega) (fun x hx G σ2 eG hS => ?_)) ?_)) fun v8 G8 H8 w8 s8 hv8 => ?_
          · obtain ⟨y, hy, rfl⟩ := hS
            cases (show y = V.int x from hy)
            have hx1 := hsm1 x hx
            refine ⟨rfl, fun H1 _ Q q => q H1 (Ex.refl _), fun _ => er_I0 (er_I (er_I0 (er_vi rfl) er_int) (er_I0 (er_I (C := CPow) er_int er_int ⟨by decide, by decide, by decide⟩) (er_ixL (er_var rfl ((rLst rInt).mono eG hvd7)) er_int a7)) (Or.inl ⟨by omega, by omega⟩)) er_int⟩
          · rw [List.filter_eq_self.mpr fun _ _ => rfl]
          · refine ⟨G8, w8, s7.fr.trans s8.fr, (m5.go s7).go s8, _, _, hv8, by rw [List.length_map]; exact hlen1, sm_map fun x hx => ?_, rfl⟩
            have hx1 := hsm1 x hx
            have hm : ((x - 48) * (10 ^ 12 + e7)).natAbs ≤ 256 * 2000000000000000 := by
              rw [Int.natAbs_mul]
              refine Nat.mul_le_mul ?_ ?_
              · omega
              · omega
            omega
        · refine ⟨_, w7, s7.fr, m5.go s7, _, _, (rLst rInt).mono s7.fr hvr1, hlen1, fun x hx => ?_, rfl⟩
          have := hsm1 x hx
          omega
      obtain ⟨m6, row2, vr2, hvr2, hlen2, hsm2, rfl⟩ := hP6
      have hvd6 := (rLst rInt).mono e56 hvd5
      -- what the three that look back need
      have hB : 0 < 2 ^ (60 + 8 * k) := Nat.pow_pos (by decide)
      have hBk : 2 ^ (60 + 8 * (k + 1)) = 2 ^ (60 + 8 * k) * 256 := by
        rw [show 60 + 8 * (k + 1) = 60 + 8 * k + 8 by omega, Nat.pow_add]
      have look : ∀ e : Int, 0 ≤ e → 0 < k → ∃ i : Nat, e % (k : Int) = (i : Int) ∧ i < k ∧ ∃ r, rs[i]? = some r ∧ r.length = n ∧ Sm (2 ^ (60 + 8 * k)) r := fun e he hk0 => by
        have h1 := Int.emod_nonneg e (show (k : Int) ≠ 0 by omega)
        have h2 := Int.emod_lt_of_pos e (show (0 : Int) < k by omega)
        obtain ⟨i, hi⟩ := Int.eq_ofNat_of_zero_le h1
        have hik : i < rs.length := by omega
        exact ⟨i, hi, by omega, rs[i], List.getElem?_eq_getElem hik, (hgood _ (List.getElem_mem hik)).1, (hgood _ (List.getElem_mem hik)).2⟩
      generalize hB2 : 2 ^ (60 + 8 * (k + 1)) = B2 at hsm2 hBk ⊢
      generalize hB1 : 2 ^ (60 + 8 * k) = B1 at hB hBk look hgood
      -- drawn[0] == 3 and k > 0
      refine w_cut (F0 := F) (H0 := H) (G := G6) (fun σ' G' H' => Mu (rLst rInt) rs G' H' p ∧ ∃ (row : Row) (vr : V), (rLst rInt).rel G' vr row ∧ row.length = n ∧ Sm B2 row ∧ σ' = [some v, some (.int (n : Int)), some (.ref p), some (.int (k : Int)), some vd, some vr, none, none]) ?_ fun σ7 G7 H7 w7 e67 hP7 => ?_
      · refine v_when w6 (et_and (b := decide ((k : Int) > 0)) (et_test (er_eqI (er_ixL (er_var rfl hvd6) er_int a0) er_int)) fun _ => et_test (er_cmp0 (er_vi rfl) er_int)) (fun hb Hb wb sb => ?_) (fun hb Hb wb sb => ?_)
        · rw [Bool.and_eq_true] at hb
          have hk0 := of_decide_eq_true hb.2
          obtain ⟨i, ei, hik, r, hri, hrl, hrs⟩ := look e5 l5 (by omega)
          have mb := m6.go sb
          obtain ⟨Gc, wc, ec, ry, _⟩ := mb.froz wb np
          refine v_asg1 (r := rLst rInt) (a := r) wb (ev_newB wb wc (en_listL (er_ixL (er_var rfl ry) (er_I (er_ixL (er_var rfl ((rLst rInt).mono (sb.fr.trans ec) hvd6)) er_int a5) (er_vi rfl) (by omega)) (by rw [ei]; exact atI_nat hri)))) fun v8 G8 H8 w8 s8 hv8 => ?_
          exact ⟨G8, w8, sb.fr.trans s8.fr, mb.go s8, _, _, hv8, hrl, fun x hx => by have := hrs x hx; omega, rfl⟩
        · exact ⟨_, wb, sb.fr, m6.go sb, _, _, (rLst rInt).mono sb.fr hvr2, hlen2, hsm2, rfl⟩
      clear hsm2 hlen2 hvr2
      obtain ⟨m7, row2, vr2, hvr2, hlen2, hsm2, rfl⟩ := hP7
      have hvd7 := (rLst rInt).mono e67 hvd6
      -- drawn[0] == 4 and k > 0
      refine w_cut (F0 := F) (H0 := H) (G := G7) (fun σ' G' H' => Mu (rLst rInt) rs G' H' p ∧ ∃ (row : Row) (vr : V), (rLst rInt).rel G' vr row ∧ row.length = n ∧ Sm B2 row ∧ σ' = [some v, some (.int (n : Int)), some (.ref p), some (.int (k : Int)), some vd, some vr, none, none]) ?_ fun σ8 G8 H8 w8 e78 hP8 => ?_
      · refine v_when w7 (et_and (b := decide ((k : Int) > 0)) (et_test (er_eqI (er_ixL (er_var rfl hvd7) er_int a0) er_int)) fun _ => et_test (er_cmp0 (er_vi rfl) er_int)) (fun hb Hb wb sb => ?_) (fun hb Hb wb sb => ?_)
        · rw [Bool.and_eq_true] at hb
          have hk0 := of_decide_eq_true hb.2
          obtain ⟨i, ei, hik, r, hri, hrl, hrs⟩ := look e5 l5 (by omega)
          have mb := m7.go sb
          obtain ⟨Gc, wc, ec, ry, _⟩ := mb.froz wb np
          have hvdc := (rLst rInt).mono (sb.fr.trans ec) hvd7
          refine v_asg1 (r := rLst rInt) (a := r.map fun x => e6 * x) wb (ev_newB wb wc (en_is (en_lc (s := rInt) (fun _ => true) (fun x => e6 * x) (src_list (er_ixL (a := r) (er_var rfl ry) (er_I (er_ixL (er_var rfl hvdc) er_int a5) (er_vi rfl) (by omega)) (by rw [ei]; exact atI_nat hri))) tgt_n (by omega) (fun x hx G σ2 eG hS => ?_)) ?_)) fun v8 G8 H8 w8 s8 hv8 => ?_
          · obtain ⟨y, hy, rfl⟩ := hS
            cases (show y = V.int x from hy)
            exact ⟨rfl, fun H1 _ Q q => q H1 (Ex.refl _), fun _ => er_I (er_ixL (er_var rfl ((rLst rInt).mono eG hvdc)) er_int a6) (er_vi rfl) (Or.inl (res_cmul ⟨l6, u6⟩))⟩
          · rw [List.filter_eq_self.mpr fun _ _ => rfl]
          · refine ⟨G8, w8, sb.fr.trans s8.fr, mb.go s8, _, _, hv8, by rw [List.length_map]; exact hrl, sm_map fun x hx => ?_, rfl⟩
            have hx1 := hrs x hx
            have hm : (e6 * x).natAbs ≤ 97 * x.natAbs := by
              rw [Int.natAbs_mul]
              exact Nat.mul_le_mul_right _ (by omega)
            omega
        · exact ⟨_, wb, sb.fr, m7.go sb, _, _, (rLst rInt).mono sb.fr hvr2, hlen2, hsm2, rfl⟩
      clear hsm2 hlen2 hvr2
      obtain ⟨m8, row2, vr2, hvr2, hlen2, hsm2, rfl⟩ := hP8
      have hvd8 := (rLst rInt).mono e78 hvd7
      -- drawn[0] == 5 and k > 1
      refine w_cut (F0 := F) (H0 := H) (G := G8) (fun σ' G' H' => Mu (rLst rInt) rs G' H' p ∧ ∃ (row : Row) (vr : V), (rLst rInt).rel G' vr row ∧ row.length = n ∧ Sm B2 row ∧ σ' = [some v, some (.int (n : Int)), some (.ref p), some (.int (k : Int)), some vd, some vr, none, none]) ?_ fun σ9 G9 H9 w9 e89 hP9 => ?_
      · refine v_when w8 (et_and (b := decide ((k : Int) > 1)) (et_test (er_eqI (er_ixL (er_var rfl hvd8) er_int a0) er_int)) fun _ => et_test (er_cmp0 (er_vi rfl) er_int)) (fun hb Hb wb sb => ?_) (fun hb Hb wb sb => ?_)
        · rw [Bool.and_eq_true] at hb
          have hk0 := of_decide_eq_true hb.2
          obtain ⟨i, ei, hik, r, hri, hrl, hrs⟩ := look e5 l5 (by omega)
          obtain ⟨i4, ei4, hik4, r4, hri4, hrl4, hrs4⟩ := look e4 l4 (by omega)
          have mb := m8.go sb
          obtain ⟨Gc, wc, ec, ry, _⟩ := mb.froz wb np
          have hvdc := (rLst rInt).mono (sb.fr.trans ec) hvd8
          refine v_asg1 (r := rLst rInt) (a := (List.range n).map fun j => vec r j + e6 * vec r4 j) wb (ev_newB wb wc (en_is (en_lc (s := rInt) (fun _ => true) (fun j => vec r j.toNat + e6 * vec r4 j.toNat) (src_rng1 (ea1 (er_vi rfl)) (by omega)) tgt_n (by rw [rng_len]; omega) (fun x hx G σ2 eG hS => ?_)) ?_)) fun v8 G8 H8 w8 s8 hv8 => ?_
          · obtain ⟨y, hy, rfl⟩ := hS
            cases (show y = V.int x from hy)
            have hj := mem_rng.mp hx
            obtain ⟨jn, rfl⟩ := Int.eq_ofNat_of_zero_le hj.1
            have hjn : jn < n := by omega
            have rd := (rLst rInt).mono eG hvdc
            have rr := rRows.mono eG ry
            refine ⟨rfl, fun H1 _ Q q => q H1 (Ex.refl _), fun _ => er_I0 (er_ixL (a := vec r jn) (er_ixL (a := r) (er_var rfl rr) (er_I (er_ixL (er_var rfl rd) er_int a5) (er_vi rfl) (by omega)) (by rw [ei]; exact atI_nat hri)) (er_vi rfl) (atI_vec (by omega))) (er_I (er_ixL (er_var rfl rd) er_int a6) (er_ixL (a := vec r4 jn) (er_ixL (a := r4) (er_var rfl rr) (er_I (er_ixL (er_var rfl rd) er_int a4) (er_vi rfl) (by omega)) (by rw [ei4]; exact atI_nat hri4)) (er_vi rfl) (atI_vec (by omega))) (Or.inl (res_cmul ⟨l6, u6⟩)))⟩
          · rw [List.filter_eq_self.mpr fun _ _ => rfl, show ((n : Int)).toNat = n by omega, rng0, List.map_map]
            rfl
          · refine ⟨G8, w8, sb.fr.trans s8.fr, mb.go s8, _, _, hv8, by rw [List.length_map, List.length_range], sm_map fun j hj => ?_, rfl⟩
            have hx1 := sm_vec hrs hB j
            have hx2 := sm_vec hrs4 hB j
            have hm : (e6 * vec r4 j).natAbs ≤ 97 * (vec r4 j).natAbs := by
              rw [Int.natAbs_mul]
              exact Nat.mul_le_mul_right _ (by omega)
            omega
        · exact ⟨_, wb, sb.fr, m8.go sb, _, _, (rLst rInt).mono sb.fr hvr2, hlen2, hsm2, rfl⟩
      clear hsm2 hlen2 hvr2
      obtain ⟨m9, row2, vr2, hvr2, hlen2, hsm2, rfl⟩ := hP9
      refine v_app w9 rfl m9 np (by omega) (er_var rfl hvr2) fun G10 H10 w10 s10 m10 => ?_
      refine ⟨G10, w10, eGs.trans (s3.fr.trans (s4.fr.trans (e45.trans (e56.trans (e67.trans (e78.trans (e89.trans s10.fr))))))), rs ++ [row2], _, _, _, ?_, ?_, m10, rfl⟩
      · rw [List.length_append, List.length_append, hkd, hlen]
        rfl
      · rw [List.length_append, hkd, show k + [(k : Int)].length = k + 1 from rfl, hB2]
        intro r hr
        rcases List.mem_append.mp hr with z | z
        · refine ⟨(hgood r z).1, fun x hx => ?_⟩
          have := (hgood r z).2 x hx
          omega
        · rw [List.mem_singleton] at z
          rw [z]
          exact ⟨hlen2, hsm2⟩
    · obtain ⟨rs, x3, x4, x5, hlen, hgood, mp2, rfl⟩ := hP
      rw [rng_len] at hlen hgood
      refine v_retM w2 rfl mp2 np fun nn => q rs p H' ⟨ns, n, rfl, hl, hn, by omega, fun r hr => (hgood r hr).1, fun r hr x hx => Nat.lt_of_lt_of_le ((hgood r hr).2 x hx) (Nat.pow_le_pow_right (by decide) (by omega))⟩ w2.up nn
end
end K00
set_option Elab.async false
set_option linter.all false
set_option maxRecDepth 100000
set_option maxHeartbeats 8000000
namespace K00
open PySem PySem.Spec PyProof.Rows L2 Evl DL
abbrev s_law_is_residues : Stmt := topS 21
theorem sc_law_is_residues : FnScope ["told", "count", "number"] ["told", "count"] (defScope s_law_is_residues) := ⟨rfl, rfl, rfl, by decide +kernel, rfl, by decide +kernel, by decide +kernel⟩
/- 0 told, 1 count, 2 number -/
abbrev s_law_right : Stmt := topS 22
theorem sc_law_right : FnScope ["told", "rows", "width", "due", "first", "k", "j", "column", "row"] ["told", "rows", "width", "due"] (defScope s_law_right) := ⟨rfl, rfl, rfl, by decide +kernel, rfl, by decide +kernel, by decide +kernel⟩
/- 0 told, 1 rows, 2 width, 3 due, 4 first, 5 k, 6 j, 7 column, 8 row -/
def A4 {α β γ δ : Type} (r : Rep α) (s : Rep β) (t : Rep γ) (u : Rep δ) (a : α) (b : β) (c : γ) (d : δ) : Hp → List V → Prop := fun G vs => ∃ v w x y, vs = [v, w, x, y] ∧ r.rel G v a ∧ s.rel G w b ∧ t.rel G x c ∧ u.rel G y d
section
variable {α β γ δ : Type} {K : PySem.W.Frag} {σ : L2.St} {F G H H1 : Hp} {ta tb tc td te : TE} {r : Rep α} {s : Rep β} {t : Rep γ} {u : Rep δ} {a : α} {b : β} {c : γ} {d : δ}
theorem mono4 : MonoP (A4 r s t u a b c d) := fun e ⟨v, w, x, y, h, k1, k2, k3, k4⟩ => ⟨v, w, x, y, h, r.mono e k1, s.mono e k2, t.mono e k3, u.mono e k4⟩
theorem ea4 (h1 : Er r ta σ F a) (h2 : Er s tb σ F b) (h3 : Er t tc σ F c) (h4 : Er u td σ F d) : Ea (A4 r s t u a b c d) (tCons ta (tCons tb (tCons tc (tCons td tNil)))) σ F := fun H1 e _ q =>
  h1 H1 e _ fun v1 H2 e2 k1 => h2 H2 (e.trans e2) _ fun v2 H3 e3 k2 => h3 H3 (e.trans (e2.trans e3)) _ fun v3 H4 e4 k3 => h4 H4 (e.trans (e2.trans (e3.trans e4))) _ fun v4 H5 e5 k4 =>
    q _ H5 (e2.trans (e3.trans (e4.trans e5))) ⟨v1, v2, v3, v4, rfl, r.mono (part_up (e3.trans (e4.trans e5))) k1, s.mono ((part_back e2).trans (part_up (e4.trans e5))) k2, t.mono ((part_back (e2.trans e3)).trans (part_up e5)) k3, u.mono (part_back (e2.trans (e3.trans e4))) k4⟩
end
def wIsRes : (Hp → List V → Prop) → Bool → Prop := fun P b => ∃ (t : Row) (n : Nat), P = A2 (rLst rInt) rInt t (n : Int) ∧ t.length = n ∧ n ≤ 1000 ∧ Res t ∧ b = true
def ToldO (n : Nat) (rows : List Row) (o : Option Row) : Prop := match o with
  | none => LA97.Indep n (rows.map vec)
  | some t => ∃ i, Told n rows t i
def wRight : (Hp → List V → Prop) → Bool → Prop := fun P b => ∃ (o : Option Row) (rows : List Row) (n : Nat), P = A4 (rOpt (rLst rInt)) rRows rInt (rLst rInt) o rows (n : Int) (zs (dueN n rows rows.length)) ∧ rows.length ≤ 6 ∧ n ≤ 4 ∧ (∀ r ∈ rows, r.length = n) ∧ ToldO n rows o ∧ b = true
/-! sums -/
theorem sum_lin {x : LA97.Vec} {j : Nat} : ∀ (rows : List Row) (o : Nat), ((List.range rows.length).map fun k => x (o + k) * vec (rows.map fun r => vec r j) k).sum = lin x rows o j
  | [], _ => rfl
  | r :: rs, o => by
    rw [List.length_cons, List.range_succ_eq_map, List.map_cons, List.sum_cons, List.map_map]
    show x (o + 0) * vec r j + _ = x o * vec r j + lin x rs (o + 1) j
    rw [← sum_lin rs (o + 1), Nat.add_zero]
    congr 2
    refine List.map_congr_left fun k _ => ?_
    show x (o + (k + 1)) * vec (rs.map fun r => vec r j) k = x (o + 1 + k) * vec (rs.map fun r => vec r j) k
    rw [show o + (k + 1) = o + 1 + k by omega]
theorem zip_lin {j : Nat} : ∀ (rows : List Row) (t : Row) (p : Row), t.length = rows.length → ((List.zip t (rows.map fun r => vec r j)).map fun q => q.1 * q.2).sum = lin (vec (p ++ t)) rows p.length j
  | [], [], _, _ => rfl
  | r :: rs, x :: t, p, h => by
    have ih := zip_lin (j := j) rs t (p ++ [x]) (by simpa using h)
    rw [List.map_cons, List.zip_cons_cons, List.map_cons, List.sum_cons, ih]
    show x * vec r j + lin (vec (p ++ [x] ++ t)) rs (p ++ [x]).length j = vec (p ++ x :: t) p.length * vec r j + lin (vec (p ++ x :: t)) rs (p.length + 1) j
    have e1 : vec (p ++ x :: t) p.length = x := by
      rw [vec_app, if_neg (by omega), Nat.sub_self]
      rfl
    rw [e1, List.append_assoc, List.length_append]
    rfl
theorem emod_z {x : Int} (h : LA97.Z x) : x % 97 = 0 := Int.emod_eq_zero_of_dvd h
theorem dot_zero {n j : Nat} {rows : List Row} {t : Row} {i : Nat} (T : Told n rows t i) (hj : j < n) : dotF t (rows.map fun r => vec r j) = 0 := by
  unfold dotF
  have := zip_lin (j := j) rows t [] T.len
  rw [this]
  exact emod_z (T.sum j hj)
theorem comb_zero {n : Nat} {rows : List Row} {t : Row} {i : Nat} (T : Told n rows t i) : combF t rows n = List.replicate n 0 := by
  unfold combF
  refine List.eq_replicate_iff.mpr ⟨by rw [List.length_map, List.length_range], fun x hx => ?_⟩
  obtain ⟨j, hj, rfl⟩ := List.mem_map.mp hx
  exact dot_zero T (List.mem_range.mp hj)
theorem flat_rep (n : Nat) : (List.replicate n [(0 : Int)]).flatten = List.replicate n 0 := by
  induction n with
  | zero => rfl
  | succ n ih =>
    rw [List.replicate_succ, List.flatten_cons, ih]
    rfl
theorem due_len_all {n : Nat} {rows : List Row} (h : LA97.Indep n (rows.map vec)) : (dueN n rows rows.length).length = rows.length := by
  rw [(due_all rows.length (Nat.le_refl _) (by rw [List.take_length]; exact h)).1, List.length_range]
theorem due_told {n : Nat} {rows : List Row} {t : Row} {i : Nat} (T : Told n rows t i) : ∃ tail, dueN n rows rows.length = List.range i ++ tail ∧ (∀ x ∈ tail, i < x) ∧ (dueN n rows rows.length).length < rows.length := by
  have hi := T.lt
  obtain ⟨tail, e, h1, h2⟩ := due_first hi T.fst T.dep (rows.length - (i + 1))
  rw [show i + 1 + (rows.length - (i + 1)) = rows.length by omega] at e
  refine ⟨tail, e, h1, ?_⟩
  rw [e, List.length_append, List.length_range]
  omega
section
variable {P : Program} {w : World} {K : PySem.W.Frag} {mg : Str → Option Value} {base : Heap} {t : Tok}
theorem ok_law_is_residues {f : Addr} {fd : FuncData} (D : DefAt K mg "_law_is_residues" s_law_is_residues ["told", "count"] f fd) (mB_isinstance : mg "isinstance" = none) (mB_list : mg "list" = none) (mB_len : mg "len" = none) (mB_int : mg "int" = none) (mB_bool : mg "bool" = none) : FnOk P w K mg base CX0 1 f fd ["told", "count"] (spV rBl wIsRes) := by
  refine D.F.ok sc_law_is_residues (fun vs H Q E h => ?_) (fun cdv A outer s H vs Q E hr h => ?_)
  · obtain ⟨F, Pp, b, _, _, ⟨n, u, rfl, _⟩, ⟨v, z, rfl, _⟩, _⟩ := h
    rfl
  · obtain ⟨F, Pp, b, eF, _, ⟨t, n, rfl, hl, hn, hres, rfl⟩, ⟨v, u, rfl, hv, hu⟩, q⟩ := h
    cases (show u = V.int (n : Int) from hu)
    refine ⟨_, (pss_cons (ps_if (PW.pt (pw_or (pt_not (pt_val (pe_callB (r := rIsi K) call_isi (by rfl) mB_isinstance (by decide +kernel) (pa_cons (pv 0) (pa_cons (pe_bltn (v := .ty "list") (by rfl) mB_list (by decide +kernel) rfl) pa_nil))))) (pw_or1 (pt_cmpR op_ne (pe_callB (r := rLenQ K) call_len_seq (by rfl) mB_len (by decide +kernel) (pa_cons (pv 0) pa_nil)) (pv 1) (nomark _)))))
    (pss_one (ps_ret pe_bl))
    pss_nil)
  (pss_cons (ps_for PassesOwn.never rfl (pi_listK (K := K) (pv 0)) (pg_name (i := 2) sc_law_is_residues.nd rfl (by first | exact Or.inl rfl | exact Or.inr rfl))
    (pss_one (ps_if (PW.pt (pw_or (pt_not (pt_val (pe_callB (r := rIsi K) call_isi (by rfl) mB_isinstance (by decide +kernel) (pa_cons (pv 2) (pa_cons (pe_bltn (v := .ty "int") (by rfl) mB_int (by decide +kernel) rfl) pa_nil))))) (pw_or (pt_val (pe_callB (r := rIsi K) call_isi (by rfl) mB_isinstance (by decide +kernel) (pa_cons (pv 2) (pa_cons (pe_bltn (v := .ty "bool") (by rfl) mB_bool (by decide +kernel) rfl) pa_nil)))) (pw_or (pt_cmpR op_lt (pv 2) pe_int (nomark _)) (pw_or1 (pt_cmpR op_gt (pv 2) pe_int (nomark _)))))))
    (pss_one (ps_ret pe_bl))
    pss_nil)))
  (pss_one (ps_ret pe_bl)))), ?_⟩
    refine w_no (Wd.start eF) (et_or (a := false) (b := false) (et_not (a := true) (DL.et_B (er_isiV (er_var rfl hv) (fun _ _ h => ty_lst h) (kit_ty (by decide +kernel))))) fun _ => et_test (er_is (er_neI (er_lenL (er_var rfl hv)) (er_vi rfl)) (by rw [hl]; simp))) rfl fun H1 w1 s1 => ?_
    refine w_for w1 (src_list (er_var rfl hv)) tgt_n mono_sn (fun pre σ' G' H' => ∃ x : Option V, σ' = [some v, some (.int (n : Int)), x])
      (fun G2 H2 w2 s2 => ⟨none, rfl⟩) (fun Gs pre a post σ' σ2 G' H' G2 H2 has hP s2 w2 eGs hS => ?_) (fun σ' G' H' w2 hP => ?_)
    · obtain ⟨x, rfl⟩ := hP
      obtain ⟨z, hz, rfl⟩ := hS
      cases (show z = V.int a from hz)
      have ha := hres a (by rw [has]; exact List.mem_append_right _ List.mem_cons_self)
      have ei : Er rInt (tVar 2) [some v, some (.int (n : Int)), some (.int a)] G2 a := er_vi rfl
      refine v_no w2 (et_or (a := false) (b := false) (et_not (a := true) (DL.et_B (er_isiV ei (fun _ _ h => ty_int h) (kit_ty (by decide +kernel))))) fun _ => et_or (a := false) (b := false) (DL.et_B (er_isiV ei (fun _ _ h => ty_int h) (kit_ty (by decide +kernel)))) fun _ => et_or (a := false) (b := false) (et_test (er_is (er_cmp0 ei er_int) (decide_eq_false (by omega)))) fun _ => et_test (er_is (er_cmp0 ei er_int) (decide_eq_false (by omega)))) rfl fun H3 w3 s3 => ?_
      exact ⟨_, w3, eGs, _, rfl⟩
    · obtain ⟨x, rfl⟩ := hP
      exact v_retB w2 er_bl fun H5 e5 => q _ H5 e5 rfl
theorem ok_law_right {f fR fD fC : Addr} {fd fdR fdD fdC : FuncData} (D : DefAt K mg "_law_right" s_law_right ["told", "rows", "width", "due"] f fd) (D_law_is_residues : DefAt K mg "_law_is_residues" s_law_is_residues ["told", "count"] fR fdR)
    (D_dot : DefAt K mg "dot" s_dot ["first", "second"] fD fdD) (D_combine : DefAt K mg "combine" s_combine ["coefficients", "rows", "width"] fC fdC) (c_PRIME : mg "PRIME" = some (.int 97 t))
    (mB_isinstance : mg "isinstance" = none) (mB_list : mg "list" = none) (mB_len : mg "len" = none) (mB_int : mg "int" = none) (mB_bool : mg "bool" = none) (mB_zip : mg "zip" = none) (mB_sum : mg "sum" = none) (mB_range : mg "range" = none) : FnOk P w K mg base CX0 3 f fd ["told", "rows", "width", "due"] (spV rBl wRight) := by
  have G_law_is_residues : FnOk P w K mg base CX0 1 fR fdR ["told", "count"] (spV rBl wIsRes) := ok_law_is_residues D_law_is_residues mB_isinstance mB_list mB_len mB_int mB_bool
  have G_dot : FnOk P w K mg base CX0 1 fD fdD ["first", "second"] (spV rInt wDot) := ok_dot D_dot c_PRIME mB_zip mB_sum
  have G_combine : FnOk P w K mg base CX0 2 fC fdC ["coefficients", "rows", "width"] (spV (rLst rInt) wComb) := ok_combine D_combine D_dot c_PRIME mB_zip mB_sum mB_range
  refine D.F.ok sc_law_right (fun vs H Q E h => ?_) (fun cdv A outer s H vs Q E hr h => ?_)
  · obtain ⟨F, Pp, b, _, _, ⟨n, u, z, rfl, _⟩, ⟨v, z, x, y, rfl, _⟩, _⟩ := h
    rfl
  · obtain ⟨F, Pp, b, eF, _, ⟨o, rows, n, rfl, hl, hn, hw, hT, rfl⟩, ⟨v, v1, v2, v3, rfl, hv, hv1, hv2, hv3⟩, q⟩ := h
    cases (show v2 = V.int (n : Int) from hv2)
    refine ⟨_, (pss_cons (ps_if (pt_cmpR op_eq (pe_callB (r := rLenQ K) call_len_seq (by rfl) mB_len (by decide +kernel) (pa_cons (pv 3) pa_nil)) (pe_callB (r := rLenQ K) call_len_seq (by rfl) mB_len (by decide +kernel) (pa_cons (pv 1) pa_nil)) (nomark _))
    (pss_one (ps_ret (pe_cmpR (r := rIsNq) op_isN (pv 0) pe_non (nomark _))))
    pss_nil)
  (pss_cons (ps_set (i := 4) sc_law_right.nd rfl (by first | exact Or.inl rfl | exact Or.inr rfl) pe_int)
  (pss_cons (ps_while PassesOwn.never (PW.pt (pw_and (pt_cmpR op_lt (pv 4) (pe_callB (r := rLenQ K) call_len_seq (by rfl) mB_len (by decide +kernel) (pa_cons (pv 3) pa_nil)) (nomark _)) (pw_and1 (pt_cmpR op_eq (pe_ix (r := rIxL K) ix_list (pv 3) (pv 4) (fun _ _ => rfl)) (pv 4) (nomark _)))))
    (pss_one (ps_set (i := 4) sc_law_right.nd rfl (by first | exact Or.inl rfl | exact Or.inr rfl) (pe_op op_add (pv 4) pe_int))))
  (pss_cons (ps_if (PW.pt (pw_or (pt_not (pt_val (pe_call G_law_is_residues (hr.mono (by decide)) (by rfl) D_law_is_residues.g D_law_is_residues.F.kp D_law_is_residues.b .nil pass0 (pa_cons (pv 0) (pa_cons (pe_callB (r := rLenQ K) call_len_seq (by rfl) mB_len (by decide +kernel) (pa_cons (pv 1) pa_nil)) pa_nil))))) (pw_or1 (pt_cmpR op_ne (pe_ix (r := rIxL K) ix_list (pv 0) (pv 4) (fun _ _ => rfl)) pe_int (nomark _)))))
    (pss_one (ps_ret pe_bl))
    pss_nil)
  (pss_cons (ps_for PassesOwn.never rfl (pi_range2 (by rfl) mB_range (pa_cons (pe_op op_add (pv 4) pe_int) (pa_cons (pe_callB (r := rLenQ K) call_len_seq (by rfl) mB_len (by decide +kernel) (pa_cons (pv 1) pa_nil)) pa_nil))) (pg_name (i := 5) sc_law_right.nd rfl (by first | exact Or.inl rfl | exact Or.inr rfl))
    (pss_one (ps_if (pt_cmpR op_ne (pe_ix (r := rIxL K) ix_list (pv 0) (pv 5) (fun _ _ => rfl)) pe_int (nomark _))
    (pss_one (ps_ret pe_bl))
    pss_nil)))
  (pss_cons (ps_for PassesOwn.never rfl (pi_range1 (by rfl) mB_range (pa_cons (pv 2) pa_nil)) (pg_name (i := 6) sc_law_right.nd rfl (by first | exact Or.inl rfl | exact Or.inr rfl))
    (pss_cons (ps_set (i := 7) sc_law_right.nd rfl (by first | exact Or.inl rfl | exact Or.inr rfl) (pe_lc (own := [("row", 8)]) (g := gName 8) rfl sc_law_right.nd (pi_listK (K := K) (pv 1)) (blkOk_by (own := [("row", 8)]) (N := ["told", "rows", "width", "due", "first", "k", "j", "column", "row"]) (sc := defScope s_law_right) (by decide +kernel)) (fun _ _ _ _ _ => (pg_name (i := 8) sc_law_right.nd rfl (by first | exact Or.inl rfl | exact Or.inr rfl))) (fun _ _ _ _ _ => pts_nil) (fun _ _ _ _ _ => (pe_ix (r := rIxL K) ix_list (pv 8) (pv 6) (fun _ _ => rfl)))))
  (pss_one (ps_if (PW.pt (pw_or (pt_cmpR op_ne (pe_op op_mod (pe_callB (r := rSum K) (cr_sum rfl) (by rfl) mB_sum (by decide +kernel) (pa_cons (pe_lc (own := [("k", 5)]) (g := gName 5) rfl sc_law_right.nd (pi_range1 (by rfl) mB_range (pa_cons (pe_callB (r := rLenQ K) call_len_seq (by rfl) mB_len (by decide +kernel) (pa_cons (pv 1) pa_nil)) pa_nil)) (blkOk_by (own := [("k", 5)]) (N := ["told", "rows", "width", "due", "first", "k", "j", "column", "row"]) (sc := defScope s_law_right) (by decide +kernel)) (fun _ _ _ _ _ => (pg_name (i := 5) sc_law_right.nd rfl (by first | exact Or.inl rfl | exact Or.inr rfl))) (fun _ _ _ _ _ => pts_nil) (fun _ _ _ _ _ => (pe_op op_mul (pe_ix (r := rIxL K) ix_list (pv 0) (pv 5) (fun _ _ => rfl)) (pe_ix (r := rIxL K) ix_list (pv 7) (pv 5) (fun _ _ => rfl))))) pa_nil)) pe_int) pe_int (nomark _)) (pw_or1 (pt_cmpR op_ne (pe_call G_dot (hr.mono (by decide)) (by rfl) D_dot.g D_dot.F.kp D_dot.b .nil pass0 (pa_cons (pv 0) (pa_cons (pv 7) pa_nil))) pe_int (nomark _)))))
    (pss_one (ps_ret pe_bl))
    pss_nil))))
  (pss_one (ps_ret (pe_cmpR (r := rEqD K) (op_eqD hr.units) (pe_call G_combine (hr.mono (by decide)) (by rfl) D_combine.g D_combine.F.kp D_combine.b .nil pass0 (pa_cons (pv 0) (pa_cons (pv 1) (pa_cons (pv 2) pa_nil)))) (pe_op op_rep (pe_lst (pa_cons pe_int pa_nil)) (pv 2)) (nomark _)))))))))), ?_⟩
    cases o with
    | none =>
      have ed := due_len_all hT
      refine w_when (Wd.start eF) (et_is (b := true) (et_test (er_eqI (er_lenL (er_var rfl hv3)) (er_lenL (er_var rfl hv1)))) (by rw [zs_len, ed]; simp)) (fun _ H1 w1 s1 => ?_) (fun hb => by cases hb)
      exact v_retB (n := true) w1 (er_isN (r := rLst rInt) (o := none) sol_lst (er_var rfl hv)) fun H5 e5 => q _ H5 e5 rfl
    | some t =>
      have hv : (rLst rInt).rel F v t := hv
      obtain ⟨i, T⟩ := hT
      obtain ⟨tail, ed, htail, hlt⟩ := due_told T
      have hil := T.lt
      have hres := T.res
      have htl := T.len
      have hdl : (zs (dueN n rows rows.length)).length = (dueN n rows rows.length).length := zs_len
      refine w_no (Wd.start eF) (et_test (er_eqI (er_lenL (er_var rfl hv3)) (er_lenL (er_var rfl hv1)))) (by rw [zs_len]; exact decide_eq_false (by omega)) fun H1 w1 s1 => ?_
      refine w_asgI (n := 0) w1 er_int fun H2 w2 s2 => ?_
      have hzs : ∀ k, k < (dueN n rows rows.length).length → (zs (dueN n rows rows.length))[k]? = some (((dueN n rows rows.length).getD k 0 : Nat) : Int) := fun k hk => by
        unfold zs
        rw [List.getElem?_map, List.getElem?_eq_getElem hk, List.getD_eq_getElem?_getD, List.getElem?_eq_getElem hk]
        rfl
      have hgd : ∀ k, k ≤ i → k < (dueN n rows rows.length).length → ((dueN n rows rows.length).getD k 0 = k ↔ k < i) := fun k hk hk2 => by
        rw [ed, List.getD_eq_getElem?_getD]
        by_cases c : k < i
        · rw [List.getElem?_append_left (by rw [List.length_range]; exact c), List.getElem?_range c]
          exact ⟨fun _ => c, fun _ => rfl⟩
        · have e : k = i := by omega
          subst e
          rw [ed, List.length_append, List.length_range] at hk2
          rw [List.getElem?_append_right (by rw [List.length_range]; exact Nat.le_refl _), List.length_range, Nat.sub_self, List.getElem?_eq_getElem (by omega)]
          have := htail tail[0] (List.getElem_mem _)
          show tail[0] = k ↔ _
          omega
      have hge : i ≤ (dueN n rows rows.length).length := by
        rw [ed, List.length_append, List.length_range]
        omega
      refine w_while w2 (fun m σ' G' H' => ∃ k : Nat, k ≤ i ∧ m = i - k ∧ σ' = [some v, some v1, some (.int (n : Int)), some v3, some (.int (k : Int)), none, none, none, none]) i ⟨0, Nat.zero_le _, rfl, rfl⟩ (fun m σ' G' H' w3 e3 hP => ?_)
      obtain ⟨k, hk, rfl, rfl⟩ := hP
      have hv3' := (rLst rInt).mono e3 hv3
      refine ⟨decide (k < i), et_is (et_and (a := decide ((k : Int) < ((zs (dueN n rows rows.length)).length : Int))) (b := decide ((((dueN n rows rows.length).getD k 0 : Nat) : Int) = (k : Int))) (et_test (er_cmp0 (er_vi rfl) (er_lenL (er_var rfl hv3')))) fun hb => et_test (er_eqI (er_ixL (er_var rfl hv3') (er_vi rfl) (atI_nat (hzs k (by have := of_decide_eq_true hb; omega)))) (er_vi rfl))) ?_, fun hb H4 w4 s4 => ?_, fun hb H4 w4 s4 => ?_⟩
      · by_cases c : k < (dueN n rows rows.length).length
        · rw [decide_eq_true (show (k : Int) < ((zs (dueN n rows rows.length)).length : Int) by omega), Bool.true_and]
          have := hgd k hk c
          exact decide_eq_decide.mpr ⟨fun h => this.mp (by omega), fun h => by have := this.mpr h; omega⟩
        · rw [decide_eq_false (show ¬ (k : Int) < ((zs (dueN n rows rows.length)).length : Int) by omega), Bool.false_and]
          exact (decide_eq_false (by omega)).symm
      · have hb := of_decide_eq_true hb
        refine v_asgI (n := (k : Int) + 1) w4 (er_I0 (er_vi rfl) er_int) fun H5 w5 s5 => ?_
        exact ⟨_, w5, e3, i - (k + 1), by omega, k + 1, by omega, rfl, rfl⟩
      · have hb := of_decide_eq_false hb
        have hki : k = i := by omega
        subst hki
        have hvx := (rLst rInt).mono e3 hv
        have hv1x := rRows.mono e3 hv1
        -- the residues, 1 at the first other row
        refine w_no w4 (et_or (a := false) (b := false) (et_not (a := true) (DL.et_B (er_call (s := rBl) (b := true) (ea2 (er_var rfl hvx) (er_lenL (er_var rfl hv1x))) mono2 ⟨t, rows.length, rfl, htl, by omega, hres, rfl⟩))) fun _ => et_test (er_is (er_neI (er_ixL (a := vec t k) (er_var rfl hvx) (er_vi rfl) (atI_vec (by omega))) er_int) (by rw [T.one]; rfl))) rfl fun H5 w5 s5 => ?_
        refine w_for w5 (src_rng2 (ea2 (er_I0 (er_vi rfl) er_int) (er_lenL (er_var rfl hv1x))) (by omega)) tgt_n mono_sn (fun pre σ' Ga Ha => Ex G' Ga ∧ ∃ x5 : Option V, σ' = [some v, some v1, some (.int (n : Int)), some v3, some (.int (k : Int)), x5, none, none, none])
          (fun Ga Ha wa sa => ⟨sa.fr, none, rfl⟩) (fun Gs pre a post σ' σ2 Ga Ha Gb Hb has hP sb wb eGs hS => ?_) (fun σ' Ga Ha wa hP => ?_)
        · obtain ⟨ea, x5, rfl⟩ := hP
          obtain ⟨z, hz, rfl⟩ := hS
          cases (show z = V.int a from hz)
          obtain ⟨e1, e2, _⟩ := rng_mid has
          obtain ⟨an, rfl⟩ := Int.eq_ofNat_of_zero_le (show 0 ≤ a by omega)
          refine v_no wb (et_test (er_neI (er_ixL (a := vec t an) (er_var rfl ((rLst rInt).mono (ea.trans sb.fr) hvx)) (er_vi rfl) (atI_vec (by omega))) er_int)) (by rw [T.zer an (by omega)]; rfl) fun Hc wc sc => ?_
          exact ⟨_, wc, eGs, ea.trans sb.fr, _, rfl⟩
        · obtain ⟨ea, x5, rfl⟩ := hP
          have hva := (rLst rInt).mono ea hvx
          have hv1a := rRows.mono ea hv1x
          refine w_for wa (src_rng1 (ea1 (er_vi rfl)) (by omega)) tgt_n mono_sn (fun pre σ' Gb Hb => Ex Ga Gb ∧ ∃ x6 x7 : Option V, σ' = [some v, some v1, some (.int (n : Int)), some v3, some (.int (k : Int)), x5, x6, x7, none])
            (fun Gb Hb wb sb => ⟨sb.fr, none, none, rfl⟩) (fun Gs pre a post σ' σ2 Gb Hb Gc Hc has hP sc wc eGs hS => ?_) (fun σ' Gb Hb wb hP => ?_)
          · obtain ⟨eb, x6, x7, rfl⟩ := hP
            obtain ⟨z, hz, rfl⟩ := hS
            cases (show z = V.int a from hz)
            obtain ⟨e1, e2, _⟩ := rng_mid has
            obtain ⟨j, rfl⟩ := Int.eq_ofNat_of_zero_le (show 0 ≤ a by omega)
            have hj : j < n := by omega
            have hvc := (rLst rInt).mono (eb.trans sc.fr) hva
            have hv1c := rRows.mono (eb.trans sc.fr) hv1a
            refine w_asg (r := rLst rInt) (a := rows.map fun r => vec r j) wc (En.er (en_is (en_lc (s := rInt) (fun _ => true) (fun r => vec r j) (src_list (er_var rfl hv1c)) tgt_n (by omega) (fun r hr G σ2 eG hS => ?_)) ?_)) fun v7 Gd Hd wd sd hv7 => ?_
            · obtain ⟨y, hy, rfl⟩ := hS
              exact ⟨rfl, fun H1 _ Q q => q H1 (Ex.refl _), fun _ => er_ixL (er_var rfl hy) (er_vi rfl) (atI_vec (by rw [hw r hr]; omega))⟩
            · rw [List.filter_eq_self.mpr fun _ _ => rfl]
            · have hvd := (rLst rInt).mono sd.fr hvc
              have hv1d := rRows.mono sd.fr hv1c
              have hsum := sum_lin (x := vec t) (j := j) rows 0
              have hz := T.sum j hj
              refine v_no wd (et_or (a := false) (b := false) (et_test (er_is (er_neI (er_I (er_sum (ns := (List.range rows.length).map fun k => vec t (0 + k) * vec (rows.map fun r => vec r j) k) (En.er (en_is (en_lc (s := rInt) (fun _ => true) (fun k => vec t k.toNat * vec (rows.map fun r => vec r j) k.toNat) (src_rng1 (ea1 (er_lenL (er_var rfl hv1d))) (by omega)) tgt_n (by rw [rng_len]; omega) (fun x hx G σ2 eG hS => ?_)) ?_))) er_int (by decide)) er_int) ?_)) fun _ => et_test (er_is (er_neI (er_call (s := rInt) (b := 0) (ea2 (er_var rfl hvd) (er_var rfl hv7)) mono2 ⟨t, _, rfl, by omega, hres, (dot_zero T hj).symm⟩) er_int) rfl)) rfl fun He we se => ?_
              · obtain ⟨y, hy, rfl⟩ := hS
                cases (show y = V.int x from hy)
                have hx2 := mem_rng.mp hx
                obtain ⟨kn, rfl⟩ := Int.eq_ofNat_of_zero_le hx2.1
                have hkn : kn < rows.length := by omega
                exact ⟨rfl, fun H1 _ Q q => q H1 (Ex.refl _), fun _ => er_I (er_ixL (a := vec t kn) (er_var rfl ((rLst rInt).mono eG hvd)) (er_vi rfl) (atI_vec (by omega))) (er_ixL (a := vec (rows.map fun r => vec r j) kn) (er_var rfl ((rLst rInt).mono eG hv7)) (er_vi rfl) (atI_vec (by rw [List.length_map]; omega))) (Or.inl (res_cmul (res_vec hres _)))⟩
              · rw [List.filter_eq_self.mpr fun _ _ => rfl, show ((rows.length : Int)).toNat = rows.length by omega, rng0, List.map_map]
                refine List.map_congr_left fun k _ => ?_
                show vec t k * _ = vec t (0 + k) * _
                rw [Nat.zero_add]
                rfl
              · rw [hsum, emod_z hz]
                rfl
              · exact ⟨_, we, eGs.trans sd.fr, (eb.trans sc.fr).trans sd.fr, _, _, rfl⟩
          · obtain ⟨eb, x6, x7, rfl⟩ := hP
            refine v_retB (n := true) wb (er_is (er_eqD (eLst eInt) (show 0 + 1 ≤ 64 by decide) (er_call (s := rLst rInt) (b := combF t rows n) (ea3 (er_var rfl ((rLst rInt).mono eb hva)) (er_var rfl (rRows.mono eb hv1a)) (er_vi rfl)) mono3 ⟨t, rows, n, rfl, by omega, hres, by omega, by omega, hw, rfl⟩) (En.er (en_rep (En.er (en_lst (eal_cons er_int eal_nil) (by decide))) (er_vi rfl) (by omega) (by show 1 * _ ≤ _; omega)))) ?_) fun H5 e5 => q _ H5 e5 rfl
            rw [comb_zero T, show ((n : Int)).toNat = n by omega, flat_rep]
            exact decide_eq_true rfl
end
end K00
set_option Elab.async false
set_option linter.all false
set_option maxRecDepth 100000
set_option maxHeartbeats 8000000
namespace K00
open PySem PySem.Spec PyProof.Rows L2 Evl DL
abbrev s_law_inverted : Stmt := topS 23
theorem sc_law_inverted : FnScope ["number", "told", "e"] ["number"] (defScope s_law_inverted) := ⟨rfl, rfl, rfl, by decide +kernel, rfl, by decide +kernel, by decide +kernel⟩
/- 0 number, 1 told, 2 e -/
/-- inverse(number): the inverse, or an error that holds the number -/
def spInv (C : Addr) : Sp := fun vs H Q E => ∃ n : Int, vs = [.int n] ∧ (LA97.Z n → ∀ H2, Ex H H2 → ∀ d, H2 d = none → E (.ref C) (some d) (upd H2 d (.xd [(("number" : Str), .int n)]))) ∧ (¬ LA97.Z n → ∀ H2, Ex H H2 → Q (.int (invF n)) H2)
def wInvd : (Hp → List V → Prop) → Bool → Prop := fun P b => ∃ n : Int, P = A1 rInt n ∧ b = true
/-- isinstance of the error that the suite holds -/
def rIsG (K : PySem.W.Frag) (C a : Addr) (cls : Value) (d : Option Addr) : List V → Hp → VK → Prop := fun xs H Q => cls = .ref C ∧ ∃ dd, d = some dd ∧ DLF.rIsF K C a dd xs H Q
theorem call_isG {X : Cx} {a C fI cc cd : Addr} {cls : Value} {d : Option Addr} {qn fld : Str} {oe : Obj} {pn : List (Addr × Obj)} (T : DLE.OwnTxt X.prog X.K X.mg qn fld C fI cc cd) (I0 : DLF.IsTxt X.K C) (hz : Zc cls d oe) (hf : ∃ vs, oe.data = .fields vs) :
    CallR (X.suite a ((a, oe) :: pn)) (.builtin "isinstance") (rIsG X.K C a cls d) := by
  intro pins s σ H xs us Q I r ⟨e1, dd, e2, h⟩
  subst e1
  subst e2
  exact DLF.call_isF T I0 hz hf pins s σ H xs us Q I r h
theorem kit_sub {K : PySem.W.Frag} {C S : Addr} {b : Bool} (hcl : PySem.W.isClsIn K S = true) (ht : PySem.W.typeIn K (.ref S) = some (.type "type")) (hs : PySem.W.subIn K (.ref C) (.ref S) = some b) (hC : PySem.W.subIn K (.ref C) (.ref C) = some true) : PySem.W.kitOne K (.ref C) (.ref S) = some b := by
  unfold PySem.W.kitOne
  by_cases e : C = S
  · subst e
    rw [hC] at hs
    rw [if_pos (beq_self_eq_true _)]
    exact hs
  · rw [if_neg (fun z => e (Value.ref.inj (eq_of_beq z)))]
    have hcl : (PySem.W.clsIn K S).isSome = true := hcl
    show (if ((PySem.W.clsIn K S).isSome && PySem.W.typeIn K (.ref S) == some (.type "type")) = true then PySem.W.subIn K (.ref C) (.ref S) else none) = some b
    rw [if_pos (by rw [hcl, ht]; rfl)]
    exact hs
/-- what the head says of the errors -/
structure ErrTxt (P : Program) (K : PySem.W.Frag) (mg : Str → Option Value) (C S B fI cc cd : Addr) : Prop where
  T : DLE.OwnTxt P K mg "NoInverse.__init__" "number" C fI cc cd
  I : DLF.IsTxt K C
  ex : PySem.W.exmOne K (.ref C) (.ref C) = some true
  gC : mg "NoInverse" = some (.ref C)
  gS : mg "ServeError" = some (.ref S)
  gB : mg "BadTable" = some (.ref B)
  kS : PySem.W.kitOne K (.ref C) (.ref S) = some true
  kB : PySem.W.kitOne K (.ref C) (.ref B) = some false
section
variable {K : PySem.W.Frag} {σ : L2.St} {F : Hp} {C S a dd : Addr} {n : Int} {b : Bool} {i : Nat}
theorem er_own (h : σ[i]? = some (some (.ref a))) (hd : F dd = some (.xd [(("number" : Str), .int n)])) : Er rInt (DLF.tOwnF C "number" a (.ref C) (some dd) (tVar i)) σ F n := fun H1 e Q q => ⟨_, h, rfl, rfl, dd, .int n, rfl, e dd _ hd, q _ H1 (Ex.refl H1) rfl⟩
theorem er_isG (h : σ[i]? = some (some (.ref a))) (hd : F dd = some (.xd [(("number" : Str), .int n)])) (hk : PySem.W.kitOne K (.ref C) (.ref S) = some b) : Er rBl (tCB (rIsG K C a (.ref C) (some dd)) (tCons (tVar i) (tCons (tC (.ref S)) tNil))) σ F b := fun H1 e Q q =>
  ⟨_, h, rfl, dd, rfl, .ref S, .ref S, b, _, rfl, fun u hu => hu, hk, e dd _ hd, q _ H1 (Ex.refl H1) rfl⟩
end
section
variable {P : Program} {w : World} {K : PySem.W.Frag} {mg : Str → Option Value} {base : Heap} {t : Tok} {C S B fE cc cd : Addr}
theorem ok_inverseX {f : Addr} {fd : FuncData} (D : DefAt K mg "inverse" s_inverse ["number"] f fd) (ET : ErrTxt P K mg C S B fE cc cd) (c_PRIME : mg "PRIME" = some (.int 97 t)) (mB_range : mg "range" = none) : FnOk P w K mg base (L2.CX P w) 3 f fd ["number"] (spInv C) := by
  have T_NoInverse := ET.T
  have g_NoInverse := ET.gC
  refine D.F.okX sc_inverse (fun vs H Q E h => ?_) (fun cdv A outer s H vs Q E hr h => ?_)
  · obtain ⟨n, rfl, _⟩ := h
    rfl
  · obtain ⟨n, rfl, hE, hQ⟩ := h
    refine ⟨_, (pss_cons (ps_set (i := 1) sc_inverse.nd rfl (by first | exact Or.inl rfl | exact Or.inr rfl) (pe_op op_mod (pv 0) (pe_glob (v := .int 97) rfl c_PRIME ⟨_, rfl⟩)))
  (pss_cons (ps_if (pt_cmpR op_eq (pv 1) pe_int (nomark _))
    (pss_one (DLF.ps_raiseOwn rfl T_NoInverse g_NoInverse hr (takes_of rfl rfl rfl rfl) (by exact (pa_cons (pv 0) pa_nil))))
    pss_nil)
  (pss_cons (ps_set (i := 2) sc_inverse.nd rfl (by first | exact Or.inl rfl | exact Or.inr rfl) pe_int)
  (pss_cons (ps_for (passes_of rfl) rfl (pi_range1 (by rfl) mB_range (pa_cons (pe_op op_sub (pe_glob (v := .int 97) rfl c_PRIME ⟨_, rfl⟩) pe_int) pa_nil)) (pg_name (i := 3) sc_inverse.nd rfl (by first | exact Or.inl rfl | exact Or.inr rfl))
    (pss_one (ps_set (i := 2) sc_inverse.nd rfl (by first | exact Or.inl rfl | exact Or.inr rfl) (pe_op op_mod (pe_op op_mul (pv 2) (pv 1)) (pe_glob (v := .int 97) rfl c_PRIME ⟨_, rfl⟩)))))
  (pss_one (ps_ret (pv 2))))))), ?_⟩
    have hm : 0 ≤ n % 97 ∧ n % 97 < 97 := ⟨Int.emod_nonneg _ (by decide), Int.emod_lt_of_pos _ (by decide)⟩
    refine w_asgI (Wd.start (Ex.refl H)) (er_I (er_vi rfl) er_int (by decide)) fun H1 w1 s1 => ?_
    refine w_when w1 (et_test (er_eqI (er_vi rfl) er_int)) (fun hb H2 w2 s2 => ?_) (fun hb H2 w2 s2 => ?_)
    · have hb := of_decide_eq_true hb
      exact ⟨_, rfl, _, rfl, fun d hd => hE (Int.dvd_of_emod_eq_zero hb) H2 w2.up d hd⟩
    · have hb := of_decide_eq_false hb
      have hn : ¬ LA97.Z n := fun z => hb (Int.emod_eq_zero_of_dvd z)
      refine w_asgI w2 er_int fun H3 w3 s3 => ?_
      refine w_for w3 (src_rng1 (ea1 (er_I0 er_int er_int)) (by decide)) tgt_n mono_sn (fun pre σ' G' H' => ∃ x : Option V, σ' = [some (.int n), some (.int (n % 97)), some (.int (LA97.powR (n % 97) pre.length)), x])
        (fun G2 H2 w2 s2 => ⟨none, rfl⟩) (fun Gs pre a post σ' σ2 G' H' G2 H2 has hP s2 w2 eGs hS => ?_) (fun σ' G' H' w2 hP => ?_)
      · obtain ⟨x, rfl⟩ := hP
        obtain ⟨z, hz, rfl⟩ := hS
        refine v_asgI w2 (er_I (er_I (er_vi rfl) (er_vi rfl) (Or.inr (res_cmul hm))) er_int (by decide)) fun H5 w5 s5 => ?_
        refine ⟨_, w5, eGs, some z, ?_⟩
        rw [List.length_append]
        rfl
      · obtain ⟨x, rfl⟩ := hP
        exact v_retI w2 (er_vi rfl) fun H5 e5 => hQ hn H5 e5
theorem ok_law_inverted {f fI : Addr} {fd fdI : FuncData} (D : DefAt K mg "_law_inverted" s_law_inverted ["number"] f fd) (D_inverse : DefAt K mg "inverse" s_inverse ["number"] fI fdI) (ET : ErrTxt P K mg C S B fE cc cd)
    (c_PRIME : mg "PRIME" = some (.int 97 t)) (mB_range : mg "range" = none) (mB_isinstance : mg "isinstance" = none) (mB_int : mg "int" = none) (mB_bool : mg "bool" = none) : FnOk P w K mg base CX0 5 f fd ["number"] (spV rBl wInvd) := by
  have G_inverse : FnOk P w K mg base (L2.CX P w) 3 fI fdI ["number"] (spInv C) := ok_inverseX D_inverse ET c_PRIME mB_range
  refine D.F.ok sc_law_inverted (fun vs H Q E h => ?_) (fun cdv A outer s H vs Q E hr h => ?_)
  · obtain ⟨F, Pp, b, _, _, ⟨n, rfl, _⟩, ⟨v, rfl, _⟩, _⟩ := h
    rfl
  · obtain ⟨F, Pp, b, eF, _, ⟨n, rfl, rfl⟩, ⟨v, rfl, hv⟩, q⟩ := h
    cases (show v = V.int n from hv)
    have hr3 : Room 3 _ := hr.mono (by decide)
    have T := ET.T
    refine ⟨_, (pss_cons (ps_try_as (i := 2) (tb := fun W => tAsg (tCallS (spInv C) (WE W) (tCons (tVar 0) tNil)) (gName 1)) (Wout := fun _ _ _ _ => False) rfl rfl sc_law_inverted.nd rfl rfl ⟨rfl, by decide, Or.inl ET.gC⟩ takes0
      (fun W pn xe tk _ => pss_one (ps_set (i := 1) sc_law_inverted.nd rfl (Or.inl rfl) (by exact (pe_callS G_inverse hr3 rfl D_inverse.g D_inverse.F.kp D_inverse.b (fun σ => passAt tk σ) (by exact (pa_cons (pv 0) pa_nil))))))
      (fun a oe cls d pn hz hf => pss_one (ps_ret (pe_and (pe_cmpR op_eq (pe_op op_mod (pv 0) pe_int) pe_int (nomark _)) (pe_and (pe_cmpR op_eq (DLF.pe_ownF T hz hf (pv 2)) (pv 0) (nomark _)) (pe_and (pe_callB (r := rIsG K C a cls d) (call_isG T ET.I hz hf) (by rfl) mB_isinstance (by decide +kernel) (pa_cons (pv 2) (pa_cons (pe_glob (v := .ref S) (by rfl) ET.gS rfl) pa_nil))) (pe_one (pe_not (pe_callB (r := rIsG K C a cls d) (call_isG T ET.I hz hf) (by rfl) mB_isinstance (by decide +kernel) (pa_cons (pv 2) (pa_cons (pe_glob (v := .ref B) (by rfl) ET.gB rfl) pa_nil)))))))))))
      (pss_cons (ps_if (PW.pt (pw_or (pt_not (pt_val (pe_callB (r := rIsi K) call_isi (by rfl) mB_isinstance (by decide +kernel) (pa_cons (pv 1) (pa_cons (pe_bltn (v := .ty "int") (by rfl) mB_int (by decide +kernel) rfl) pa_nil))))) (pw_or (pt_val (pe_callB (r := rIsi K) call_isi (by rfl) mB_isinstance (by decide +kernel) (pa_cons (pv 1) (pa_cons (pe_bltn (v := .ty "bool") (by rfl) mB_bool (by decide +kernel) rfl) pa_nil)))) (pw_or (pt_cmpR op_lt (pv 1) pe_int (nomark _)) (pw_or1 (pt_cmpR op_gt (pv 1) pe_int (nomark _)))))))
    (pss_one (ps_ret pe_bl))
    pss_nil)
  (pss_one (ps_ret (pe_cmpR op_eq (pe_op op_mod (pe_op op_mul (pv 1) (pv 0)) pe_int) pe_int (nomark _)))))), ?_⟩
    refine ⟨_, rfl, n, rfl, fun hn H2 e2 d hd => ?_, fun hn H2 e2 => ?_⟩
    · -- the error
      refine ⟨true, ET.ex, fun _ a ha => ?_, fun z => by cases z⟩
      have w1 := (Wd.start eF).same e2
      have w2 := w1.ev (Ex.new (o := .xd [(("number" : Str), .int n)]) hd)
      have hxd : part F H2 (upd H2 d (.xd [(("number" : Str), .int n)])) d = some (.xd [(("number" : Str), .int n)]) := by
        rw [part_new (back_none w1.sub hd) hd]
        exact upd_same
      refine v_retB (n := true) w2 (er_is (er_andV (a := true) (b := true) (er_is (er_eqI (er_I (er_vi rfl) er_int (by decide)) er_int) (decide_eq_true (Int.emod_eq_zero_of_dvd hn))) fun _ => er_is (er_andV (a := true) (b := true) (er_is (er_eqI (er_own rfl hxd) (er_vi rfl)) (decide_eq_true rfl)) fun _ => er_is (er_andV (a := true) (b := true) (er_isG rfl hxd ET.kS) fun _ => er_notV (a := false) (er_isG rfl hxd ET.kB)) rfl) rfl) rfl) fun H5 e5 => q _ H5 e5 rfl
    · -- the inverse
      have hi := LA97.pow_inv hn
      have hi : invF n * n % 97 = 1 ∧ 0 < invF n ∧ invF n < 97 := hi
      have w1 := (Wd.start eF).same e2
      have ei : Er rInt (tVar 1) [some (.int n), some (.int (invF n)), none] F (invF n) := er_vi rfl
      refine w_no w1 (et_or (a := false) (b := false) (et_not (a := true) (DL.et_B (er_isiV ei (fun _ _ h => ty_int h) (kit_ty (by decide +kernel))))) fun _ => et_or (a := false) (b := false) (DL.et_B (er_isiV ei (fun _ _ h => ty_int h) (kit_ty (by decide +kernel)))) fun _ => et_or (a := false) (b := false) (et_test (er_is (er_cmp0 ei er_int) (decide_eq_false (by omega)))) fun _ => et_test (er_is (er_cmp0 ei er_int) (decide_eq_false (by omega)))) rfl fun H3 w3 s3 => ?_
      exact v_retB (n := true) w3 (er_is (er_eqI (er_I (er_I (er_vi rfl) (er_vi rfl) (Or.inl (res_cmul ⟨by omega, hi.2.2⟩))) er_int (by decide)) er_int) (decide_eq_true hi.1)) fun H5 e5 => q _ H5 e5 rfl
end
end K00
set_option Elab.async false
set_option linter.all false
set_option maxRecDepth 100000
set_option maxHeartbeats 8000000
namespace K00
open PySem PySem.Spec PyProof.Rows L2 Evl DL
abbrev s_law : Stmt := topS 24
theorem sc_law : FnScope ["script", "width", "rows", "due", "k", "drawn", "number", "given", "told", "indexes", "free", "j", "row"] ["script"] (defScope s_law) := ⟨rfl, rfl, rfl, by decide +kernel, rfl, by decide +kernel, by decide +kernel⟩
/- 0 script, 1 width, 2 rows, 3 due, 4 k, 5 drawn, 6 number, 7 given, 8 told, 9 indexes, 10 free, 11 j, 12 row -/
def spLaw (K : PySem.W.Frag) : Sp := fun vs H Q _ => ∃ (a : Addr) (ns : List Int), vs = [.ref a] ∧ SqL K H a (ns.map V.int) ∧ ns.length ≤ 63 ∧ ∀ H', Q (.bl true) H'
theorem inV_bls {n : Bool} : ∀ {ns : List Bool}, inV (.bl n) (ns.map V.bl) = decide (n ∈ ns)
  | [] => rfl
  | m :: ns => by
    show (m == n || inV (.bl n) (ns.map V.bl)) = _
    rw [inV_bls]
    by_cases h : m = n
    · subst h; simp
    · have h2 : ¬ n = m := fun z => h z.symm
      simp [h, h2]
theorem flat_bls : ∀ {ns : List Bool}, (ns.map V.bl).all flatV = true
  | [] => rfl
  | _ :: ns => by
    show (true && (ns.map V.bl).all flatV) = true
    rw [flat_bls]
    rfl
/-- None or a list of one's own -/
def TV (o : Option Row) (H0 G H : Hp) (v : V) : Prop := match o with
  | none => v = .non
  | some t => ∃ p, v = .ref p ∧ Mu rInt t G H p ∧ H0 p = none
section
variable {α : Type} {K : PySem.W.Frag} {σ : L2.St} {F0 H0 F G G2 G3 H H2 : Hp} {ta tb te : TE} {D : Ends} {tz : TS} {i : Nat} {o : Option Row} {v : V} {x : Int}
theorem er_inB {n : Bool} {ns : List Bool} (ha : Er rBl ta σ F n) (hb : Er (rLst rBl) tb σ F ns) : Er rBl (tOp (rIn K false) ta tb) σ F (decide (n ∈ ns)) := fun H1 e Q q =>
  er_two ha hb e fun x y H3 e3 hx ⟨p, xs, hy, hp, hal⟩ => by
    cases (show x = V.bl n from hx)
    rw [rel_bls hal] at hp
    refine ⟨p, _, hy, .inl (SqL.of (part_sub (e.trans e3) p _ hp)), rfl, flat_bls, ?_⟩
    rw [inV_bls]
    exact q _ H3 e3 rfl
theorem TV.go (h : TV o H0 G H v) (s : Stp none G H G2 H2) : TV o H0 G2 H2 v := by
  cases o with
  | none => exact h
  | some t =>
    obtain ⟨p, e, m, n⟩ := h
    exact ⟨p, e, m.go s, n⟩
theorem TV.froz (h : TV o H0 G H v) (w : Wd F0 H0 G H) : ∃ G2, Wd F0 H0 G2 H ∧ Ex G G2 ∧ (rOpt (rLst rInt)).rel G2 v o := by
  cases o with
  | none => exact ⟨G, w, Ex.refl _, h⟩
  | some t =>
    obtain ⟨p, rfl, m, n⟩ := h
    obtain ⟨G2, w2, e2, r2, _⟩ := m.froz w n
    exact ⟨G2, w2, e2, r2⟩
theorem w_asgO {W : (Hp → List V → Prop) → Option Row → Prop} {P : Hp → List V → Prop} {E : XK} {tr : TA} (w : Wd F0 H0 G H) (h : Ea P tr σ G) (hP : MonoP P) (hw : W P o)
    (k : ∀ v G2 H2, Wd F0 H0 G2 H2 → Stp none G H G2 H2 → TV o H0 G2 H2 v → tz D (σ.set i (some v)) H2) : tSeq (tAsg (tCall (spO rInt W) [] E tr) (gName i)) tz D σ H := by
  cases o with
  | none => exact w_asg w (er_callO h hP hw) fun v G2 H2 w2 s2 hv => k v G2 H2 w2 s2 hv
  | some t => exact w_asgN w (en_callO h hP hw) fun p G2 H2 w2 s2 m n => k _ G2 H2 w2 s2 ⟨p, rfl, m, back_none w.up n⟩
theorem ev_intB (w : Wd F0 H0 G H) (w3 : Wd F0 H0 G3 H) (h : Er rInt te σ G3 x) : Ev1 rInt te σ G H x := fun Q q => h H w3.sub _ fun v H2 e hv => q v H2 e hv
theorem stp_back (s : Stp none G3 H G3 H2) : Stp none G H G H2 := stp_same s.ex
end
section
variable {P : Program} {w : World} {K : PySem.W.Frag} {mg : Str → Option Value} {base : Heap} {t : Tok} {C S B fE cc cd : Addr}
theorem ok_law {f f1 f2 f3 f4 f5 f6 f7 f8 f9 f10 f11 f12 f13 f14 f15 f16 : Addr} {fd d1 d2 d3 d4 d5 d6 d7 d8 d9 d10 d11 d12 d13 d14 d15 d16 : FuncData} (D : DefAt K mg "law" s_law ["script"] f fd)
    (D_inverse : DefAt K mg "inverse" s_inverse ["number"] f1 d1) (D_dot : DefAt K mg "dot" s_dot ["first", "second"] f2 d2) (D_combine : DefAt K mg "combine" s_combine ["coefficients", "rows", "width"] f3 d3) (D_unit_row : DefAt K mg "unit_row" s_unit_row ["column", "columns"] f4 d4)
    (D_leading_column : DefAt K mg "leading_column" s_leading_column ["row"] f5 d5) (D_reduced : DefAt K mg "reduced" s_reduced ["row", "basis"] f6 d6) (D_scaled : DefAt K mg "scaled" s_scaled ["row", "column"] f7 d7)
    (D_independent_indexes : DefAt K mg "independent_indexes" s_independent_indexes ["rows"] f8 d8) (D_independent : DefAt K mg "independent" s_independent ["rows"] f9 d9) (D_relation : DefAt K mg "relation" s_relation ["rows"] f10 d10)
    (D_law_cell : DefAt K mg "_law_cell" s_law_cell ["script", "k"] f11 d11) (D_law_draws : DefAt K mg "_law_draws" s_law_draws ["cell", "limits"] f12 d12) (D_law_count_free : DefAt K mg "_law_count_free" s_law_count_free ["rows", "width"] f13 d13)
    (D_law_rows : DefAt K mg "_law_rows" s_law_rows ["script", "width"] f14 d14) (D_law_is_residues : DefAt K mg "_law_is_residues" s_law_is_residues ["told", "count"] f15 d15) (D_law_right : DefAt K mg "_law_right" s_law_right ["told", "rows", "width", "due"] f16 d16)
    {f17 : Addr} {d17 : FuncData} (D_law_inverted : DefAt K mg "_law_inverted" s_law_inverted ["number"] f17 d17) (ET : ErrTxt P K mg C S B fE cc cd) (c_PRIME : mg "PRIME" = some (.int 97 t))
    (mB_range : mg "range" = none) (mB_len : mg "len" = none) (mB_list : mg "list" = none) (mB_int : mg "int" = none) (mB_isinstance : mg "isinstance" = none) (mB_bool : mg "bool" = none) (mB_zip : mg "zip" = none) (mB_sum : mg "sum" = none) (mB_enumerate : mg "enumerate" = none) :
    FnOk P w K mg base CX0 6 f fd ["script"] (spLaw K) := by
  have G_law_cell : FnOk P w K mg base CX0 1 f11 d11 ["script", "k"] (spV rInt (wCell K)) := ok_law_cell D_law_cell mB_len
  have G_law_draws : FnOk P w K mg base CX0 1 f12 d12 ["cell", "limits"] (spN rInt wDraws) := ok_law_draws D_law_draws mB_int
  have G_law_rows : FnOk P w K mg base CX0 2 f14 d14 ["script", "width"] (spNA (rLst rInt) (wRows K)) := ok_law_rows D_law_rows D_law_cell D_law_draws mB_len mB_int mB_range mB_list
  have G_law_count_free : FnOk P w K mg base CX0 1 f13 d13 ["rows", "width"] (spV rInt wCnt) := ok_law_count_free D_law_count_free mB_range mB_len mB_list mB_int
  have G_law_inverted : FnOk P w K mg base CX0 5 f17 d17 ["number"] (spV rBl wInvd) := ok_law_inverted D_law_inverted D_inverse ET c_PRIME mB_range mB_isinstance mB_int mB_bool
  have G_relation : FnOk P w K mg base CX0 3 f10 d10 ["rows"] (spO rInt wRel) := ok_relation D_relation D_unit_row D_reduced D_leading_column D_scaled D_inverse c_PRIME mB_zip mB_range mB_enumerate mB_len
  have G_independent_indexes : FnOk P w K mg base CX0 3 f8 d8 ["rows"] (spN rInt wInd) := ok_independent_indexes D_independent_indexes D_reduced D_leading_column D_scaled D_inverse c_PRIME mB_zip mB_range mB_enumerate mB_len
  have G_independent : FnOk P w K mg base CX0 4 f9 d9 ["rows"] (spV rBl wIndep) := ok_independent D_independent D_independent_indexes D_reduced D_leading_column D_scaled D_inverse c_PRIME mB_zip mB_range mB_enumerate mB_len
  have G_law_right : FnOk P w K mg base CX0 3 f16 d16 ["told", "rows", "width", "due"] (spV rBl wRight) := ok_law_right D_law_right D_law_is_residues D_dot D_combine c_PRIME mB_isinstance mB_list mB_len mB_int mB_bool mB_zip mB_sum mB_range
  refine D.F.ok sc_law (fun vs H Q E h => ?_) (fun cdv A outer s H vs Q E hr h => ?_)
  · obtain ⟨a, ns, rfl, _⟩ := h
    rfl
  · obtain ⟨adr, ns, rfl, hS, hlen, q⟩ := h
    refine ⟨_, (pss_cons (ps_set (i := 1) sc_law.nd rfl (by first | exact Or.inl rfl | exact Or.inr rfl) (pe_ix (r := rIxL K) ix_list (pe_call G_law_draws (hr.mono (by decide)) (by rfl) D_law_draws.g D_law_draws.F.kp D_law_draws.b .nil pass0 (pa_cons (pe_call G_law_cell (hr.mono (by decide)) (by rfl) D_law_cell.g D_law_cell.F.kp D_law_cell.b .nil pass0 (pa_cons (pv 0) (pa_cons pe_int pa_nil))) (pa_cons (pe_lst (pa_cons pe_int (pa_cons pe_int (pa_cons pe_int pa_nil)))) pa_nil))) pe_int (fun _ _ => rfl)))
  (pss_cons (ps_set (i := 2) sc_law.nd rfl (by first | exact Or.inl rfl | exact Or.inr rfl) (pe_call G_law_rows (hr.mono (by decide)) (by rfl) D_law_rows.g D_law_rows.F.kp D_law_rows.b .nil pass0 (pa_cons (pv 0) (pa_cons (pv 1) pa_nil))))
  (pss_cons (ps_set (i := 3) sc_law.nd rfl (by first | exact Or.inl rfl | exact Or.inr rfl) (pe_lst pa_nil))
  (pss_cons (ps_for PassesOwn.never rfl (pi_range1 (by rfl) mB_range (pa_cons (pe_callB (r := rLenQ K) call_len_seq (by rfl) mB_len (by decide +kernel) (pa_cons (pv 2) pa_nil)) pa_nil)) (pg_name (i := 4) sc_law.nd rfl (by first | exact Or.inl rfl | exact Or.inr rfl))
    (pss_one (ps_if (pt_cmpR op_gt (pe_call G_law_count_free (hr.mono (by decide)) (by rfl) D_law_count_free.g D_law_count_free.F.kp D_law_count_free.b .nil pass0 (pa_cons (pe_op (r := rCat) op_cat (pe_lc (own := [("j", 11)]) (g := gName 11) rfl sc_law.nd (pi_listK (K := K) (pv 3)) (blkOk_by (own := [("j", 11)]) (N := ["script", "width", "rows", "due", "k", "drawn", "number", "given", "told", "indexes", "free", "j", "row"]) (sc := defScope s_law) (by decide +kernel)) (fun _ _ _ _ _ => (pg_name (i := 11) sc_law.nd rfl (by first | exact Or.inl rfl | exact Or.inr rfl))) (fun _ _ _ _ _ => pts_nil) (fun _ _ _ _ _ => (pe_ix (r := rIxL K) ix_list (pv 2) (pv 11) (fun _ _ => rfl)))) (pe_lst (pa_cons (pe_ix (r := rIxL K) ix_list (pv 2) (pv 4) (fun _ _ => rfl)) pa_nil))) (pa_cons (pv 1) pa_nil))) (pe_callB (r := rLenQ K) call_len_seq (by rfl) mB_len (by decide +kernel) (pa_cons (pv 3) pa_nil)) (nomark _))
    (pss_one (ps_expr (pe_bm PySem.F.plainAttrs_list PySem.F.slot_list_append PySem.F.type_list_append mt_append (pv 3) (pa_cons (pv 4) pa_nil))))
    pss_nil)))
  (pss_cons (ps_set (i := 5) sc_law.nd rfl (by first | exact Or.inl rfl | exact Or.inr rfl) (pe_call G_law_draws (hr.mono (by decide)) (by rfl) D_law_draws.g D_law_draws.F.kp D_law_draws.b .nil pass0 (pa_cons (pe_call G_law_cell (hr.mono (by decide)) (by rfl) D_law_cell.g D_law_cell.F.kp D_law_cell.b .nil pass0 (pa_cons (pv 0) (pa_cons pe_int pa_nil))) (pa_cons (pe_lst (pa_cons pe_int (pa_cons pe_int (pa_cons (pe_op op_pow pe_int pe_int) (pa_cons (pe_op op_pow pe_int pe_int) pa_nil))))) pa_nil))))
  (pss_cons (ps_for PassesOwn.never rfl (pi_listK (K := K) (pe_lst (pa_cons (pe_ix (r := rIxL K) ix_list (pv 5) pe_int (fun _ _ => rfl)) (pa_cons (pe_op op_sub (pe_ix (r := rIxL K) ix_list (pv 5) pe_int (fun _ _ => rfl)) pe_int) (pa_cons (pe_op op_sub pe_int (pe_ix (r := rIxL K) ix_list (pv 5) pe_int (fun _ _ => rfl))) (pa_cons (pe_op op_mul pe_int (pe_ix (r := rIxL K) ix_list (pv 5) pe_int (fun _ _ => rfl))) pa_nil)))))) (pg_name (i := 6) sc_law.nd rfl (by first | exact Or.inl rfl | exact Or.inr rfl))
    (pss_one (ps_if (pt_not (pt_val (pe_call G_law_inverted (hr.mono (by decide)) (by rfl) D_law_inverted.g D_law_inverted.F.kp D_law_inverted.b .nil pass0 (pa_cons (pv 6) pa_nil))))
    (pss_one (ps_ret pe_bl))
    pss_nil)))
  (pss_cons (ps_if (pt_cmpR op_ne (pe_glob (v := .int 97) rfl c_PRIME ⟨_, rfl⟩) pe_int (nomark _))
    (pss_one (ps_ret pe_bl))
    pss_nil)
  (pss_cons (ps_setLc (i := 7) (own := [("row", 12)]) (g := gName 12) rfl sc_law.nd rfl rfl (sw_true rfl rfl rfl (by decide +kernel)) (pi_listK (K := K) (pv 2)) (blkOk_by (own := [("row", 12)]) (N := ["script", "width", "rows", "due", "k", "drawn", "number", "given", "told", "indexes", "free", "j", "row"]) (sc := defScope s_law) (by decide +kernel)) (fun _ _ _ _ _ => (pg_name (i := 12) sc_law.nd rfl (by first | exact Or.inl rfl | exact Or.inr rfl))) (fun _ _ _ _ _ => pts_nil) (fun _ _ _ _ _ => (pe_callTy (r := rLstQ K) call_list_of (by rfl) mB_list (by decide +kernel) (pa_cons (pv 12) pa_nil))))
  (pss_cons (ps_set (i := 8) sc_law.nd rfl (by first | exact Or.inl rfl | exact Or.inr rfl) (pe_call G_relation (hr.mono (by decide)) (by rfl) D_relation.g D_relation.F.kp D_relation.b .nil pass0 (pa_cons (pv 7) pa_nil)))
  (pss_cons (ps_if (PW.pt (pw_or (pt_cmpR (r := rNeD K) (op_neD hr.units) (pv 7) (pv 2) (nomark _)) (pw_or1 (pt_not (pt_val (pe_call G_law_right (hr.mono (by decide)) (by rfl) D_law_right.g D_law_right.F.kp D_law_right.b .nil pass0 (pa_cons (pv 8) (pa_cons (pv 2) (pa_cons (pv 1) (pa_cons (pv 3) pa_nil))))))))))
    (pss_one (ps_ret pe_bl))
    pss_nil)
  (pss_cons (ps_set (i := 9) sc_law.nd rfl (by first | exact Or.inl rfl | exact Or.inr rfl) (pe_call G_independent_indexes (hr.mono (by decide)) (by rfl) D_independent_indexes.g D_independent_indexes.F.kp D_independent_indexes.b .nil pass0 (pa_cons (pv 7) pa_nil)))
  (pss_cons (ps_if (PW.pt (pw_or (pt_not (pt_val (pe_callB (r := rIsi K) call_isi (by rfl) mB_isinstance (by decide +kernel) (pa_cons (pv 9) (pa_cons (pe_bltn (v := .ty "list") (by rfl) mB_list (by decide +kernel) rfl) pa_nil))))) (pw_or (pt_cmpR (r := rNeD K) (op_neD hr.units) (pv 9) (pv 3) (nomark _)) (pw_or1 (pt_cmpR (r := rIn K false) op_in_seq pe_bl (pe_lc (own := [("k", 4)]) (g := gName 4) rfl sc_law.nd (pi_listK (K := K) (pv 9)) (blkOk_by (own := [("k", 4)]) (N := ["script", "width", "rows", "due", "k", "drawn", "number", "given", "told", "indexes", "free", "j", "row"]) (sc := defScope s_law) (by decide +kernel)) (fun _ _ _ _ _ => (pg_name (i := 4) sc_law.nd rfl (by first | exact Or.inl rfl | exact Or.inr rfl))) (fun _ _ _ _ _ => pts_nil) (fun _ _ _ _ _ => (pe_callB (r := rIsi K) call_isi (by rfl) mB_isinstance (by decide +kernel) (pa_cons (pv 4) (pa_cons (pe_bltn (v := .ty "bool") (by rfl) mB_bool (by decide +kernel) rfl) pa_nil))))) (by rfl))))))
    (pss_one (ps_ret pe_bl))
    pss_nil)
  (pss_cons (ps_set (i := 10) sc_law.nd rfl (by first | exact Or.inl rfl | exact Or.inr rfl) (pe_call G_independent (hr.mono (by decide)) (by rfl) D_independent.g D_independent.F.kp D_independent.b .nil pass0 (pa_cons (pv 7) pa_nil)))
  (pss_cons (ps_if (PW.pt (pw_or (pt_not (pt_val (pe_callB (r := rIsi K) call_isi (by rfl) mB_isinstance (by decide +kernel) (pa_cons (pv 10) (pa_cons (pe_bltn (v := .ty "bool") (by rfl) mB_bool (by decide +kernel) rfl) pa_nil))))) (pw_or1 (pt_cmpR op_ne (pv 10) (pe_cmpR op_eq (pe_callB (r := rLenQ K) call_len_seq (by rfl) mB_len (by decide +kernel) (pa_cons (pv 3) pa_nil)) (pe_callB (r := rLenQ K) call_len_seq (by rfl) mB_len (by decide +kernel) (pa_cons (pv 2) pa_nil)) (nomark _)) (nomark _)))))
    (pss_one (ps_ret pe_bl))
    pss_nil)
  (pss_cut (ps_if (pt_cmpR (r := rNotNq) op_notN (pv 8) pe_non (nomark _))
    (pss_cons (ps_asg (pe_op op_add (pe_ix (r := rIxL K) ix_list (pv 8) pe_int (fun _ _ => rfl)) pe_int) (pg_sub (pv 8) pe_int set_list))
  (pss_one (ps_expr (pe_bm PySem.F.plainAttrs_list PySem.F.slot_list_append PySem.F.type_list_append mt_append (pv 8) (pa_cons pe_int pa_nil)))))
    pss_nil)
  (pss_cons (ps_expr (pe_bm PySem.F.plainAttrs_list PySem.F.slot_list_append PySem.F.type_list_append mt_append (pv 9) (pa_cons pe_int pa_nil)))
  (pss_one (ps_ret (pe_and (pe_cmpR (r := rEqD K) (op_eqD hr.units) (pv 7) (pv 2) (nomark _)) (pe_and (pe_call G_law_right (hr.mono (by decide)) (by rfl) D_law_right.g D_law_right.F.kp D_law_right.b .nil pass0 (pa_cons (pe_call G_relation (hr.mono (by decide)) (by rfl) D_relation.g D_relation.F.kp D_relation.b .nil pass0 (pa_cons (pv 7) pa_nil)) (pa_cons (pv 2) (pa_cons (pv 1) (pa_cons (pv 3) pa_nil))))) (pe_one (pe_cmpR (r := rEqD K) (op_eqD hr.units) (pe_call G_independent_indexes (hr.mono (by decide)) (by rfl) D_independent_indexes.g D_independent_indexes.F.kp D_independent_indexes.b .nil pass0 (pa_cons (pv 7) pa_nil)) (pv 3) (nomark _))))))))))))))))))))))), ?_⟩
    have eS : ∀ {σ3 : L2.St} {G3 : Hp}, Ex H G3 → σ3[0]? = some (some (.ref adr)) → Er (rFro K) (tVar 0) σ3 G3 ns := fun e h0 => er_var h0 ⟨adr, rfl, ex_l e hS⟩
    -- width
    obtain ⟨wi, hwi, h0, h5⟩ : ∃ x, (drawn (cell ns 0) [5, 7, 4])[0]? = some x ∧ 0 ≤ x ∧ x < 5 := draws_get [5, 7, 4] _ _ 0 5 (by decide) rfl
    obtain ⟨n, rfl⟩ := Int.eq_ofNat_of_zero_le h0
    have hn4 : n ≤ 4 := by omega
    refine w_asgI (n := (n : Int)) (Wd.start (Ex.refl H)) (er_ixL (En.er (en_call (s := rInt) (ea2 (er_call (s := rInt) (ea2 (eS (Ex.refl H) rfl) er_int) mono2 ⟨ns, 0, rfl, hlen, by omega, rfl⟩) (En.er (en_lst (as := [5, 7, 4]) (eal_cons er_int (eal_cons er_int (eal_cons er_int eal_nil))) (by show 3 ≤ 100000; decide)))) mono2 ⟨cell ns 0, [5, 7, 4], rfl, by decide, by decide, rfl⟩)) er_int (show L2.atI _ (0 : Int) = some (n : Int) from atI_nat (j := 0) hwi)) fun H1 w1 s1 => ?_
    -- rows
    refine w_callA w1 (ea2 (eS w1.old rfl) (er_vi rfl)) mono2 ⟨[], ns, n, rfl, hlen, hn4, good_nil⟩ fun rows pr G2 H2 wx w2 s2 mr nr => ?_
    obtain ⟨_, n2, eP, _, _, gr⟩ := wx
    have hgood : Good n rows := by
      have e1 := congrFun (congrFun eP H) [.ref adr, .int (n : Int)]
      have e2 : A2 (rFro K) rInt ns (n : Int) H [.ref adr, .int (n : Int)] := ⟨_, _, rfl, ⟨adr, rfl, hS⟩, rfl⟩
      rw [e1] at e2
      obtain ⟨_, _, hl, _, hr2⟩ := e2
      have hl := List.cons.inj (List.cons.inj hl).2
      have : V.int (n : Int) = V.int (n2 : Int) := hl.1.trans hr2
      have : n = n2 := by
        have := V.int.inj this
        omega
      subst this
      exact gr
    have hr6 := hgood.len
    have hw := hgood.wid
    obtain ⟨G3, w3, e23, rr, o3⟩ := mr.froz w2 (back_none w1.up nr)
    -- due
    refine w_asgN (r := rInt) (as := []) w3 (en_lst eal_nil (Nat.zero_le _)) fun pd G4 H4 w4 s4 md nd => ?_
    have nd0 : H pd = none := back_none w3.up nd
    have rr4 := rRows.mono s4.fr rr
    refine w_for w4 (src_rng1 (ea1 (er_lenL (er_var rfl rr4))) (by omega)) tgt_n mono_sn (fun pre σ' G' H' => ∃ x4 : Option V, Mu rInt (zs (dueN n rows pre.length)) G' H' pd ∧ Ex G4 G' ∧ σ' = [some (.ref adr), some (.int (n : Int)), some (.ref pr), some (.ref pd), x4, none, none, none, none, none, none, none, none])
      (fun G5 H5 w5 s5 => ⟨none, md.go s5, s5.fr, rfl⟩) (fun Gs pre a post σ' σ2 G' H' G5 H5 has hP s5 w5 eGs hS2 => ?_) (fun σ' G5 H5 w5 hP => ?_)
    · obtain ⟨x4, m, e4, rfl⟩ := hP
      obtain ⟨x, hx, rfl⟩ := hS2
      cases (show x = V.int a from hx)
      obtain ⟨ea, hk, _⟩ := rng_mid has
      have ea : a = (pre.length : Int) := by omega
      subst ea
      have hk : pre.length < rows.length := by omega
      have m5 := m.go s5
      have rr5 := rRows.mono (e4.trans s5.fr) rr4
      obtain ⟨G6, w6, e56, rd, o6⟩ := m5.froz w5 nd0
      have rr6 := rRows.mono e56 rr5
      have hdl := due_len (w := n) (rows := rows) pre.length
      have hdlt := due_lt (w := n) (rows := rows) pre.length
      have hLw : ∀ r ∈ (dueN n rows pre.length).map (fun i => rows.getD i []) ++ [rows.getD pre.length []], r ∈ rows := fun r hr => by
        rcases List.mem_append.mp hr with z | z
        · obtain ⟨i, hi, rfl⟩ := List.mem_map.mp z
          exact getD_mem (by have := hdlt i hi; omega)
        · rw [List.mem_singleton] at z
          rw [z]
          exact getD_mem hk
      have hcnt := cnt_ok (w := n) (rows := (dueN n rows pre.length).map (fun i => rows.getD i []) ++ [rows.getD pre.length []]) fun r hr => hw r (hLw r hr)
      have hvec : ((dueN n rows pre.length).map (fun i => rows.getD i []) ++ [rows.getD pre.length []]).map vec = (dueN n rows pre.length).map (fun i => vec (rows.getD i [])) ++ [vec (rows.getD pre.length [])] := by
        rw [List.map_append, List.map_map]
        rfl
      have hLl : ((dueN n rows pre.length).map (fun i => rows.getD i []) ++ [rows.getD pre.length []]).length = (dueN n rows pre.length).length + 1 := by
        rw [List.length_append, List.length_map]
        rfl
      rw [hvec, hLl] at hcnt
      have hzl : (zs (dueN n rows pre.length)).length = (dueN n rows pre.length).length := zs_len
      refine v_when w6 (et_test (er_cmp0 (er_call (s := rInt) (b := (cntF n ((dueN n rows pre.length).map (fun i => rows.getD i []) ++ [rows.getD pre.length []]) : Int)) (ea2 (En.er (en_catL (En.er (en_is (en_lc (s := rLst rInt) (fun _ => true) (fun j => rows.getD j.toNat []) (src_list (er_var rfl rd)) tgt_n (by omega) (fun j hj G σ2 eG hS => ?_)) ?_)) (En.er (en_lst (r := rLst rInt) (as := [rows.getD pre.length []]) (eal_cons (er_ixL (er_var rfl rr6) (er_vi rfl) (atI_nat (getD_some hk))) eal_nil) (by show 1 ≤ 100000; decide))) (by rw [List.length_map, List.length_singleton]; omega))) (er_vi rfl)) mono2 ⟨_, n, rfl, by omega, by omega, fun r hr => hw r (hLw r hr), fun r hr => hgood.bd r (hLw r hr), rfl⟩) (er_lenL (er_var rfl rd)))) (fun hb H7 w7 s7 => ?_) (fun hb H7 w7 s7 => ?_)
      · obtain ⟨y, hy, rfl⟩ := hS
        cases (show y = V.int j from hy)
        obtain ⟨jn, hjn, rfl⟩ := List.mem_map.mp hj
        exact ⟨rfl, fun H1 _ Q q => q H1 (Ex.refl _), fun _ => er_ixL (er_var rfl (rRows.mono eG rr6)) (er_vi rfl) (atI_nat (getD_some (by have := hdlt jn hjn; omega)))⟩
      · rw [List.filter_eq_self.mpr fun _ _ => rfl]
        unfold zs
        rw [List.map_map]
        rfl
      · have hb := of_decide_eq_true hb
        have hy := due_yes (w := n) (rows := rows) (k := pre.length) (hcnt.2.mp (by omega))
        refine v_app (w5.back w7 e56) rfl (m5.go (stp_back s7)) nd0 (by omega) (er_vi rfl) fun G8 H8 w8 s8 m8 => ?_
        refine ⟨G8, w8, eGs.trans s8.fr, _, ?_, (e4.trans s5.fr).trans s8.fr, rfl⟩
        rw [List.length_append, show pre.length + [(pre.length : Int)].length = pre.length + 1 from rfl, hy, zs_app]
        exact m8
      · have hb := of_decide_eq_false hb
        have hy := due_no (w := n) (rows := rows) (k := pre.length) (fun z => by have := hcnt.2.mpr z; omega)
        refine ⟨G5, w5.back w7 e56, eGs, _, ?_, e4.trans s5.fr, rfl⟩
        rw [List.length_append, show pre.length + [(pre.length : Int)].length = pre.length + 1 from rfl, hy]
        exact m5.go (stp_back s7)
    · obtain ⟨x4, m, e4, rfl⟩ := hP
      rw [rng_len, show ((rows.length : Int)).toNat = rows.length by omega] at m
      have rr5 := rRows.mono e4 rr4
      obtain ⟨G6, w6, e56, rd, o6⟩ := m.froz w5 nd0
      have rr6 := rRows.mono e56 rr5
      -- drawn
      refine w_asg (r := rLst rInt) (a := drawn (cell ns 8) [97, 200, 10 ^ 15, 10 ^ 15]) w6 (En.er (en_call (s := rInt) (ea2 (er_call (s := rInt) (ea2 (eS w6.old rfl) er_int) mono2 ⟨ns, 8, rfl, hlen, by omega, rfl⟩) (En.er (en_lst (as := [97, 200, 10 ^ 15, 10 ^ 15]) (eal_cons er_int (eal_cons er_int (eal_cons (er_I (C := CPow) er_int er_int ⟨by decide, by decide, by decide⟩) (eal_cons (er_I (C := CPow) er_int er_int ⟨by decide, by decide, by decide⟩) eal_nil)))) (by decide)))) mono2 ⟨cell ns 8, [97, 200, 10 ^ 15, 10 ^ 15], rfl, by decide, by decide, rfl⟩)) fun vd G7 H7 w7 s7 hvd => ?_
      have hd : ∀ (i : Nat) (m : Int), ([97, 200, 10 ^ 15, 10 ^ 15] : List Int)[i]? = some m → ∃ x, (drawn (cell ns 8) [97, 200, 10 ^ 15, 10 ^ 15])[i]? = some x ∧ 0 ≤ x ∧ x < m := fun i m h => draws_get _ _ _ i m (by decide) h
      obtain ⟨c0, hc0, _⟩ := hd 0 _ rfl
      obtain ⟨c1, hc1, _⟩ := hd 1 _ rfl
      obtain ⟨c2, hc2, _⟩ := hd 2 _ rfl
      obtain ⟨c3, hc3, _⟩ := hd 3 _ rfl
      generalize drawn (cell ns 8) [97, 200, 10 ^ 15, 10 ^ 15] = ds at hvd hc0 hc1 hc2 hc3
      have rr7 := rRows.mono s7.fr rr6
      have rd7 := (rLst rInt).mono s7.fr rd
      refine w_for w7 (src_list (En.er (en_lst (r := rInt) (as := [c0, c1 - 100, 0 - c2, 97 * c3]) (eal_cons (er_ixL (er_var rfl hvd) er_int (show L2.atI ds (0 : Int) = some c0 from atI_nat (j := 0) hc0)) (eal_cons (er_I0 (er_ixL (er_var rfl hvd) er_int (show L2.atI ds (1 : Int) = some c1 from atI_nat (j := 1) hc1)) er_int) (eal_cons (er_I0 er_int (er_ixL (er_var rfl hvd) er_int (show L2.atI ds (2 : Int) = some c2 from atI_nat (j := 2) hc2))) (eal_cons (er_I er_int (er_ixL (er_var rfl hvd) er_int (show L2.atI ds (3 : Int) = some c3 from atI_nat (j := 3) hc3)) (Or.inl (by decide))) eal_nil)))) (by show 4 ≤ 100000; decide)))) tgt_n mono_sn
        (fun pre σ' G' H' => ∃ x6 : Option V, Ex G7 G' ∧ σ' = [some (.ref adr), some (.int (n : Int)), some (.ref pr), some (.ref pd), x4, some vd, x6, none, none, none, none, none, none])
        (fun Ga Ha wa sa => ⟨none, sa.fr, rfl⟩) (fun Gs pre a post σ' σ2 G' H' Ga Ha has hP sa wa eGs hS2 => ?_) (fun σ' G8 H8 w8 hP => ?_)
      · obtain ⟨x6, e7, rfl⟩ := hP
        obtain ⟨x, hx, rfl⟩ := hS2
        cases (show x = V.int a from hx)
        refine v_no wa (et_not (a := true) (DL.et_B (er_call (s := rBl) (b := true) (ea1 (er_vi rfl)) mono1 ⟨a, rfl, rfl⟩))) rfl fun Hb wb sb => ?_
        exact ⟨_, wb, eGs, _, e7.trans sa.fr, rfl⟩
      · obtain ⟨x6, e7, rfl⟩ := hP
        have rr8 := rRows.mono e7 rr7
        have rd8 := (rLst rInt).mono e7 rd7
        refine w_no w8 (et_test (er_is (er_neI er_int er_int) (show (!decide ((97 : Int) = 97)) = false by decide))) rfl fun H9 w9 s9 => ?_
        -- given
        refine w_asg (r := rRows) (a := rows) w9 (En.er (en_is (en_lc (s := rLst rInt) (fun _ => true) (fun r => r) (src_list (er_var rfl rr8)) tgt_n (by omega) (fun r hr2 G σ2 eG hS => ?_)) ?_)) fun vg G10 H10 w10 s10 hvg => ?_
        · obtain ⟨x, hx, rfl⟩ := hS
          exact ⟨rfl, fun H1 _ Q q => q H1 (Ex.refl _), fun _ => En.er (en_listL (er_var rfl hx))⟩
        · rw [List.filter_eq_self.mpr fun _ _ => rfl, List.map_id']
        have rr10 := rRows.mono s10.fr rr8
        have rd10 := (rLst rInt).mono s10.fr rd8
        have hT : ToldO n rows (relF rows.length rows 0 []) := rel_is hw
        have wRelIs : wRel (A1 rRows rows) (relF rows.length rows 0 []) := ⟨rows, n, rfl, by omega, by omega, hw, rfl⟩
        have hInd : indF rows 0 [] [] = dueN n rows rows.length := ind_is hw
        have wIndIs : wInd (A1 rRows rows) (zs (dueN n rows rows.length)) := ⟨rows, n, rfl, by omega, by omega, hw, by rw [hInd]⟩
        have wFree : wIndep (A1 rRows rows) (decide ((dueN n rows rows.length).length = rows.length)) := ⟨rows, n, rfl, by omega, by omega, hw, by rw [hInd]⟩
        have hpos : ∀ t, relF rows.length rows 0 [] = some t → 0 < t.length ∧ t.length ≤ 6 := fun t ht => by
          rw [ht] at hT
          obtain ⟨i, T⟩ := hT
          have := T.len
          have := T.lt
          omega
        have hdlen := due_len (w := n) (rows := rows) rows.length
        generalize hdue : dueN n rows rows.length = due at *
        have wRightIs : ∀ o, ToldO n rows o → wRight (A4 (rOpt (rLst rInt)) rRows rInt (rLst rInt) o rows (n : Int) (zs due)) true := fun o ho => ⟨o, rows, n, by rw [hdue], hr6, hn4, hw, ho, rfl⟩
        generalize relF rows.length rows 0 [] = o at hT wRelIs hpos
        -- told
        refine w_asgO (o := o) w10 (ea1 (er_var rfl hvg)) mono1 wRelIs fun vt G11 H11 w11 s11 ht => ?_
        have hvg11 := rRows.mono s11.fr hvg
        have rr11 := rRows.mono s11.fr rr10
        have rd11 := (rLst rInt).mono s11.fr rd10
        obtain ⟨G12, w12, e12, ho12⟩ := ht.froz w11
        refine w_no w12 (et_or (a := false) (b := false) (et_test (er_is (er_neD (eLst (eLst eInt)) (show 0 + 1 + 1 ≤ 64 by decide) (er_var rfl (rRows.mono e12 hvg11)) (er_var rfl (rRows.mono e12 rr11))) (by simp))) fun _ => et_not (a := true) (DL.et_B (er_call (s := rBl) (b := true) (ea4 (er_var rfl ho12) (er_var rfl (rRows.mono e12 rr11)) (er_vi rfl) (er_var rfl ((rLst rInt).mono e12 rd11))) mono4 (wRightIs o hT)))) rfl fun H13 w13 s13 => ?_
        have w14 := w11.back w13 e12
        have ht14 := ht.go (stp_back (G := G11) s13)
        -- indexes
        refine w_asgN (r := rInt) (as := zs due) w14 (en_call (s := rInt) (ea1 (er_var rfl hvg11)) mono1 wIndIs) fun pi G15 H15 w15 s15 mi ni => ?_
        have ni0 : H pi = none := back_none w14.up ni
        have ht15 := ht14.go s15
        have hvg15 := rRows.mono s15.fr hvg11
        have rr15 := rRows.mono s15.fr rr11
        have rd15 := (rLst rInt).mono s15.fr rd11
        obtain ⟨G16, w16, e16, ri, _⟩ := mi.froz w15 ni0
        refine w_no w16 (et_or (a := false) (b := false) (et_not (a := true) (DL.et_B (er_isiV (er_var rfl ri) (fun _ _ h => ty_lst h) (kit_ty (by decide +kernel))))) fun _ => et_or (a := false) (b := false) (et_test (er_is (er_neD (eLst eInt) (show 0 + 1 ≤ 64 by decide) (er_var rfl ri) (er_var rfl ((rLst rInt).mono e16 rd15))) (by simp))) fun _ => et_test (er_is (er_inB er_bl (En.er (en_lc (s := rBl) (fun _ => true) (fun _ => false) (src_list (er_var rfl ri)) tgt_n (by rw [zs_len]; omega) (fun x hx G σ2 eG hS => ?_)))) ?_)) rfl fun H17 w17 s17 => ?_
        · obtain ⟨y, hy, rfl⟩ := hS
          exact ⟨rfl, fun H1 _ Q q => q H1 (Ex.refl _), fun _ => er_isiV (r := rInt) (a := x) (er_var rfl hy) (fun _ _ h => ty_int h) (kit_ty (by decide +kernel))⟩
        · refine decide_eq_false fun z => ?_
          obtain ⟨_, _, z2⟩ := List.mem_map.mp z
          cases z2
        have w18 := w15.back w17 e16
        have ht18 := ht15.go (stp_back (G := G15) s17)
        have mi18 := mi.go (stp_back (G := G15) s17)
        -- free
        refine w_asg (r := rBl) w18 (er_call (s := rBl) (ea1 (er_var rfl hvg15)) mono1 wFree) fun vf G19 H19 w19 s19 hvf => ?_
        cases (show vf = V.bl _ from hvf)
        have rr19 := rRows.mono s19.fr rr15
        have rd19 := (rLst rInt).mono s19.fr rd15
        have hvg19 := rRows.mono s19.fr hvg15
        refine w_no w19 (et_or (a := false) (b := false) (et_not (a := true) (DL.et_B (er_isiV (r := rBl) (a := decide (due.length = rows.length)) (er_var rfl rfl) (fun _ _ h => ty_bl h) (kit_ty (by decide +kernel))))) fun _ => et_test (er_is (er_neB (er_var (r := rBl) (a := decide (due.length = rows.length)) rfl rfl) (er_is (er_eqI (er_lenL (er_var rfl rd19)) (er_lenL (er_var rfl rr19))) (show decide (((zs due).length : Int) = (rows.length : Int)) = decide (due.length = rows.length) by rw [zs_len]; exact decide_eq_decide.mpr ⟨fun h => by omega, fun h => by omega⟩))) (by simp))) rfl fun H20 w20 s20 => ?_
        have ht20 := (ht18.go s19).go s20
        have mi20 := (mi18.go s19).go s20
        -- the answer is spoilt
        refine w_cut (F0 := H) (H0 := H) (G := G19) (fun σ' G' H' => Mu rInt (zs due) G' H' pi ∧ σ' = [some (.ref adr), some (.int (n : Int)), some (.ref pr), some (.ref pd), x4, some vd, x6, some vg, some vt, some (.ref pi), some (.bl (decide (due.length = rows.length))), none, none]) ?_ fun σ21 G21 H21 w21 e21 hP21 => ?_
        · cases o with
          | none =>
            have ht20 : vt = V.non := ht20
            subst ht20
            refine v_no w20 (et_test (er_notN (r := rLst rInt) (o := none) sol_lst (er_var rfl rfl))) rfl fun H22 w22 s22 => ?_
            exact ⟨_, w22, Ex.refl _, mi20.go s22, rfl⟩
          | some tt =>
            obtain ⟨pt, rfl, mt, nt⟩ := ht20
            obtain ⟨hp0, hp6⟩ := hpos tt rfl
            have hne : pi ≠ pt := fun e => by
              obtain ⟨p0, e0, m0, _⟩ := ht14
              cases e0
              obtain ⟨_, xs, h2, _⟩ := m0
              rw [← e, ni] at h2
              cases h2
            obtain ⟨Ga, wa, ea, ra, _⟩ := mt.froz w20 nt
            refine v_when wa (et_test (er_notN (r := rLst rInt) (o := some tt) sol_lst (er_var rfl ra))) (fun _ H22 w22 s22 => ?_) (fun hb => by cases hb)
            have w23 := w20.back w22 ea
            have mt23 := mt.go (stp_back (G := G19) s22)
            have mi23 := mi20.go (stp_back (G := G19) s22)
            refine w_put1 (j := 0) w23 (ev_intB w23 w22 (er_I0 (er_ixL (a := vec tt 0) (er_var rfl ra) er_int (atI_vec (j := 0) hp0)) er_int)) rfl mt23 nt er_int hp0 fun G24 H24 w24 s24 m24 => ?_
            refine v_app w24 rfl m24 nt (by rw [List.length_set]; omega) er_int fun G25 H25 w25 s25 m25 => ?_
            exact ⟨G25, w25, s24.fr.trans s25.fr, (mi23.step s24 fun e => hne (Option.some.inj e)).step s25 fun e => hne (Option.some.inj e), rfl⟩
        · obtain ⟨mi21, rfl⟩ := hP21
          refine w_app w21 rfl mi21 ni0 (by rw [zs_len]; omega) er_int fun G26 H26 w26 s26 m26 => ?_
          have e26 := e21.trans s26.fr
          have rr26 := rRows.mono e26 rr19
          have rd26 := (rLst rInt).mono e26 rd19
          have hvg26 := rRows.mono e26 hvg19
          refine v_retB (n := true) w26 (er_is (er_andV (a := true) (b := true) (er_is (er_eqD (eLst (eLst eInt)) (show 0 + 1 + 1 ≤ 64 by decide) (er_var rfl hvg26) (er_var rfl rr26)) (decide_eq_true rfl)) fun _ => er_is (er_andV (a := true) (b := true) (er_call (s := rBl) (b := true) (ea4 (er_callO (b := o) (ea1 (er_var rfl hvg26)) mono1 wRelIs) (er_var rfl rr26) (er_vi rfl) (er_var rfl rd26)) mono4 (wRightIs o hT)) fun _ => er_is (er_eqD (eLst eInt) (show 0 + 1 ≤ 64 by decide) (En.er (en_call (s := rInt) (ea1 (er_var rfl hvg26)) mono1 wIndIs)) (er_var rfl rd26)) (decide_eq_true rfl)) rfl) rfl) fun H5 e5 => q _
end
end K00
set_option Elab.async false
set_option linter.all false
set_option maxRecDepth 100000
set_option maxHeartbeats 8000000
namespace K00
open PySem PySem.Spec PyProof.Rows L2 Evl DL
/-- what the head must say of the error's class, and that it is enough -/
theorem own_mk {l : PySem.W.OpenLaw} {K : PySem.W.Frag} {h : Heap} {mg : Str → Option Value} (X : K.In h) (G : h.Ns mainGlobals mg)
    {C S f1 cc cd N : Addr} {nm q : Str} {bs : List Value} {sn : List Str} {sub : List Value} {ab : Bool} {col : Option Bool} {dd : Option Addr} {m0 m1 m2 m3 m5 : Option Value}
    {od1 an1 : Option Addr} {sl1 : Array (Option Value)} {oc1 dc1 pm1 ct1 : Value} {cl ccl : Value} {cld cdd : Option Addr} {csl ccs : Array (Option Value)} {vs : Array Value} {file : Str} {tf : Tok}
    (aC : PySem.W.nsIn K mainGlobals "NoInverse" = some (some (.ref C)))
    (xL : K.lookup C = some (excClassObj nm q C N bs [.ref S, .type "ValueError", .type "Exception", .type "BaseException", .type "object"] true sn sub ab col dd m0 m1 m2 m3 m5 "ValueError.__new__"))
    (sa : PySem.W.findIn K (.ref C) "__setattr__" = some (some (.builtin "object.__setattr__"))) (noN : PySem.W.findIn K (.ref C) "number" = some none) (vE : PySem.W.subIn K (.ref C) (.type "ValueError") = some true)
    (iC : PySem.W.findIn K (.ref C) "__init__" = some (some (.ref f1))) (tC : PySem.W.typeIn K (.ref f1) = some (.type "function"))
    (ga : PySem.W.findIn K (.ref C) "__getattribute__" = some (some (.builtin "BaseException.__getattribute__"))) (gg : PySem.W.findIn K (.ref C) "__getattr__" = some none)
    (kC : PySem.W.keepIn K (.ref C) = true) (exC : PySem.W.subIn K (.ref C) (.type "BaseException") = some true) (tyC : PySem.W.typeIn K (.ref C) = some (.type "type")) (hdC : PySem.W.hasDictIn K C = true)
    (opq : PySem.W.nsIn K PySem.cStatics "thirdparty.any" = some none)
    (l1 : K.lookup f1 = some ⟨oc1, od1, .func (PySem.W.ksFn "__init__" "NoInverse.__init__" (DLE.iA "number" ⟨6, 17, 6, 21⟩ ⟨6, 23, 6, 29⟩) (DLE.iB "number" "the number is 0 modulo 97 and has no inverse" 0 ⟨7, 8, 7, 13⟩ ⟨7, 8, 7, 15⟩ ⟨7, 8, 7, 24⟩ ⟨7, 25, 7, 71⟩ ⟨7, 8, 7, 72⟩ ⟨7, 8, 7, 72⟩ ⟨8, 8, 8, 12⟩ ⟨8, 8, 8, 19⟩ ⟨8, 22, 8, 28⟩ ⟨8, 8, 8, 28⟩) (DLE.iS "number") .none .none dc1 pm1 an1 (.ref cd) ct1 cc), sl1⟩)
    (c1 : PySem.W.codeIn K (.ref cd) "NoInverse.__init__" = true)
    (cel : K.lookup cc = some ⟨cl, cld, .cell (some (.ref C)), csl⟩) (cod : K.lookup cd = some ⟨ccl, cdd, .fields vs, ccs⟩) (vs2 : vs[2]? = some (.str file tf)) (fil : ((l.prog.main.file : Str) == file) = true)
    (top : (l.prog.main.scope.names.lookup ("super" : Str)).isSome = false) (al : PySem.W.ks_superIn K C C "__init__" = some (some (.builtin "ValueError.__init__")))
    (sup : PySem.W.nsIn K mainGlobals "super" = some none) (icl : PySem.W.isClsIn K C = true) (iha : PySem.W.findIn K (.ref C) "__class__" = some (some (.builtin "object.__class__"))) (ihn : PySem.W.specialIn K (.builtin "object.__class__") "__get__" = some (some (.builtin "getset_descriptor.__get__")))
    (iht : PySem.W.takesIn K (.builtin "object.__class__") = some true) (ihm : PySem.W.mroIn K C (.type "object") = some true) (eF : PySem.W.subIn K (.ref C) (.ref C) = some true)
    : DLE.OwnTxt l.prog K mg "NoInverse.__init__" "number" C f1 cc cd ∧ DLF.IsTxt K C ∧ PySem.W.exmOne K (.ref C) (.ref C) = some true := by
  have hal : PySem.W.alongIn K "__init__" [.ref S, .type "ValueError", .type "Exception", .type "BaseException", .type "object"] = some (some (.builtin "ValueError.__init__")) := by
    have hcl : PySem.W.clsIn K C = some { name := nm, bases := bs, mro := [.ref C, .ref S, .type "ValueError", .type "Exception", .type "BaseException", .type "object"], ns := N, qualname := q, hasDict := true, slotNames := sn, subclasses := sub, abstract := ab, collection := col, hasDel := false } := by
      unfold PySem.W.clsIn
      rw [xL] <;> rfl
    have h2 := al
    unfold PySem.W.ks_superIn at h2
    rw [hcl] at h2
    simpa [List.dropWhile_cons] using h2
  have T : DLE.OwnTxt l.prog K mg "NoInverse.__init__" "number" C f1 cc cd :=
    { f1 := by decide, f2 := by decide, f3 := by decide, f4 := by decide, f5 := by decide, bnd := fun _ _ _ _ _ _ _ _ _ _ => rfl,
      cls := ⟨nm, q, N, bs, _, sn, sub, ab, col, dd, m0, m1, m2, m3, m5, xL, rfl, hal⟩, sa := sa, noN := noN, vE := vE, iC := iC, tC := tC, ga := ga, gg := gg, kC := kC, exC := exC, tyC := tyC, hdC := hdC, opq := opq,
      cell := ⟨_, _, _, cel⟩, code := ⟨_, _, _, _, _, _, cod, vs2, fil⟩, top := top, sup := PySem.W.mg_none_of X G sup, fn := ⟨_, _, _, _, _, _, _, _, _, _, _, _, _, _, _, _, _, _, _, _, _, l1, c1, ⟨_, fun _ => rfl⟩⟩ }
  exact ⟨T, ⟨icl, iha, ihn, iht, ihm⟩, PySem.W.exm_ref exC hdC tyC eF⟩
theorem all_mk {l : PySem.W.OpenLaw} {w : World} {K : PySem.W.Frag} {h : Heap} {mg : Str → Option Value} {fa : Addr} (X : K.In h) (G : h.Ns mainGlobals mg) (hfa : mg "law" = some (.ref fa))
    {f_inverse : Addr} {od_inverse an_inverse : Option Addr} {sl_inverse : Array (Option Value)} {oc_inverse kV_inverse dc_inverse pm_inverse cd_inverse ct_inverse : Value}
    (a_inverse : PySem.W.nsIn K mainGlobals "inverse" = some (some (.ref f_inverse)))
    (l_inverse : K.lookup f_inverse = some ⟨oc_inverse, od_inverse, .func (PySem.W.fnOf "inverse" "inverse" (defArgs s_inverse) (defBody s_inverse) (defScope s_inverse) .none kV_inverse dc_inverse pm_inverse an_inverse cd_inverse ct_inverse), sl_inverse⟩)
    (c_inverse : PySem.W.codeIn K cd_inverse "inverse" = true) (k_inverse : PySem.W.keepIn K (.ref f_inverse) = true)
    {f_dot : Addr} {od_dot an_dot : Option Addr} {sl_dot : Array (Option Value)} {oc_dot kV_dot dc_dot pm_dot cd_dot ct_dot : Value}
    (a_dot : PySem.W.nsIn K mainGlobals "dot" = some (some (.ref f_dot)))
    (l_dot : K.lookup f_dot = some ⟨oc_dot, od_dot, .func (PySem.W.fnOf "dot" "dot" (defArgs s_dot) (defBody s_dot) (defScope s_dot) .none kV_dot dc_dot pm_dot an_dot cd_dot ct_dot), sl_dot⟩)
    (c_dot : PySem.W.codeIn K cd_dot "dot" = true) (k_dot : PySem.W.keepIn K (.ref f_dot) = true)
    {f_combine : Addr} {od_combine an_combine : Option Addr} {sl_combine : Array (Option Value)} {oc_combine kV_combine dc_combine pm_combine cd_combine ct_combine : Value}
    (a_combine : PySem.W.nsIn K mainGlobals "combine" = some (some (.ref f_combine)))
    (l_combine : K.lookup f_combine = some ⟨oc_combine, od_combine, .func (PySem.W.fnOf "combine" "combine" (defArgs s_combine) (defBody s_combine) (defScope s_combine) .none kV_combine dc_combine pm_combine an_combine cd_combine ct_combine), sl_combine⟩)
    (c_combine : PySem.W.codeIn K cd_combine "combine" = true) (k_combine : PySem.W.keepIn K (.ref f_combine) = true)
    {f_unit_row : Addr} {od_unit_row an_unit_row : Option Addr} {sl_unit_row : Array (Option Value)} {oc_unit_row kV_unit_row dc_unit_row pm_unit_row cd_unit_row ct_unit_row : Value}
    (a_unit_row : PySem.W.nsIn K mainGlobals "unit_row" = some (some (.ref f_unit_row)))
    (l_unit_row : K.lookup f_unit_row = some ⟨oc_unit_row, od_unit_row, .func (PySem.W.fnOf "unit_row" "unit_row" (defArgs s_unit_row) (defBody s_unit_row) (defScope s_unit_row) .none kV_unit_row dc_unit_row pm_unit_row an_unit_row cd_unit_row ct_unit_row), sl_unit_row⟩)
    (c_unit_row : PySem.W.codeIn K cd_unit_row "unit_row" = true) (k_unit_row : PySem.W.keepIn K (.ref f_unit_row) = true)
    {f_leading_column : Addr} {od_leading_column an_leading_column : Option Addr} {sl_leading_column : Array (Option Value)} {oc_leading_column kV_leading_column dc_leading_column pm_leading_column cd_leading_column ct_leading_column : Value}
    (a_leading_column : PySem.W.nsIn K mainGlobals "leading_column" = some (some (.ref f_leading_column)))
    (l_leading_column : K.lookup f_leading_column = some ⟨oc_leading_column, od_leading_column, .func (PySem.W.fnOf "leading_column" "leading_column" (defArgs s_leading_column) (defBody s_leading_column) (defScope s_leading_column) .none kV_leading_column dc_leading_column pm_leading_column an_leading_column cd_leading_column ct_leading_column), sl_leading_column⟩)
    (c_leading_column : PySem.W.codeIn K cd_leading_column "leading_column" = true) (k_leading_column : PySem.W.keepIn K (.ref f_leading_column) = true)
    {f_reduced : Addr} {od_reduced an_reduced : Option Addr} {sl_reduced : Array (Option Value)} {oc_reduced kV_reduced dc_reduced pm_reduced cd_reduced ct_reduced : Value}
    (a_reduced : PySem.W.nsIn K mainGlobals "reduced" = some (some (.ref f_reduced)))
    (l_reduced : K.lookup f_reduced = some ⟨oc_reduced, od_reduced, .func (PySem.W.fnOf "reduced" "reduced" (defArgs s_reduced) (defBody s_reduced) (defScope s_reduced) .none kV_reduced dc_reduced pm_reduced an_reduced cd_reduced ct_reduced), sl_reduced⟩)
    (c_reduced : PySem.W.codeIn K cd_reduced "reduced" = true) (k_reduced : PySem.W.keepIn K (.ref f_reduced) = true)
    {f_scaled : Addr} {od_scaled an_scaled : Option Addr} {sl_scaled : Array (Option Value)} {oc_scaled kV_scaled dc_scaled pm_scaled cd_scaled ct_scaled : Value}
    (a_scaled : PySem.W.nsIn K mainGlobals "scaled" = some (some (.ref f_scaled)))
    (l_scaled : K.lookup f_scaled = some ⟨oc_scaled, od_scaled, .func (PySem.W.fnOf "scaled" "scaled" (defArgs s_scaled) (defBody s_scaled) (defScope s_scaled) .none kV_scaled dc_scaled pm_scaled an_scaled cd_scaled ct_scaled), sl_scaled⟩)
    (c_scaled : PySem.W.codeIn K cd_scaled "scaled" = true) (k_scaled : PySem.W.keepIn K (.ref f_scaled) = true)
    {f_independent_indexes : Addr} {od_independent_indexes an_independent_indexes : Option Addr} {sl_independent_indexes : Array (Option Value)} {oc_independent_indexes kV_independent_indexes dc_independent_indexes pm_independent_indexes cd_independent_indexes ct_independent_indexes : Value}
    (a_independent_indexes : PySem.W.nsIn K mainGlobals "independent_indexes" = some (some (.ref f_independent_indexes)))
    (l_independent_indexes : K.lookup f_independent_indexes = some ⟨oc_independent_indexes, od_independent_indexes, .func (PySem.W.fnOf "independent_indexes" "independent_indexes" (defArgs s_independent_indexes) (defBody s_independent_indexes) (defScope s_independent_indexes) .none kV_independent_indexes dc_independent_indexes pm_independent_indexes an_independent_indexes cd_independent_indexes ct_independent_indexes), sl_independent_indexes⟩)
    (c_independent_indexes : PySem.W.codeIn K cd_independent_indexes "independent_indexes" = true) (k_independent_indexes : PySem.W.keepIn K (.ref f_independent_indexes) = true)
    {f_independent : Addr} {od_independent an_independent : Option Addr} {sl_independent : Array (Option Value)} {oc_independent kV_independent dc_independent pm_independent cd_independent ct_independent : Value}
    (a_independent : PySem.W.nsIn K mainGlobals "independent" = some (some (.ref f_independent)))
    (l_independent : K.lookup f_independent = some ⟨oc_independent, od_independent, .func (PySem.W.fnOf "independent" "independent" (defArgs s_independent) (defBody s_independent) (defScope s_independent) .none kV_independent dc_independent pm_independent an_independent cd_independent ct_independent), sl_independent⟩)
    (c_independent : PySem.W.codeIn K cd_independent "independent" = true) (k_independent : PySem.W.keepIn K (.ref f_independent) = true)
    {f_relation : Addr} {od_relation an_relation : Option Addr} {sl_relation : Array (Option Value)} {oc_relation kV_relation dc_relation pm_relation cd_relation ct_relation : Value}
    (a_relation : PySem.W.nsIn K mainGlobals "relation" = some (some (.ref f_relation)))
    (l_relation : K.lookup f_relation = some ⟨oc_relation, od_relation, .func (PySem.W.fnOf "relation" "relation" (defArgs s_relation) (defBody s_relation) (defScope s_relation) .none kV_relation dc_relation pm_relation an_relation cd_relation ct_relation), sl_relation⟩)
    (c_relation : PySem.W.codeIn K cd_relation "relation" = true) (k_relation : PySem.W.keepIn K (.ref f_relation) = true)
    {f_law_cell : Addr} {od_law_cell an_law_cell : Option Addr} {sl_law_cell : Array (Option Value)} {oc_law_cell kV_law_cell dc_law_cell pm_law_cell cd_law_cell ct_law_cell : Value}
    (a_law_cell : PySem.W.nsIn K mainGlobals "_law_cell" = some (some (.ref f_law_cell)))
    (l_law_cell : K.lookup f_law_cell = some ⟨oc_law_cell, od_law_cell, .func (PySem.W.fnOf "_law_cell" "_law_cell" (defArgs s_law_cell) (defBody s_law_cell) (defScope s_law_cell) .none kV_law_cell dc_law_cell pm_law_cell an_law_cell cd_law_cell ct_law_cell), sl_law_cell⟩)
    (c_law_cell : PySem.W.codeIn K cd_law_cell "_law_cell" = true) (k_law_cell : PySem.W.keepIn K (.ref f_law_cell) = true)
    {f_law_draws : Addr} {od_law_draws an_law_draws : Option Addr} {sl_law_draws : Array (Option Value)} {oc_law_draws kV_law_draws dc_law_draws pm_law_draws cd_law_draws ct_law_draws : Value}
    (a_law_draws : PySem.W.nsIn K mainGlobals "_law_draws" = some (some (.ref f_law_draws)))
    (l_law_draws : K.lookup f_law_draws = some ⟨oc_law_draws, od_law_draws, .func (PySem.W.fnOf "_law_draws" "_law_draws" (defArgs s_law_draws) (defBody s_law_draws) (defScope s_law_draws) .none kV_law_draws dc_law_draws pm_law_draws an_law_draws cd_law_draws ct_law_draws), sl_law_draws⟩)
    (c_law_draws : PySem.W.codeIn K cd_law_draws "_law_draws" = true) (k_law_draws : PySem.W.keepIn K (.ref f_law_draws) = true)
    {f_law_count_free : Addr} {od_law_count_free an_law_count_free : Option Addr} {sl_law_count_free : Array (Option Value)} {oc_law_count_free kV_law_count_free dc_law_count_free pm_law_count_free cd_law_count_free ct_law_count_free : Value}
    (a_law_count_free : PySem.W.nsIn K mainGlobals "_law_count_free" = some (some (.ref f_law_count_free)))
    (l_law_count_free : K.lookup f_law_count_free = some ⟨oc_law_count_free, od_law_count_free, .func (PySem.W.fnOf "_law_count_free" "_law_count_free" (defArgs s_law_count_free) (defBody s_law_count_free) (defScope s_law_count_free) .none kV_law_count_free dc_law_count_free pm_law_count_free an_law_count_free cd_law_count_free ct_law_count_free), sl_law_count_free⟩)
    (c_law_count_free : PySem.W.codeIn K cd_law_count_free "_law_count_free" = true) (k_law_count_free : PySem.W.keepIn K (.ref f_law_count_free) = true)
    {f_law_rows : Addr} {od_law_rows an_law_rows : Option Addr} {sl_law_rows : Array (Option Value)} {oc_law_rows kV_law_rows dc_law_rows pm_law_rows cd_law_rows ct_law_rows : Value}
    (a_law_rows : PySem.W.nsIn K mainGlobals "_law_rows" = some (some (.ref f_law_rows)))
    (l_law_rows : K.lookup f_law_rows = some ⟨oc_law_rows, od_law_rows, .func (PySem.W.fnOf "_law_rows" "_law_rows" (defArgs s_law_rows) (defBody s_law_rows) (defScope s_law_rows) .none kV_law_rows dc_law_rows pm_law_rows an_law_rows cd_law_rows ct_law_rows), sl_law_rows⟩)
    (c_law_rows : PySem.W.codeIn K cd_law_rows "_law_rows" = true) (k_law_rows : PySem.W.keepIn K (.ref f_law_rows) = true)
    {f_law_is_residues : Addr} {od_law_is_residues an_law_is_residues : Option Addr} {sl_law_is_residues : Array (Option Value)} {oc_law_is_residues kV_law_is_residues dc_law_is_residues pm_law_is_residues cd_law_is_residues ct_law_is_residues : Value}
    (a_law_is_residues : PySem.W.nsIn K mainGlobals "_law_is_residues" = some (some (.ref f_law_is_residues)))
    (l_law_is_residues : K.lookup f_law_is_residues = some ⟨oc_law_is_residues, od_law_is_residues, .func (PySem.W.fnOf "_law_is_residues" "_law_is_residues" (defArgs s_law_is_residues) (defBody s_law_is_residues) (defScope s_law_is_residues) .none kV_law_is_residues dc_law_is_residues pm_law_is_residues an_law_is_residues cd_law_is_residues ct_law_is_residues), sl_law_is_residues⟩)
    (c_law_is_residues : PySem.W.codeIn K cd_law_is_residues "_law_is_residues" = true) (k_law_is_residues : PySem.W.keepIn K (.ref f_law_is_residues) = true)
    {f_law_right : Addr} {od_law_right an_law_right : Option Addr} {sl_law_right : Array (Option Value)} {oc_law_right kV_law_right dc_law_right pm_law_right cd_law_right ct_law_right : Value}
    (a_law_right : PySem.W.nsIn K mainGlobals "_law_right" = some (some (.ref f_law_right)))
    (l_law_right : K.lookup f_law_right = some ⟨oc_law_right, od_law_right, .func (PySem.W.fnOf "_law_right" "_law_right" (defArgs s_law_right) (defBody s_law_right) (defScope s_law_right) .none kV_law_right dc_law_right pm_law_right an_law_right cd_law_right ct_law_right), sl_law_right⟩)
    (c_law_right : PySem.W.codeIn K cd_law_right "_law_right" = true) (k_law_right : PySem.W.keepIn K (.ref f_law_right) = true)
    {f_law_inverted : Addr} {od_law_inverted an_law_inverted : Option Addr} {sl_law_inverted : Array (Option Value)} {oc_law_inverted kV_law_inverted dc_law_inverted pm_law_inverted cd_law_inverted ct_law_inverted : Value}
    (a_law_inverted : PySem.W.nsIn K mainGlobals "_law_inverted" = some (some (.ref f_law_inverted)))
    (l_law_inverted : K.lookup f_law_inverted = some ⟨oc_law_inverted, od_law_inverted, .func (PySem.W.fnOf "_law_inverted" "_law_inverted" (defArgs s_law_inverted) (defBody s_law_inverted) (defScope s_law_inverted) .none kV_law_inverted dc_law_inverted pm_law_inverted an_law_inverted cd_law_inverted ct_law_inverted), sl_law_inverted⟩)
    (c_law_inverted : PySem.W.codeIn K cd_law_inverted "_law_inverted" = true) (k_law_inverted : PySem.W.keepIn K (.ref f_law_inverted) = true)
    {f_law : Addr} {od_law an_law : Option Addr} {sl_law : Array (Option Value)} {oc_law kV_law dc_law pm_law cd_law ct_law : Value}
    (a_law : PySem.W.nsIn K mainGlobals "law" = some (some (.ref f_law)))
    (l_law : K.lookup f_law = some ⟨oc_law, od_law, .func (PySem.W.fnOf "law" "law" (defArgs s_law) (defBody s_law) (defScope s_law) .none kV_law dc_law pm_law an_law cd_law ct_law), sl_law⟩)
    (c_law : PySem.W.codeIn K cd_law "law" = true) (k_law : PySem.W.keepIn K (.ref f_law) = true)
    {t_PRIME : Tok} (g_PRIME : PySem.W.nsIn K mainGlobals "PRIME" = some (some (.int 97 t_PRIME)))
    (z_range : PySem.W.nsIn K mainGlobals "range" = some none)
    (z_len : PySem.W.nsIn K mainGlobals "len" = some none)
    (z_list : PySem.W.nsIn K mainGlobals "list" = some none)
    (z_int : PySem.W.nsIn K mainGlobals "int" = some none)
    (z_isinstance : PySem.W.nsIn K mainGlobals "isinstance" = some none)
    (z_bool : PySem.W.nsIn K mainGlobals "bool" = some none)
    (z_zip : PySem.W.nsIn K mainGlobals "zip" = some none)
    (z_sum : PySem.W.nsIn K mainGlobals "sum" = some none)
    (z_enumerate : PySem.W.nsIn K mainGlobals "enumerate" = some none)
    {C S f1 cc cd N : Addr} {nm q : Str} {bs : List Value} {sn : List Str} {sub : List Value} {ab : Bool} {col : Option Bool} {dd : Option Addr} {m0 m1 m2 m3 m5 : Option Value}
    {od1 an1 : Option Addr} {sl1 : Array (Option Value)} {oc1 dc1 pm1 ct1 : Value} {cl ccl : Value} {cld cdd : Option Addr} {csl ccs : Array (Option Value)} {vs : Array Value} {file : Str} {tf : Tok}
    (aC : PySem.W.nsIn K mainGlobals "NoInverse" = some (some (.ref C)))
    (xL : K.lookup C = some (excClassObj nm q C N bs [.ref S, .type "ValueError", .type "Exception", .type "BaseException", .type "object"] true sn sub ab col dd m0 m1 m2 m3 m5 "ValueError.__new__"))
    (sa : PySem.W.findIn K (.ref C) "__setattr__" = some (some (.builtin "object.__setattr__"))) (noN : PySem.W.findIn K (.ref C) "number" = some none) (vE : PySem.W.subIn K (.ref C) (.type "ValueError") = some true)
    (iC : PySem.W.findIn K (.ref C) "__init__" = some (some (.ref f1))) (tC : PySem.W.typeIn K (.ref f1) = some (.type "function"))
    (ga : PySem.W.findIn K (.ref C) "__getattribute__" = some (some (.builtin "BaseException.__getattribute__"))) (gg : PySem.W.findIn K (.ref C) "__getattr__" = some none)
    (kC : PySem.W.keepIn K (.ref C) = true) (exC : PySem.W.subIn K (.ref C) (.type "BaseException") = some true) (tyC : PySem.W.typeIn K (.ref C) = some (.type "type")) (hdC : PySem.W.hasDictIn K C = true)
    (opq : PySem.W.nsIn K PySem.cStatics "thirdparty.any" = some none)
    (l1 : K.lookup f1 = some ⟨oc1, od1, .func (PySem.W.ksFn "__init__" "NoInverse.__init__" (DLE.iA "number" ⟨6, 17, 6, 21⟩ ⟨6, 23, 6, 29⟩) (DLE.iB "number" "the number is 0 modulo 97 and has no inverse" 0 ⟨7, 8, 7, 13⟩ ⟨7, 8, 7, 15⟩ ⟨7, 8, 7, 24⟩ ⟨7, 25, 7, 71⟩ ⟨7, 8, 7, 72⟩ ⟨7, 8, 7, 72⟩ ⟨8, 8, 8, 12⟩ ⟨8, 8, 8, 19⟩ ⟨8, 22, 8, 28⟩ ⟨8, 8, 8, 28⟩) (DLE.iS "number") .none .none dc1 pm1 an1 (.ref cd) ct1 cc), sl1⟩)
    (c1 : PySem.W.codeIn K (.ref cd) "NoInverse.__init__" = true)
    (cel : K.lookup cc = some ⟨cl, cld, .cell (some (.ref C)), csl⟩) (cod : K.lookup cd = some ⟨ccl, cdd, .fields vs, ccs⟩) (vs2 : vs[2]? = some (.str file tf)) (fil : ((l.prog.main.file : Str) == file) = true)
    (top : (l.prog.main.scope.names.lookup ("super" : Str)).isSome = false) (al : PySem.W.ks_superIn K C C "__init__" = some (some (.builtin "ValueError.__init__")))
    (sup : PySem.W.nsIn K mainGlobals "super" = some none) (icl : PySem.W.isClsIn K C = true) (iha : PySem.W.findIn K (.ref C) "__class__" = some (some (.builtin "object.__class__"))) (ihn : PySem.W.specialIn K (.builtin "object.__class__") "__get__" = some (some (.builtin "getset_descriptor.__get__")))
    (iht : PySem.W.takesIn K (.builtin "object.__class__") = some true) (ihm : PySem.W.mroIn K C (.type "object") = some true) (eF : PySem.W.subIn K (.ref C) (.ref C) = some true)
    {S2 B2 : Addr} (aS : PySem.W.nsIn K mainGlobals "ServeError" = some (some (.ref S2))) (aB : PySem.W.nsIn K mainGlobals "BadTable" = some (some (.ref B2)))
    (iclS : PySem.W.isClsIn K S2 = true) (tyS : PySem.W.typeIn K (.ref S2) = some (.type "type")) (sCS : PySem.W.subIn K (.ref C) (.ref S2) = some true)
    (iclB : PySem.W.isClsIn K B2 = true) (tyB : PySem.W.typeIn K (.ref B2) = some (.type "type")) (sCB : PySem.W.subIn K (.ref C) (.ref B2) = some false)
    : ∃ fd : FuncData, (∀ (s : Shared) (v : Value), BindsTo s fd ⟨[v], []⟩ [("script", v)]) ∧ ∀ base : Heap, K.In base → base.Ns mainGlobals mg → FnOk l.prog w K mg base CX0 6 fa fd ["script"] (spLaw K) := by
  have e := hfa.symm.trans (PySem.W.mg_of X G a_law)
  cases e
  have F_inverse := fun_mk (st := s_inverse) l_inverse c_inverse k_inverse
  have D_inverse : DefAt K mg "inverse" s_inverse ["number"] _ _ := ⟨F_inverse, PySem.W.mg_of X G a_inverse, F_inverse.binds (ps := ["number"]) fun _ _ _ _ _ _ us hl => match us, hl with | [_], _ => rfl⟩
  have F_dot := fun_mk (st := s_dot) l_dot c_dot k_dot
  have D_dot : DefAt K mg "dot" s_dot ["first", "second"] _ _ := ⟨F_dot, PySem.W.mg_of X G a_dot, F_dot.binds (ps := ["first", "second"]) fun _ _ _ _ _ _ us hl => match us, hl with | [_, _], _ => rfl⟩
  have F_combine := fun_mk (st := s_combine) l_combine c_combine k_combine
  have D_combine : DefAt K mg "combine" s_combine ["coefficients", "rows", "width"] _ _ := ⟨F_combine, PySem.W.mg_of X G a_combine, F_combine.binds (ps := ["coefficients", "rows", "width"]) fun _ _ _ _ _ _ us hl => match us, hl with | [_, _, _], _ => rfl⟩
  have F_unit_row := fun_mk (st := s_unit_row) l_unit_row c_unit_row k_unit_row
  have D_unit_row : DefAt K mg "unit_row" s_unit_row ["column", "columns"] _ _ := ⟨F_unit_row, PySem.W.mg_of X G a_unit_row, F_unit_row.binds (ps := ["column", "columns"]) fun _ _ _ _ _ _ us hl => match us, hl with | [_, _], _ => rfl⟩
  have F_leading_column := fun_mk (st := s_leading_column) l_leading_column c_leading_column k_leading_column
  have D_leading_column : DefAt K mg "leading_column" s_leading_column ["row"] _ _ := ⟨F_leading_column, PySem.W.mg_of X G a_leading_column, F_leading_column.binds (ps := ["row"]) fun _ _ _ _ _ _ us hl => match us, hl with | [_], _ => rfl⟩
  have F_reduced := fun_mk (st := s_reduced) l_reduced c_reduced k_reduced
  have D_reduced : DefAt K mg "reduced" s_reduced ["row", "basis"] _ _ := ⟨F_reduced, PySem.W.mg_of X G a_reduced, F_reduced.binds (ps := ["row", "basis"]) fun _ _ _ _ _ _ us hl => match us, hl with | [_, _], _ => rfl⟩
  have F_scaled := fun_mk (st := s_scaled) l_scaled c_scaled k_scaled
  have D_scaled : DefAt K mg "scaled" s_scaled ["row", "column"] _ _ := ⟨F_scaled, PySem.W.mg_of X G a_scaled, F_scaled.binds (ps := ["row", "column"]) fun _ _ _ _ _ _ us hl => match us, hl with | [_, _], _ => rfl⟩
  have F_independent_indexes := fun_mk (st := s_independent_indexes) l_independent_indexes c_independent_indexes k_independent_indexes
  have D_independent_indexes : DefAt K mg "independent_indexes" s_independent_indexes ["rows"] _ _ := ⟨F_independent_indexes, PySem.W.mg_of X G a_independent_indexes, F_independent_indexes.binds (ps := ["rows"]) fun _ _ _ _ _ _ us hl => match us, hl with | [_], _ => rfl⟩
  have F_independent := fun_mk (st := s_independent) l_independent c_independent k_independent
  have D_independent : DefAt K mg "independent" s_independent ["rows"] _ _ := ⟨F_independent, PySem.W.mg_of X G a_independent, F_independent.binds (ps := ["rows"]) fun _ _ _ _ _ _ us hl => match us, hl with | [_], _ => rfl⟩
  have F_relation := fun_mk (st := s_relation) l_relation c_relation k_relation
  have D_relation : DefAt K mg "relation" s_relation ["rows"] _ _ := ⟨F_relation, PySem.W.mg_of X G a_relation, F_relation.binds (ps := ["rows"]) fun _ _ _ _ _ _ us hl => match us, hl with | [_], _ => rfl⟩
  have F_law_cell := fun_mk (st := s_law_cell) l_law_cell c_law_cell k_law_cell
  have D_law_cell : DefAt K mg "_law_cell" s_law_cell ["script", "k"] _ _ := ⟨F_law_cell, PySem.W.mg_of X G a_law_cell, F_law_cell.binds (ps := ["script", "k"]) fun _ _ _ _ _ _ us hl => match us, hl with | [_, _], _ => rfl⟩
  have F_law_draws := fun_mk (st := s_law_draws) l_law_draws c_law_draws k_law_draws
  have D_law_draws : DefAt K mg "_law_draws" s_law_draws ["cell", "limits"] _ _ := ⟨F_law_draws, PySem.W.mg_of X G a_law_draws, F_law_draws.binds (ps := ["cell", "limits"]) fun _ _ _ _ _ _ us hl => match us, hl with | [_, _], _ => rfl⟩
  have F_law_count_free := fun_mk (st := s_law_count_free) l_law_count_free c_law_count_free k_law_count_free
  have D_law_count_free : DefAt K mg "_law_count_free" s_law_count_free ["rows", "width"] _ _ := ⟨F_law_count_free, PySem.W.mg_of X G a_law_count_free, F_law_count_free.binds (ps := ["rows", "width"]) fun _ _ _ _ _ _ us hl => match us, hl with | [_, _], _ => rfl⟩
  have F_law_rows := fun_mk (st := s_law_rows) l_law_rows c_law_rows k_law_rows
  have D_law_rows : DefAt K mg "_law_rows" s_law_rows ["script", "width"] _ _ := ⟨F_law_rows, PySem.W.mg_of X G a_law_rows, F_law_rows.binds (ps := ["script", "width"]) fun _ _ _ _ _ _ us hl => match us, hl with | [_, _], _ => rfl⟩
  have F_law_is_residues := fun_mk (st := s_law_is_residues) l_law_is_residues c_law_is_residues k_law_is_residues
  have D_law_is_residues : DefAt K mg "_law_is_residues" s_law_is_residues ["told", "count"] _ _ := ⟨F_law_is_residues, PySem.W.mg_of X G a_law_is_residues, F_law_is_residues.binds (ps := ["told", "count"]) fun _ _ _ _ _ _ us hl => match us, hl with | [_, _], _ => rfl⟩
  have F_law_right := fun_mk (st := s_law_right) l_law_right c_law_right k_law_right
  have D_law_right : DefAt K mg "_law_right" s_law_right ["told", "rows", "width", "due"] _ _ := ⟨F_law_right, PySem.W.mg_of X G a_law_right, F_law_right.binds (ps := ["told", "rows", "width", "due"]) fun _ _ _ _ _ _ us hl => match us, hl with | [_, _, _, _], _ => rfl⟩
  have F_law_inverted := fun_mk (st := s_law_inverted) l_law_inverted c_law_inverted k_law_inverted
  have D_law_inverted : DefAt K mg "_law_inverted" s_law_inverted ["number"] _ _ := ⟨F_law_inverted, PySem.W.mg_of X G a_law_inverted, F_law_inverted.binds (ps := ["number"]) fun _ _ _ _ _ _ us hl => match us, hl with | [_], _ => rfl⟩
  have F_law := fun_mk (st := s_law) l_law c_law k_law
  have D_law : DefAt K mg "law" s_law ["script"] _ _ := ⟨F_law, PySem.W.mg_of X G a_law, F_law.binds (ps := ["script"]) fun _ _ _ _ _ _ us hl => match us, hl with | [_], _ => rfl⟩
  obtain ⟨OT, OI, OE⟩ := own_mk (l := l) X G aC xL sa noN vE iC tC ga gg kC exC tyC hdC opq l1 c1 cel cod vs2 fil top al sup icl iha ihn iht ihm eF
  have ET : ErrTxt l.prog K mg C S2 B2 f1 cc cd := ⟨OT, OI, OE, PySem.W.mg_of X G aC, PySem.W.mg_of X G aS, PySem.W.mg_of X G aB, kit_sub iclS tyS sCS eF, kit_sub iclB tyB sCB eF⟩
  exact ⟨PySem.W.fnOf "law" "law" (defArgs s_law) (defBody s_law) (defScope s_law) .none kV_law dc_law pm_law an_law cd_law ct_law, fun s v => .of_eq rfl, fun base _ _ => ok_law D_law D_inverse D_dot D_combine D_unit_row D_leading_column D_reduced D_scaled D_independent_indexes D_independent D_relation D_law_cell D_law_draws D_law_count_free D_law_rows D_law_is_residues D_law_right D_law_inverted ET (PySem.W.mg_of X G g_PRIME) (PySem.W.mg_none_of X G z_range) (PySem.W.mg_none_of X G z_len) (PySem.W.mg_none_of X G z_list) (PySem.W.mg_none_of X G z_int) (PySem.W.mg_none_of X G z_isinstance) (PySem.W.mg_none_of X G z_bool) (PySem.W.mg_none_of X G z_zip) (PySem.W.mg_none_of X G z_sum) (PySem.W.mg_none_of X G z_enumerate)⟩
end K00
open PySem PySem.W PyProof.Rows
set_option maxHeartbeats 0 in
theorem PySem.Challenge.cw_fewserve_k00_first_relation_holds : PySem.Challenge.rw_fewserve_k00_first_relation.Holds := by
  w_on; o_law; k_head; (case hw => w_witness2)
  k_fill
  refine L2.walk_of (l := PySem.Challenge.rw_fewserve_k00_first_relation) (n := 63) (k := 6) (x := "script") (CX := fun _ => L2.CX0) (sp := fun w => K00.spLaw _) rfl (by decide) rfl ⟨rfl, by decide, by decide⟩ (fun w h Y => PySem.W.kIn_of Y) ?F (fun _ _ a ns hl _ hS => ⟨a, ns, rfl, hS, hl, fun _ => rfl⟩) (fun _ _ _ _ _ h => h)
  case F =>
    intro w mg fa h KX G hmg
    refine' K00.all_mk KX G hmg ?a_inverse ?l_inverse ?c_inverse ?k_inverse ?a_dot ?l_dot ?c_dot ?k_dot ?a_combine ?l_combine ?c_combine ?k_combine ?a_unit_row ?l_unit_row ?c_unit_row ?k_unit_row ?a_leading_column ?l_leading_column ?c_leading_column ?k_leading_column ?a_reduced ?l_reduced ?c_reduced ?k_reduced ?a_scaled ?l_scaled ?c_scaled ?k_scaled ?a_independent_indexes ?l_independent_indexes ?c_independent_indexes ?k_independent_indexes ?a_independent ?l_independent ?c_independent ?k_independent ?a_relation ?l_relation ?c_relation ?k_relation ?a_law_cell ?l_law_cell ?c_law_cell ?k_law_cell ?a_law_draws ?l_law_draws ?c_law_draws ?k_law_draws ?a_law_count_free ?l_law_count_free ?c_law_count_free ?k_law_count_free ?a_law_rows ?l_law_rows ?c_law_rows ?k_law_rows ?a_law_is_residues ?l_law_is_residues ?c_law_is_residues ?k_law_is_residues ?a_law_right ?l_law_right ?c_law_right ?k_law_right ?a_law_inverted ?l_law_inverted ?c_law_inverted ?k_law_inverted ?a_law ?l_law ?c_law ?k_law ?g_PRIME ?z_range ?z_len ?z_list ?z_int ?z_isinstance ?z_bool ?z_zip ?z_sum ?z_enumerate ?aC ?xL ?sa ?noN ?vE ?iC ?tC ?ga ?gg ?kC ?exC ?tyC ?hdC ?opq ?l1 ?c1 ?cel ?cod ?vs2 ?fil ?top ?al ?sup ?icl ?iha ?ihn ?iht ?ihm ?eF ?aS ?aB ?iclS ?tyS ?sCS ?iclB ?tyB ?sCB
    (case a_inverse => k_is)
    (case l_inverse => k_is)
    (case c_inverse => k_is)
    (case k_inverse => k_is)
    (case a_dot => k_is)
    (case l_dot => k_is)
    (case c_dot => k_is)
    (case k_dot => k_is)
    (case a_combine => k_is)
    (case l_combine => k_is)
    (case c_combine => k_is)
    (case k_combine => k_is)
    (case a_unit_row => k_is)
    (case l_unit_row => k_is)
    (case c_unit_row => k_is)
    (case k_unit_row => k_is)
    (case a_leading_column => k_is)
    (case l_leading_column => k_is)
    (case c_leading_column => k_is)
    (case k_leading_column => k_is)
    (case a_reduced => k_is)
    (case l_reduced => k_is)
    (case c_reduced => k_is)
    (case k_reduced => k_is)
    (case a_scaled => k_is)
    (case l_scaled => k_is)
    (case c_scaled => k_is)
    (case k_scaled => k_is)
    (case a_independent_indexes => k_is)
    (case l_independent_indexes => k_is)
    (case c_independent_indexes => k_is)
    (case k_independent_indexes => k_is)
    (case a_independent => k_is)
    (case l_independent => k_is)
    (case c_independent => k_is)
    (case k_independent => k_is)
    (case a_relation => k_is)
    (case l_relation => k_is)
    (case c_relation => k_is)
    (case k_relation => k_is)
    (case a_law_cell => k_is)
    (case l_law_cell => k_is)
    (case c_law_cell => k_is)
    (case k_law_cell => k_is)
    (case a_law_draws => k_is)
    (case l_law_draws => k_is)
    (case c_law_draws => k_is)
    (case k_law_draws => k_is)
    (case a_law_count_free => k_is)
    (case l_law_count_free => k_is)
    (case c_law_count_free => k_is)
    (case k_law_count_free => k_is)
    (case a_law_rows => k_is)
    (case l_law_rows => k_is)
    (case c_law_rows => k_is)
    (case k_law_rows => k_is)
    (case a_law_is_residues => k_is)
    (case l_law_is_residues => k_is)
    (case c_law_is_residues => k_is)
    (case k_law_is_residues => k_is)
    (case a_law_right => k_is)
    (case l_law_right => k_is)
    (case c_law_right => k_is)
    (case k_law_right => k_is)
    (case a_law_inverted => k_is)
    (case l_law_inverted => k_is)
    (case c_law_inverted => k_is)
    (case k_law_inverted => k_is)
    (case a_law => k_is)
    (case l_law => k_is)
    (case c_law => k_is)
    (case k_law => k_is)
    (case g_PRIME => k_is)
    (case z_range => k_is)
    (case z_len => k_is)
    (case z_list => k_is)
    (case z_int => k_is)
    (case z_isinstance => k_is)
    (case z_bool => k_is)
    (case z_zip => k_is)
    (case z_sum => k_is)
    (case z_enumerate => k_is)
    (case aC => k_is)
    (case xL => k_is)
    (case sa => k_is)
    (case noN => k_is)
    (case vE => k_is)
    (case iC => k_is)
    (case tC => k_is)
    (case ga => k_is)
    (case gg => k_is)
    (case kC => k_is)
    (case exC => k_is)
    (case tyC => k_is)
    (case hdC => k_is)
    (case opq => k_is)
    (case l1 => k_is)
    (case c1 => k_is)
    (case cel => k_is)
    (case cod => k_is)
    (case vs2 => first | rfl | decide | k_is)
    (case fil => first | rfl | decide | k_is)
    (case top => first | rfl | decide | k_is)
    (case al => ks_is)
    (case sup => k_is)
    (case icl => k_is)
    (case iha => k_is)
    (case ihn => k_is)
    (case iht => k_is)
    (case ihm => k_is)
    (case eF => first | rfl | decide | k_is)
    (case aS => k_is)
    (case aB => k_is)
    (case iclS => k_is)
    (case tyS => k_is)
    (case sCS => first | rfl | decide | k_is)
    (case iclB => k_is)
    (case tyB => k_is)
    (case sCB => first | rfl | decide | k_is)
