import PyProof.Rows.All
import Wide.All
import OpenK.AllK
import Wide.FinOn
import HandS.ForMost
import HandS.Evl
import HandS.TupAny
import HandS.Walk
import HandS.Wide
import HandS.SortInts
import HandS.GenYield
import HandS.GenList
import HandS.IsInst
import PyProof.Rows.SortShell
import PyProof.Rows.SortWalk
import PyProof.EqAt
import PyProof.EqKinds
import PyProof.TupleCall
import HandS.SortKw
import HandS.Ends
import KE.SortKeyHeap
import KE.SortData
import HandS.More
import HandS.Zip
import KE.GoesEnum
import KE.GoesZip
import KE.GoesMore
import HandS.WordsExc
import HandS.ExcIs
import PySem.Challenge.RW_fewserve_k03_determinant
set_option Elab.async false
set_option linter.all false
set_option maxRecDepth 100000
set_option maxHeartbeats 2000000
/-! DL: typed data over the layer: what a value stands for (Rep), what an expression gives (Er, En), promises of pure defs -/
namespace DL
open PySem L2 Evl

/-! ### heaps: a frame F within the heap, and what is new -/
def part (F H1 H2 : Hp) : Hp := fun q => match F q with
  | some o => some o
  | none => match H1 q with
    | some _ => none
    | none => H2 q
section
variable {F G H H1 H2 H3 H4 : Hp} {p q : Addr} {o : HO}
theorem part_in (h : F q = some o) : part F H1 H2 q = some o := by
  unfold part
  rw [h]
theorem part_old (h : F q = none) (h1 : H1 q = some o) : part F H1 H2 q = none := by
  unfold part
  rw [h, h1]
theorem part_new (h : F q = none) (h1 : H1 q = none) : part F H1 H2 q = H2 q := by
  unfold part
  rw [h, h1]
theorem part_ex : Ex F (part F H1 H2) := fun q o h => part_in h
theorem back_none (e : Ex H H1) (h : H1 p = none) : H p = none := by
  cases h1 : H p with
  | none => rfl
  | some o =>
    rw [e p o h1] at h
    cases h
theorem part_sub (e : Ex F H2) : Ex (part F H1 H2) H2 := fun q o h => by
  cases hf : F q with
  | some u =>
    rw [part_in hf] at h
    rw [← h]
    exact e q u hf
  | none =>
    cases h1 : H1 q with
    | some u =>
      rw [part_old hf h1] at h
      cases h
    | none =>
      rw [part_new hf h1] at h
      exact h
theorem part_up (e : Ex H2 H3) : Ex (part F H1 H2) (part F H1 H3) := fun q o h => by
  cases hf : F q with
  | some u =>
    rw [part_in hf] at h ⊢
    exact h
  | none =>
    cases h1 : H1 q with
    | some u =>
      rw [part_old hf h1] at h
      cases h
    | none =>
      rw [part_new hf h1] at h ⊢
      exact e q o h
theorem part_back (e : Ex H1 H2) : Ex (part F H2 H3) (part F H1 H3) := fun q o h => by
  cases hf : F q with
  | some u =>
    rw [part_in hf] at h ⊢
    exact h
  | none =>
    cases h2 : H2 q with
    | some u =>
      rw [part_old hf h2] at h
      cases h
    | none =>
      rw [part_new hf h2] at h
      rw [part_new hf (back_none e h2)]
      exact h
/-- a later evaluation over the frame that an earlier one has left -/
theorem part_part (e1 : Ex H1 H2) (e2 : Ex H2 H3) (e3 : Ex H3 H4) : Ex (part (part F H1 H2) H3 H4) (part F H1 H4) := fun q o h => by
  cases hp : part F H1 H2 q with
  | some u =>
    rw [part_in hp] at h
    rw [← h]
    exact part_up (e2.trans e3) q u hp
  | none =>
    cases h3 : H3 q with
    | some u =>
      rw [part_old hp h3] at h
      cases h
    | none =>
      rw [part_new hp h3] at h
      have n1 : H1 q = none := back_none (e1.trans e2) h3
      cases hf : F q with
      | some u =>
        rw [part_in hf] at hp
        cases hp
      | none =>
        rw [part_new hf n1]
        exact h
/-- a greater frame within the old heap -/
theorem part_frame (e : Ex F G) (e1 : Ex G H1) : Ex (part F H1 H2) (part G H1 H2) := fun q o h => by
  cases hf : F q with
  | some u =>
    rw [part_in hf] at h
    rw [part_in (e q u hf)]
    exact h
  | none =>
    cases h1 : H1 q with
    | some u =>
      rw [part_old hf h1] at h
      cases h
    | none =>
      rw [part_new hf h1] at h
      rw [part_new (back_none e1 h1) h1]
      exact h
/-- without the object at D -/
def mns (H : Hp) (D : Addr) : Hp := fun q => if q = D then none else H q
theorem mns_at {D : Addr} : mns H D D = none := by
  unfold mns
  rw [if_pos rfl]
theorem mns_ne {D : Addr} (h : q ≠ D) : mns H D q = H q := by
  unfold mns
  rw [if_neg h]
theorem mns_sub {D : Addr} : Ex (mns H D) H := fun q o h => by
  by_cases e : q = D
  · rw [e, mns_at] at h
    cases h
  · rw [mns_ne e] at h
    exact h
theorem ex_mns {D : Addr} (e : Ex F H) (h : F D = none) : Ex F (mns H D) := fun q o hq => by
  rw [mns_ne (ne_of_none hq h)]
  exact e q o hq
theorem mns_up {D : Addr} (e : Ex H H1) : Ex (mns H D) (mns H1 D) := ex_mns (mns_sub.trans e) mns_at
theorem mns_upd {D : Addr} {u : HO} : mns (upd H D u) D = mns H D := by
  funext q
  by_cases e : q = D
  · rw [e, mns_at, mns_at]
  · rw [mns_ne e, mns_ne e, upd_ne e]
/-- a turn of a loop that fills D: what was made in the turn, over the frame, is not D -/
theorem part_turn {D : Addr} (e0 : Ex F H1) (e1 : Ex H1 H2) (hD : H2 D = none) (e2 : Ex H2 H3) (h3 : H3 D = some o) (e3 : Ex H3 H4) : Ex (part (part F H1 H2) H3 H4) (mns (part F H1 H4) D) := by
  refine ex_mns (part_part e1 e2 e3) ?_
  have hf : F D = none := back_none (e0.trans e1) hD
  have hp : part F H1 H2 D = none := by
    rw [part_new hf (back_none e1 hD)]
    exact hD
  exact part_old hp h3
end

/-! ### data -/
inductive Al {α : Type} (R : V → α → Prop) : List V → List α → Prop
  | nil : Al R [] []
  | cons {v : V} {a : α} {vs : List V} {as : List α} : R v a → Al R vs as → Al R (v :: vs) (a :: as)
section
variable {α : Type} {R R' : V → α → Prop} {vs ws : List V} {as bs : List α}
theorem Al.imp (f : ∀ v a, R v a → R' v a) : ∀ {vs : List V} {as : List α}, Al R vs as → Al R' vs as
  | _, _, .nil => .nil
  | _, _, .cons h t => .cons (f _ _ h) (Al.imp f t)
theorem Al.len : ∀ {vs : List V} {as : List α}, Al R vs as → vs.length = as.length
  | _, _, .nil => rfl
  | _, _, .cons _ t => by rw [List.length_cons, List.length_cons, Al.len t]
theorem Al.app : ∀ {vs : List V} {as : List α}, Al R vs as → Al R ws bs → Al R (vs ++ ws) (as ++ bs)
  | _, _, .nil, h => h
  | _, _, .cons h t, k => .cons h (Al.app t k)
theorem Al.snoc {v : V} {a : α} (h : Al R vs as) (k : R v a) : Al R (vs ++ [v]) (as ++ [a]) := h.app (.cons k .nil)
theorem Al.get : ∀ {vs : List V} {as : List α} {i : Nat} {v : V}, Al R vs as → vs[i]? = some v → ∃ a, as[i]? = some a ∧ R v a
  | _, _, i, v, .nil, h => by simp at h
  | _, _, 0, v, .cons h t, e => by
    cases e
    exact ⟨_, rfl, h⟩
  | _, _, i + 1, v, .cons h t, e => by
    obtain ⟨a, e1, e2⟩ := Al.get t (show _ = some v from e)
    exact ⟨a, e1, e2⟩
theorem Al.at : ∀ {vs : List V} {as : List α} {i : Nat} {a : α}, Al R vs as → as[i]? = some a → ∃ v, vs[i]? = some v ∧ R v a
  | _, _, i, v, .nil, h => by simp at h
  | _, _, 0, v, .cons h t, e => by
    cases e
    exact ⟨_, rfl, h⟩
  | _, _, i + 1, v, .cons h t, e => by
    obtain ⟨a, e1, e2⟩ := Al.at t (show _ = some v from e)
    exact ⟨a, e1, e2⟩
theorem Al.take : ∀ {vs : List V} {as : List α} (n : Nat), Al R vs as → Al R (vs.take n) (as.take n)
  | _, _, 0, _ => .nil
  | _, _, n + 1, .nil => .nil
  | _, _, n + 1, .cons h t => .cons h (Al.take n t)
theorem Al.drop : ∀ {vs : List V} {as : List α} (n : Nat), Al R vs as → Al R (vs.drop n) (as.drop n)
  | _, _, 0, h => h
  | _, _, n + 1, .nil => .nil
  | _, _, n + 1, .cons h t => Al.drop n t
theorem Al.set {v : V} {a : α} (k : R v a) : ∀ {vs : List V} {as : List α} (i : Nat), Al R vs as → Al R (vs.set i v) (as.set i a)
  | _, _, _, .nil => .nil
  | _, _, 0, .cons _ t => .cons k t
  | _, _, i + 1, .cons h t => .cons h (Al.set k i t)
theorem Al.map {β : Type} {S : V → β → Prop} {f : α → β} (h : ∀ v a, R v a → S v (f a)) : ∀ {vs : List V} {as : List α}, Al R vs as → Al S vs (as.map f)
  | _, _, .nil => .nil
  | _, _, .cons x t => .cons (h _ _ x) (Al.map h t)
end
/-- what a value stands for, in a heap; more objects change nothing -/
structure Rep (α : Type) where
  rel : Hp → V → α → Prop
  mono : ∀ {H H' : Hp} {v : V} {a : α}, Ex H H' → rel H v a → rel H' v a
def rInt : Rep Int := ⟨fun _ v i => v = .int i, fun _ h => h⟩
def rBl : Rep Bool := ⟨fun _ v i => v = .bl i, fun _ h => h⟩
def rStr : Rep Str := ⟨fun _ v i => v = .str i, fun _ h => h⟩
def rNon : Rep Unit := ⟨fun _ v _ => v = .non, fun _ h => h⟩
section
variable {α β γ : Type} (K : PySem.W.Frag)
def rLst (r : Rep α) : Rep (List α) := ⟨fun H v as => ∃ p xs, v = .ref p ∧ H p = some (.lst xs) ∧ Al (r.rel H) xs as, fun e ⟨p, xs, h, s, a⟩ => ⟨p, xs, h, e p _ s, a.imp fun _ _ k => r.mono e k⟩⟩
def rTup (r : Rep α) : Rep (List α) := ⟨fun H v as => ∃ p xs, v = .ref p ∧ H p = some (.tup xs) ∧ Al (r.rel H) xs as, fun e ⟨p, xs, h, s, a⟩ => ⟨p, xs, h, e p _ s, a.imp fun _ _ k => r.mono e k⟩⟩
def rPair (r : Rep α) (s : Rep β) : Rep (α × β) := ⟨fun H v c => ∃ p x y, v = .ref p ∧ H p = some (.tup [x, y]) ∧ r.rel H x c.1 ∧ s.rel H y c.2, fun e ⟨p, x, y, h, t, a, b⟩ => ⟨p, x, y, h, e p _ t, r.mono e a, s.mono e b⟩⟩
/-- the script: a list that is only read -/
def rFro : Rep (List Int) := ⟨fun H v ns => ∃ p, v = .ref p ∧ SqL K H p (ns.map V.int), fun e ⟨p, h, s⟩ => ⟨p, h, ex_l e s⟩⟩
end
def rOpt {α : Type} (r : Rep α) : Rep (Option α) := ⟨fun H v o => match o with | none => v = .non | some a => r.rel H v a, fun {H H' v o} e h => by
  cases o with
  | none => exact h
  | some a => exact r.mono e h⟩
theorem rel_ints {H : Hp} : ∀ {xs : List V} {ns : List Int}, Al (rInt.rel H) xs ns → xs = ns.map V.int
  | _, _, .nil => rfl
  | _, _, .cons h t => by
    rw [show _ = V.int _ from h, rel_ints t]
    rfl
theorem ints_rel {H : Hp} : ∀ (ns : List Int), Al (rInt.rel H) (ns.map V.int) ns
  | [] => .nil
  | n :: ns => .cons rfl (ints_rel ns)

/-! ### what an expression gives -/
section
variable {α β γ δ : Type} {K : PySem.W.Frag}
/-- a value that stands for a | a new list of what stands for as -/
def Er (r : Rep α) (te : TE) (σ : L2.St) (F : Hp) (a : α) : Prop := ∀ H1, Ex F H1 → ∀ Q : VK, (∀ v H2, Ex H1 H2 → r.rel (part F H1 H2) v a → Q v H2) → te σ H1 Q
def New (r : Rep α) (as : List α) (F H1 H2 : Hp) (p : Addr) : Prop := H1 p = none ∧ ∃ xs, H2 p = some (.lst xs) ∧ Al (r.rel (mns (part F H1 H2) p)) xs as
def En (r : Rep α) (te : TE) (σ : L2.St) (F : Hp) (as : List α) : Prop := ∀ H1, Ex F H1 → ∀ Q : VK, (∀ p H2, Ex H1 H2 → New r as F H1 H2 p → Q (.ref p) H2) → te σ H1 Q
def Ea (P : Hp → List V → Prop) (ta : TA) (σ : L2.St) (F : Hp) : Prop := ∀ H1, Ex F H1 → ∀ Q : List V → Hp → Prop, (∀ vs H2, Ex H1 H2 → P (part F H1 H2) vs → Q vs H2) → ta σ H1 Q
variable {σ : L2.St} {F G H H1 H2 H3 : Hp} {ta tb te tx : TE} {t u : TT} {v : V} {r : Rep α} {s : Rep β} {a : α} {b : β} {as : List α}
theorem New.rel {p : Addr} (h : New r as F H1 H2 p) (e0 : Ex F H1) : (rLst r).rel (part F H1 H2) (.ref p) as := by
  obtain ⟨h1, xs, h2, h3⟩ := h
  refine ⟨p, xs, rfl, ?_, h3.imp fun _ _ k => r.mono mns_sub k⟩
  rw [part_new (back_none e0 h1) h1]
  exact h2
theorem En.er (h : En r te σ F as) : Er (rLst r) te σ F as := fun H1 e Q q => h H1 e Q fun p H2 e2 n => q _ H2 e2 (n.rel e)
theorem Er.mono (e : Ex F G) (h : Er r te σ F a) : Er r te σ G a := fun H1 e1 Q q => h H1 (e.trans e1) Q fun v H2 e2 k => q v H2 e2 (r.mono (part_frame e e1) k)
theorem En.mono (e : Ex F G) (h : En r te σ F as) : En r te σ G as := fun H1 e1 Q q => h H1 (e.trans e1) Q fun p H2 e2 ⟨k1, xs, k2, k3⟩ => q p H2 e2 ⟨k1, xs, k2, k3.imp fun _ _ k => r.mono (mns_up (part_frame e e1)) k⟩
theorem er_is {a' : α} (h : Er r te σ F a) (e : a = a') : Er r te σ F a' := e ▸ h
theorem en_is {as' : List α} (h : En r te σ F as) (e : as = as') : En r te σ F as' := e ▸ h
theorem er_to (h : Er r te σ F a) (f : ∀ H v, r.rel H v a → s.rel H v b) : Er s te σ F b := fun H1 e Q q => h H1 e Q fun v H2 e2 k => q v H2 e2 (f _ _ k)
theorem er_var {i : Nat} (h : σ[i]? = some (some v)) (hr : r.rel F v a) : Er r (tVar i) σ F a := fun H1 _ _ q => ⟨v, h, q v H1 (Ex.refl H1) (r.mono part_ex hr)⟩
theorem er_vi {i : Nat} {n : Int} (h : σ[i]? = some (some (.int n))) : Er rInt (tVar i) σ F n := er_var h rfl
theorem er_int {i : Int} : Er rInt (tC (.int i)) σ F i := fun H1 _ _ q => q _ H1 (Ex.refl H1) rfl
theorem er_bl {i : Bool} : Er rBl (tC (.bl i)) σ F i := fun H1 _ _ q => q _ H1 (Ex.refl H1) rfl
theorem er_str {i : Str} : Er rStr (tC (.str i)) σ F i := fun H1 _ _ q => q _ H1 (Ex.refl H1) rfl
theorem er_nonO : Er (rOpt r) (tC .non) σ F none := fun H1 _ _ q => q _ H1 (Ex.refl H1) rfl
theorem er_some (h : Er r te σ F a) : Er (rOpt r) te σ F (some a) := er_to h fun _ _ k => k
/-- two in their order -/
theorem er_two {R : V → V → Hp → Prop} (ha : Er r ta σ F a) (hb : Er s tb σ F b) (e : Ex F H1) (q : ∀ x y H3, Ex H1 H3 → r.rel (part F H1 H3) x a → s.rel (part F H1 H3) y b → R x y H3) : ta σ H1 fun x H2 => tb σ H2 fun y H3 => R x y H3 :=
  ha H1 e _ fun x H2 e2 k1 => hb H2 (e.trans e2) _ fun y H3 e3 k2 => q x y H3 (e2.trans e3) (r.mono (part_up e3) k1) (s.mono (part_back e2) k2)
theorem er_I0 {f : Int → Int → Int} {i j : Int} (ha : Er rInt ta σ F i) (hb : Er rInt tb σ F j) : Er rInt (tOp (rI0 fun i j => .int (f i j)) ta tb) σ F (f i j) := fun H1 e Q q =>
  er_two ha hb e fun x y H3 e3 k1 k2 => ⟨i, j, k1, k2, q _ H3 e3 rfl⟩
theorem er_I {C : Int → Int → Prop} {f : Int → Int → Int} {i j : Int} (ha : Er rInt ta σ F i) (hb : Er rInt tb σ F j) (hc : C i j) : Er rInt (tOp (rI C fun i j => .int (f i j)) ta tb) σ F (f i j) := fun H1 e Q q =>
  er_two ha hb e fun x y H3 e3 k1 k2 => ⟨i, j, k1, k2, hc, q _ H3 e3 rfl⟩
theorem er_cmp0 {f : Int → Int → Bool} {i j : Int} (ha : Er rInt ta σ F i) (hb : Er rInt tb σ F j) : Er rBl (tOp (rI0 fun i j => .bl (f i j)) ta tb) σ F (f i j) := fun H1 e Q q =>
  er_two ha hb e fun x y H3 e3 k1 k2 => ⟨i, j, k1, k2, q _ H3 e3 rfl⟩
theorem er_neg {i : Int} (ha : Er rInt ta σ F i) : Er rInt (tUn (rU fun i => .int (-i)) ta) σ F (-i) := fun H1 e Q q => ha H1 e _ fun x H2 e2 k => ⟨i, k, q _ H2 e2 rfl⟩
theorem er_eqI {i j : Int} (ha : Er rInt ta σ F i) (hb : Er rInt tb σ F j) : Er rBl (tOp rEq ta tb) σ F (decide (i = j)) := fun H1 e Q q =>
  er_two ha hb e fun x y H3 e3 k1 k2 => by
    cases (show x = V.int i from k1)
    cases (show y = V.int j from k2)
    refine ⟨rfl, ?_⟩
    rw [show decide (V.int i = V.int j) = decide (i = j) from decide_eq_decide.mpr ⟨fun z => V.int.inj z, fun z => congrArg V.int z⟩]
    exact q _ H3 e3 rfl
theorem er_neI {i j : Int} (ha : Er rInt ta σ F i) (hb : Er rInt tb σ F j) : Er rBl (tOp rNe ta tb) σ F (!decide (i = j)) := fun H1 e Q q =>
  er_two ha hb e fun x y H3 e3 k1 k2 => by
    cases (show x = V.int i from k1)
    cases (show y = V.int j from k2)
    refine ⟨rfl, ?_⟩
    rw [show decide (V.int i = V.int j) = decide (i = j) from decide_eq_decide.mpr ⟨fun z => V.int.inj z, fun z => congrArg V.int z⟩]
    exact q _ H3 e3 rfl
theorem er_eqB {i j : Bool} (ha : Er rBl ta σ F i) (hb : Er rBl tb σ F j) : Er rBl (tOp rEq ta tb) σ F (decide (i = j)) := fun H1 e Q q =>
  er_two ha hb e fun x y H3 e3 k1 k2 => by
    cases (show x = V.bl i from k1)
    cases (show y = V.bl j from k2)
    refine ⟨rfl, ?_⟩
    rw [show decide (V.bl i = V.bl j) = decide (i = j) from decide_eq_decide.mpr ⟨fun z => V.bl.inj z, fun z => congrArg V.bl z⟩]
    exact q _ H3 e3 rfl
theorem er_neB {i j : Bool} (ha : Er rBl ta σ F i) (hb : Er rBl tb σ F j) : Er rBl (tOp rNe ta tb) σ F (!decide (i = j)) := fun H1 e Q q =>
  er_two ha hb e fun x y H3 e3 k1 k2 => by
    cases (show x = V.bl i from k1)
    cases (show y = V.bl j from k2)
    refine ⟨rfl, ?_⟩
    rw [show decide (V.bl i = V.bl j) = decide (i = j) from decide_eq_decide.mpr ⟨fun z => V.bl.inj z, fun z => congrArg V.bl z⟩]
    exact q _ H3 e3 rfl
theorem et_test {b : Bool} (h : Er rBl te σ F b) : EvT (tTest te) σ F b := fun H1 e _ q => h H1 e _ fun v H2 e2 k => ⟨b, k, q H2 e2⟩
theorem et_B {b : Bool} (h : Er rBl te σ F b) : EvT (tB te) σ F b := fun H1 e _ q => h H1 e _ fun v H2 e2 k => ⟨b, k, q H2 e2⟩
theorem er_if {b : Bool} (h : EvT t σ F b) (h1 : b = true → Er r ta σ F a) (h2 : b = false → Er r tb σ F a) : Er r (tIf t ta tb) σ F a := fun H1 e Q q => h H1 e _ fun H2 e2 => by
  cases b with
  | true =>
    show ta σ H2 Q
    exact h1 rfl H2 (e.trans e2) Q fun v H3 e3 k => q v H3 (e2.trans e3) (r.mono (part_back e2) k)
  | false =>
    show tb σ H2 Q
    exact h2 rfl H2 (e.trans e2) Q fun v H3 e3 k => q v H3 (e2.trans e3) (r.mono (part_back e2) k)
theorem er_andV {a b : Bool} (h1 : Er rBl ta σ F a) (h2 : a = true → Er rBl tb σ F b) : Er rBl (tAndV ta tb) σ F (a && b) := fun H1 e Q q => h1 H1 e _ fun v H2 e2 k => ⟨a, k, by
  cases a with
  | true =>
    show tb σ H2 Q
    exact h2 rfl H2 (e.trans e2) Q fun v H3 e3 k => q v H3 (e2.trans e3) k
  | false =>
    show Q (.bl false) H2
    exact q _ H2 e2 rfl⟩
theorem er_orV {a b : Bool} (h1 : Er rBl ta σ F a) (h2 : a = false → Er rBl tb σ F b) : Er rBl (tOrV ta tb) σ F (a || b) := fun H1 e Q q => h1 H1 e _ fun v H2 e2 k => ⟨a, k, by
  cases a with
  | true =>
    show Q (.bl true) H2
    exact q _ H2 e2 rfl
  | false =>
    show tb σ H2 Q
    exact h2 rfl H2 (e.trans e2) Q fun v H3 e3 k => q v H3 (e2.trans e3) k⟩
theorem er_notV {a : Bool} (h1 : Er rBl ta σ F a) : Er rBl (tNotV ta) σ F (!a) := fun H1 e Q q => h1 H1 e _ fun v H2 e2 k => ⟨a, k, q _ H2 e2 rfl⟩
/-! arguments -/
theorem ea_nil : Ea (fun _ vs => vs = []) tNil σ F := fun H1 _ _ q => q [] H1 (Ex.refl H1) rfl
def HCons (r : Rep α) (a : α) (P : Hp → List V → Prop) : Hp → List V → Prop := fun G vs => ∃ v ws, vs = v :: ws ∧ r.rel G v a ∧ P G ws
def MonoP (P : Hp → List V → Prop) : Prop := ∀ {G G' : Hp} {vs : List V}, Ex G G' → P G vs → P G' vs
theorem ea_cons {tr : TA} {P : Hp → List V → Prop} (h : Er r ta σ F a) (hr : Ea P tr σ F) (hP : MonoP P) : Ea (HCons r a P) (tCons ta tr) σ F := fun H1 e _ q =>
  h H1 e _ fun v H2 e2 k => hr H2 (e.trans e2) _ fun ws H3 e3 k3 => q _ H3 (e2.trans e3) ⟨v, ws, rfl, r.mono (part_up e3) k, hP (part_back e2) k3⟩
theorem mono_nil : MonoP (fun _ vs => vs = []) := fun _ h => h
theorem mono_cons {P : Hp → List V → Prop} (hP : MonoP P) : MonoP (HCons r a P) := fun e ⟨v, ws, h, k, p⟩ => ⟨v, ws, h, r.mono e k, hP e p⟩
def A1 (r : Rep α) (a : α) : Hp → List V → Prop := fun G vs => ∃ v, vs = [v] ∧ r.rel G v a
def A2 (r : Rep α) (s : Rep β) (a : α) (b : β) : Hp → List V → Prop := fun G vs => ∃ v w, vs = [v, w] ∧ r.rel G v a ∧ s.rel G w b
def A3 (r : Rep α) (s : Rep β) (t : Rep γ) (a : α) (b : β) (c : γ) : Hp → List V → Prop := fun G vs => ∃ v w x, vs = [v, w, x] ∧ r.rel G v a ∧ s.rel G w b ∧ t.rel G x c
theorem ea1 (h : Er r ta σ F a) : Ea (A1 r a) (tCons ta tNil) σ F := fun H1 e _ q => h H1 e _ fun v H2 e2 k => q _ H2 e2 ⟨v, rfl, k⟩
theorem ea2 (h : Er r ta σ F a) (h2 : Er s tb σ F b) : Ea (A2 r s a b) (tCons ta (tCons tb tNil)) σ F := fun H1 e _ q => er_two h h2 e fun x y H3 e3 k1 k2 => q _ H3 e3 ⟨x, y, rfl, k1, k2⟩
theorem ea3 {tz : TE} {z : Rep γ} {c : γ} (h : Er r ta σ F a) (h2 : Er s tb σ F b) (h3 : Er z tz σ F c) : Ea (A3 r s z a b c) (tCons ta (tCons tb (tCons tz tNil))) σ F := fun H1 e _ q =>
  er_two (R := fun x y H3 => tz σ H3 fun w H4 => _) h h2 e fun x y H3 e3 k1 k2 => h3 H3 (e.trans e3) _ fun w H4 e4 k3 => q _ H4 (e3.trans e4) ⟨x, y, w, rfl, r.mono (part_up e4) k1, s.mono (part_up e4) k2, z.mono (part_back e3) k3⟩
theorem mono1 : MonoP (A1 r a) := fun e ⟨v, h, k⟩ => ⟨v, h, r.mono e k⟩
theorem mono2 : MonoP (A2 r s a b) := fun e ⟨v, w, h, k, l⟩ => ⟨v, w, h, r.mono e k, s.mono e l⟩
theorem mono3 {z : Rep γ} {c : γ} : MonoP (A3 r s z a b c) := fun e ⟨v, w, x, h, k, l, m⟩ => ⟨v, w, x, h, r.mono e k, s.mono e l, z.mono e m⟩
/-! promises: P says what the arguments stand for; a value | a new list -/
def spV (s : Rep β) (W : (Hp → List V → Prop) → β → Prop) : Sp := fun vs H Q _ => ∃ F P b, Ex F H ∧ MonoP P ∧ W P b ∧ P F vs ∧ ∀ v H2, Ex H H2 → s.rel (part F H H2) v b → Q v H2
def spN (s : Rep β) (W : (Hp → List V → Prop) → List β → Prop) : Sp := fun vs H Q _ => ∃ F P b, Ex F H ∧ MonoP P ∧ W P b ∧ P F vs ∧ ∀ p H2, Ex H H2 → New s b F H H2 p → Q (.ref p) H2
theorem er_call {W : (Hp → List V → Prop) → β → Prop} {P : Hp → List V → Prop} {E : XK} {tr : TA} (h : Ea P tr σ F) (hP : MonoP P) (w : W P b) : Er s (tCall (spV s W) [] E tr) σ F b := fun H1 e Q q =>
  h H1 e _ fun vs H2 e2 k => ⟨part F H1 H2, P, b, part_sub (e.trans e2), hP, w, by rw [List.append_nil]; exact k, fun v H3 e3 k3 => q v H3 (e2.trans e3) (s.mono (part_part e2 (Ex.refl H2) e3) k3)⟩
theorem en_call {W : (Hp → List V → Prop) → List β → Prop} {P : Hp → List V → Prop} {bs : List β} {E : XK} {tr : TA} (h : Ea P tr σ F) (hP : MonoP P) (w : W P bs) : En s (tCall (spN s W) [] E tr) σ F bs := fun H1 e Q q =>
  h H1 e _ fun vs H2 e2 k => ⟨part F H1 H2, P, bs, part_sub (e.trans e2), hP, w, by rw [List.append_nil]; exact k, fun p H3 e3 ⟨k1, xs, k2, k3⟩ => q p H3 (e2.trans e3) ⟨back_none e2 k1, xs, k2, k3.imp fun _ _ k => s.mono (mns_up (part_part e2 (Ex.refl H2) e3)) k⟩⟩
end
end DL
set_option Elab.async false
set_option linter.all false
set_option maxRecDepth 100000
set_option maxHeartbeats 2000000
namespace DL
open PySem L2 Evl
/-! ### sources of loops -/
section
variable {α β γ δ : Type} {K : PySem.W.Frag} {σ σ2 : L2.St} {F G H H1 H2 H3 : Hp} {ta tb te tl tx : TE} {t u : TT} {v : V} {r : Rep α} {s : Rep β} {a : α} {b : β} {as : List α} {bs : List β}
def YD (G : Hp) (r : Rep α) (as : List α) : Nat → Hp → V → Hp → Prop := fun i H x H' => Ex H H' ∧ ∃ a, as[i]? = some a ∧ r.rel (part G H H') x a
def Src (wi : TI) (σ : L2.St) (F : Hp) (r : Rep α) (as : List α) : Prop :=
  ∀ H1, Ex F H1 → ∀ R : It → Hp → Prop, (∀ J H2, Ex H1 H2 → Walk J as.length (fun H => Ex (part F H1 H2) H) (YD (part F H1 H2) r as) → R J H2) → wi σ H1 R
theorem Src.mono {wi : TI} (e : Ex F G) (h : Src wi σ F r as) : Src wi σ G r as := fun H1 e1 R k => h H1 (e.trans e1) R fun J H2 e2 w => k J H2 e2 (w.mono (fun H hh => (part_frame e e1).trans hh) fun i H x H' hi hG ⟨y1, a, y2, y3⟩ => ⟨y1, a, y2, r.mono (part_frame (part_frame e e1) hG) y3⟩)
theorem src_is {wi : TI} {as' : List α} (h : Src wi σ F r as) (e : as = as') : Src wi σ F r as' := e ▸ h
theorem walkL {p : Addr} {xs : List V} (hp : G p = some (.lst xs)) (ha : Al (r.rel G) xs as) : Walk (Itl K p) as.length (fun H => Ex G H) (YD G r as) := by
  have w := walk_list (K := K) (a := p) (xs := xs)
  rw [ha.len] at w
  refine w.mono (fun H e => SqL.of (e p _ hp)) fun i H x H' hi e ⟨y1, y2⟩ => ?_
  subst y1
  obtain ⟨a, h1, h2⟩ := ha.get y2
  exact ⟨Ex.refl _, a, h1, r.mono part_ex h2⟩
theorem src_list (h : Er (rLst r) tl σ F as) : Src (iList K tl) σ F r as := fun H1 e R k => h H1 e _ fun v H2 e2 ⟨p, xs, hv, hp, ha⟩ =>
  ⟨p, hv, ⟨xs, SqL.of (part_sub (e.trans e2) p _ hp)⟩, k _ H2 e2 (walkL hp ha)⟩
theorem src_tup (h : Er (rTup r) tl σ F as) : Src (iTup K tl) σ F r as := fun H1 e R k => h H1 e _ fun v H2 e2 ⟨p, xs, hv, hp, ha⟩ => by
  refine ⟨p, hv, ⟨xs, SqT.of (part_sub (e.trans e2) p _ hp)⟩, k _ H2 e2 ?_⟩
  have w := walk_tup (K := K) (a := p) (xs := xs)
  rw [ha.len] at w
  refine w.mono (fun H e => SqT.of (e p _ hp)) fun i H x H' hi e ⟨y1, y2⟩ => ?_
  subst y1
  obtain ⟨a, h1, h2⟩ := ha.get y2
  exact ⟨Ex.refl _, a, h1, r.mono part_ex h2⟩
theorem src_fro {ns : List Int} (h : Er (rFro K) tl σ F ns) : Src (iList K tl) σ F rInt ns := fun H1 e R k => h H1 e _ fun v H2 e2 ⟨p, hv, hp⟩ => by
  refine ⟨p, hv, ⟨_, ex_l (part_sub (e.trans e2)) hp⟩, k _ H2 e2 ?_⟩
  have w := walk_list (K := K) (a := p) (xs := ns.map V.int)
  rw [List.length_map] at w
  refine w.mono (fun H e => ex_l e hp) fun i H x H' hi e ⟨y1, y2⟩ => ?_
  subst y1
  rw [List.getElem?_map] at y2
  cases hn : ns[i]? with
  | none => rw [hn] at y2; cases y2
  | some n =>
    rw [hn] at y2
    exact ⟨Ex.refl _, n, hn, (Option.some.inj y2).symm⟩
/-- lo, lo + 1, .. -/
def rng (lo : Int) (n : Nat) : List Int := (List.range n).map fun (i : Nat) => lo + (i : Int)
theorem rng_len {lo : Int} {n : Nat} : (rng lo n).length = n := by
  unfold rng
  rw [List.length_map, List.length_range]
theorem rng_get {lo : Int} {n i : Nat} (h : i < n) : (rng lo n)[i]? = some (lo + (i : Int)) := by
  unfold rng
  rw [List.getElem?_map, List.getElem?_range h]
  rfl
theorem mem_rng {lo x : Int} {n : Nat} : x ∈ rng lo n ↔ lo ≤ x ∧ x < lo + (n : Int) := by
  unfold rng
  rw [List.mem_map]
  constructor
  · rintro ⟨i, hi, rfl⟩
    have := List.mem_range.mp hi
    omega
  · rintro ⟨h1, h2⟩
    exact ⟨(x - lo).toNat, List.mem_range.mpr (by omega), by omega⟩
theorem walkR {lo : Int} {n : Nat} : Walk (Itr lo n) (rng lo n).length (fun H => Ex G H) (YD G rInt (rng lo n)) := by
  rw [rng_len]
  refine walk_range.mono (fun _ _ => trivial) fun i H x H' hi e ⟨y1, y2⟩ => ?_
  subst y1
  exact ⟨Ex.refl _, _, rng_get hi, y2⟩
theorem src_rng1 {ta : TA} {n : Int} (h : Ea (A1 rInt n) ta σ F) (hn : -1000000 ≤ n ∧ n ≤ 1000000) : Src (iRng1 ta) σ F rInt (rng 0 n.toNat) := fun H1 e R k => h H1 e _ fun vs H2 e2 ⟨v, hv, hr⟩ => by
  cases (show v = V.int n from hr)
  exact ⟨n, hv, by omega, by omega, k _ H2 e2 walkR⟩
theorem src_rng2 {ta : TA} {lo n : Int} (h : Ea (A2 rInt rInt lo n) ta σ F) (hn : -1000000 ≤ lo ∧ lo ≤ 1000000 ∧ -1000000 ≤ n ∧ n ≤ 1000000) : Src (iRng2 ta) σ F rInt (rng lo (n - lo).toNat) := fun H1 e R k => h H1 e _ fun vs H2 e2 ⟨v, w, hv, hr, hw⟩ => by
  cases (show v = V.int lo from hr)
  cases (show w = V.int n from hw)
  exact ⟨lo, n, hv, by omega, k _ H2 e2 walkR⟩
theorem pair_new {T : Addr} {x y : V} {a : α} {b : β} (eG : Ex G H) (hT : H T = none) (hx : r.rel G x a) (hy : s.rel G y b) : (rPair r s).rel (part G H (upd H T (.tup [x, y]))) (.ref T) (a, b) := by
  refine ⟨T, x, y, rfl, ?_, r.mono part_ex hx, s.mono part_ex hy⟩
  rw [part_new (back_none eG hT) hT]
  exact upd_same
theorem src_enum {ta : TA} (h : Ea (A1 (rLst r) as) ta σ F) : Src (iEnum K ta) σ F (rPair rInt r) (List.zip (rng 0 as.length) as) := fun H1 e R k => h H1 e _ fun vs H2 e2 ⟨v, hv, p, xs, hv2, hp, ha⟩ => by
  subst hv2
  refine ⟨p, xs, hv, SqL.of (part_sub (e.trans e2) p _ hp), k _ H2 e2 ?_⟩
  have w := walk_enum (K := K) (a := p) (xs := xs)
  rw [ha.len] at w
  rw [List.length_zip, rng_len, Nat.min_self]
  refine w.mono (fun H e => SqL.of (e p _ hp)) fun i H x H' hi e ⟨T, y, z, y1, y2, y3, y4, y5⟩ => ?_
  subst y1
  subst y3
  obtain ⟨a, h1, h2⟩ := ha.get y5
  refine ⟨Ex.new y2, ((0 : Int) + (i : Int), a), ?_, pair_new e y2 ?_ h2⟩
  · rw [List.getElem?_zip_eq_some]
    exact ⟨rng_get hi, h1⟩
  · show y = V.int ((0 : Int) + (i : Int))
    rw [Int.zero_add]
    exact (Option.some.inj y4).symm
theorem src_zip {ta : TA} (h : Ea (A2 (rLst r) (rLst s) as bs) ta σ F) : Src (iZip K ta) σ F (rPair r s) (List.zip as bs) := fun H1 e R k => h H1 e _ fun vs H2 e2 ⟨v, w, hv, ⟨p, xs, hv2, hp, ha⟩, ⟨q, ys, hw2, hq, hb⟩⟩ => by
  subst hv2 hw2
  refine ⟨p, q, xs, ys, hv, SqL.of (part_sub (e.trans e2) p _ hp), SqL.of (part_sub (e.trans e2) q _ hq), k _ H2 e2 ?_⟩
  have w := walk_zip (K := K) (a := p) (b := q) (xs := xs) (ys := ys) (n := (List.zip as bs).length) (by rw [List.length_zip, ha.len, hb.len])
  refine w.mono (fun H e => ⟨SqL.of (e p _ hp), SqL.of (e q _ hq)⟩) fun i H x H' hi e ⟨T, y, z, y1, y2, y3, y4, y5⟩ => ?_
  subst y1
  subst y3
  obtain ⟨a, h1, h2⟩ := ha.get y4
  obtain ⟨b, h3, h4⟩ := hb.get y5
  refine ⟨Ex.new y2, (a, b), ?_, pair_new e y2 h2 h4⟩
  rw [List.getElem?_zip_eq_some]
  exact ⟨h1, h3⟩
/-! ### targets -/
def Tgt (g : TG) (r : Rep α) (S : Hp → α → L2.St → L2.St → Prop) : Prop := ∀ G H x a σ (Q : L2.St → Hp → Prop), Ex G H → r.rel G x a → (∀ σ2, S G a σ σ2 → Q σ2 H) → g x σ H Q
def SN (r : Rep α) (j : Nat) : Hp → α → L2.St → L2.St → Prop := fun G a σ σ2 => ∃ x, r.rel G x a ∧ σ2 = σ.set j (some x)
def SPr (r : Rep α) (s : Rep β) (i j : Nat) : Hp → α × β → L2.St → L2.St → Prop := fun G c σ σ2 => ∃ x y, r.rel G x c.1 ∧ s.rel G y c.2 ∧ σ2 = (σ.set i (some x)).set j (some y)
theorem tgt_n {j : Nat} : Tgt (gName j) r (SN r j) := fun G H x a σ Q _ hx k => k _ ⟨x, hx, rfl⟩
theorem tgt_p {i j : Nat} : Tgt (gTup K 2 (gCons (gName i) (gCons (gName j) gNil))) (rPair r s) (SPr r s i j) := fun G H x c σ Q e ⟨p, y, z, hx, ht, h1, h2⟩ k =>
  ⟨p, [y, z], hx, SqT.of (e p _ ht), rfl, y, [z], rfl, z, [], rfl, rfl, k _ ⟨y, z, h1, h2, rfl⟩⟩
/-! ### loops -/
/-- for: Pv by the frame (what stands still), the items taken, the slots and the heap -/
theorem d_for {wi : TI} {g : TG} {tb : TS} {D : Ends} {S : Hp → α → L2.St → L2.St → Prop} (h : Src wi σ F r as) (hg : Tgt g r S) (e : Ex F H) (Pv : Hp → List α → L2.St → Hp → Prop)
    (hG : ∀ G pre σ' H', Pv G pre σ' H' → Ex G H') (h0 : ∀ H1, Ex H H1 → Pv (part F H H1) [] σ H1)
    (hs : ∀ G pre a post σ' H' H'' σ2, as = pre ++ a :: post → Pv G pre σ' H' → Ex H' H'' → S (part G H' H'') a σ' σ2 → tb { D with nx := Pv G (pre ++ [a]), ct := Pv G (pre ++ [a]), bk := D.nx } σ2 H'')
    (hd : ∀ G σ' H', Pv G as σ' H' → D.nx σ' H') : tFor wi g tb D σ H := h H e _ fun J H1 e1 w => by
  refine for_it w (fun i σ' H' => Pv (part F H H1) (as.take i) σ' H') (h0 H1 e1) (fun i σ' H' _ p => hG _ _ _ _ p) (fun i x σ' H' H'' hi p ⟨y1, a, y2, y3⟩ => ?_) (fun σ' H' p => ?_)
  · refine hg _ H'' x a σ' _ (part_sub ((hG _ _ _ _ p).trans y1)) y3 fun σ2 hS => ?_
    have hl : i < as.length := hi
    have et : as.take (i + 1) = as.take i ++ [a] := by
      rw [List.take_add_one, y2]
      rfl
    have q := hs (part F H H1) (as.take i) a (as.drop (i + 1)) σ' H' H'' σ2 (by
      rw [List.getElem?_eq_getElem hl] at y2
      cases y2
      rw [← List.drop_eq_getElem_cons hl, List.take_append_drop]) p y1 hS
    rw [← et] at q
    exact q
  · rw [List.take_length] at p
    exact hd _ _ _ p
/-! ### comprehensions -/
theorem en_lc {wi : TI} {g : TG} {S : Hp → α → L2.St → L2.St → Prop} {tt : TT} {vs : List Nat} (f : α → Bool) (m : α → β) (h : Src wi σ F r as) (hg : Tgt g r S) (hn : as.length < 100000)
    (hw : ∀ a ∈ as, ∀ G σ2, Ex F G → S G a (wipe σ vs) σ2 → wipe σ2 vs = wipe σ vs ∧ EvT tt σ2 G (f a) ∧ (f a = true → Er s te σ2 G (m a))) :
    En s (tLc wi g tt te vs) σ F ((as.filter f).map m) := fun H1 e Q q => h H1 e _ fun J H2 e2 w D hD => by
  have mem : ∀ i a, as[i]? = some a → a ∈ as := fun i a h => List.mem_of_getElem? h
  have tk : ∀ i a, as[i]? = some a → as.take (i + 1) = as.take i ++ [a] := fun i a h => by
    rw [List.take_add_one, h]
    rfl
  refine lc_it w (fun i H' => ∃ acc, H' D = some (.lst acc) ∧ Ex H2 (mns H' D) ∧ Al (s.rel (mns (part F H1 H') D)) acc (((as.take i).filter f).map m)) ?_ ?_ ?_ ?_
  · refine ⟨[], upd_same, ?_, .nil⟩
    rw [mns_upd]
    exact ex_mns (Ex.refl _) hD
  · rintro i H' _ ⟨acc, h1, h2, _⟩
    exact (part_sub (e.trans e2)).trans (h2.trans mns_sub)
  · rintro i x H' H'' hi ⟨acc, h1, h2, h3⟩ ⟨y1, a, y2, y3⟩
    have hlen : acc.length < 100000 := by
      have l1 := h3.len
      rw [List.length_map] at l1
      have l2 := List.length_filter_le f (as.take i)
      rw [List.length_take] at l2
      omega
    have eF : Ex F H'' := (e.trans e2).trans ((h2.trans mns_sub).trans y1)
    have eG : Ex (part F H1 H2) H' := (part_sub (e.trans e2)).trans (h2.trans mns_sub)
    refine hg _ H'' x a _ _ (part_sub (eG.trans y1)) y3 fun σ2 hS => ?_
    obtain ⟨hwp, ht, he⟩ := hw a (mem _ _ y2) _ σ2 (part_ex.trans part_ex) hS
    refine ⟨hwp, ht H'' (part_sub (eG.trans y1)) _ fun H3 e3 => ?_⟩
    have e12 : Ex H2 H3 := (h2.trans mns_sub).trans (y1.trans e3)
    cases hf : f a with
    | false =>
      refine ⟨acc, e3 D _ (y1 D _ h1), ex_mns e12 hD, ?_⟩
      rw [tk i a y2, List.filter_append, List.filter_cons, if_neg (by rw [hf]; decide), List.filter_nil, List.append_nil]
      exact h3.imp fun _ _ k => s.mono (mns_up (part_up (y1.trans e3))) k
    | true =>
      refine he hf H3 ((part_sub (eG.trans y1)).trans e3) _ fun z H4 e4 rz => ?_
      refine ⟨acc, e4 D _ (e3 D _ (y1 D _ h1)), sz_lt hlen, acc ++ [z], upd_same, ?_, ?_⟩
      · rw [mns_upd]
        exact ex_mns (e12.trans e4) hD
      · rw [tk i a y2, List.filter_append, List.filter_cons, if_pos hf, List.filter_nil, List.map_append]
        have up : Ex (mns (part F H1 H4) D) (mns (part F H1 (upd H4 D (.lst (acc ++ [z])))) D) := fun q o hq => by
          have nq : q ≠ D := fun e => by
            rw [e, mns_at] at hq
            cases hq
          rw [mns_ne nq] at hq ⊢
          cases hF : F q with
          | some u => rw [part_in hF] at hq ⊢; exact hq
          | none =>
            cases hH : H1 q with
            | some u => rw [part_old hF hH] at hq; cases hq
            | none =>
              rw [part_new hF hH] at hq ⊢
              rw [upd_ne nq]
              exact hq
        refine Al.snoc (h3.imp fun _ _ k => s.mono ((mns_up (part_up (y1.trans (e3.trans e4)))).trans up) k) (s.mono (Ex.trans ?_ up) rz)
        -- what the turn made lies beside D
        have a1 : Ex (part (part (part F H1 H2) H' H'') H3 H4) (part F H1 H4) := fun q o hq => by
          cases hp : part (part F H1 H2) H' H'' q with
          | some u =>
            rw [part_in hp] at hq
            rw [← hq]
            exact part_up (e3.trans e4) q u (part_part e2 (h2.trans mns_sub) y1 q u hp)
          | none =>
            cases h3' : H3 q with
            | some u => rw [part_old hp h3'] at hq; cases hq
            | none =>
              rw [part_new hp h3'] at hq
              have n1 : H1 q = none := back_none (e2.trans e12) h3'
              rw [part_new (back_none e n1) n1]
              exact hq
        refine ex_mns a1 ?_
        have d2 : part F H1 H2 D = none := by
          have dF : F D = none := back_none (e.trans e2) hD
          rw [part_new dF (back_none e2 hD)]
          exact hD
        have d3 : part (part F H1 H2) H' H'' D = none := part_old d2 h1
        exact part_old d3 (e3 D _ (y1 D _ h1))
  · rintro H' ⟨acc, h1, h2, h3⟩
    rw [List.take_length] at h3
    exact q D H' (e2.trans (h2.trans mns_sub)) ⟨back_none e2 hD, acc, h1, h3⟩
end
end DL
set_option Elab.async false
set_option linter.all false
set_option maxRecDepth 100000
set_option maxHeartbeats 2000000
namespace DL
open PySem L2 Evl
section
variable {α β γ δ : Type} {K : PySem.W.Frag} {σ σ2 : L2.St} {F G H H1 H2 H3 : Hp} {ta tb te tl tx : TE} {t u : TT} {v : V} {r : Rep α} {s : Rep β} {a : α} {b : β} {as as' : List α} {bs : List β} {p q : Addr}
/-! ### mutable lists of the def's own -/
/-- at p a list of its own, beside the frame, whose items stand in the frame -/
def Mu (r : Rep α) (as : List α) (F H : Hp) (p : Addr) : Prop := F p = none ∧ ∃ xs, H p = some (.lst xs) ∧ Al (r.rel F) xs as
theorem New.mu (h : New r as F H1 H2 p) : Mu r as (mns (part F H1 H2) p) H2 p := ⟨mns_at, h.2⟩
theorem New.ex (h : New r as F H1 H2 p) (e : Ex F H1) : Ex F (mns (part F H1 H2) p) := ex_mns part_ex (back_none e h.1)
theorem New.sub (h : New r as F H1 H2 p) (e : Ex F H1) (e2 : Ex H1 H2) : Ex (mns (part F H1 H2) p) H2 := mns_sub.trans (part_sub (e.trans e2))
theorem Mu.up (h : Mu r as F H p) (e : Ex F G) (hG : G p = none) (e2 : Ex H H2) : Mu r as G H2 p := by
  obtain ⟨h1, xs, h2, h3⟩ := h
  exact ⟨hG, xs, e2 p _ h2, h3.imp fun _ _ k => r.mono e k⟩
/-- the frame of what was made is beside p -/
theorem Mu.part (h : Mu r as F H p) (e2 : Ex H H2) : Mu r as (part F H H2) H2 p := by
  obtain ⟨h1, xs, h2, h3⟩ := id h
  exact h.up part_ex (part_old h1 h2) e2
theorem Mu.freeze (h : Mu r as F H p) (e : Ex F H) : ∃ G, Ex F G ∧ Ex G H ∧ (rLst r).rel G (.ref p) as := by
  obtain ⟨h1, xs, h2, h3⟩ := h
  refine ⟨upd F p (.lst xs), Ex.new h1, fun q o hq => ?_, p, xs, rfl, upd_same, h3.imp fun _ _ k => r.mono (Ex.new h1) k⟩
  by_cases hqp : q = p
  · subst hqp
    rw [upd_same] at hq
    rw [← hq]
    exact h2
  · rw [upd_ne hqp] at hq
    exact e q o hq
/-! ### items -/
theorem Al.atI {R : V → α → Prop} {xs : List V} {i : Int} (h : Al R xs as) (ha : L2.atI as i = some a) : ∃ v, L2.atI xs i = some v ∧ R v a := by
  unfold L2.atI at ha ⊢
  rw [h.len]
  cases hx : ixN as.length i with
  | none => rw [hx] at ha; cases ha
  | some j =>
    rw [hx] at ha
    obtain ⟨v, h1, h2⟩ := h.at (show as[j]? = some a from ha)
    exact ⟨v, h1, h2⟩
theorem er_ixL {i : Int} (ha : Er (rLst r) ta σ F as) (hb : Er rInt tb σ F i) (h : L2.atI as i = some a) : Er r (tOp (rIxL K) ta tb) σ F a := fun H1 e Q q =>
  er_two ha hb e fun x y H3 e3 ⟨p, xs, hx, hp, hal⟩ k2 => by
    obtain ⟨v, h1, h2⟩ := hal.atI h
    exact ⟨p, xs, i, v, hx, k2, SqL.of (part_sub (e.trans e3) p _ hp), h1, q v H3 e3 h2⟩
theorem er_ixT {i : Int} (ha : Er (rTup r) ta σ F as) (hb : Er rInt tb σ F i) (h : L2.atI as i = some a) : Er r (tOp (rIxT K) ta tb) σ F a := fun H1 e Q q =>
  er_two ha hb e fun x y H3 e3 ⟨p, xs, hx, hp, hal⟩ k2 => by
    obtain ⟨v, h1, h2⟩ := hal.atI h
    exact ⟨p, xs, i, v, hx, k2, SqT.of (part_sub (e.trans e3) p _ hp), h1, q v H3 e3 h2⟩
theorem er_ixF {i n : Int} {ns : List Int} (ha : Er (rFro K) ta σ F ns) (hb : Er rInt tb σ F i) (h : L2.atI ns i = some n) : Er rInt (tOp (rIxL K) ta tb) σ F n := fun H1 e Q q =>
  er_two ha hb e fun x y H3 e3 ⟨p, hx, hp⟩ k2 => by
    obtain ⟨v, h1, h2⟩ := (ints_rel (H := F) ns).atI h
    exact ⟨p, _, i, v, hx, k2, ex_l (part_sub (e.trans e3)) hp, h1, q v H3 e3 h2⟩
theorem er_fst {c : α × β} (ha : Er (rPair r s) ta σ F c) (hb : Er rInt tb σ F 0) : Er r (tOp (rIxT K) ta tb) σ F c.1 := fun H1 e Q q =>
  er_two ha hb e fun x y H3 e3 ⟨p, x1, y1, hx, hp, h1, h2⟩ k2 => ⟨p, [x1, y1], 0, x1, hx, k2, SqT.of (part_sub (e.trans e3) p _ hp), rfl, q _ H3 e3 h1⟩
theorem er_snd {c : α × β} (ha : Er (rPair r s) ta σ F c) (hb : Er rInt tb σ F 1) : Er s (tOp (rIxT K) ta tb) σ F c.2 := fun H1 e Q q =>
  er_two ha hb e fun x y H3 e3 ⟨p, x1, y1, hx, hp, h1, h2⟩ k2 => ⟨p, [x1, y1], 1, y1, hx, k2, SqT.of (part_sub (e.trans e3) p _ hp), rfl, q _ H3 e3 h2⟩
/-! ### displays -/
def EaL (r : Rep α) (ta : TA) (σ : L2.St) (F : Hp) (as : List α) : Prop := Ea (fun G vs => Al (r.rel G) vs as) ta σ F
theorem eal_nil : EaL r tNil σ F [] := fun H1 _ _ q => q [] H1 (Ex.refl H1) .nil
theorem eal_cons {tr : TA} (h : Er r ta σ F a) (hr : EaL r tr σ F as) : EaL r (tCons ta tr) σ F (a :: as) := fun H1 e _ q =>
  h H1 e _ fun v H2 e2 k => hr H2 (e.trans e2) _ fun ws H3 e3 k3 => q _ H3 (e2.trans e3) (.cons (r.mono (part_up e3) k) (k3.imp fun _ _ k => r.mono (part_back e2) k))
theorem new_at {xs : List V} (e0 : Ex F H1) (e : Ex H1 H2) (hp : H2 p = none) (h : Al (r.rel (part F H1 H2)) xs as) : New r as F H1 (upd H2 p (.lst xs)) p := by
  refine ⟨back_none e hp, xs, upd_same, h.imp fun _ _ k => r.mono (ex_mns ?_ ?_) k⟩
  · exact part_up (Ex.new hp)
  · rw [part_new (back_none (e0.trans e) hp) (back_none e hp)]
    exact hp
theorem en_lst {ta : TA} (h : EaL r ta σ F as) (hl : as.length ≤ 100000) : En r (tLst ta) σ F as := fun H1 e _ q => h H1 e _ fun vs H2 e2 k =>
  ⟨by rw [k.len]; exact sz_of hl, fun p hp => q p _ (e2.trans (Ex.new hp)) (new_at e e2 hp k)⟩
theorem part_upd {o : HO} (e0 : Ex F H1) (e : Ex H1 H2) (hp : H2 p = none) : part F H1 (upd H2 p o) p = some o := by
  rw [part_new (back_none (e0.trans e) hp) (back_none e hp)]
  exact upd_same
theorem er_tup {ta : TA} (h : EaL r ta σ F as) (hl : as.length ≤ 100000) : Er (rTup r) (tTup ta) σ F as := fun H1 e _ q => h H1 e _ fun vs H2 e2 k =>
  ⟨by rw [k.len]; exact sz_of hl, fun p hp => q _ _ (e2.trans (Ex.new hp)) ⟨p, vs, rfl, part_upd e e2 hp, k.imp fun _ _ k => r.mono (part_up (Ex.new hp)) k⟩⟩
theorem er_pair {ta : TA} (h : Ea (A2 r s a b) ta σ F) : Er (rPair r s) (tTup ta) σ F (a, b) := fun H1 e _ q => h H1 e _ fun vs H2 e2 ⟨x, y, hv, hx, hy⟩ => by
  subst hv
  exact ⟨by show 2 ≤ sizeLine; decide, fun p hp => q _ _ (e2.trans (Ex.new hp)) ⟨p, x, y, rfl, part_upd e e2 hp, r.mono (part_up (Ex.new hp)) hx, s.mono (part_up (Ex.new hp)) hy⟩⟩
/-! ### sequences -/
theorem Al.nil_iff {R : V → α → Prop} {xs : List V} (h : Al R xs as) : xs = [] ↔ as = [] := by
  cases h with
  | nil => exact ⟨fun _ => rfl, fun _ => rfl⟩
  | cons _ _ => exact ⟨fun z => (nomatch z), fun z => (nomatch z)⟩
theorem er_catT (ha : Er (rTup r) ta σ F as) (hb : Er (rTup r) tb σ F as') (hl : as.length + as'.length ≤ 100000) : Er (rTup r) (tOp (rCatA K) ta tb) σ F (as ++ as') := fun H1 e Q q =>
  er_two ha hb e fun x y H3 e3 ⟨p, xs, hx, hp, h1⟩ ⟨p', ys, hy, hp', h2⟩ => by
    refine ⟨p, p', xs, ys, hx, hy, SqT.of (part_sub (e.trans e3) p _ hp), SqT.of (part_sub (e.trans e3) p' _ hp'), by rw [h1.len, h2.len]; exact sz_of hl, fun z => ?_, fun z z2 => ?_, fun _ _ c hc => ?_⟩
    · refine q _ H3 e3 ?_
      rw [h1.nil_iff.mp z]
      exact ⟨p', ys, rfl, hp', h2⟩
    · refine q _ H3 e3 ?_
      rw [h2.nil_iff.mp z2, List.append_nil]
      exact ⟨p, xs, rfl, hp, h1⟩
    · exact q _ _ (e3.trans (Ex.new hc)) ⟨c, _, rfl, part_upd e e3 hc, (h1.app h2).imp fun _ _ k => r.mono (part_up (Ex.new hc)) k⟩
theorem en_catL (ha : Er (rLst r) ta σ F as) (hb : Er (rLst r) tb σ F as') (hl : as.length + as'.length ≤ 100000) : En r (tOp rCat ta tb) σ F (as ++ as') := fun H1 e Q q =>
  er_two ha hb e fun x y H3 e3 ⟨p, xs, hx, hp, h1⟩ ⟨p', ys, hy, hp', h2⟩ =>
    ⟨p, p', xs, ys, hx, hy, part_sub (e.trans e3) p _ hp, part_sub (e.trans e3) p' _ hp', by rw [h1.len, h2.len]; exact sz_of hl, fun c hc => q c _ (e3.trans (Ex.new hc)) (new_at e e3 hc (h1.app h2))⟩
theorem Al.rep {R : V → α → Prop} {xs : List V} (h : Al R xs as) : ∀ n : Nat, Al R (List.replicate n xs).flatten (List.replicate n as).flatten
  | 0 => .nil
  | n + 1 => by
    rw [List.replicate_succ, List.replicate_succ, List.flatten_cons, List.flatten_cons]
    exact h.app (Al.rep h n)
theorem en_rep {k : Int} (ha : Er (rLst r) ta σ F as) (hb : Er rInt tb σ F k) (h1 : -100000 ≤ k ∧ k ≤ 100000) (hl : as.length * k.toNat ≤ 100000) : En r (tOp rRep ta tb) σ F (List.replicate k.toNat as).flatten := fun H1 e Q q =>
  er_two ha hb e fun x y H3 e3 ⟨p, xs, hx, hp, h2⟩ hy =>
    ⟨p, k, xs, hx, hy, part_sub (e.trans e3) p _ hp, by omega, by omega, by rw [h2.len]; exact sz_of hl, fun c hc => q c _ (e3.trans (Ex.new hc)) (new_at e e3 hc (h2.rep _))⟩
def cutA (as : List α) (lo hi : Option Int) : List α := (as.drop (HT.sIx as.length 0 lo)).take (HT.sIx as.length as.length hi - HT.sIx as.length 0 lo)
theorem eo_part {i : Int} (h : Er rInt te σ F i) : EvO (tPart te) σ F (some i) := fun H1 e _ q => h H1 e _ fun v H2 e2 k => ⟨i, k, q H2 e2⟩
theorem en_sl {tl th : TO} {lo hi : Option Int} (h : Er (rLst r) te σ F as) (h1 : EvO tl σ F lo) (h2 : EvO th σ F hi) : En r (tSl (rSlL K) te tl th) σ F (cutA as lo hi) := fun H1 e _ q =>
  h H1 e _ fun v H2 e2 ⟨p, xs, hx, hp, hal⟩ => h1 H2 (e.trans e2) _ fun H3 e3 => h2 H3 ((e.trans e2).trans e3) _ fun H4 e4 => by
    refine ⟨p, xs, hx, SqL.of (part_sub (e.trans (e2.trans (e3.trans e4))) p _ (part_up (e3.trans e4) p _ hp)), fun c hc => q c _ ((e2.trans (e3.trans e4)).trans (Ex.new hc)) (new_at e (e2.trans (e3.trans e4)) hc ?_)⟩
    unfold cutV cutA
    rw [hal.len]
    exact ((hal.drop _).take _).imp fun _ _ k => r.mono (part_up (e3.trans e4)) k
theorem er_slT {tl th : TO} {lo hi : Option Int} (h : Er (rTup r) te σ F as) (h1 : EvO tl σ F lo) (h2 : EvO th σ F hi) : Er (rTup r) (tSl (rSlA K) te tl th) σ F (cutA as lo hi) := fun H1 e _ q =>
  h H1 e _ fun v H2 e2 ⟨p, xs, hx, hp, hal⟩ => h1 H2 (e.trans e2) _ fun H3 e3 => h2 H3 ((e.trans e2).trans e3) _ fun H4 e4 => by
    have ee := e2.trans (e3.trans e4)
    refine ⟨p, xs, hx, SqT.of (part_sub (e.trans ee) p _ (part_up (e3.trans e4) p _ hp)), fun hw => ?_, fun hw c hc => ?_⟩
    · have ec : cutA as lo hi = as := by
        unfold cutA
        rw [hal.len] at hw
        rw [hw.1, hw.2, List.drop_zero, Nat.sub_zero, List.take_length]
      refine q _ H4 ee ?_
      rw [ec]
      exact ⟨p, xs, rfl, part_up (e3.trans e4) p _ hp, hal.imp fun _ _ k => r.mono (part_up (e3.trans e4)) k⟩
    · refine q _ _ (ee.trans (Ex.new hc)) ⟨c, _, rfl, part_upd e ee hc, ?_⟩
      unfold cutV cutA
      rw [hal.len]
      exact ((hal.drop _).take _).imp fun _ _ k => r.mono ((part_up (e3.trans e4)).trans (part_up (Ex.new hc))) k
/-! ### built-ins -/
def rLenQ (K : PySem.W.Frag) : List V → Hp → VK → Prop := fun xs H Q => ∃ p ys, xs = [.ref p] ∧ (SqL K H p ys ∨ SqT K H p ys) ∧ Q (.int ys.length) H
theorem er_lenL (h : Er (rLst r) ta σ F as) : Er rInt (tCB (rLenQ K) (tCons ta tNil)) σ F (as.length : Int) := fun H1 e Q q => h H1 e _ fun v H2 e2 ⟨p, xs, hx, hp, hal⟩ =>
  ⟨p, xs, congrArg (· :: []) hx, .inl (SqL.of (part_sub (e.trans e2) p _ hp)), by rw [hal.len]; exact q _ H2 e2 rfl⟩
theorem er_lenT (h : Er (rTup r) ta σ F as) : Er rInt (tCB (rLenQ K) (tCons ta tNil)) σ F (as.length : Int) := fun H1 e Q q => h H1 e _ fun v H2 e2 ⟨p, xs, hx, hp, hal⟩ =>
  ⟨p, xs, congrArg (· :: []) hx, .inr (SqT.of (part_sub (e.trans e2) p _ hp)), by rw [hal.len]; exact q _ H2 e2 rfl⟩
theorem er_lenF {ns : List Int} (h : Er (rFro K) ta σ F ns) : Er rInt (tCB (rLenQ K) (tCons ta tNil)) σ F (ns.length : Int) := fun H1 e Q q => h H1 e _ fun v H2 e2 ⟨p, hx, hp⟩ => by
  refine ⟨p, _, congrArg (· :: []) hx, .inl (ex_l (part_sub (e.trans e2)) hp), ?_⟩
  rw [List.length_map]
  exact q _ H2 e2 rfl
def rTupQ (K : PySem.W.Frag) : List V → Hp → VK → Prop := fun xs H Q => ∃ p ys, xs = [.ref p] ∧ ((SqL K H p ys ∧ ∀ l, H l = none → Q (.ref l) (upd H l (.tup ys))) ∨ (SqT K H p ys ∧ Q (.ref p) H))
theorem er_tupOf (h : Er (rLst r) ta σ F as) : Er (rTup r) (tCB (rTupQ K) (tCons ta tNil)) σ F as := fun H1 e Q q => h H1 e _ fun v H2 e2 ⟨p, xs, hx, hp, hal⟩ =>
  ⟨p, xs, congrArg (· :: []) hx, .inl ⟨SqL.of (part_sub (e.trans e2) p _ hp), fun l hl => q _ _ (e2.trans (Ex.new hl)) ⟨l, xs, rfl, part_upd e e2 hl, hal.imp fun _ _ k => r.mono (part_up (Ex.new hl)) k⟩⟩⟩
def rLstQ (K : PySem.W.Frag) : List V → Hp → VK → Prop := fun xs H Q => ∃ p ys, xs = [.ref p] ∧ (SqL K H p ys ∨ SqT K H p ys) ∧ ∀ l, H l = none → Q (.ref l) (upd H l (.lst ys))
theorem en_listL (h : Er (rLst r) ta σ F as) : En r (tCB (rLstQ K) (tCons ta tNil)) σ F as := fun H1 e Q q => h H1 e _ fun v H2 e2 ⟨p, xs, hx, hp, hal⟩ =>
  ⟨p, xs, congrArg (· :: []) hx, .inl (SqL.of (part_sub (e.trans e2) p _ hp)), fun l hl => q l _ (e2.trans (Ex.new hl)) (new_at e e2 hl hal)⟩
theorem en_listT (h : Er (rTup r) ta σ F as) : En r (tCB (rLstQ K) (tCons ta tNil)) σ F as := fun H1 e Q q => h H1 e _ fun v H2 e2 ⟨p, xs, hx, hp, hal⟩ =>
  ⟨p, xs, congrArg (· :: []) hx, .inr (SqT.of (part_sub (e.trans e2) p _ hp)), fun l hl => q l _ (e2.trans (Ex.new hl)) (new_at e e2 hl hal)⟩
def rInt1 : List V → Hp → VK → Prop := fun xs H Q => (∃ i, xs = [.int i] ∧ Q (.int i) H) ∨ ∃ k, xs = [.bl k] ∧ Q (.int (if k then 1 else 0)) H
theorem er_int1 {i : Int} (h : Er rInt ta σ F i) : Er rInt (tCB rInt1 (tCons ta tNil)) σ F i := fun H1 e Q q => h H1 e _ fun v H2 e2 hv => .inl ⟨i, congrArg (· :: []) hv, q _ H2 e2 rfl⟩
theorem er_int1B {k : Bool} (h : Er rBl ta σ F k) : Er rInt (tCB rInt1 (tCons ta tNil)) σ F (if k then 1 else 0) := fun H1 e Q q => h H1 e _ fun v H2 e2 hv => .inr ⟨k, congrArg (· :: []) hv, q _ H2 e2 rfl⟩
theorem rel_bls {H : Hp} : ∀ {xs : List V} {ns : List Bool}, Al (rBl.rel H) xs ns → xs = ns.map V.bl
  | _, _, .nil => rfl
  | _, _, .cons h t => by
    rw [show _ = V.bl _ from h, rel_bls t]
    rfl
theorem er_any {ks : List Bool} (h : Er (rLst rBl) ta σ F ks) : Er rBl (tCB (rAny K) (tCons ta tNil)) σ F (ks.any id) := fun H1 e Q q => h H1 e _ fun v H2 e2 ⟨p, xs, hx, hp, hal⟩ => by
  rw [rel_bls hal] at hp
  exact ⟨p, ks, congrArg (· :: []) hx, SqL.of (part_sub (e.trans e2) p _ hp), q _ H2 e2 rfl⟩
theorem er_all {ks : List Bool} (h : Er (rLst rBl) ta σ F ks) : Er rBl (tCB (rAll K) (tCons ta tNil)) σ F (ks.all id) := fun H1 e Q q => h H1 e _ fun v H2 e2 ⟨p, xs, hx, hp, hal⟩ => by
  rw [rel_bls hal] at hp
  exact ⟨p, ks, congrArg (· :: []) hx, SqL.of (part_sub (e.trans e2) p _ hp), q _ H2 e2 rfl⟩
theorem inV_ints {n : Int} : ∀ {ns : List Int}, inV (.int n) (ns.map V.int) = decide (n ∈ ns)
  | [] => rfl
  | m :: ns => by
    show (m == n || inV (.int n) (ns.map V.int)) = _
    rw [inV_ints]
    by_cases h : m = n
    · subst h; simp
    · have h2 : ¬ n = m := fun z => h z.symm
      simp [h, h2]
theorem flat_ints : ∀ {ns : List Int}, (ns.map V.int).all flatV = true
  | [] => rfl
  | _ :: ns => by
    show (true && (ns.map V.int).all flatV) = true
    rw [flat_ints]
    rfl
end
end DL
set_option Elab.async false
set_option linter.all false
set_option maxRecDepth 100000
set_option maxHeartbeats 2000000
namespace DL
open PySem L2 Evl
section
variable {α β γ δ : Type} {K : PySem.W.Frag} {σ σ2 : L2.St} {F G H H1 H2 H3 : Hp} {ta tb te tl tx : TE} {t u : TT} {v : V} {r : Rep α} {s : Rep β} {a : α} {b : β} {as as' : List α} {bs : List β} {p q : Addr}
theorem er_inT {n : Int} {ns : List Int} (ha : Er rInt ta σ F n) (hb : Er (rTup rInt) tb σ F ns) : Er rBl (tOp (rIn K false) ta tb) σ F (decide (n ∈ ns)) := fun H1 e Q q =>
  er_two ha hb e fun x y H3 e3 hx ⟨p, xs, hy, hp, hal⟩ => by
    cases (show x = V.int n from hx)
    rw [rel_ints hal] at hp
    refine ⟨p, _, hy, .inr (SqT.of (part_sub (e.trans e3) p _ hp)), rfl, flat_ints, ?_⟩
    rw [inV_ints]
    exact q _ H3 e3 rfl
theorem er_niT {n : Int} {ns : List Int} (ha : Er rInt ta σ F n) (hb : Er (rTup rInt) tb σ F ns) : Er rBl (tOp (rIn K true) ta tb) σ F (!decide (n ∈ ns)) := fun H1 e Q q =>
  er_two ha hb e fun x y H3 e3 hx ⟨p, xs, hy, hp, hal⟩ => by
    cases (show x = V.int n from hx)
    rw [rel_ints hal] at hp
    refine ⟨p, _, hy, .inr (SqT.of (part_sub (e.trans e3) p _ hp)), rfl, flat_ints, ?_⟩
    rw [inV_ints]
    exact q _ H3 e3 rfl
theorem er_inL {n : Int} {ns : List Int} (ha : Er rInt ta σ F n) (hb : Er (rLst rInt) tb σ F ns) : Er rBl (tOp (rIn K false) ta tb) σ F (decide (n ∈ ns)) := fun H1 e Q q =>
  er_two ha hb e fun x y H3 e3 hx ⟨p, xs, hy, hp, hal⟩ => by
    cases (show x = V.int n from hx)
    rw [rel_ints hal] at hp
    refine ⟨p, _, hy, .inl (SqL.of (part_sub (e.trans e3) p _ hp)), rfl, flat_ints, ?_⟩
    rw [inV_ints]
    exact q _ H3 e3 rfl
theorem er_niL {n : Int} {ns : List Int} (ha : Er rInt ta σ F n) (hb : Er (rLst rInt) tb σ F ns) : Er rBl (tOp (rIn K true) ta tb) σ F (!decide (n ∈ ns)) := fun H1 e Q q =>
  er_two ha hb e fun x y H3 e3 hx ⟨p, xs, hy, hp, hal⟩ => by
    cases (show x = V.int n from hx)
    rw [rel_ints hal] at hp
    refine ⟨p, _, hy, .inl (SqL.of (part_sub (e.trans e3) p _ hp)), rfl, flat_ints, ?_⟩
    rw [inV_ints]
    exact q _ H3 e3 rfl
/-- sorted(xs) of ints -/
theorem en_sortI {ns ms : List Int} (h : Er (rLst rInt) ta σ F ns) (hm : ∀ ns' : List Int, ns'.Perm ns → ns'.Pairwise (· ≤ ·) → ns' = ms) : En rInt (tCB (rSortedI K) (tCons ta tNil)) σ F ms := fun H1 e Q q => h H1 e _ fun v H2 e2 ⟨p, xs, hx, hp, hal⟩ => by
  rw [rel_ints hal] at hp
  refine ⟨p, ns, congrArg (· :: []) hx, SqL.of (part_sub (e.trans e2) p _ hp), fun ns' c h1 h2 hc => ?_⟩
  rw [hm ns' h1 h2]
  exact q c _ (e2.trans (Ex.new hc)) (new_at e e2 hc (ints_rel ms))
/-! ### None -/
def rIsNq : R2 := fun x y H Q => y = .non ∧ Q (.bl (decide (x = .non))) H
def rNotNq : R2 := fun x y H Q => y = .non ∧ Q (.bl (!decide (x = .non))) H
def Sol (r : Rep α) : Prop := ∀ H a, ¬ r.rel H .non a
theorem sol_int : Sol rInt := fun _ _ h => by cases (show V.non = V.int _ from h)
theorem sol_lst : Sol (rLst r) := fun _ _ ⟨_, _, h, _⟩ => by cases h
theorem sol_tup : Sol (rTup r) := fun _ _ ⟨_, _, h, _⟩ => by cases h
theorem sol_pair : Sol (rPair r s) := fun _ _ ⟨_, _, _, h, _⟩ => by cases h
theorem opt_non {o : Option α} (hs : Sol r) (h : (rOpt r).rel F v o) : decide (v = V.non) = o.isNone := by
  cases o with
  | none =>
    rw [show v = V.non from h]
    rfl
  | some a =>
    refine decide_eq_false fun z => ?_
    rw [z] at h
    exact hs _ _ h
theorem er_isN {o : Option α} (hs : Sol r) (ha : Er (rOpt r) ta σ F o) : Er rBl (tOp rIsNq ta (tC .non)) σ F o.isNone := fun H1 e Q q => ha H1 e _ fun v H2 e2 k => ⟨rfl, by rw [opt_non hs k]; exact q _ H2 e2 rfl⟩
theorem er_notN {o : Option α} (hs : Sol r) (ha : Er (rOpt r) ta σ F o) : Er rBl (tOp rNotNq ta (tC .non)) σ F (!o.isNone) := fun H1 e Q q => ha H1 e _ fun v H2 e2 k => ⟨rfl, by rw [opt_non hs k]; exact q _ H2 e2 rfl⟩
/-! ### truth of a list, a tuple -/
def tTru (K : PySem.W.Frag) (te : TE) : TT := fun σ H R => te σ H fun v H2 => ∃ b, TruV K v H2 b ∧ R b H2
theorem et_lst (h : Er (rLst r) ta σ F as) : EvT (tTru K ta) σ F (!as.isEmpty) := fun H1 e Q q => h H1 e _ fun v H2 e2 ⟨p, xs, hx, hp, hal⟩ => by
  subst hx
  refine ⟨!as.isEmpty, .inl ⟨xs, SqL.of (part_sub (e.trans e2) p _ hp), ?_⟩, q H2 e2⟩
  cases hal <;> rfl
theorem et_tup (h : Er (rTup r) ta σ F as) : EvT (tTru K ta) σ F (!as.isEmpty) := fun H1 e Q q => h H1 e _ fun v H2 e2 ⟨p, xs, hx, hp, hal⟩ => by
  subst hx
  refine ⟨!as.isEmpty, .inr (.inl ⟨xs, SqT.of (part_sub (e.trans e2) p _ hp), ?_⟩), q H2 e2⟩
  cases hal <;> rfl
/-! ### equality of data -/
structure Enc (K : PySem.W.Frag) (r : Rep α) [DecidableEq α] where
  enc : α → PyData
  d : Nat
  dp : ∀ {H : Hp} {v : V} {a : α}, r.rel H v a → Dp K H v (enc a)
  eqv : ∀ a b, PyData.eqv (enc a) (enc b) = decide (a = b)
  can : ∀ a, (enc a).canLay0 = true
  dep : ∀ a, (enc a).depth ≤ d
theorem Enc.shaped [DecidableEq α] (E : Enc K r) (h : E.d ≤ 64) (a : α) : SeqAt.shaped (E.enc a) = true := by
  unfold SeqAt.shaped
  rw [E.can, decide_eq_true (Nat.le_trans (E.dep a) h)]
  rfl
def eInt : Enc K rInt where
  enc := .int
  d := 0
  dp := fun h => by
    cases h
    exact .int _
  eqv := fun a b => by
    show (a == b) = _
    by_cases h : a = b
    · subst h; simp
    · simp [h]
  can := fun _ => rfl
  dep := fun _ => Nat.zero_le _
def eBl : Enc K rBl where
  enc := .bool
  d := 0
  dp := fun h => by
    cases h
    exact .bl _
  eqv := fun a b => by cases a <;> cases b <;> rfl
  can := fun _ => rfl
  dep := fun _ => Nat.zero_le _
section
variable [DecidableEq α] [DecidableEq β] (E : Enc K r) (E' : Enc K s)
theorem Enc.all {H : Hp} : ∀ {xs : List V} {as : List α}, Al (r.rel H) xs as → DpAll K H xs (as.map E.enc)
  | _, _, .nil => .nil
  | _, _, .cons h t => .cons (E.dp h) (Enc.all t)
theorem Enc.eqvAll : ∀ as bs : List α, PyData.eqvAll (as.map E.enc) (bs.map E.enc) = decide (as = bs)
  | [], [] => rfl
  | [], _ :: _ => rfl
  | _ :: _, [] => rfl
  | a :: as, b :: bs => by
    show (PyData.eqv (E.enc a) (E.enc b) && PyData.eqvAll (as.map E.enc) (bs.map E.enc)) = _
    rw [E.eqv, Enc.eqvAll as bs]
    by_cases h : a = b <;> by_cases h2 : as = bs <;> simp [h, h2]
theorem Enc.canAll : ∀ as : List α, PyData.canLayAll0 (as.map E.enc) = true
  | [] => rfl
  | a :: as => by
    show ((E.enc a).canLay0 && PyData.canLayAll0 (as.map E.enc)) = true
    rw [E.can, Enc.canAll as]
    rfl
theorem Enc.depAll : ∀ as : List α, PyData.depthAll (as.map E.enc) ≤ E.d
  | [] => Nat.zero_le _
  | a :: as => Nat.max_le.mpr ⟨E.dep a, Enc.depAll as⟩
def eLst : Enc K (rLst r) where
  enc := fun as => .list (as.map E.enc)
  d := E.d + 1
  dp := fun ⟨p, xs, h, hp, hal⟩ => by
    subst h
    exact .lst (SqL.of hp) (E.all hal)
  eqv := fun a b => E.eqvAll a b
  can := fun a => E.canAll a
  dep := fun a => Nat.succ_le_succ (E.depAll a)
def eTup : Enc K (rTup r) where
  enc := fun as => .tuple (as.map E.enc)
  d := E.d + 1
  dp := fun ⟨p, xs, h, hp, hal⟩ => by
    subst h
    exact .tup (SqT.of hp) (E.all hal)
  eqv := fun a b => E.eqvAll a b
  can := fun a => E.canAll a
  dep := fun a => Nat.succ_le_succ (E.depAll a)
def ePair : Enc K (rPair r s) where
  enc := fun c => .tuple [E.enc c.1, E'.enc c.2]
  d := max E.d E'.d + 1
  dp := fun ⟨p, x, y, h, hp, h1, h2⟩ => by
    subst h
    exact .tup (SqT.of hp) (.cons (E.dp h1) (.cons (E'.dp h2) .nil))
  eqv := fun a b => by
    show (PyData.eqv (E.enc a.1) (E.enc b.1) && (PyData.eqv (E'.enc a.2) (E'.enc b.2) && true)) = _
    rw [E.eqv, E'.eqv]
    obtain ⟨a1, a2⟩ := a
    obtain ⟨b1, b2⟩ := b
    by_cases h : a1 = b1 <;> by_cases h2 : a2 = b2 <;> simp [h, h2]
  can := fun a => by
    show ((E.enc a.1).canLay0 && ((E'.enc a.2).canLay0 && true)) = true
    rw [E.can, E'.can]
    rfl
  dep := fun a => by
    show max (E.enc a.1).depth (max (E'.enc a.2).depth 0) + 1 ≤ _
    have h1 := E.dep a.1
    have h2 := E'.dep a.2
    omega
end
theorem er_eqD [DecidableEq α] {a a' : α} (E : Enc K r) (hd : E.d ≤ 64) (ha : Er r ta σ F a) (hb : Er r tb σ F a') : Er rBl (tOp (rEqD K) ta tb) σ F (decide (a = a')) := fun H1 e Q q =>
  er_two ha hb e fun x y H3 e3 hx hy => by
    refine ⟨E.enc a, E.enc a', E.dp (r.mono (part_sub (e.trans e3)) hx), E.dp (r.mono (part_sub (e.trans e3)) hy), E.shaped hd a, E.shaped hd a', ?_⟩
    rw [E.eqv]
    exact q _ H3 e3 rfl
theorem er_neD [DecidableEq α] {a a' : α} (E : Enc K r) (hd : E.d ≤ 64) (ha : Er r ta σ F a) (hb : Er r tb σ F a') : Er rBl (tOp (rNeD K) ta tb) σ F (!decide (a = a')) := fun H1 e Q q =>
  er_two ha hb e fun x y H3 e3 hx hy => by
    refine ⟨E.enc a, E.enc a', E.dp (r.mono (part_sub (e.trans e3)) hx), E.dp (r.mono (part_sub (e.trans e3)) hy), E.shaped hd a, E.shaped hd a', ?_⟩
    rw [E.eqv]
    exact q _ H3 e3 rfl
/-! ### statements -/
variable {D : Ends} {tu tw tz : TS} {g : TG} {i : Nat}
theorem q_asg (h : Er r te σ F a) (e : Ex F H) (k : ∀ v H2, Ex H H2 → r.rel (part F H H2) v a → tz D (σ.set i (some v)) H2) : tSeq (tAsg te (gName i)) tz D σ H := h H e _ k
theorem q_asgN (h : En r te σ F as) (e : Ex F H) (k : ∀ p H2, Ex H H2 → New r as F H H2 p → tz D (σ.set i (some (.ref p))) H2) : tSeq (tAsg te (gName i)) tz D σ H := h H e _ k
theorem q_asgI {n : Int} (h : Er rInt te σ F n) (e : Ex F H) (k : ∀ H2, Ex H H2 → tz D (σ.set i (some (.int n))) H2) : tSeq (tAsg te (gName i)) tz D σ H := h H e _ fun v H2 e2 hv => by
  rw [show v = V.int n from hv]
  exact k H2 e2
theorem s_asg (h : Er r te σ F a) (e : Ex F H) (k : ∀ v H2, Ex H H2 → r.rel (part F H H2) v a → D.nx (σ.set i (some v)) H2) : tAsg te (gName i) D σ H := h H e _ k
theorem s_asgN (h : En r te σ F as) (e : Ex F H) (k : ∀ p H2, Ex H H2 → New r as F H H2 p → D.nx (σ.set i (some (.ref p))) H2) : tAsg te (gName i) D σ H := h H e _ k
theorem s_asgI {n : Int} (h : Er rInt te σ F n) (e : Ex F H) (k : ∀ H2, Ex H H2 → D.nx (σ.set i (some (.int n))) H2) : tAsg te (gName i) D σ H := h H e _ fun v H2 e2 hv => by
  rw [show v = V.int n from hv]
  exact k H2 e2
theorem s_ret (h : Er r te σ F a) (e : Ex F H) (k : ∀ v H2, Ex H H2 → r.rel (part F H H2) v a → D.rt v H2) : tRet te D σ H := h H e _ k
theorem s_retN (h : En r te σ F as) (e : Ex F H) (k : ∀ p H2, Ex H H2 → New r as F H H2 p → D.rt (.ref p) H2) : tRet te D σ H := h H e _ k
theorem s_retB {b : Bool} (h : Er rBl te σ F b) (e : Ex F H) (k : ∀ H2, Ex H H2 → D.rt (.bl b) H2) : tRet te D σ H := h H e _ fun v H2 e2 hv => by
  rw [show v = V.bl b from hv]
  exact k H2 e2
theorem s_retI {b : Int} (h : Er rInt te σ F b) (e : Ex F H) (k : ∀ H2, Ex H H2 → D.rt (.int b) H2) : tRet te D σ H := h H e _ fun v H2 e2 hv => by
  rw [show v = V.int b from hv]
  exact k H2 e2
theorem s_if {b : Bool} (h : EvT t σ F b) (e : Ex F H) (h1 : b = true → ∀ H2, Ex H H2 → tu D σ H2) (h2 : b = false → ∀ H2, Ex H H2 → tw D σ H2) : tIfS t tu tw D σ H := h H e _ fun H2 e2 => by
  cases b with
  | true =>
    show tu D σ H2
    exact h1 rfl H2 e2
  | false =>
    show tw D σ H2
    exact h2 rfl H2 e2
theorem q_if {b : Bool} (h : EvT t σ F b) (e : Ex F H) (h1 : b = true → ∀ H2, Ex H H2 → tu { D with nx := tz D } σ H2) (h2 : b = false → ∀ H2, Ex H H2 → tw { D with nx := tz D } σ H2) : tSeq (tIfS t tu tw) tz D σ H := s_if (D := { D with nx := tz D }) h e h1 h2
theorem q_when {b : Bool} (h : EvT t σ F b) (e : Ex F H) (h1 : b = true → ∀ H2, Ex H H2 → tu { D with nx := tz D } σ H2) (h2 : b = false → ∀ H2, Ex H H2 → tz D σ H2) : tSeq (tIfS t tu tNext) tz D σ H := s_if (D := { D with nx := tz D }) h e h1 h2
/-- p.append(e), p a list of its own -/
theorem s_app (hi : σ[i]? = some (some (.ref p))) (hm : Mu r as F H p) (hl : as.length < 100000) (h : Er r te σ F a) (e : Ex F H)
    (k : ∀ o H2 G, Ex H H2 → Ex F G → Ex G (upd H2 p o) → Mu r (as ++ [a]) G (upd H2 p o) p → (∀ c u, H c = some u → F c = none → G c = none) → D.nx σ (upd H2 p o)) : tDrop (tBM K "list" rAppend (tVar i) (tCons te tNil)) D σ H := by
  obtain ⟨h1, xs, h2, h3⟩ := hm
  refine ⟨_, hi, Or.inl ⟨rfl, xs, SqL.of h2⟩, h H e _ fun v H2 e2 hv => ⟨p, xs, v, rfl, rfl, e2 p _ h2, by rw [h3.len]; exact sz_lt hl, ?_⟩⟩
  have hG : part F H H2 p = none := part_old h1 h2
  exact k (.lst (xs ++ [v])) H2 (part F H H2) e2 part_ex (Ex.mut (part_sub (e.trans e2)) hG) ⟨hG, _, upd_same, Al.snoc (h3.imp fun _ _ k => r.mono part_ex k) hv⟩ fun c o hc hF => part_old hF hc
theorem q_app (hi : σ[i]? = some (some (.ref p))) (hm : Mu r as F H p) (hl : as.length < 100000) (h : Er r te σ F a) (e : Ex F H)
    (k : ∀ o H2 G, Ex H H2 → Ex F G → Ex G (upd H2 p o) → Mu r (as ++ [a]) G (upd H2 p o) p → (∀ c u, H c = some u → F c = none → G c = none) → tz D σ (upd H2 p o)) : tSeq (tDrop (tBM K "list" rAppend (tVar i) (tCons te tNil))) tz D σ H := s_app (D := { D with nx := tz D }) hi hm hl h e k
end
end DL
set_option Elab.async false
set_option linter.all false
set_option maxRecDepth 100000
set_option maxHeartbeats 4000000
/-! a for within a generator's body -/
namespace DL
open PySem PySem.Spec PyProof.Rows L2 GenW
section
variable {X : Cx}
def tGFor (wi : TI) (g : TG) (tb : TGn) : TGn := fun D ys σ H => wi σ H fun J H1 => ∃ W : Nat → Nat → List V → L2.St → Hp → Prop, (∃ m, W 0 m ys σ H1) ∧ ∀ i m ys σ H, W i m ys σ H →
  (J.stop i H ∧ D.nx ys σ H) ∨ (J.go i H ∧ ∃ N : List V → L2.St → Hp → Prop, (∀ ys' σ' H', N ys' σ' H' → ∃ m', m' < m ∧ W (i + 1) m' ys' σ' H') ∧ ∀ x H', J.yld i H x H' → g x σ H' fun σ2 H2 => tb { D with nx := N, ct := N, bk := D.nx } ys σ2 H2)
theorem seg_runOwn {M : Model} {A : Around} {R : GenEnd} {Y : Protocol} {n : Nat} {s₀ : Shared} {c c' : Code} {fs : List Frame} {s : Shared} {env : Env} {K : Flow → Sem PySem.Fin} {H : Value → Sem PySem.Fin} {gd : Bool → Bool} {lv : List Value → List Value}
    (h : ∀ p, Seg M A R Y n s₀ c' (M.den c') (.ret (fun r => ((match r with | .ok f => (.pure f : Sem Flow) | .error e => .raise e).onRaise (cameBack env)).wrap K H gd lv) none (gd false) (lv []) c p [] :: fs) s) :
    Seg M A R Y n s₀ c ((runOwn c' env).wrap K H gd lv) fs s := seg_call h
theorem gs_for {tg iter : Expr} {body : List Stmt} {wi : TI} {g : TG} {tb : TGn} {pos : Pos} (hp : PassesOwn (model X.prog X.w) X.A X.env X.xe) (hc : X.calm = true) (hi : PI X tg iter wi) (hg : PG X tg g) (hb : GSs X body tb)
    (hs : ∀ x, foldedSetIterable iter X.env x = pure x := by intro _; rfl) : GS X (.For tg iter body [] pos) (tGFor wi g tb) := by
  refine ⟨fun A S ip R n ys s₀ c fs K Jx gd lv s σ H D gc hn k hI ht => ?_⟩
  rw [exec_For]
  refine seg_bind_wrap (wpAny_standAt ?_)
  obtain ⟨acc, cc, r, I⟩ := hI
  refine seg_bind_wrap ?_
  rw [gc.over]
  refine wpAny_mono (hi.run _ s σ H _ I ht) (fun v s1 h1 => ?_) fun x s' hx => k.exc n s₀ x s' hx
  refine seg_bind_wrap (wpAny_of_eq (hs v) ?_)
  refine seg_bind_wrap (wpAny_standAt ?_)
  refine seg_bind_wrap ?_
  rw [gc.over]
  refine wpAny_holding (wpAny_mono h1 (fun itv s2 h2 => ?_) fun x s' hx => k.exc n s₀ x s' hx)
  obtain ⟨it, fp, tn, J, H2, eit, I2, T, st2, f2, W, ⟨m0, w0⟩, turn⟩ := h2
  subst eit
  refine seg_runOwn fun p => ?_
  have gl := fun (ip' : List (Addr × Obj)) (hip : ∀ p ∈ ip', p.1 ≠ S) (kk : Result → Sem PySem.Fin) => gc_loop (k := kk) (c' := .forLoop tg (.ref it) body [] X.env) (l := lv []) (kp := []) (p := p) (ip := ip') ⟨gc.pn, hip, gc.apart, gc.over, gc.split, gc.guard, gc.gd⟩ rfl rfl
  have stat : ∀ {H' : Hp} {acc' : Array Value} {c' : Nat}, (∀ b ∈ fp, H' b = none) → ∀ b ∈ fp, FpOk X ((S, lstObj acc' c') :: ip) H' b := fun hn b hb => by
    obtain ⟨_, q2, q3, q4, q5, q6⟩ := f2 b hb
    refine ⟨hn b hb, q2, q3, q4, q5, fun p hp => ?_⟩
    rcases List.mem_append.mp hp with hp | hp
    · exact q6 p (List.mem_append_left _ hp)
    · rcases List.mem_cons.mp hp with hp | hp
      · rw [hp]
        exact q6 (S, lstObj acc cc) (List.mem_append_right _ List.mem_cons_self)
      · exact q6 p (List.mem_append_right _ (List.mem_cons_of_mem _ hp))
  have hfS : ∀ b ∈ fp, b ≠ S := fun b hb z => by
    obtain ⟨_, _, _, _, _, q6⟩ := f2 b hb
    exact q6 (S, lstObj acc cc) (List.mem_append_right _ List.mem_cons_self) z.symm
  have loop : ∀ (m i n : Nat) (ys : List V) (s₀ s : Shared) (σ : L2.St) (H : Hp), n + ys.length = sizeLine → W i m ys σ H → GI X S ip ys σ H s → tn i s.heap → (∀ b ∈ fp, H b = none) →
      Seg (model X.prog X.w) A R (GY X S) n s₀ (.forLoop tg (.ref it) body [] X.env) ((model X.prog X.w).den (.forLoop tg (.ref it) body [] X.env))
        (.ret (fun r => ((match r with | .ok f => (.pure f : Sem Flow) | .error e => .raise e).onRaise (cameBack X.env)).wrap K Jx gd lv) none (gd false) (lv []) c p [] :: fs) s := by
    intro m
    induction m using Nat.strongRecOn with
    | ind m ih =>
      intro i n ys s₀ s σ H hn w hI st fr
      have ee : ∀ (n : Nat) (s₀ : Shared) (x : Value) (s' : Shared), X.xe x s' → Seg (model X.prog X.w) A R (GY X S) n s₀ (.forLoop tg (.ref it) body [] X.env)
          ((do noteFrame x X.env; theTreesLotGoes x : Sem Unit).wrap (fun _ => .raise x) .raise id id)
          (.ret (fun r => ((match r with | .ok f => (.pure f : Sem Flow) | .error e => .raise e).onRaise (cameBack X.env)).wrap K Jx gd lv) none (gd false) (lv []) c p [] :: fs) s' := fun n s₀ x s' hx => by
        refine seg_wrap ?_
        rw [(gl ip gc.ip _).over]
        refine wpAny_bind (wpAny_mono (hp x s' hx) (fun _ sb back => wpAny_theTreesLotGoes ?_) fun y sb back => ?_)
        · exact seg_leaf (.error x) (seg_cameBack gc k back)
        · exact seg_leaf (.error y) (seg_cameBack gc k back)
      have ee2 : ∀ (n : Nat) (s₀ : Shared) (x : Value) (s' : Shared), X.xe x s' → Seg (model X.prog X.w) A R (GY X S) n s₀ (.forLoop tg (.ref it) body [] X.env)
          ((do noteFrame x X.env; theTreesLotGoes x : Sem Unit).bind (fun _ => .raise x))
          (.ret (fun r => ((match r with | .ok f => (.pure f : Sem Flow) | .error e => .raise e).onRaise (cameBack X.env)).wrap K Jx gd lv) none (gd false) (lv []) c p [] :: fs) s' := fun n s₀ x s' hx => by
        rw [Sem.bind_eq_wrap]
        exact ee n s₀ x s' hx
      obtain ⟨acc, cc, r, I⟩ := hI
      show Seg _ A R (GY X S) n s₀ _ ((forTurn tg (.ref it) body [] X.env).onRaise (fun x => do noteFrame x X.env; theTreesLotGoes x)) _ s
      unfold forTurn
      rw [Sem.onRaise_eq_wrap]
      refine seg_bind_wrap (wpAny_standAt ?_)
      refine seg_bind_wrap ?_
      rw [(gl ip gc.ip _).over]
      refine wpAny_onRaise ?_
      rcases turn i m ys σ H w with ⟨stop, qn⟩ | ⟨go, N, hN, step⟩
      · refine wpAny_mono (T.done X rfl rfl rfl hc i _ s σ H X.xe I (stat fr) st stop) (fun r' s4 ⟨hr, I4⟩ => ?_) fun x s' hx => wpAny_standAt (ee2 n s₀ x s' hx)
        subst hr
        refine seg_again rfl ?_
        exact seg_leaf (.ok .next) (k.ok n ys s₀ s4 .next hn ⟨σ, H, ⟨acc, cc, r, I4⟩, qn⟩)
      · refine wpAny_mono (T.item X rfl rfl rfl hc i _ s σ H X.xe I (stat fr) st go) (fun r' s4 ⟨u, hr, h4⟩ => ?_) fun x s' hx => wpAny_standAt (ee2 n s₀ x s' hx)
        subst hr
        refine seg_bind_wrap ?_
        rw [(gl ip gc.ip _).over]
        refine wpAny_mono h4 (fun _ s5 ⟨x, H5, I5, r5, y5, st5, fr5⟩ => ?_) fun x s' hx => ee2 n s₀ x s' hx
        have J5 := I5.pinned (stat fr5) (T.obj _ _ st5)
        refine seg_bind_wrap ?_
        rw [(gl ip gc.ip _).over]
        refine wpAny_mono (hg.run _ s5 σ H5 x u _ J5 r5 (step x H5 y5)) (fun _ s6 ⟨σ6, H6, I6, q6⟩ => ?_) fun x s' hx => ee2 n s₀ x s' hx
        rw [Sem.bind_eq_wrap', Sem.wrap_wrap]
        have hip : ∀ p ∈ ip ++ pinsAt fp s5.heap, p.1 ≠ S := fun p hp => by
          rcases List.mem_append.mp hp with hp | hp
          · exact gc.ip p hp
          · exact hfS _ (of_pinsAt hp).1
        have back : ∀ {ys7 : List V} {σ7 : L2.St} {H7 : Hp} {s7 : Shared}, GI X S (ip ++ pinsAt fp s5.heap) ys7 σ7 H7 s7 → GI X S ip ys7 σ7 H7 s7 ∧ tn (i + 1) s7.heap ∧ ∀ b ∈ fp, H7 b = none := fun {ys7 σ7 H7 s7} hI7 => by
          obtain ⟨acc7, cc7, r7, I7⟩ := hI7
          have mem : ∀ {b : Addr} {o : Obj}, b ∈ fp → s5.heap.get? b = some o → (b, o) ∈ X.pn ++ (S, lstObj acc7 cc7) :: (ip ++ pinsAt fp s5.heap) := fun hb e => List.mem_append_right _ (List.mem_cons_of_mem _ (List.mem_append_right _ (mem_pinsAt hb e)))
          refine ⟨⟨acc7, cc7, r7, I7.pins_of fun p hp => I7.pin p ?_⟩, T.keep _ _ _ st5 fun b hb o e => (I7.pin (b, o) (mem hb e)).1, fun b hb => ?_⟩
          · rcases List.mem_cons.mp hp with hp | hp
            · rw [hp]
              exact List.mem_append_right _ List.mem_cons_self
            · exact List.mem_append_right _ (List.mem_cons_of_mem _ (List.mem_append_left _ hp))
          · obtain ⟨o, e, d⟩ := T.obj _ _ st5 b hb
            exact (I7.pin (b, o) (mem hb e)).2.1
        refine hb.run A S (ip ++ pinsAt fp s5.heap) R n ys s₀ _ _ _ _ id id s6 σ6 H6 { D with nx := N, ct := N, bk := D.nx } (gl _ hip _) hn ⟨fun n' ys' s₀' s3 f hn' hs => ?_, fun n' s₀' x s3 hx => ee2 n' s₀' x s3 hx⟩ ⟨acc, cc, r, I6⟩ q6
        cases f with
        | next =>
          obtain ⟨σ3, H3, I3, n3⟩ := hs
          obtain ⟨m', less, w3⟩ := hN ys' σ3 H3 n3
          obtain ⟨b1, b2, b3⟩ := back I3
          exact seg_again rfl (ih m' less (i + 1) n' ys' s₀' s3 σ3 H3 hn' w3 b1 b2 b3)
        | cont =>
          obtain ⟨σ3, H3, I3, n3⟩ := hs
          obtain ⟨m', less, w3⟩ := hN ys' σ3 H3 n3
          obtain ⟨b1, b2, b3⟩ := back I3
          exact seg_again rfl (ih m' less (i + 1) n' ys' s₀' s3 σ3 H3 hn' w3 b1 b2 b3)
        | brk =>
          obtain ⟨σ3, H3, I3, n3⟩ := hs
          exact seg_leaf (.ok .next) (k.ok n' ys' s₀' s3 .next hn' ⟨σ3, H3, (back I3).1, n3⟩)
        | ret v =>
          obtain ⟨v3, σ3, H3, I3, r3, n3⟩ := hs
          exact seg_leaf (.ok (.ret v)) (k.ok n' ys' s₀' s3 (.ret v) hn' ⟨v3, σ3, H3, (back I3).1, r3, n3⟩)
  exact loop m0 0 n ys s₀ s2 σ H2 hn w0 ⟨acc, cc, r, I2⟩ st2 fun b hb => (f2 b hb).1
end
end DL
set_option Elab.async false
set_option linter.all false
set_option maxRecDepth 100000
set_option maxHeartbeats 4000000
namespace DL
open PySem L2 Evl
section
variable {α β γ δ : Type} {K : PySem.W.Frag} {σ σ2 : L2.St} {F G H H1 H2 H3 H4 Hc : Hp} {ta tb te tl tx : TE} {t u : TT} {v : V} {r : Rep α} {s : Rep β} {r1 : Rep γ} {a : α} {b : β} {as as' : List α} {bs : List β} {p q D : Addr}
theorem part_elem {o : HO} (eG : Ex G (part F H1 Hc)) (e0 : Ex F H1) (e1 : Ex H1 Hc) (e : Ex Hc H4) (hD : Hc D = some o) (hG : G D = none) : Ex (part G Hc H4) (mns (part F H1 H4) D) := fun q u hq => by
  cases hg : G q with
  | some x =>
    rw [part_in hg] at hq
    have nq : q ≠ D := ne_of_none hg hG
    rw [mns_ne nq, ← hq]
    exact part_up e q x (eG q x hg)
  | none =>
    cases hc : Hc q with
    | some x => rw [part_old hg hc] at hq; cases hq
    | none =>
      rw [part_new hg hc] at hq
      have nq : q ≠ D := fun z => by
        rw [z, hD] at hc
        cases hc
      have n1 : H1 q = none := back_none e1 hc
      rw [mns_ne nq, part_new (back_none e0 n1) n1]
      exact hq
theorem part_put {o : HO} : Ex (mns (part F H1 H4) D) (mns (part F H1 (upd H4 D o)) D) := fun q u hq => by
  have nq : q ≠ D := fun e => by
    rw [e, mns_at] at hq
    cases hq
  rw [mns_ne nq] at hq ⊢
  cases hF : F q with
  | some x => rw [part_in hF] at hq ⊢; exact hq
  | none =>
    cases hH : H1 q with
    | some x => rw [part_old hF hH] at hq; cases hq
    | none =>
      rw [part_new hF hH] at hq ⊢
      rw [upd_ne nq]
      exact hq
theorem part_ins : Ex (part F H1 H2) (part F H1 H2) := Ex.refl _
/-! ### two fors in a comprehension -/
theorem en_lc2 {wi wi1 : TI} {g g1 : TG} {S : Hp → α → L2.St → L2.St → Prop} {S1 : Hp → γ → L2.St → L2.St → Prop} {tt tt1 : TT} {vs vs1 : List Nat} (f : α → Bool) (cs : α → List γ) (f1 : α → γ → Bool) (m : α → γ → β)
    (h : Src wi σ F r as) (hg : Tgt g r S) (hg1 : Tgt g1 r1 S1) (hn : ((as.filter f).flatMap fun a => ((cs a).filter (f1 a)).map (m a)).length < 100000)
    (hw : ∀ a ∈ as, ∀ G σ2, Ex F G → S G a (wipe σ vs) σ2 → wipe σ2 vs = wipe σ vs ∧ EvT tt σ2 G (f a) ∧ (f a = true → Src wi1 σ2 G r1 (cs a) ∧
      ∀ c ∈ cs a, ∀ G' σ3, Ex G G' → S1 G' c (wipe σ2 vs1) σ3 → wipe σ3 vs1 = wipe σ2 vs1 ∧ EvT tt1 σ3 G' (f1 a c) ∧ (f1 a c = true → Er s te σ3 G' (m a c)))) :
    En s (tLc2 wi g tt wi1 g1 tt1 te vs vs1) σ F ((as.filter f).flatMap fun a => ((cs a).filter (f1 a)).map (m a)) := fun H1 e Q q => h H1 e _ fun J H2 e2 w D hD => by
  have mem : ∀ {δ : Type} {l : List δ} {i : Nat} {a : δ}, l[i]? = some a → a ∈ l := fun h => List.mem_of_getElem? h
  have tk : ∀ {δ : Type} {l : List δ} {i : Nat} {a : δ}, l[i]? = some a → l.take (i + 1) = l.take i ++ [a] := fun h => by
    rw [List.take_add_one, h]
    rfl
  let out := fun (l : List α) => (l.filter f).flatMap fun a => ((cs a).filter (f1 a)).map (m a)
  have out_snoc : ∀ l a, out (l ++ [a]) = out l ++ (if f a = true then ((cs a).filter (f1 a)).map (m a) else []) := fun l a => by
    show ((l ++ [a]).filter f).flatMap _ = _
    rw [List.filter_append, List.flatMap_append, List.filter_cons]
    split
    · rw [List.filter_nil, List.flatMap_cons, List.flatMap_nil, List.append_nil]
    · rw [List.filter_nil, List.flatMap_nil]
  have out_le : ∀ i, (out (as.take i)).length ≤ (out as).length := fun i => by
    have : out as = out (as.take i) ++ out (as.drop i) := by
      show (as.filter f).flatMap _ = _
      conv => lhs; rw [← List.take_append_drop i as, List.filter_append, List.flatMap_append]
    rw [this, List.length_append]
    omega
  have dF : F D = none := back_none (e.trans e2) hD
  have d2 : part F H1 H2 D = none := by
    rw [part_new dF (back_none e2 hD)]
    exact hD
  let P := fun (i : Nat) (H' : Hp) => ∃ acc, H' D = some (.lst acc) ∧ Ex H2 (mns H' D) ∧ Al (s.rel (mns (part F H1 H') D)) acc (out (as.take i))
  refine ⟨fun i k H' => k = as.length - i ∧ i ≤ as.length ∧ P i H', ⟨as.length, by omega, Nat.zero_le _, [], upd_same, ?_, .nil⟩, ?_⟩
  · rw [mns_upd]
    exact ex_mns (Ex.refl _) hD
  rintro i k H' ⟨rfl, hi, acc, h1, h2, h3⟩
  have eG : Ex (part F H1 H2) H' := (part_sub (e.trans e2)).trans (h2.trans mns_sub)
  by_cases hlt' : ¬ i < as.length
  · have ei : i = as.length := by omega
    subst ei
    refine .inl ⟨w.stops H' eG, ?_⟩
    rw [List.take_length] at h3
    exact q D H' (e2.trans (h2.trans mns_sub)) ⟨back_none e2 hD, acc, h1, h3⟩
  have hlt : i < as.length := Decidable.not_not.mp hlt'
  refine .inr ⟨w.goes i H' hlt eG, P (i + 1), fun H'' p => ⟨as.length - (i + 1), by omega, rfl, hlt, p⟩, fun x H'' yl => ?_⟩
  obtain ⟨y1, a, y2, y3⟩ := w.yields i H' x H'' hlt eG yl
  refine hg _ H'' x a _ _ (part_sub (eG.trans y1)) y3 fun σ2 hS => ?_
  obtain ⟨hwp, ht, he⟩ := hw a (mem y2) _ σ2 (part_ex.trans part_ex) hS
  refine ⟨hwp, ht H'' (part_sub (eG.trans y1)) _ fun H3 e3 => ?_⟩
  have e12 : Ex H2 H3 := (h2.trans mns_sub).trans (y1.trans e3)
  have hD3 : H3 D = some (.lst acc) := e3 D _ (y1 D _ h1)
  -- the frame of the turn
  have d3 : part (part F H1 H2) H' H'' D = none := part_old d2 h1
  have gsub : Ex (part (part F H1 H2) H' H'') (part F H1 H3) := (part_part e2 (h2.trans mns_sub) y1).trans (part_up e3)
  cases hf : f a with
  | false =>
    refine ⟨acc, hD3, ex_mns e12 hD, ?_⟩
    rw [tk y2, out_snoc, hf, if_neg (by decide), List.append_nil]
    exact h3.imp fun _ _ k => s.mono (mns_up (part_up (y1.trans e3))) k
  | true =>
    obtain ⟨hs1, hin⟩ := he hf
    refine hs1 H3 ((part_sub (eG.trans y1)).trans e3) _ fun J1 H4 e4 w1 => ?_
    have hD4 : H4 D = some (.lst acc) := e4 D _ hD3
    have d4 : part (part (part F H1 H2) H' H'') H3 H4 D = none := part_old d3 hD3
    have gsub4 : Ex (part (part (part F H1 H2) H' H'') H3 H4) (part F H1 H4) := fun q o hq => part_elem gsub e (e2.trans e12) e4 hD3 d3 q o hq |> mns_sub q o
    let P1 := fun (j : Nat) (Hj : Hp) => ∃ acc', Hj D = some (.lst acc') ∧ Ex (mns H4 D) (mns Hj D) ∧ Al (s.rel (mns (part F H1 Hj) D)) acc' (out (as.take i) ++ (((cs a).take j).filter (f1 a)).map (m a))
    refine ⟨fun j k Hj => k = (cs a).length - j ∧ j ≤ (cs a).length ∧ P1 j Hj, ⟨(cs a).length, by omega, Nat.zero_le _, acc, hD4, Ex.refl _, ?_⟩, ?_⟩
    · rw [List.take_zero, List.filter_nil, List.map_nil, List.append_nil]
      exact h3.imp fun _ _ k => s.mono (mns_up (part_up (y1.trans (e3.trans e4)))) k
    rintro j k Hj ⟨rfl, hj, acc', g1', g2', g3'⟩
    have e4j : Ex (part (part (part F H1 H2) H' H'') H3 H4) Hj := (ex_mns (part_sub ((part_sub (eG.trans y1)).trans (e3.trans e4))) d4).trans (g2'.trans mns_sub)
    have e2j : Ex H2 (mns Hj D) := (ex_mns (e12.trans e4) hD).trans g2'
    by_cases hlj' : ¬ j < (cs a).length
    · have ej : j = (cs a).length := by omega
      subst ej
      refine .inl ⟨w1.stops Hj e4j, acc', g1', e2j, ?_⟩
      rw [List.take_length] at g3'
      rw [tk y2, out_snoc, if_pos hf]
      exact g3'
    have hlj : j < (cs a).length := Decidable.not_not.mp hlj'
    refine .inr ⟨w1.goes j Hj hlj e4j, P1 (j + 1), fun H'' p => ⟨(cs a).length - (j + 1), by omega, rfl, hlj, p⟩, fun x1 Hk yl1 => ?_⟩
    obtain ⟨z1, c, z2, z3⟩ := w1.yields j Hj x1 Hk hlj e4j yl1
    refine hg1 _ Hk x1 c _ _ (part_sub (e4j.trans z1)) z3 fun σ3 hS1 => ?_
    obtain ⟨hwp1, ht1, he1⟩ := hin c (mem z2) _ σ3 (part_ex.trans part_ex) hS1
    refine ⟨hwp1, ht1 Hk (part_sub (e4j.trans z1)) _ fun H6 e6 => ?_⟩
    have hD6 : H6 D = some (.lst acc') := e6 D _ (z1 D _ g1')
    have t1 : out (as.take i) ++ (((cs a).take (j + 1)).filter (f1 a)).map (m a) = (out (as.take i) ++ (((cs a).take j).filter (f1 a)).map (m a)) ++ (if f1 a c = true then [m a c] else []) := by
      rw [tk z2, List.filter_append, List.map_append, List.filter_cons, List.append_assoc]
      split
      · rfl
      · rfl
    cases hf1 : f1 a c with
    | false =>
      refine ⟨acc', hD6, g2'.trans (mns_up (z1.trans e6)), ?_⟩
      rw [t1, hf1, if_neg (by decide), List.append_nil]
      exact g3'.imp fun _ _ k => s.mono (mns_up (part_up (z1.trans e6))) k
    | true =>
      refine he1 hf1 H6 ((part_sub (e4j.trans z1)).trans e6) _ fun y H7 e7 ry => ?_
      have hl : acc'.length < 100000 := by
        have l1 := g3'.len
        rw [List.length_append, List.length_map] at l1
        have l2 := out_le (i + 1)
        rw [tk y2, out_snoc, if_pos hf, List.length_append, List.length_map] at l2
        have l3 : (((cs a).take j).filter (f1 a)).length ≤ ((cs a).filter (f1 a)).length := by
          conv => rhs; rw [← List.take_append_drop j (cs a), List.filter_append, List.length_append]
          omega
        have : (out as).length < 100000 := hn
        omega
      refine ⟨acc', e7 D _ hD6, sz_lt hl, acc' ++ [y], upd_same, ?_, ?_⟩
      · rw [mns_upd]
        exact g2'.trans (mns_up (z1.trans (e6.trans e7)))
      · rw [t1, if_pos hf1]
        refine Al.snoc (g3'.imp fun _ _ k => s.mono ((mns_up (part_up (z1.trans (e6.trans e7)))).trans part_put) k) (s.mono (Ex.trans ?_ part_put) ry)
        -- what the turn made lies beside D
        have hj4 : Ex H1 Hj := (e2.trans e2j).trans mns_sub
        have gj : Ex (part (part (part F H1 H2) H' H'') H3 H4) (part F H1 Hj) := fun q o hq => by
          have nq : q ≠ D := fun z => by
            rw [z, d4] at hq
            cases hq
          have hq4 := gsub4 q o hq
          cases hF : F q with
          | some u => rw [part_in hF] at hq4 ⊢; exact hq4
          | none =>
            cases hH : H1 q with
            | some u => rw [part_old hF hH] at hq4; cases hq4
            | none =>
              rw [part_new hF hH] at hq4 ⊢
              have := g2' q o (by rw [mns_ne nq]; exact hq4)
              rw [mns_ne nq] at this
              exact this
        have gk : Ex (part (part (part (part F H1 H2) H' H'') H3 H4) Hj Hk) (part F H1 Hk) := fun q o hq => part_elem gj e hj4 z1 g1' d4 q o hq |> mns_sub q o
        exact part_elem (gk.trans (part_up e6)) e (hj4.trans (z1.trans e6)) e7 hD6 (part_old d4 g1')
/-! ### generators -/
variable {D0 : GEnds} {tu tw tz : TGn} {ys : List V}
theorem g_for {wi : TI} {g : TG} {tb : TGn} {D : GEnds} {S : Hp → α → L2.St → L2.St → Prop} (h : Src wi σ F r as) (hg : Tgt g r S) (e : Ex F H) (Pv : Hp → List α → List V → L2.St → Hp → Prop)
    (hG : ∀ G pre ys σ' H', Pv G pre ys σ' H' → Ex G H') (h0 : ∀ H1, Ex H H1 → Pv (part F H H1) [] ys σ H1)
    (hs : ∀ G pre a post ys σ' H' H'' σ2, as = pre ++ a :: post → Pv G pre ys σ' H' → Ex H' H'' → S (part G H' H'') a σ' σ2 → tb { D with nx := Pv G (pre ++ [a]), ct := Pv G (pre ++ [a]), bk := D.nx } ys σ2 H'')
    (hd : ∀ G ys σ' H', Pv G as ys σ' H' → D.nx ys σ' H') : tGFor wi g tb D ys σ H := h H e _ fun J H1 e1 w => by
  refine ⟨fun i k ys σ' H' => k = as.length - i ∧ i ≤ as.length ∧ Pv (part F H H1) (as.take i) ys σ' H', ⟨as.length, by omega, Nat.zero_le _, h0 H1 e1⟩, ?_⟩
  rintro i k ys σ' H' ⟨rfl, hi, p⟩
  have eG := hG _ _ _ _ _ p
  by_cases hlt : i < as.length
  · refine .inr ⟨w.goes i H' hlt eG, Pv (part F H H1) (as.take (i + 1)), fun ys' σ'' H'' p' => ⟨as.length - (i + 1), by omega, rfl, hlt, p'⟩, fun x H'' yl => ?_⟩
    obtain ⟨y1, a, y2, y3⟩ := w.yields i H' x H'' hlt eG yl
    refine hg _ H'' x a σ' _ (part_sub (eG.trans y1)) y3 fun σ2 hS => ?_
    have et : as.take (i + 1) = as.take i ++ [a] := by
      rw [List.take_add_one, y2]
      rfl
    rw [et]
    exact hs (part F H H1) (as.take i) a (as.drop (i + 1)) ys σ' H' H'' σ2 (by
      rw [List.getElem?_eq_getElem hlt] at y2
      cases y2
      rw [← List.drop_eq_getElem_cons hlt, List.take_append_drop]) p y1 hS
  · have ei : i = as.length := by omega
    subst ei
    rw [List.take_length] at p
    exact .inl ⟨w.stops H' eG, hd _ _ _ _ p⟩
/-- a generator def's promise: what it hands out -/
def spG (s : Rep β) (W : (Hp → List V → Prop) → List β → Prop) : SpG := fun vs H cont _ => ∃ F P b, Ex F H ∧ MonoP P ∧ W P b ∧ P F vs ∧ ∀ xs H2, Ex H H2 → Al (s.rel (part F H H2)) xs b → cont xs H2
theorem en_listG {W : (Hp → List V → Prop) → List β → Prop} {P : Hp → List V → Prop} {E : XK} {tr : TA} (h : Ea P tr σ F) (hP : MonoP P) (w : W P bs) : En s (tListG (tCallG (spG s W) [] E tr)) σ F bs := fun H1 e Q q =>
  h H1 e _ fun vs H2 e2 k => ⟨part F H1 H2, P, bs, part_sub (e.trans e2), hP, w, by rw [List.append_nil]; exact k, fun xs H3 e3 hx p hp => q p _ ((e2.trans e3).trans (Ex.new hp)) (new_at e (e2.trans e3) hp (hx.imp fun _ _ k => s.mono (part_part e2 (Ex.refl H2) e3) k))⟩
theorem passG {X : Cx} : Passes (CX X.prog X.w) X E0 := by
  intro pins σ H s e s' I hc
  obtain ⟨_, _, _, _, _, _, _, _, _, _, _, _, hE⟩ := hc
  exact hE.elim
/-! ### isinstance -/
theorem er_isiV {n : String} {ty : String} {k : Bool} (ha : Er r ta σ F a) (ht : ∀ (H : Hp) (v : V), r.rel H v a → TyX K H v (.type ty)) (hk : PySem.W.kitOne K (.type ty) (.type n) = some k) : Er rBl (tCB (rIsi K) (tCons ta (tCons (tC (.ty n)) tNil))) σ F k := fun H1 e Q q =>
  ha H1 e _ fun v H2 e2 hv => ⟨v, .ty n, .type ty, .type n, k, rfl, .ty n, ht _ _ (r.mono (part_sub (e.trans e2)) hv), hk, q _ H2 e2 rfl⟩
theorem ty_lst {H : Hp} (h : (rLst r).rel H v as) : TyX K H v (.type "list") := by
  obtain ⟨p, xs, rfl, hp, _⟩ := h
  exact .base (.lst hp)
theorem ty_tup {H : Hp} (h : (rTup r).rel H v as) : TyX K H v (.type "tuple") := by
  obtain ⟨p, xs, rfl, hp, _⟩ := h
  exact .base (.tup hp)
theorem ty_pair {H : Hp} {c : α × β} (h : (rPair r s).rel H v c) : TyX K H v (.type "tuple") := by
  obtain ⟨p, x, y, rfl, hp, _⟩ := h
  exact .base (.tup hp)
theorem ty_int {H : Hp} {n : Int} (h : rInt.rel H v n) : TyX K H v (.type "int") := by
  cases (show v = V.int n from h)
  exact .base (.int n)
theorem ty_bl {H : Hp} {n : Bool} (h : rBl.rel H v n) : TyX K H v (.type "bool") := by
  cases (show v = V.bl n from h)
  exact .base (.bl n)
/-! ### xs[i] = e, a list of one's own -/
variable {Dn : Ends} {zz : TS}
theorem q_setItem {i : Nat} {j : Nat} (h : Er r te σ F a) (e : Ex F H) (hi : σ[i]? = some (some (.ref p))) (hm : Mu r as F H p) (hj : Er rInt tb σ F (j : Int)) (hl : j < as.length)
    (k : ∀ o H2 G, Ex H H2 → Ex F G → Ex G (upd H2 p o) → Mu r (as.set j a) G (upd H2 p o) p → (∀ c u, H c = some u → F c = none → G c = none) → zz Dn σ (upd H2 p o)) : tSeq (tAsg te (gSub (tVar i) tb rSetL)) zz Dn σ H :=
  h H e _ fun v H2 e2 hv => ⟨.ref p, hi, hj H2 (e.trans e2) _ fun w H3 e3 hw => by
    obtain ⟨h1, xs, h2, h3⟩ := hm
    cases (show w = V.int (j : Int) from hw)
    have e23 := e2.trans e3
    have hG : part F H H3 p = none := part_old h1 h2
    exact ⟨p, xs, (j : Int), j, rfl, rfl, e23 p _ h2, ixN_nat (by rw [h3.len]; exact hl), k (.lst (xs.set j v)) H3 (part F H H3) e23 part_ex (Ex.mut (part_sub (e.trans e23)) hG)
      ⟨hG, _, upd_same, Al.set (r.mono (part_up e3) hv) j (h3.imp fun _ _ k => r.mono part_ex k)⟩ fun c o hc hF => part_old hF hc⟩⟩
end
/-! ### rules with the written part named -/
section
variable {X : Cx} {K : PySem.W.Frag} {tg l : Expr} {tl ta : TE}
theorem pi_listK (hl : PE X l tl) (hK : X.K = K := by rfl) : PI X tg l (iList K tl) := hK ▸ pi_list hl
theorem pi_tupK (hl : PE X l tl) (hK : X.K = K := by rfl) : PI X tg l (iTup K tl) := hK ▸ pi_tup hl
theorem pi_enumK {e : Expr} {ta : TA} {p pos tpos : Pos} {elts : List Expr} {kk : Nat} (hg : Gl X "enumerate") (hm : X.mg "enumerate" = none) (ha : PA X [e] ta) (hs : starEach [e] X.env = [(false, eval e X.env)] := by rfl) (hK : X.K = K := by rfl) :
    PI X (.Tuple elts kk tpos) (.Call (.Name "enumerate" p) [e] [] pos) (iEnum K ta) := hK ▸ pi_enum hg hm ha hs
theorem pi_zipK {e e2 : Expr} {ta : TA} {p pos tpos : Pos} {elts : List Expr} {kk : Nat} (hg : Gl X "zip") (hm : X.mg "zip" = none) (ha : PA X [e, e2] ta)
    (hs : starEach [e, e2] X.env = (false, eval e X.env) :: starEach [e2] X.env := by rfl) (hpl : (backTo pos (starEach [e2] X.env)).any (·.1) = false := by rfl) (hK : X.K = K := by rfl) :
    PI X (.Tuple elts kk tpos) (.Call (.Name "zip" p) [e, e2] [] pos) (iZip K ta) := hK ▸ pi_zip hg hm ha hs hpl
theorem pt_tru {a : Expr} (ha : PE X a ta) (he : ∀ whole, isTrue a X.env whole = (do let v ← whole; standAt a.pos; holding [v] (truthy v))) (hK : X.K = K := by rfl) : PT X a (tTru K ta) := hK ▸ pt_truth ha he
theorem pg_tupK {es : List Expr} {k : Nat} {t : TGs} {n : Nat} {pos : Pos} (hc : X.calm = true) (h : PGs X es t) (hn : (assignEach es X.env).length = n := by rfl) (hst : (assignEach es X.env).findIdx? (·.1) = none := by rfl) (hK : X.K = K := by rfl) : PG X (.Tuple es k pos) (gTup K n t) := by
  subst hK
  exact pg_tup hc h hn hst
end
end DL
set_option Elab.async false
set_option linter.all false
set_option maxRecDepth 100000
set_option maxHeartbeats 4000000
/-! sorted of a tuple of ints -/
namespace DL
open PySem PySem.Spec PyProof.Rows L2 Evl
section
variable {prog : Program} {w : World} {A : Around} {E : Value → Shared → Prop} {s : Shared}
/-- the heap behind the collecting of vs -/
abbrev gath (h : Heap) (vs : List Value) : Heap := (h.push (seqObj "list" #[] 0)).update h.objs.size (Obj.mapSeq (· ++ vs.toArray))
theorem gather_tup {t : Addr} {vs : List Value} {R : List Value → Shared → Prop} (ht : IsTup s.heap t vs.toArray) (k : R vs { s with heap := gath s.heap vs }) (fit : vs.length ≤ sizeLine) :
    wpAny (model prog w) A (collect (.ref t)) R E s := by
  obtain ⟨ob, at_t, cls_t, cnt, dat_t⟩ := id ht
  have at_t' : (s.heap.push (seqObj "list" #[] 0)).get? t = some ob := Heap.get?_push_of_some _ at_t
  have at_new : (s.heap.push (seqObj "list" #[] 0)).get? s.heap.objs.size = some (seqObj "list" #[] 0) := Heap.get?_push_size _ rfl
  unfold collect
  refine wpAny_bind (wpAny_runValue (codeAny_builtin entry_proto_collect' ?_))
  show wpAny _ _ (do again (.builtin "list.__iadd__" ⟨[← newList [], .ref t], []⟩)) _ _ s
  refine wpAny_bind (wpAny_newList (wpAny_pure ⟨Code.quiet_builtin _ (by decide +kernel), codeAny_builtin entry_list_iadd' ?_⟩))
  show wpAny _ _ (Builtin.List.listExtendWith (.ref s.heap.objs.size) (.ref t) (.ref s.heap.objs.size)) _ _ { s with heap := s.heap.push (seqObj "list" #[] 0) }
  unfold Builtin.List.listExtendWith
  refine wpAny_bind (wpAny_typeOf (T := "tuple") ⟨ob, at_t', cls_t⟩ ?_)
  have yes : (Value.type "tuple" == Value.type "tuple") = true := by rfl
  rw [if_pos (by rw [yes, Bool.or_true])]
  refine wpAny_bind (listItems_at at_t' dat_t ?_)
  refine wpAny_bind (listItems_at (xs := #[]) (n := 0) at_new rfl ?_)
  rw [if_neg (by simp)]
  refine wpAny_bind (listUpdate_at (xs := #[]) (n := 0) at_new rfl ?_ (Nat.zero_le _) (by
    show (#[] ++ vs.toArray).size ≤ sizeLine + 1
    simp only [Array.size_append, List.size_toArray, List.length_nil]
    omega))
  refine wpAny_pure ?_
  show wpAny (model prog w) A (do
      let o ← load s.heap.objs.size
      match o.data with
      | .seq xs _ => pure xs.toList
      | _ => unsupported "internal:collect") R E { s with heap := gath s.heap vs }
  refine wpAny_bind (wpAny_load (get?_update_seq at_new _) ?_)
  show wpAny _ _ (pure ((#[] : Array Value) ++ vs.toArray).toList) R E _
  have ev : ((#[] : Array Value) ++ vs.toArray).toList = vs := by simp
  rw [ev]
  exact wpAny_pure k
theorem sorted_tup {t : Addr} {vs : List Value} {ltv : Value → Value → Bool} {R : Value → Shared → Prop} (O : SrtO.Swo ltv) (ht : IsTup s.heap t vs.toArray) (fit : vs.length ≤ sizeLine)
    (hS : 2 ≤ vs.length → ∀ (h₁ : Heap) (a : Addr), SrtO.SortableO prog w A.in1.in1 { s with heap := h₁ } a vs ltv)
    (k : ∀ out : List Value, SrtO.Srtd ltv out → SrtO.Stb ltv out vs → R (.ref (s.heap.objs.size + 1)) { s with heap := sortedAll s.heap vs out.toArray }) :
    wpAny (model prog w) A (call (.builtin "sorted") [.ref t]) R E s := by
  refine Calls.call_function_entry kind_sorted plain_sorted entry_sorted (args_sorted1 _) ?_
  unfold Builtin.«sorted»
  refine wpAny_bind (m := checkCount "sorted" 1 1 _) (wpAny_pure ?_)
  refine wpAny_bind (gather_tup ht ?_ fit)
  refine wpAny_bind (wpAny_newList ?_ fit)
  have sz : (gath s.heap vs).objs.size = s.heap.objs.size + 1 := by
    show ((s.heap.push (seqObj "list" #[] 0)).update _ _).objs.size = _
    rw [Heap.size_update, size_push']
  have at_l : ((gath s.heap vs).push (seqObj "list" vs.toArray 0)).get? (s.heap.objs.size + 1) = some (seqObj "list" vs.toArray 0) := by
    rw [← sz]
    exact Heap.get?_push_size _ rfl
  show wpAny _ _ _ _ _ { s with heap := (gath s.heap vs).push (seqObj "list" vs.toArray 0) }
  rw [sz]
  refine wpAny_bind (wpAny_holding (wpAny_call_entry slot_list_sort ⟨_, at_l, rfl⟩ entry_list_sort (SrtO.list_sort_ord O at_l fit (fun h2 => hS h2 _ _) fun out hs hb => ⟨_, rfl, ?_⟩) (args_list_sort _)))
  exact wpAny_pure ⟨_, rfl, k out hs hb⟩
end
section
variable {X : Cx}
def rSortedT2 (K : PySem.W.Frag) : List V → Hp → VK → Prop := fun vs H Q => ∃ (a : Addr) (ns : List Int), vs = [V.ref a] ∧ SqT K H a (ns.map V.int) ∧
  ∀ (ms : List Int) (p : Addr), ms.Perm ns → ms.Pairwise (· ≤ ·) → H p = none → Q (.ref p) (upd H p (.lst (ms.map V.int)))
theorem cr_sortedT2 : CallR X (.builtin "sorted") (rSortedT2 X.K) := by
  intro pins s σ H vs us Q I r h
  obtain ⟨a, ns, rfl, hs, q⟩ := h
  obtain ⟨its, rv, ht, fit⟩ := I.tuple hs
  rw [Vals.ref1 r]
  have hints := rv.ints
  refine sorted_tup SrtO.swo_int ht (by rw [← rv.length]; exact fit) (fun h2 h₁ a' => SrtO.ints_sortable hints h2) fun out h1 h2 => ?_
  obtain ⟨k1, k2, k3⟩ := SrtO.ints_out hints h1 h2
  obtain ⟨ep, he⟩ := PyProof.Rows.sortedAll_at s.heap its out.toArray
  have len : ((out.map SrtO.iv).map V.int).length ≤ sizeLine := by
    rw [List.length_map, k2.length_eq]
    rw [List.length_map] at fit
    exact fit
  have new : H (s.heap.objs.size + 1) = none := I.hok.fresh (Nat.le_succ _)
  exact ⟨.ref _, upd H (s.heap.objs.size + 1) (.lst ((out.map SrtO.iv).map V.int)), I.laid (t' := s.toks) (fun _ _ => PyProof.Rows.sortedAll_old) (Nat.le_succ _) ⟨len, out, ep, vals_of_ints k1, he⟩, rfl, q _ _ k2 k3 new⟩
end
section
variable {K : PySem.W.Frag} {σ : L2.St} {F : Hp} {ta : TE}
theorem en_sortT {ns ms : List Int} (h : Er (rTup rInt) ta σ F ns) (hm : ∀ ns' : List Int, ns'.Perm ns → ns'.Pairwise (· ≤ ·) → ns' = ms) : En rInt (tCB (rSortedT2 K) (tCons ta tNil)) σ F ms := fun H1 e Q q => h H1 e _ fun v H2 e2 ⟨p, xs, hx, hp, hal⟩ => by
  rw [rel_ints hal] at hp
  refine ⟨p, ns, congrArg (· :: []) hx, SqT.of (part_sub (e.trans e2) p _ hp), fun ns' c h1 h2 hc => ?_⟩
  rw [hm ns' h1 h2]
  exact q c _ (e2.trans (Ex.new hc)) (new_at e e2 hc (ints_rel ms))
end
end DL
set_option Elab.async false
set_option linter.all false
set_option maxRecDepth 100000
set_option maxHeartbeats 4000000
/-! the world of a def's body: F0, H0 at its entry; G what stands still by now; H the heap by now -/
namespace DL
open PySem L2 Evl
structure Wd (F0 H0 G H : Hp) : Prop where
  old : Ex F0 G
  sub : Ex G H
  up : Ex H0 H
  nw : ∀ q u, G q = some u → F0 q = none → H0 q = none
/-- from one point to the next: but the object at x all that stood stands, nothing that was open has come into the frame -/
structure Stp (x : Option Addr) (G H G2 H2 : Hp) : Prop where
  fr : Ex G G2
  hp : ∀ c u, H c = some u → ∃ u2, H2 c = some u2 ∧ (some c ≠ x → u2 = u)
  nw : ∀ c u, H c = some u → G c = none → G2 c = none
section
variable {α β γ δ : Type} {K : PySem.W.Frag} {σ σ2 : L2.St} {F0 H0 F G G2 G3 H H1 H2 H3 : Hp} {ta tb te tl : TE} {t : TT} {v : V} {r : Rep α} {s : Rep β} {a : α} {b : β} {as : List α} {bs : List β} {p q : Addr} {x y : Option Addr}
theorem Stp.at (s : Stp x G H G2 H2) {c : Addr} {u : HO} (n : some c ≠ x) (h : H c = some u) : H2 c = some u := by
  obtain ⟨u2, h1, h2⟩ := s.hp c u h
  rw [h1, h2 n]
theorem Stp.ex (s : Stp none G H G2 H2) : Ex H H2 := fun c u h => s.at (fun z => nomatch z) h
theorem Stp.refl : Stp x G H G H := ⟨Ex.refl _, fun _ u h => ⟨u, h, fun _ => rfl⟩, fun _ _ _ h => h⟩
theorem Stp.trans (a : Stp x G H G2 H2) (b : Stp x G2 H2 G3 H3) : Stp x G H G3 H3 := ⟨a.fr.trans b.fr, fun c u h => by
  obtain ⟨u2, h1, h2⟩ := a.hp c u h
  obtain ⟨u3, h3, h4⟩ := b.hp c u2 h1
  exact ⟨u3, h3, fun n => (h4 n).trans (h2 n)⟩, fun c u h n => by
  obtain ⟨u2, h1, _⟩ := a.hp c u h
  exact b.nw c u2 h1 (a.nw c u h n)⟩
theorem Stp.any (a : Stp none G H G2 H2) : Stp x G H G2 H2 := ⟨a.fr, fun c u h => by
  obtain ⟨u2, h1, h2⟩ := a.hp c u h
  exact ⟨u2, h1, fun _ => h2 fun z => nomatch z⟩, a.nw⟩
theorem stp_ev (e : Ex H H2) : Stp none G H (part G H H2) H2 := ⟨part_ex, fun c u h => ⟨u, e c u h, fun _ => rfl⟩, fun c u h n => part_old n h⟩
theorem stp_same (e : Ex H H2) : Stp none G H G H2 := ⟨Ex.refl _, fun c u h => ⟨u, e c u h, fun _ => rfl⟩, fun _ _ _ n => n⟩
theorem stp_new (n : New r as G H H2 p) (e0 : Ex G H) (e : Ex H H2) : Stp none G H (mns (part G H H2) p) H2 := ⟨n.ex e0, fun c u h => ⟨u, e c u h, fun _ => rfl⟩, fun c u h g => by
  by_cases hc : c = p
  · rw [hc, mns_at]
  · rw [mns_ne hc, part_old g h]⟩
theorem stp_put {o : HO} : Stp (some p) G H G (upd H p o) := ⟨Ex.refl _, fun c u h => by
  by_cases hc : c = p
  · subst hc
    exact ⟨o, upd_same, fun n => absurd rfl n⟩
  · exact ⟨u, (upd_ne hc).trans h, fun _ => rfl⟩, fun _ _ _ n => n⟩
theorem part_into {F H1 Hc H4 G : Hp} (eG : Ex G (part F H1 Hc)) (e0 : Ex F H1) (e1 : Ex H1 Hc) (e : Ex Hc H4) : Ex (part G Hc H4) (part F H1 H4) := fun q u hq => by
  cases hg : G q with
  | some z =>
    rw [part_in hg] at hq
    rw [← hq]
    exact part_up e q z (eG q z hg)
  | none =>
    cases hc : Hc q with
    | some z => rw [part_old hg hc] at hq; cases hq
    | none =>
      rw [part_new hg hc] at hq
      have n1 : H1 q = none := back_none e1 hc
      rw [part_new (back_none e0 n1) n1]
      exact hq
/-! worlds -/
theorem Wd.start (e : Ex F H) : Wd F H F H := ⟨Ex.refl _, e, Ex.refl _, fun q u h n => by
  rw [h] at n
  cases n⟩
theorem Wd.step (w : Wd F0 H0 G H) (s : Stp none G H G2 H2) (sub : Ex G2 H2) : Wd F0 H0 G2 H2 := ⟨w.old.trans s.fr, sub, w.up.trans s.ex, fun q u h n => by
  cases h0 : H0 q with
  | none => rfl
  | some z =>
    have hq := w.up q z h0
    cases g : G q with
    | none =>
      rw [s.nw q z hq g] at h
      cases h
    | some y =>
      rw [w.nw q y g n] at h0
      cases h0⟩
theorem Wd.ev (w : Wd F0 H0 G H) (e : Ex H H2) : Wd F0 H0 (part G H H2) H2 := w.step (stp_ev e) (part_sub (w.sub.trans e))
theorem Wd.same (w : Wd F0 H0 G H) (e : Ex H H2) : Wd F0 H0 G H2 := w.step (stp_same e) (w.sub.trans e)
theorem Wd.new (w : Wd F0 H0 G H) (n : New r as G H H2 p) (e : Ex H H2) : Wd F0 H0 (mns (part G H H2) p) H2 := w.step (stp_new n w.sub e) (n.sub w.sub e)
theorem Wd.put (w : Wd F0 H0 G H) {o : HO} (hG : G p = none) (h0 : H0 p = none) : Wd F0 H0 G (upd H p o) := ⟨w.old, Ex.mut w.sub hG, Ex.mut w.up h0, w.nw⟩
theorem Wd.into (w : Wd F0 H0 G H) : Ex G (part F0 H0 H) := fun q u h => by
  cases f : F0 q with
  | some z =>
    rw [part_in f, ← h]
    exact (w.old q z f).symm
  | none =>
    rw [part_new f (w.nw q u h f)]
    exact w.sub q u h
/-- what stands there at the end, for the caller -/
theorem Wd.out (w : Wd F0 H0 G H) (h : r.rel (part G H H2) v a) (e : Ex H H2) : r.rel (part F0 H0 H2) v a := r.mono ((w.ev e).into) h
theorem Wd.outN (w : Wd F0 H0 G H) (n : New r as G H H2 p) (e : Ex H H2) : New r as F0 H0 H2 p := by
  obtain ⟨h1, xs, h2, h3⟩ := n
  exact ⟨back_none w.up h1, xs, h2, h3.imp fun _ _ k => r.mono (mns_up (w.ev e).into) k⟩
theorem Wd.outMu (w : Wd F0 H0 G H) (m : Mu r as G H p) (h0 : H0 p = none) : New r as F0 H0 H p := by
  obtain ⟨h1, xs, h2, h3⟩ := m
  exact ⟨h0, xs, h2, h3.imp fun _ _ k => r.mono (ex_mns w.into h1) k⟩
/-! lists of one's own -/
theorem Mu.step (h : Mu r as G H p) (s : Stp x G H G2 H2) (n : some p ≠ x) : Mu r as G2 H2 p := by
  obtain ⟨h1, xs, h2, h3⟩ := h
  exact ⟨s.nw p _ h2 h1, xs, s.at n h2, h3.imp fun _ _ k => r.mono s.fr k⟩
theorem Mu.go (h : Mu r as G H p) (s : Stp none G H G2 H2) : Mu r as G2 H2 p := h.step s fun z => nomatch z
/-! statements; w: something behind, v: the last -/
variable {D : Ends} {tu tw tz : TS} {g : TG} {i : Nat}
theorem v_asg (w : Wd F0 H0 G H) (h : Er r te σ G a) (k : ∀ v G2 H2, Wd F0 H0 G2 H2 → Stp none G H G2 H2 → r.rel G2 v a → D.nx (σ.set i (some v)) H2) : tAsg te (gName i) D σ H := h H w.sub _ fun v H2 e hv => k v _ H2 (w.ev e) (stp_ev e) hv
theorem w_asg (w : Wd F0 H0 G H) (h : Er r te σ G a) (k : ∀ v G2 H2, Wd F0 H0 G2 H2 → Stp none G H G2 H2 → r.rel G2 v a → tz D (σ.set i (some v)) H2) : tSeq (tAsg te (gName i)) tz D σ H := v_asg (D := { D with nx := tz D }) w h k
theorem v_asgI {n : Int} (w : Wd F0 H0 G H) (h : Er rInt te σ G n) (k : ∀ H2, Wd F0 H0 G H2 → Stp none G H G H2 → D.nx (σ.set i (some (.int n))) H2) : tAsg te (gName i) D σ H := h H w.sub _ fun v H2 e hv => by
  rw [show v = V.int n from hv]
  exact k H2 (w.same e) (stp_same e)
theorem w_asgI {n : Int} (w : Wd F0 H0 G H) (h : Er rInt te σ G n) (k : ∀ H2, Wd F0 H0 G H2 → Stp none G H G H2 → tz D (σ.set i (some (.int n))) H2) : tSeq (tAsg te (gName i)) tz D σ H := v_asgI (D := { D with nx := tz D }) w h k
theorem v_asgN (w : Wd F0 H0 G H) (h : En r te σ G as) (k : ∀ p G2 H2, Wd F0 H0 G2 H2 → Stp none G H G2 H2 → Mu r as G2 H2 p → H p = none → D.nx (σ.set i (some (.ref p))) H2) : tAsg te (gName i) D σ H := h H w.sub _ fun p H2 e n => k p _ H2 (w.new n e) (stp_new n w.sub e) n.mu n.1
theorem w_asgN (w : Wd F0 H0 G H) (h : En r te σ G as) (k : ∀ p G2 H2, Wd F0 H0 G2 H2 → Stp none G H G2 H2 → Mu r as G2 H2 p → H p = none → tz D (σ.set i (some (.ref p))) H2) : tSeq (tAsg te (gName i)) tz D σ H := v_asgN (D := { D with nx := tz D }) w h k
theorem v_ret (w : Wd F0 H0 G H) (h : Er r te σ G a) (k : ∀ v H2, Ex H0 H2 → r.rel (part F0 H0 H2) v a → D.rt v H2) : tRet te D σ H := h H w.sub _ fun v H2 e hv => k v H2 (w.up.trans e) (w.out hv e)
theorem v_retI {n : Int} (w : Wd F0 H0 G H) (h : Er rInt te σ G n) (k : ∀ H2, Ex H0 H2 → D.rt (.int n) H2) : tRet te D σ H := h H w.sub _ fun v H2 e hv => by
  rw [show v = V.int n from hv]
  exact k H2 (w.up.trans e)
theorem v_retB {n : Bool} (w : Wd F0 H0 G H) (h : Er rBl te σ G n) (k : ∀ H2, Ex H0 H2 → D.rt (.bl n) H2) : tRet te D σ H := h H w.sub _ fun v H2 e hv => by
  rw [show v = V.bl n from hv]
  exact k H2 (w.up.trans e)
theorem v_retN (w : Wd F0 H0 G H) (h : En r te σ G as) (k : ∀ p H2, Ex H0 H2 → New r as F0 H0 H2 p → D.rt (.ref p) H2) : tRet te D σ H := h H w.sub _ fun p H2 e n => k p H2 (w.up.trans e) (w.outN n e)
theorem v_retM (w : Wd F0 H0 G H) (hi : σ[i]? = some (some (.ref p))) (m : Mu r as G H p) (h0 : H0 p = none) (k : New r as F0 H0 H p → D.rt (.ref p) H) : tRet (tVar i) D σ H := ⟨_, hi, k (w.outMu m h0)⟩
theorem v_if {b : Bool} (w : Wd F0 H0 G H) (h : EvT t σ G b) (h1 : b = true → ∀ H2, Wd F0 H0 G H2 → Stp none G H G H2 → tu D σ H2) (h2 : b = false → ∀ H2, Wd F0 H0 G H2 → Stp none G H G H2 → tw D σ H2) : tIfS t tu tw D σ H := h H w.sub _ fun H2 e => by
  cases b with
  | true =>
    show tu D σ H2
    exact h1 rfl H2 (w.same e) (stp_same e)
  | false =>
    show tw D σ H2
    exact h2 rfl H2 (w.same e) (stp_same e)
theorem w_if {b : Bool} (w : Wd F0 H0 G H) (h : EvT t σ G b) (h1 : b = true → ∀ H2, Wd F0 H0 G H2 → Stp none G H G H2 → tu { D with nx := tz D } σ H2) (h2 : b = false → ∀ H2, Wd F0 H0 G H2 → Stp none G H G H2 → tw { D with nx := tz D } σ H2) : tSeq (tIfS t tu tw) tz D σ H := v_if (D := { D with nx := tz D }) w h h1 h2
theorem w_when {b : Bool} (w : Wd F0 H0 G H) (h : EvT t σ G b) (h1 : b = true → ∀ H2, Wd F0 H0 G H2 → Stp none G H G H2 → tu { D with nx := tz D } σ H2) (h2 : b = false → ∀ H2, Wd F0 H0 G H2 → Stp none G H G H2 → tz D σ H2) : tSeq (tIfS t tu tNext) tz D σ H := v_if (D := { D with nx := tz D }) w h h1 h2
theorem v_when {b : Bool} (w : Wd F0 H0 G H) (h : EvT t σ G b) (h1 : b = true → ∀ H2, Wd F0 H0 G H2 → Stp none G H G H2 → tu D σ H2) (h2 : b = false → ∀ H2, Wd F0 H0 G H2 → Stp none G H G H2 → D.nx σ H2) : tIfS t tu tNext D σ H := v_if w h h1 h2
/-- if c: return False, where c is false -/
theorem w_no {b : Bool} (w : Wd F0 H0 G H) (h : EvT t σ G b) (hb : b = false) (k : ∀ H2, Wd F0 H0 G H2 → Stp none G H G H2 → tz D σ H2) : tSeq (tIfS t tu tNext) tz D σ H := w_when w h (fun z => by rw [hb] at z; cases z) fun _ => k
theorem v_no {b : Bool} (w : Wd F0 H0 G H) (h : EvT t σ G b) (hb : b = false) (k : ∀ H2, Wd F0 H0 G H2 → Stp none G H G H2 → D.nx σ H2) : tIfS t tu tNext D σ H := v_when w h (fun z => by rw [hb] at z; cases z) fun _ => k
/-- the same, asked over another frame -/
theorem w_noF {b : Bool} (w : Wd F0 H0 G H) (e0 : Ex G2 H) (h : EvT t σ G2 b) (hb : b = false) (k : ∀ H2, Wd F0 H0 G H2 → Stp none G H G H2 → tz D σ H2) : tSeq (tIfS t tu tNext) tz D σ H := h H e0 _ fun H2 e => by
  subst hb
  show tz D σ H2
  exact k H2 (w.same e) (stp_same e)
/-- xs[i] = e, a list of one's own -/
theorem w_put {tb : TE} {j : Nat} (w : Wd F0 H0 G H) (h : Er r te σ G a) (hi : σ[i]? = some (some (.ref p))) (m : Mu r as G H p) (h0 : H0 p = none) (hj : Er rInt tb σ G (j : Int)) (hl : j < as.length)
    (k : ∀ G2 H2, Wd F0 H0 G2 H2 → Stp (some p) G H G2 H2 → Mu r (as.set j a) G2 H2 p → tz D σ H2) : tSeq (tAsg te (gSub (tVar i) tb rSetL)) tz D σ H :=
  h H w.sub _ fun v H2 e2 hv => ⟨.ref p, hi, hj H2 (w.sub.trans e2) _ fun x H3 e3 hx => by
    obtain ⟨h1, xs, h2, h3⟩ := m
    cases (show x = V.int (j : Int) from hx)
    have e23 := e2.trans e3
    have hG : part G H H3 p = none := part_old h1 h2
    exact ⟨p, xs, (j : Int), j, rfl, rfl, e23 p _ h2, ixN_nat (by rw [h3.len]; exact hl), k (part G H H3) _ ((w.ev e23).put hG h0) (Stp.trans (stp_ev e23).any stp_put)
      ⟨hG, _, upd_same, Al.set (r.mono (part_up e3) hv) j (h3.imp fun _ _ k => r.mono part_ex k)⟩⟩⟩
theorem v_app (w : Wd F0 H0 G H) (hi : σ[i]? = some (some (.ref p))) (m : Mu r as G H p) (h0 : H0 p = none) (hl : as.length < 100000) (h : Er r te σ G a)
    (k : ∀ G2 H2, Wd F0 H0 G2 H2 → Stp (some p) G H G2 H2 → Mu r (as ++ [a]) G2 H2 p → D.nx σ H2) : tDrop (tBM K "list" rAppend (tVar i) (tCons te tNil)) D σ H := by
  obtain ⟨h1, xs, h2, h3⟩ := m
  refine ⟨_, hi, Or.inl ⟨rfl, xs, SqL.of h2⟩, h H w.sub _ fun v H2 e2 hv => ⟨p, xs, v, rfl, rfl, e2 p _ h2, by rw [h3.len]; exact sz_lt hl, ?_⟩⟩
  have hG : part G H H2 p = none := part_old h1 h2
  exact k (part G H H2) _ ((w.ev e2).put hG h0) (Stp.trans (stp_ev e2).any stp_put) ⟨hG, _, upd_same, Al.snoc (h3.imp fun _ _ k => r.mono part_ex k) hv⟩
theorem w_app (w : Wd F0 H0 G H) (hi : σ[i]? = some (some (.ref p))) (m : Mu r as G H p) (h0 : H0 p = none) (hl : as.length < 100000) (h : Er r te σ G a)
    (k : ∀ G2 H2, Wd F0 H0 G2 H2 → Stp (some p) G H G2 H2 → Mu r (as ++ [a]) G2 H2 p → tz D σ H2) : tSeq (tDrop (tBM K "list" rAppend (tVar i) (tCons te tNil))) tz D σ H := v_app (D := { D with nx := tz D }) w hi m h0 hl h k
/-- a list of one's own, to be read as it stands -/
theorem Mu.froz (m : Mu r as G H p) (w : Wd F0 H0 G H) (h0 : H0 p = none) : ∃ G2, Wd F0 H0 G2 H ∧ Ex G G2 ∧ (rLst r).rel G2 (.ref p) as ∧ ∀ c, c ≠ p → G2 c = G c := by
  obtain ⟨h1, xs, h2, h3⟩ := m
  refine ⟨upd G p (.lst xs), ⟨w.old.trans (Ex.new h1), fun q o hq => ?_, w.up, fun q u hq hn => ?_⟩, Ex.new h1, ⟨p, xs, rfl, upd_same, h3.imp fun _ _ k => r.mono (Ex.new h1) k⟩, fun c hc => upd_ne hc⟩
  · by_cases hqp : q = p
    · subst hqp
      rw [upd_same] at hq
      rw [← hq]
      exact h2
    · rw [upd_ne hqp] at hq
      exact w.sub q o hq
  · by_cases hqp : q = p
    · subst hqp
      exact h0
    · rw [upd_ne hqp] at hq
      exact w.nw q u hq hn
def MonoS (S : Hp → α → L2.St → L2.St → Prop) : Prop := ∀ G G2 a σ σ2, Ex G G2 → S G a σ σ2 → S G2 a σ σ2
theorem mono_sn {j : Nat} : MonoS (SN r j) := fun _ _ _ _ _ e ⟨x, h, k⟩ => ⟨x, r.mono e h, k⟩
theorem mono_sp {i j : Nat} : MonoS (SPr r s i j) := fun _ _ _ _ _ e ⟨x, y, h, h2, k⟩ => ⟨x, y, r.mono e h, s.mono e h2, k⟩
/-- what is wanted between two turns of a loop: G1 the frame of what it goes through -/
def Nxt (F0 H0 G1 : Hp) (Pv : L2.St → Hp → Hp → Prop) : L2.St → Hp → Prop := fun σ H => ∃ G, Wd F0 H0 G H ∧ Ex G1 G ∧ Pv σ G H
/-- for: what holds between two turns, by the items taken -/
theorem v_for {wi : TI} {tb : TS} {S : Hp → α → L2.St → L2.St → Prop} (w : Wd F0 H0 G H) (h : Src wi σ G r as) (hg : Tgt g r S) (hm : MonoS S) (Pv : List α → L2.St → Hp → Hp → Prop)
    (h0 : ∀ G1 H1, Wd F0 H0 G1 H1 → Stp none G H G1 H1 → Pv [] σ G1 H1)
    (hs : ∀ G1 pre a post σ' σ2 G' H' G2 H2, as = pre ++ a :: post → Pv pre σ' G' H' → Stp none G' H' G2 H2 → Wd F0 H0 G2 H2 → Ex G1 G2 → S G2 a σ' σ2 →
      tb { D with nx := Nxt F0 H0 G1 (Pv (pre ++ [a])), ct := Nxt F0 H0 G1 (Pv (pre ++ [a])), bk := D.nx } σ2 H2)
    (hd : ∀ σ' G' H', Wd F0 H0 G' H' → Pv as σ' G' H' → D.nx σ' H') : tFor wi g tb D σ H := by
  refine d_for h hg w.sub (fun G1 pre => Nxt F0 H0 G1 (Pv pre)) (fun G1 pre σ' H' ⟨G', w', e', _⟩ => e'.trans w'.sub) (fun H1 e1 => ?_) (fun G1 pre a post σ' H' H2 σ2 has ⟨G', w', e', hP⟩ e2 hS => ?_) (fun G1 σ' H' ⟨G', w', _, hP⟩ => hd σ' G' H' w' hP)
  · exact ⟨_, w.ev e1, Ex.refl _, h0 _ H1 (w.ev e1) (stp_ev e1)⟩
  · exact hs G1 pre a post σ' σ2 G' H' (part G' H' H2) H2 has hP (stp_ev e2) (w'.ev e2) (e'.trans part_ex) (hm _ _ _ _ _ (part_frame e' w'.sub) hS)
theorem w_for {wi : TI} {S : Hp → α → L2.St → L2.St → Prop} (w : Wd F0 H0 G H) (h : Src wi σ G r as) (hg : Tgt g r S) (hm : MonoS S) (Pv : List α → L2.St → Hp → Hp → Prop)
    (h0 : ∀ G1 H1, Wd F0 H0 G1 H1 → Stp none G H G1 H1 → Pv [] σ G1 H1)
    (hs : ∀ G1 pre a post σ' σ2 G' H' G2 H2, as = pre ++ a :: post → Pv pre σ' G' H' → Stp none G' H' G2 H2 → Wd F0 H0 G2 H2 → Ex G1 G2 → S G2 a σ' σ2 →
      tu { D with nx := Nxt F0 H0 G1 (Pv (pre ++ [a])), ct := Nxt F0 H0 G1 (Pv (pre ++ [a])), bk := tz D } σ2 H2)
    (hd : ∀ σ' G' H', Wd F0 H0 G' H' → Pv as σ' G' H' → tz D σ' H') : tSeq (tFor wi g tu) tz D σ H := v_for (D := { D with nx := tz D }) w h hg hm Pv h0 hs hd
end
end DL
set_option Elab.async false
set_option linter.all false
set_option maxRecDepth 100000
set_option maxHeartbeats 4000000
namespace DL
open PySem PySem.Spec PySem.W PySem.Calls PyProof.Rows L2 Evl
/-! ### the key of an item: its worth negated, its lot -/
def rkA (p : Pos) : Arguments := { posonlyargs := [], args := [{ arg := "item", annotation := none, pos := p }], vararg := none, kwonlyargs := [], kw_defaults := [], kwarg := none, defaults := [] }
def rkB (k1 k2 : Nat) (p1 p2 p3 p4 p5 p6 p7 p8 p9 p10 : Pos) : List Stmt :=
  [.Assign [.Tuple [.Name "worth" p1, .Name "lot" p2] k1 p3] (.Name "item" p4) p5,
   .Return (some (.Tuple [.UnaryOp .USub (.Name "worth" p6) p7, .Name "lot" p8] k2 p9)) p10]
def rkS : Scope := { kind := .function, names := [(PySem.Str.ofString "item", .local), (PySem.Str.ofString "worth", .local), (PySem.Str.ofString "lot", .local)], isGenerator := false, isCoroutine := false, more := [] }
theorem ldK {M : Model} {s : Shared} {name : Str} {scope : Scope} {L a : Addr} {cd : Value} {m : Str → Option Value} {x : Str} {pos : Pos} {v : Value} {Q : Value → Shared → Prop} {A : Around} {E : Value → Shared → Prop} (hn : s.heap.Ns L m) (hv : m x = some v) (h : Q v s)
    (hk : scope.kind = .function := by rfl) (hl : (envOfC name scope L a cd).kindOf x = some .local := by rfl) (hd : (x == ("__debug__" : Str)) = false := by decide) :
    wpAny M A (eval (.Name x pos) (envOfC name scope L a cd)) Q E s := wpAny_Name (wpAny_loadName_local hk hl hn hv h) hd
def keyOf (w : Int) (ls : List Int) : PyData := .tuple [.int (-w), .tuple (ls.map .int)]
section
variable {prog : Program} {wo : World} {A : Around} {s : Shared} {K : Frag} {f : Addr} {fd : FuncData} {st : Stmt}
theorem rank_call {pa : Pos} {k1 k2 : Nat} {p1 p2 p3 p4 p5 p6 p7 p8 p9 p10 : Pos} (X : K.In s.heap) (hlim : s.heap.NoLimit) (F : Fun K "rank" "rank" st f fd) (ha : defArgs st = rkA pa) (hb : defBody st = rkB k1 k2 p1 p2 p3 p4 p5 p6 p7 p8 p9 p10) (hs : defScope st = rkS)
    (hh : A.handled = none) (hroom : A.depth < recursionLimit) {p q : Addr} {w : Int} {t : Nat} {ls : List Int} (hp : IsTup s.heap p #[.int w t, .ref q]) (hq : Reads s.heap (.ref q) (.tuple (ls.map .int)) []) :
    wpAny (model prog wo) A (call (.ref f) [.ref p]) (KeyPure (keyOf w ls) s) (fun _ _ => False) s := by
  obtain ⟨oc, od, kV, doc, pm, an, cdv, ct, osl, rfl, lk, hcd⟩ := F.ex
  rw [ha, hb, hs] at lk
  refine wpAny_call (Att.call_fn (binds := [("item", .ref p)]) X hlim lk hcd hroom (BindsTo.of_eq (by first | rfl | with_unfolding_all rfl)) (by first | rfl | decide | with_unfolding_all rfl) (fun s₁ IC => ?_) rfl rfl rfl)
  obtain ⟨h₁, tk₁, rfl⟩ := IC.toInCall.same
  have k : ∀ b o, s.heap.get? b = some o → h₁.get? b = some o := IC.toInCall.keep
  have hn := IC.toInCall.ns
  have z : s.heap.objs.size < h₁.objs.size := hn.lt
  show wpAny _ _ (execs (rkB k1 k2 p1 p2 p3 p4 p5 p6 p7 p8 p9 p10) _) _ _ _
  refine wpAny_execs_cons (Assign_Tuple ?_)
  refine ldK (v := .ref p) hn (by first | rfl | with_unfolding_all rfl | kernel_rfl) ?_
  refine assign_Tuple_tuple hh (hp.keeps k) rfl rfl fun h₂ he => ?_
  have k2 : ∀ b o, s.heap.get? b = some o → h₂.get? b = some o := fun b o e => he b o (Nat.ne_of_lt (Nat.lt_trans (Heap.lt_size e) z)) (k b o e)
  have hn2 := hn.extBut he (Nat.ne_of_lt z)
  refine assignInOrder_cons (wpAny_assign_Name (wpAny_storeName_local rfl hn2 fun h₃ hn3 sm => ?_))
  have k3 : ∀ b o, s.heap.get? b = some o → h₃.get? b = some o := fun b o e => sm.extBut b o (Nat.ne_of_lt (Heap.lt_size e)) (k2 b o e)
  refine assignInOrder_cons (wpAny_assign_Name (wpAny_storeName_local rfl hn3 fun h₄ hn4 sm4 => ?_))
  have k4 : ∀ b o, s.heap.get? b = some o → h₄.get? b = some o := fun b o e => sm4.extBut b o (Nat.ne_of_lt (Heap.lt_size e)) (k3 b o e)
  refine assignInOrder_nil ?_
  refine wpAny_execs_cons (wpAny_Return_some (wpAny_Tuple ?_))
  refine wpAny_items_cons (wpAny_UnaryOp (ldK (v := .int w t) hn4 (by first | rfl | with_unfolding_all rfl | kernel_rfl) (neg_int ?_)))
  refine wpAny_items_cons (ldK (v := .ref q) hn4 (by first | rfl | with_unfolding_all rfl | kernel_rfl) ?_)
  refine spliced_nil ⟨by rw [sizeLine_eq]; exact (by decide : 2 ≤ 16777216), ?_⟩
  refine ⟨_, _, rfl, fun b o e => Heap.get?_push_of_some _ (k4 b o e), ?_⟩
  exact .tuple (as := []) (Heap.get?_push_size _ rfl) rfl rfl (.cons (as := []) (bs := []) (.int _ _) (.cons (as := []) (bs := []) (PyProof.Rows.Reads.keeps (fun b o e => Heap.get?_push_of_some _ (k4 b o e)) hq) .nil))
end

/-! ### the order of items: the greater worth first, then the lesser lot -/
abbrev Itm := Int × List Int
def rkLt (x y : Itm) : Prop := y.1 < x.1 ∨ (x.1 = y.1 ∧ x.2 < y.2)
instance (x y : Itm) : Decidable (rkLt x y) := inferInstanceAs (Decidable (_ ∨ _))
def itKey (x : Itm) : PyData := keyOf x.1 x.2
theorem alike_key (x y : Itm) : alike (itKey x) (itKey y) = true := by
  unfold itKey keyOf
  simp [alike, alikeAll, alike_ints]
theorem eqv_intsT (xs ys : List Int) : PyData.eqv (.tuple (xs.map .int)) (.tuple (ys.map .int)) = decide (xs = ys) := Enc.eqvAll (K := []) eInt xs ys
theorem lt_key (x y : Itm) : dataLt (itKey x) (itKey y) = decide (rkLt x y) := by
  unfold itKey keyOf
  rw [dataLt_pair (by simp [alike]) (by simp [alike, alike_ints]), dataLt_int, dataLt_tuple]
  show (if PyData.eqv (.int (-x.1)) (.int (-y.1)) = true then (if PyData.eqv (.tuple (x.2.map .int)) (.tuple (y.2.map .int)) = true then false else rowLt (x.2.map .int) (y.2.map .int)) else decide (-x.1 < -y.1)) = _
  rw [eqv_intsT, dataLt_ints]
  simp only [PyData.eqv, beq_iff_eq]
  have hirr : ∀ l : List Int, ¬ l < l := fun l => List.lt_irrefl l
  rw [Bool.eq_iff_iff]
  rw [decide_eq_true_iff (p := rkLt x y)]
  by_cases h1 : -x.1 = -y.1
  · have h3 : x.1 = y.1 := by omega
    have h4 : rkLt x y ↔ x.2 < y.2 := ⟨fun h => h.elim (fun z => by omega) fun z => z.2, fun h => .inr ⟨h3, h⟩⟩
    rw [if_pos h1, h4]
    by_cases h2 : x.2 = y.2
    · rw [h2]
      simp [hirr]
    · simp [h2]
  · have h3 : ¬ x.1 = y.1 := by omega
    have h4 : rkLt x y ↔ -x.1 < -y.1 := ⟨fun h => h.elim (fun z => by omega) fun z => absurd z.1 h3, fun h => .inl (by omega)⟩
    rw [if_neg h1, h4]
    simp
def rkLe (x y : Itm) : Bool := !decide (rkLt y x)
theorem le_key : dataLe false itKey = rkLe := by
  funext x y
  show (!dataLt (itKey y) (itKey x)) = _
  rw [lt_key]
  rfl
def rankOf (bs : List Itm) : List Itm := bs.mergeSort rkLe
theorem rkLe_total : TotalLe rkLe := by
  rw [← le_key]
  exact sortLe_total _ _ _
theorem rankOf_perm (bs : List Itm) : (rankOf bs).Perm bs := List.mergeSort_perm bs rkLe
theorem rankOf_up (bs : List Itm) : (rankOf bs).Pairwise fun x y => rkLe x y = true := sort_pairwise rkLe_total bs
theorem depth_key (x : Itm) : (itKey x).depth = 2 := by
  unfold itKey keyOf
  simp [PyData.depth, PyData.depthAll, depth_ints]
/-! ### sorted(xs, key=rank) -/
abbrev rIt : Rep Itm := rPair rInt (rTup rInt)
def rSortRk (K : Frag) (f : Addr) : List V → List V → Hp → VK → Prop := fun vs zs H Q => ∃ (a : Addr) (xs : List V) (bs : List Itm) (G : Hp), vs = [.ref a] ∧ zs = [.ref f] ∧ Ex G H ∧ SqL K H a xs ∧ Al (rIt.rel G) xs bs ∧
  ∀ ys p, Al (rIt.rel G) ys (rankOf bs) → H p = none → Q (.ref p) (upd H p (.lst ys))
theorem each_al {R : V → Itm → Prop} : ∀ {xs : List V} {bs : List Itm} {us : List Value}, Al R xs bs → Vals xs us → EachIs (fun u b => ∃ x, RelV x u ∧ R x b) us bs
  | _, _, _, .nil, .nil => .nil
  | _, _, _, .cons h t, .cons r rs => .cons ⟨_, r, h⟩ (each_al t rs)
theorem al_each {R : V → Itm → Prop} : ∀ {us : List Value} {bs : List Itm}, EachIs (fun u b => ∃ x, RelV x u ∧ R x b) us bs → ∃ ys, Vals ys us ∧ Al R ys bs
  | _, _, .nil => ⟨[], .nil, .nil⟩
  | _, _, .cons ⟨x, r, h⟩ t => by
    obtain ⟨ys, h1, h2⟩ := al_each t
    exact ⟨x :: ys, .cons r h1, .cons h h2⟩
theorem reads_ints {h : Heap} : ∀ {us : List Value} {ns : List Int}, IntsAre us ns → ReadsAll h us (ns.map PyData.int) []
  | _, _, .nil => .nil
  | _, _, .cons n t r => .cons (as := []) (bs := []) (.int _ _) (reads_ints r)
theorem reads_tupI {h : Heap} {q : Addr} {us : List Value} {ns : List Int} (ht : IsTup h q us.toArray) (hi : IntsAre us ns) : Reads h (.ref q) (.tuple (ns.map .int)) [] := by
  obtain ⟨o, h1, h2, n, h3⟩ := ht
  exact .tuple h1 h2 h3 (by rw [List.toList_toArray]; exact reads_ints hi)
section
variable {X : Cx} {f : Addr} {fd : FuncData} {st : Stmt}
structure IsRank (K : Frag) (f : Addr) : Prop where
  ex : ∃ (st : Stmt) (fd : FuncData) (pa : Pos) (k1 k2 : Nat) (p1 p2 p3 p4 p5 p6 p7 p8 p9 p10 : Pos), Fun K "rank" "rank" st f fd ∧ defArgs st = rkA pa ∧ defBody st = rkB k1 k2 p1 p2 p3 p4 p5 p6 p7 p8 p9 p10 ∧ defScope st = rkS
theorem cr_sortRk {n : Nat} (hk : IsRank X.K f) (hr : Room n X.A) : CallRK X (.builtin "sorted") [Str.ofString "key"] (rSortRk X.K f) := by
  intro pins s σ H vs zs us ws Q I r rz h
  obtain ⟨a, xs, bs, G, rfl, rfl, eG, hs, hal, q⟩ := h
  obtain rfl := Vals.ref1 r
  obtain rfl := Vals.ref1 rz
  obtain ⟨its, rv, hl, hz⟩ := I.list hs
  obtain ⟨st, fd, pa, k1, k2, p1, p2, p3, p4, p5, p6, p7, p8, p9, p10, F, h1, h2, h3⟩ := hk.ex
  have hd := hr.dp
  have hu := hr.un
  have e := each_al hal rv
  have hlen : bs.length ≤ sizeLine := by rw [← hal.len]; exact hz
  refine sorted_key_data (b := false) itKey hl.isList e (AllAlike.of alike_key) (Sortable.tuples fun _ => ⟨_, _, rfl⟩) hlen (fun p _ => by rw [depth_key]; omega) (ksk_s1 _ _) (fun _ => ksk_l1 _ _) (fun _ => ksk_t1 _ _)
    (fun v b ⟨x, rx, p, y, z, ex, hp, hy, q2, zs2, ez, hq, hal2⟩ _ h tk kp => ?_) fun out c h' tk kp fr hD hlo eo => ?_
  · subst ex
    subst ez
    obtain rfl := show v = Value.ref p from rx
    have hy' : y = V.int b.1 := hy
    subst hy'
    rw [rel_ints hal2] at hq
    obtain ⟨i1, r1, t1, _⟩ := I.tuple (SqT.of (eG _ _ hp))
    obtain ⟨u1, u2, e1, ru1, ru2⟩ := vals2 r1
    subst e1
    obtain ⟨tt, rfl⟩ := (show ∃ t, u1 = Value.int b.1 t from ru1)
    obtain rfl := show u2 = Value.ref q2 from ru2
    obtain ⟨i2, r2, t2, _⟩ := I.tuple (SqT.of (eG _ _ hq))
    exact rank_call (A := X.A.in1.in1) (s := { s with heap := h, toks := tk }) (I.kIn.keeps kp) (I.nolimit.keeps kp) F h1 h2 h3 hr.hd (by show X.A.depth < _; omega) (t1.keeps kp) (reads_tupI (t2.keeps kp) r2.ints)
  · rw [le_key] at eo
    obtain ⟨ys, ry, hy⟩ := al_each eo
    have new : H (s.heap.objs.size + 1) = none := I.hok.fresh (Nat.le_succ _)
    refine ⟨.ref _, upd H (s.heap.objs.size + 1) (.lst ys), I.laid (t' := tk) kp (Nat.le_succ _) ⟨?_, out, c, ry, hD⟩, rfl, q _ _ hy new⟩
    rw [ry.length, hlo]
    exact hlen
end
section
variable {K : Frag} {σ : L2.St} {F : Hp} {ta : TE} {f : Addr}
theorem en_sortRk {bs : List Itm} (h : Er (rLst rIt) ta σ F bs) : En rIt (tCKw (rSortRk K f) (tCons ta tNil) (tCons (tC (.ref f)) tNil)) σ F (rankOf bs) := fun H1 e Q q => h H1 e _ fun v H2 e2 ⟨p, xs, hx, hp, hal⟩ => by
  refine ⟨p, xs, bs, part F H1 H2, congrArg (· :: []) hx, rfl, part_sub (e.trans e2), SqL.of (part_sub (e.trans e2) p _ hp), hal, fun ys c hy hc => q c _ (e2.trans (Ex.new hc)) (new_at e e2 hc hy)⟩
end
end DL
set_option Elab.async false
set_option linter.all false
set_option maxRecDepth 100000
set_option maxHeartbeats 4000000
/-! while, insert, tuples before one another, one list read as another -/
namespace DL
open PySem L2 Evl
section
variable {α β γ δ : Type} {K : PySem.W.Frag} {σ σ2 : L2.St} {F0 H0 F G G2 G3 H H1 H2 H3 : Hp} {ta tb te tl : TE} {t c : TT} {v : V} {r : Rep α} {s : Rep β} {a : α} {b : β} {as : List α} {bs : List β} {p q : Addr} {x y : Option Addr} {D : Ends} {tu tw tz : TS} {g : TG} {i : Nat}
/-- a greater frame was of use for a while -/
theorem Wd.back (w : Wd F0 H0 G H) (w2 : Wd F0 H0 G2 H2) (e : Ex G G2) : Wd F0 H0 G H2 := ⟨w.old, e.trans w2.sub, w2.up, w.nw⟩
theorem v_while {tb : TS} (w : Wd F0 H0 G H) (Pv : Nat → L2.St → Hp → Hp → Prop) (m0 : Nat) (h0 : Pv m0 σ G H)
    (hs : ∀ m σ' G' H', Wd F0 H0 G' H' → Ex G G' → Pv m σ' G' H' → ∃ b, EvT c σ' G' b ∧
      (b = true → ∀ H2, Wd F0 H0 G' H2 → Stp none G' H' G' H2 → tb { D with nx := Nxt F0 H0 G (fun σ2 G2 H2 => ∃ m2, m2 < m ∧ Pv m2 σ2 G2 H2), ct := Nxt F0 H0 G (fun σ2 G2 H2 => ∃ m2, m2 < m ∧ Pv m2 σ2 G2 H2), bk := D.nx } σ' H2) ∧
      (b = false → ∀ H2, Wd F0 H0 G' H2 → Stp none G' H' G' H2 → D.nx σ' H2)) : tWhile c tb D σ H := by
  refine ⟨fun m σ' H' => Nxt F0 H0 G (Pv m) σ' H', ⟨m0, G, w, Ex.refl _, h0⟩, ?_⟩
  rintro m σ' H' ⟨G', w', e', hP⟩
  obtain ⟨b, hb, h1, h2⟩ := hs m σ' G' H' w' e' hP
  refine hb H' w'.sub _ fun H2 e2 => ?_
  cases b with
  | true => exact ⟨_, fun σ3 H3 ⟨G3, w3, e3, m2, hm, hP3⟩ => ⟨m2, hm, G3, w3, e3, hP3⟩, h1 rfl H2 (w'.same e2) (stp_same e2)⟩
  | false => exact h2 rfl H2 (w'.same e2) (stp_same e2)
theorem w_while {tb : TS} (w : Wd F0 H0 G H) (Pv : Nat → L2.St → Hp → Hp → Prop) (m0 : Nat) (h0 : Pv m0 σ G H)
    (hs : ∀ m σ' G' H', Wd F0 H0 G' H' → Ex G G' → Pv m σ' G' H' → ∃ b, EvT c σ' G' b ∧
      (b = true → ∀ H2, Wd F0 H0 G' H2 → Stp none G' H' G' H2 → tb { D with nx := Nxt F0 H0 G (fun σ2 G2 H2 => ∃ m2, m2 < m ∧ Pv m2 σ2 G2 H2), ct := Nxt F0 H0 G (fun σ2 G2 H2 => ∃ m2, m2 < m ∧ Pv m2 σ2 G2 H2), bk := tz D } σ' H2) ∧
      (b = false → ∀ H2, Wd F0 H0 G' H2 → Stp none G' H' G' H2 → tz D σ' H2)) : tSeq (tWhile c tb) tz D σ H := v_while (D := { D with nx := tz D }) w Pv m0 h0 hs
/-- xs.insert(i, e), a list of one's own -/
def rIns : V → List V → Hp → VK → Prop := fun x vs H Q => ∃ (l : Addr) (xs : List V) (i : Int) (y : V), x = .ref l ∧ vs = [.int i, y] ∧ H l = some (.lst xs) ∧ xs.length < sizeLine ∧ 0 ≤ i ∧ i < 2 ^ 63 ∧
    Q .non (upd H l (.lst (xs.take i.toNat ++ [y] ++ xs.drop i.toNat)))
theorem mt_ins {X : Cx} : MtR X "list.insert" rIns := mt_insert
theorem Al.take' {R : V → α → Prop} : ∀ (n : Nat) {xs : List V} {as : List α}, Al R xs as → Al R (xs.take n) (as.take n)
  | 0, _, _, _ => by
    rw [List.take_zero, List.take_zero]
    exact .nil
  | n + 1, _, _, .nil => .nil
  | n + 1, _, _, .cons h t => .cons h (Al.take' n t)
theorem Al.drop' {R : V → α → Prop} : ∀ (n : Nat) {xs : List V} {as : List α}, Al R xs as → Al R (xs.drop n) (as.drop n)
  | 0, _, _, h => h
  | n + 1, _, _, .nil => .nil
  | n + 1, _, _, .cons h t => Al.drop' n t
theorem v_ins {n : Nat} {tp : TE} (w : Wd F0 H0 G H) (hi : σ[i]? = some (some (.ref p))) (m : Mu r as G H p) (h0 : H0 p = none) (hl : as.length < 100000) (hn : n ≤ 100000) (hp : Er rInt tp σ G (n : Int)) (h : Er r te σ G a)
    (k : ∀ G2 H2, Wd F0 H0 G2 H2 → Stp (some p) G H G2 H2 → Mu r (as.take n ++ [a] ++ as.drop n) G2 H2 p → D.nx σ H2) : tDrop (tBM K "list" rIns (tVar i) (tCons tp (tCons te tNil))) D σ H := by
  obtain ⟨h1, xs, h2, h3⟩ := m
  refine ⟨_, hi, Or.inl ⟨rfl, xs, SqL.of h2⟩, hp H w.sub _ fun u H1 e1 hu => h H1 (w.sub.trans e1) _ fun v H2 e2 hv => ?_⟩
  cases (show u = V.int (n : Int) from hu)
  have e12 := e1.trans e2
  refine ⟨p, xs, (n : Int), v, rfl, rfl, e12 p _ h2, by rw [h3.len]; exact sz_lt hl, by omega, by omega, ?_⟩
  have hG : part G H H2 p = none := part_old h1 h2
  refine k (part G H H2) _ ((w.ev e12).put hG h0) (Stp.trans (stp_ev e12).any stp_put) ⟨hG, _, upd_same, ?_⟩
  have h4 := h3.imp fun _ _ k => r.mono (part_ex (F := G) (H1 := H) (H2 := H2)) k
  exact Al.app (Al.app (Al.take' _ h4) (.cons (r.mono (part_back e1) hv) .nil)) (Al.drop' _ h4)
theorem w_ins {n : Nat} {tp : TE} (w : Wd F0 H0 G H) (hi : σ[i]? = some (some (.ref p))) (m : Mu r as G H p) (h0 : H0 p = none) (hl : as.length < 100000) (hn : n ≤ 100000) (hp : Er rInt tp σ G (n : Int)) (h : Er r te σ G a)
    (k : ∀ G2 H2, Wd F0 H0 G2 H2 → Stp (some p) G H G2 H2 → Mu r (as.take n ++ [a] ++ as.drop n) G2 H2 p → tz D σ H2) : tSeq (tDrop (tBM K "list" rIns (tVar i) (tCons tp (tCons te tNil)))) tz D σ H := v_ins (D := { D with nx := tz D }) w hi m h0 hl hn hp h k
/-- what stands for one thing stands for another -/
theorem Al.re {R : V → α → Prop} {S : V → β → Prop} {f : β → α} (h : ∀ v c, R v (f c) → S v c) : ∀ {xs : List V} {cs : List β}, Al R xs (cs.map f) → Al S xs cs
  | _, [], h1 => by
    cases h1
    exact .nil
  | _, c :: cs, h1 => by
    rw [List.map_cons] at h1
    cases h1 with
    | cons h2 t => exact .cons (h _ _ h2) (Al.re h t)
theorem er_re {f : β → α} {c : β} (h : Er r te σ F (f c)) (hf : ∀ H v c, r.rel H v (f c) → s.rel H v c) : Er s te σ F c := fun H1 e Q q => h H1 e Q fun v H2 e2 hv => q v H2 e2 (hf _ _ _ hv)
theorem en_re {f : β → α} (hf : ∀ H v c, r.rel H v (f c) → s.rel H v c) (h : En r te σ F (bs.map f)) : En s te σ F bs := fun H1 e Q q => h H1 e Q fun p H2 e2 ⟨h1, xs, h2, h3⟩ => q p H2 e2 ⟨h1, xs, h2, Al.re (fun v c => hf _ v c) h3⟩
theorem lexLt_dec : ∀ xs ys : List Int, HT.lexLt xs ys = decide (xs < ys)
  | [], [] => by simp [HT.lexLt]
  | [], y :: ys => by simp [HT.lexLt]
  | x :: xs, [] => by simp [HT.lexLt]
  | x :: xs, y :: ys => by
    rw [HT.lexLt_cons, lexLt_dec xs ys]
    by_cases h : x = y
    · subst h
      simp [List.cons_lt_cons_iff]
    · by_cases h2 : x < y
      · simp [List.cons_lt_cons_iff, h, h2]
      · simp [List.cons_lt_cons_iff, h, h2]
theorem er_ltT {xs ys : List Int} (ha : Er (rTup rInt) ta σ F xs) (hb : Er (rTup rInt) tb σ F ys) : Er rBl (tOp (rLtT K) ta tb) σ F (decide (xs < ys)) := fun H1 e Q q =>
  ha H1 e _ fun v H2 e2 ⟨p, zs, hx, hp, hal⟩ => hb H2 (e.trans e2) _ fun u H3 e3 ⟨p2, zs2, hx2, hp2, hal2⟩ => by
    rw [rel_ints hal] at hp
    rw [rel_ints hal2] at hp2
    have h1 := (part_sub (e.trans e2)) p _ hp
    have h2 := (part_sub (e.trans (e2.trans e3))) p2 _ hp2
    refine ⟨p, p2, xs, ys, hx, hx2, SqT.of (e3 _ _ h1), SqT.of h2, ?_⟩
    rw [lexLt_dec]
    exact q _ H3 (e2.trans e3) rfl
end
end DL
set_option Elab.async false
set_option linter.all false
set_option maxRecDepth 100000
set_option maxHeartbeats 1000000
/-! rows modulo 97: independence, and how steps of an elimination keep it. A row is a function of the column; w columns count -/
namespace LA97
abbrev Vec := Nat → Int
abbrev Z (x : Int) : Prop := (97 : Int) ∣ x
theorem inv_table : ∀ r : Fin 97, r.val ≠ 0 → ∃ s : Fin 97, (r.val * s.val) % 97 = 1 := by decide +kernel
theorem inv_of {a : Int} (h : ¬ Z a) : ∃ b : Int, Z (b * a - 1) := by
  have h1 : a % 97 ≠ 0 := fun e => h (Int.dvd_of_emod_eq_zero e)
  have h0 := Int.emod_nonneg a (show (97 : Int) ≠ 0 by decide)
  have h9 := Int.emod_lt_of_pos a (show (0 : Int) < 97 by decide)
  obtain ⟨n, hn⟩ := Int.eq_ofNat_of_zero_le h0
  obtain ⟨s, hs⟩ := inv_table ⟨n, by omega⟩ (by show n ≠ 0; omega)
  have hs' : n * s.val % 97 = 1 := hs
  refine ⟨(s.val : Int), ?_⟩
  have e1 : a = 97 * (a / 97) + n := by
    have := Int.mul_ediv_add_emod a 97
    omega
  have e2 : ((n * s.val : Nat) : Int) = 97 * ((n * s.val / 97 : Nat) : Int) + 1 := by
    have := Nat.div_add_mod (n * s.val) 97
    omega
  refine ⟨(s.val : Int) * (a / 97) + ((n * s.val / 97 : Nat) : Int), ?_⟩
  rw [Int.natCast_mul] at e2
  have e3 : (s.val : Int) * a = (s.val : Int) * (97 * (a / 97)) + (n : Int) * s.val := by
    conv => lhs; rw [e1]
    rw [Int.mul_add, Int.mul_comm (s.val : Int) (n : Int)]
  have e4 : (s.val : Int) * (97 * (a / 97)) = 97 * ((s.val : Int) * (a / 97)) := by
    rw [← Int.mul_assoc, Int.mul_comm (s.val : Int) 97, Int.mul_assoc]
  rw [e3, e4, e2, Int.mul_add]
  omega
theorem Z.add {a b : Int} (h : Z a) (k : Z b) : Z (a + b) := Int.dvd_add h k
theorem Z.sub {a b : Int} (h : Z a) (k : Z b) : Z (a - b) := Int.dvd_sub h k
theorem Z.mulL {a : Int} (h : Z a) (b : Int) : Z (b * a) := Int.dvd_mul_of_dvd_right h
theorem Z.mulR {a : Int} (h : Z a) (b : Int) : Z (a * b) := Int.dvd_mul_of_dvd_left h
theorem Z.zero : Z 0 := ⟨0, rfl⟩
/-- 97 is prime -/
theorem Z.prime {a b : Int} (h : Z (a * b)) (ha : ¬ Z a) : Z b := by
  obtain ⟨c, hc⟩ := inv_of ha
  have h1 : Z (c * (a * b)) := h.mulL c
  have h2 : Z ((c * a - 1) * b) := hc.mulR b
  have e : c * (a * b) - (c * a - 1) * b = b := by
    rw [Int.sub_mul, Int.one_mul, Int.mul_assoc]
    omega
  rw [← e]
  exact h1.sub h2
def comb : List (Int × Vec) → Vec
  | [], _ => 0
  | p :: ps, j => p.1 * p.2 j + comb ps j
theorem comb_app (ps qs : List (Int × Vec)) (j : Nat) : comb (ps ++ qs) j = comb ps j + comb qs j := by
  induction ps with
  | nil => simp [comb]
  | cons p ps ih =>
    show p.1 * p.2 j + comb (ps ++ qs) j = p.1 * p.2 j + comb ps j + comb qs j
    rw [ih, Int.add_assoc]
theorem comb_perm {ps qs : List (Int × Vec)} (h : ps.Perm qs) (j : Nat) : comb ps j = comb qs j := by
  induction h with
  | nil => rfl
  | cons x _ ih =>
    show x.1 * x.2 j + _ = x.1 * x.2 j + _
    rw [ih]
  | swap x y l =>
    show y.1 * y.2 j + (x.1 * x.2 j + comb l j) = x.1 * x.2 j + (y.1 * y.2 j + comb l j)
    omega
  | trans _ _ h1 h2 => rw [h1, h2]
/-- no combination of them is zero but with zeros -/
def Indep (w : Nat) (vs : List Vec) : Prop := ∀ ps : List (Int × Vec), ps.map (·.2) = vs → (∀ j, j < w → Z (comb ps j)) → ∀ p ∈ ps, Z p.1
theorem lift_perm {l m : List Vec} (h : l.Perm m) : ∀ qs : List (Int × Vec), qs.map (·.2) = m → ∃ ps : List (Int × Vec), ps.map (·.2) = l ∧ ps.Perm qs := by
  induction h with
  | nil =>
    intro qs e
    exact ⟨qs, e, .refl _⟩
  | cons x _ ih =>
    intro qs e
    cases qs with
    | nil => cases e
    | cons q qs =>
      obtain ⟨e1, e2⟩ := List.cons.inj e
      obtain ⟨ps, h1, h2⟩ := ih qs e2
      exact ⟨q :: ps, by rw [List.map_cons, h1, show q.2 = x from e1], h2.cons q⟩
  | swap x y l =>
    intro qs e
    match qs, e with
    | a :: b :: t, e =>
      obtain ⟨e1, e2⟩ := List.cons.inj e
      obtain ⟨e3, e4⟩ := List.cons.inj e2
      exact ⟨b :: a :: t, by rw [List.map_cons, List.map_cons, e4, show a.2 = x from e1, show b.2 = y from e3], .swap a b t⟩
  | trans _ _ h1 h2 =>
    intro qs e
    obtain ⟨ps, k1, k2⟩ := h2 qs e
    obtain ⟨rs, k3, k4⟩ := h1 ps k1
    exact ⟨rs, k3, k4.trans k2⟩
theorem Indep.perm {w : Nat} {l m : List Vec} (h : l.Perm m) (i : Indep w l) : Indep w m := fun qs e hz p hp => by
  obtain ⟨ps, h1, h2⟩ := lift_perm h qs e
  exact i ps h1 (fun j hj => by rw [comb_perm h2]; exact hz j hj) p (h2.mem_iff.mpr hp)
theorem indep_perm {w : Nat} {l m : List Vec} (h : l.Perm m) : Indep w l ↔ Indep w m := ⟨Indep.perm h, Indep.perm h.symm⟩
theorem split_map {ps : List (Int × Vec)} {a b : List Vec} {v : Vec} (e : ps.map (·.2) = a ++ v :: b) : ∃ (p1 p2 : List (Int × Vec)) (c : Int), ps = p1 ++ (c, v) :: p2 ∧ p1.map (·.2) = a ∧ p2.map (·.2) = b := by
  obtain ⟨p1, p2, e1, e2, e3⟩ := List.map_eq_append_iff.mp e
  obtain ⟨q, p3, rfl, e5, e6⟩ := List.map_eq_cons_iff.mp e3
  obtain ⟨c, u⟩ := q
  cases (show u = v from e5)
  exact ⟨p1, p3, c, e1, e2, e6⟩
/-- the coefficients that stand before the lead, in sum -/
def leads (β : Vec → Int) : List (Int × Vec) → Int
  | [] => 0
  | p :: ps => p.1 * β p.2 + leads β ps
theorem leads_zero {β : Vec → Int} : ∀ {ps : List (Int × Vec)}, (∀ p ∈ ps, Z p.1) → Z (leads β ps)
  | [], _ => Z.zero
  | p :: ps, h => ((h p List.mem_cons_self).mulR _).add (leads_zero fun q hq => h q (List.mem_cons_of_mem _ hq))
/-- f s is a multiple of s less a multiple of the lead, modulo 97 -/
def Op (w : Nat) (α : Int) (β : Vec → Int) (lead : Vec) (f : Vec → Vec) : Prop := ∀ s j, j < w → Z (f s j - (α * s j - β s * lead j))
theorem comb_op {w : Nat} {α : Int} {β : Vec → Int} {lead : Vec} {f : Vec → Vec} (h : Op w α β lead f) (j : Nat) (hj : j < w) : ∀ ps : List (Int × Vec), Z (comb (ps.map fun p => (p.1, f p.2)) j - (α * comb ps j - leads β ps * lead j))
  | [] => by
    show Z (0 - (α * 0 - 0 * lead j))
    rw [Int.mul_zero, Int.zero_mul]
    exact Z.zero
  | p :: ps => by
    have h1 := comb_op h j hj ps
    have h2 := (h p.2 j hj).mulL p.1
    have e : comb ((p :: ps).map fun p => (p.1, f p.2)) j - (α * comb (p :: ps) j - leads β (p :: ps) * lead j) = p.1 * (f p.2 j - (α * p.2 j - β p.2 * lead j)) + (comb (ps.map fun p => (p.1, f p.2)) j - (α * comb ps j - leads β ps * lead j)) := by
      show p.1 * f p.2 j + comb (ps.map fun p => (p.1, f p.2)) j - (α * (p.1 * p.2 j + comb ps j) - (p.1 * β p.2 + leads β ps) * lead j) = _
      have a1 : p.1 * (f p.2 j - (α * p.2 j - β p.2 * lead j)) = p.1 * f p.2 j - (α * (p.1 * p.2 j) - p.1 * β p.2 * lead j) := by
        rw [Int.mul_sub, Int.mul_sub, ← Int.mul_assoc p.1 α, Int.mul_comm p.1 α, Int.mul_assoc α, ← Int.mul_assoc p.1 (β p.2)]
      rw [a1, Int.mul_add, Int.add_mul]
      omega
    rw [e]
    exact h2.add h1
theorem map_op {f : Vec → Vec} {b : List Vec} : ∀ {qs : List (Int × Vec)}, qs.map (·.2) = b.map f → ∃ ps : List (Int × Vec), ps.map (·.2) = b ∧ qs = ps.map fun p => (p.1, f p.2) := by
  induction b with
  | nil =>
    intro qs e
    rw [List.map_nil] at e
    rw [List.map_eq_nil_iff.mp e]
    exact ⟨[], rfl, rfl⟩
  | cons v b ih =>
    intro qs e
    cases qs with
    | nil => cases e
    | cons q qs =>
      obtain ⟨e1, e2⟩ := List.cons.inj e
      obtain ⟨ps, h1, h2⟩ := ih e2
      refine ⟨(q.1, v) :: ps, by rw [List.map_cons, h1], ?_⟩
      rw [List.map_cons, ← h2]
      show q :: qs = (q.1, f v) :: qs
      rw [← e1]
theorem indep_op {w : Nat} {α : Int} {β : Vec → Int} {lead : Vec} {f : Vec → Vec} (h : Op w α β lead f) (hα : ¬ Z α) (a b : List Vec) : Indep w (a ++ lead :: b) ↔ Indep w (a ++ lead :: b.map f) := by
  constructor
  · intro i qs e hz
    obtain ⟨p1, q2, c, rfl, e1, e2⟩ := split_map e
    obtain ⟨p2, e3, rfl⟩ := map_op e2
    have i2 := i (p1 ++ (c - leads β p2, lead) :: p2.map fun p => (α * p.1, p.2)) (by
      rw [List.map_append, List.map_cons, e1, List.map_map]
      show a ++ lead :: p2.map (·.2) = _
      rw [e3]) fun j hj => by
        have h1 := hz j hj
        have h2 := comb_op h j hj p2
        have hs : ∀ ps : List (Int × Vec), comb (ps.map fun p => (α * p.1, p.2)) j = α * comb ps j := by
          intro ps
          induction ps with
          | nil =>
            show (0 : Int) = α * 0
            rw [Int.mul_zero]
          | cons p ps ih =>
            show α * p.1 * p.2 j + _ = α * (p.1 * p.2 j + comb ps j)
            rw [ih, Int.mul_add, Int.mul_assoc]
        rw [comb_app] at h1 ⊢
        have h1' : Z (comb p1 j + (c * lead j + comb (p2.map fun p => (p.1, f p.2)) j)) := h1
        show Z (comb p1 j + ((c - leads β p2) * lead j + comb (p2.map fun p => (α * p.1, p.2)) j))
        rw [hs, Int.sub_mul]
        have := h1'.sub h2
        have e : comb p1 j + (c * lead j + comb (p2.map fun p => (p.1, f p.2)) j) - (comb (p2.map fun p => (p.1, f p.2)) j - (α * comb p2 j - leads β p2 * lead j)) = comb p1 j + (c * lead j - leads β p2 * lead j + α * comb p2 j) := by omega
        rw [← e]
        exact this
    have z2 : ∀ p ∈ p2, Z p.1 := fun p hp => Z.prime (i2 (α * p.1, p.2) (List.mem_append_right _ (List.mem_cons_of_mem _ (List.mem_map.mpr ⟨p, hp, rfl⟩)))) hα
    intro p hp
    rcases List.mem_append.mp hp with q | q
    · exact i2 p (List.mem_append_left _ q)
    · rcases List.mem_cons.mp q with q | q
      · rw [q]
        have h3 : Z (c - leads β p2) := i2 (c - leads β p2, lead) (List.mem_append_right _ List.mem_cons_self)
        have := h3.add (leads_zero (β := β) z2)
        show Z c
        have e : c - leads β p2 + leads β p2 = c := by omega
        rw [← e]
        exact this
      · obtain ⟨u, hu, rfl⟩ := List.mem_map.mp q
        exact z2 u hu
  · intro i ps e hz
    obtain ⟨p1, p2, c, rfl, e1, e2⟩ := split_map e
    have i2 := i (p1.map (fun p => (α * p.1, p.2)) ++ (α * c + leads β p2, lead) :: p2.map fun p => (p.1, f p.2)) (by
      rw [List.map_append, List.map_cons, List.map_map, List.map_map]
      show p1.map (·.2) ++ lead :: p2.map (fun p => f p.2) = _
      rw [e1, ← e2, List.map_map]
      rfl) fun j hj => by
        have h1 := (hz j hj).mulL α
        have h2 := comb_op h j hj p2
        have hs : ∀ ps : List (Int × Vec), comb (ps.map fun p => (α * p.1, p.2)) j = α * comb ps j := by
          intro ps
          induction ps with
          | nil =>
            show (0 : Int) = α * 0
            rw [Int.mul_zero]
          | cons p ps ih =>
            show α * p.1 * p.2 j + _ = α * (p.1 * p.2 j + comb ps j)
            rw [ih, Int.mul_add, Int.mul_assoc]
        rw [comb_app] at h1 ⊢
        have h1' : Z (α * (comb p1 j + (c * lead j + comb p2 j))) := h1
        show Z (comb (p1.map fun p => (α * p.1, p.2)) j + ((α * c + leads β p2) * lead j + comb (p2.map fun p => (p.1, f p.2)) j))
        rw [hs, Int.add_mul]
        have := h1'.add h2
        have e : α * (comb p1 j + (c * lead j + comb p2 j)) + (comb (p2.map fun p => (p.1, f p.2)) j - (α * comb p2 j - leads β p2 * lead j)) = α * comb p1 j + (α * c * lead j + leads β p2 * lead j + comb (p2.map fun p => (p.1, f p.2)) j) := by
          rw [Int.mul_add, Int.mul_add, Int.mul_assoc]
          omega
        rw [← e]
        exact this
    have z2 : ∀ p ∈ p2, Z p.1 := fun p hp => i2 (p.1, f p.2) (List.mem_append_right _ (List.mem_cons_of_mem _ (List.mem_map.mpr ⟨p, hp, rfl⟩)))
    intro p hp
    rcases List.mem_append.mp hp with q | q
    · exact Z.prime (i2 (α * p.1, p.2) (List.mem_append_left _ (List.mem_map.mpr ⟨p, q, rfl⟩))) hα
    · rcases List.mem_cons.mp q with q | q
      · rw [q]
        have h3 : Z (α * c + leads β p2) := i2 (α * c + leads β p2, lead) (List.mem_append_right _ List.mem_cons_self)
        have h4 := h3.sub (leads_zero (β := β) z2)
        have e : α * c + leads β p2 - leads β p2 = α * c := by omega
        rw [e] at h4
        exact Z.prime h4 hα
      · exact z2 p q

/-! ### rows in steps: each has a column of its own, where those behind it are 0 -/
def Ech (w : Nat) : List Vec → List Vec → Prop
  | [], _ => True
  | r :: rs, post => (∃ c, c < w ∧ ¬ Z (r c) ∧ ∀ s ∈ rs ++ post, Z (s c)) ∧ Ech w rs post
theorem comb_zero {j : Nat} : ∀ {ps : List (Int × Vec)}, (∀ p ∈ ps, Z (p.2 j)) → Z (comb ps j)
  | [], _ => Z.zero
  | p :: ps, h => ((h p List.mem_cons_self).mulL _).add (comb_zero fun q hq => h q (List.mem_cons_of_mem _ hq))
theorem comb_null {j : Nat} : ∀ {ps : List (Int × Vec)}, (∀ p ∈ ps, Z p.1) → Z (comb ps j)
  | [], _ => Z.zero
  | p :: ps, h => ((h p List.mem_cons_self).mulR _).add (comb_null fun q hq => h q (List.mem_cons_of_mem _ hq))
theorem ech_indep {w : Nat} : ∀ {rs : List Vec}, Ech w rs [] → Indep w rs
  | [], _ => fun ps e _ p hp => by
    rw [List.map_eq_nil_iff.mp e] at hp
    cases hp
  | r :: rs, h => fun ps e hz p hp => by
    obtain ⟨⟨c, hc, hr, hs⟩, ht⟩ := h
    cases ps with
    | nil => cases e
    | cons q qs =>
      obtain ⟨e1, e2⟩ := List.cons.inj e
      have e1 : q.2 = r := e1
      rw [List.append_nil] at hs
      have hq0 : Z (q.1 * r c) := by
        have h1 : Z (q.1 * q.2 c + comb qs c) := hz c hc
        have h2 : Z (comb qs c) := comb_zero fun u hu => hs _ (by rw [← e2]; exact List.mem_map.mpr ⟨u, hu, rfl⟩)
        have h3 := h1.sub h2
        rw [e1] at h3
        have e : q.1 * r c + comb qs c - comb qs c = q.1 * r c := by omega
        rw [← e]
        exact h3
      have hq : Z q.1 := by
        rw [Int.mul_comm] at hq0
        exact Z.prime hq0 hr
      rcases List.mem_cons.mp hp with z | z
      · rw [z]
        exact hq
      · refine ech_indep ht qs e2 (fun j hj => ?_) p z
        have h1 : Z (q.1 * q.2 j + comb qs j) := hz j hj
        have h3 := h1.sub (hq.mulR (q.2 j))
        have e : q.1 * q.2 j + comb qs j - q.1 * q.2 j = comb qs j := by omega
        rw [← e]
        exact h3
/-- a row of zeros -/
theorem zero_dep {w : Nat} {a b : List Vec} {v : Vec} (h : ∀ j, j < w → Z (v j)) : ¬ Indep w (a ++ v :: b) := fun i => by
  have := i (a.map (fun u => ((0 : Int), u)) ++ (1, v) :: b.map fun u => ((0 : Int), u)) (by
    rw [List.map_append, List.map_cons, List.map_map, List.map_map]
    show a.map (fun u => u) ++ v :: b.map (fun u => u) = _
    rw [List.map_id', List.map_id']) (fun j hj => by
      rw [comb_app]
      refine Z.add (comb_null fun p hp => ?_) (Z.add ((h j hj).mulL _) (comb_null fun p hp => ?_))
      · obtain ⟨u, _, rfl⟩ := List.mem_map.mp hp
        exact Z.zero
      · obtain ⟨u, _, rfl⟩ := List.mem_map.mp hp
        exact Z.zero) (1, v) (List.mem_append_right _ List.mem_cons_self)
  have h1 : (97 : Int) ∣ 1 := this
  omega
/-- what stands between two columns of the elimination: c columns are done, rows ahead are in steps, rows behind are 0 in these columns -/
structure Mid (w : Nat) (rows pre post : List Vec) (c : Nat) : Prop where
  ech : Ech w pre post
  low : ∀ s ∈ post, ∀ j, j < c → Z (s j)
  ind : Indep w (pre ++ post) ↔ Indep w rows
theorem mid_start {w : Nat} {rows : List Vec} : Mid w rows [] rows 0 := ⟨trivial, fun _ _ j hj => absurd hj (Nat.not_lt_zero j), Iff.rfl⟩
theorem ech_sub {w : Nat} : ∀ {pre post post' : List Vec}, Ech w pre post → (∀ c, c < w → (∀ s ∈ post, Z (s c)) → ∀ s ∈ post', Z (s c)) → Ech w pre post'
  | [], _, _, _, _ => trivial
  | r :: rs, post, post', ⟨⟨c, hc, hr, hs⟩, ht⟩, h => ⟨⟨c, hc, hr, fun s hm => by
    rcases List.mem_append.mp hm with q | q
    · exact hs s (List.mem_append_left _ q)
    · exact h c hc (fun u hu => hs u (List.mem_append_right _ hu)) s q⟩, ech_sub ht h⟩
theorem ech_snoc {w : Nat} {v : Vec} {post : List Vec} {c : Nat} (hc : c < w) (hv : ¬ Z (v c)) (hp : ∀ s ∈ post, Z (s c)) : ∀ {pre : List Vec}, Ech w pre (v :: post) → Ech w (pre ++ [v]) post
  | [], _ => ⟨⟨c, hc, hv, hp⟩, trivial⟩
  | r :: rs, ⟨⟨d, hd, hr, hs⟩, ht⟩ => ⟨⟨d, hd, hr, fun s hm => hs s (by
    rcases List.mem_append.mp hm with q | q
    · rcases List.mem_append.mp q with q | q
      · exact List.mem_append_left _ q
      · rw [List.mem_singleton] at q
        rw [q]
        exact List.mem_append_right _ List.mem_cons_self
    · exact List.mem_append_right _ (List.mem_cons_of_mem _ q))⟩, ech_snoc hc hv hp ht⟩
/-- a column where all rows behind are 0 -/
theorem mid_none {w : Nat} {rows pre post : List Vec} {c : Nat} (m : Mid w rows pre post c) (h : ∀ s ∈ post, Z (s c)) : Mid w rows pre post (c + 1) := ⟨m.ech, fun s hs j hj => by
  by_cases e : j = c
  · rw [e]
    exact h s hs
  · exact m.low s hs j (by omega), m.ind⟩
/-- a column with a lead: the rows behind are taken in another order, then each less a multiple of the lead -/
theorem mid_lead {w : Nat} {rows pre post others : List Vec} {c : Nat} {lead : Vec} {f : Vec → Vec} (m : Mid w rows pre post c) (hc : c < w) (hl : ¬ Z (lead c)) (hp : post.Perm (lead :: others)) (hf : Op w (lead c) (fun s => s c) lead f) : Mid w rows (pre ++ [lead]) (others.map f) (c + 1) := by
  have hlm : lead ∈ post := hp.mem_iff.mpr List.mem_cons_self
  have hom : ∀ s ∈ others, s ∈ post := fun s hs => hp.mem_iff.mpr (List.mem_cons_of_mem _ hs)
  have zf : ∀ s j, j < w → Z (s j) → Z (lead j) → Z (f s j) := fun s j hj h1 h2 => by
    have h3 := hf s j hj
    have h4 : Z (lead c * s j - s c * lead j) := (h1.mulL _).sub (h2.mulL _)
    have := h3.add h4
    have e : f s j - (lead c * s j - s c * lead j) + (lead c * s j - s c * lead j) = f s j := by omega
    rw [← e]
    exact this
  have zc : ∀ s, Z (f s c) := fun s => by
    have h3 := hf s c hc
    rw [Int.mul_comm (s c) (lead c), Int.sub_self, Int.sub_zero] at h3
    exact h3
  refine ⟨ech_snoc hc hl (fun s hs => ?_) (ech_sub m.ech fun d hd h s hs => ?_), fun s hs j hj => ?_, ?_⟩
  · obtain ⟨u, _, rfl⟩ := List.mem_map.mp hs
    exact zc u
  · rcases List.mem_cons.mp hs with q | q
    · rw [q]
      exact h _ hlm
    · obtain ⟨u, hu, rfl⟩ := List.mem_map.mp q
      exact zf u d hd (h u (hom u hu)) (h _ hlm)
  · obtain ⟨u, hu, rfl⟩ := List.mem_map.mp hs
    by_cases e : j = c
    · rw [e]
      exact zc u
    · exact zf u j (by omega) (m.low u (hom u hu) j (by omega)) (m.low _ hlm j (by omega))
  · rw [List.append_assoc]
    show Indep w (pre ++ lead :: others.map f) ↔ _
    rw [← indep_op hf hl, ← m.ind]
    exact indep_perm (hp.symm.append_left pre)
/-- behind the last column: as many rows in steps as there are rows, just if they are independent -/
theorem mid_end {w : Nat} {rows pre post : List Vec} (m : Mid w rows pre post w) : post = [] ↔ Indep w rows := by
  rw [← m.ind]
  constructor
  · rintro rfl
    rw [List.append_nil]
    exact ech_indep m.ech
  · intro h
    cases post with
    | nil => rfl
    | cons s t => exact absurd h (zero_dep (m.low s List.mem_cons_self))

/-! ### a row is exchanged for a multiple of it, less a multiple of another -/
theorem unit_not {s t : Int} (h : Z (t * s - 1)) : ¬ Z t := fun ht => by
  have h1 : Z (t * s) := ht.mulR s
  have h2 := h1.sub h
  have e : t * s - (t * s - 1) = 1 := by omega
  rw [e] at h2
  have h3 : (97 : Int) ∣ 1 := h2
  omega
theorem indep_scale {w : Nat} {a b : List Vec} {u v : Vec} {s : Int} (hs : ¬ Z s) (h : ∀ j, j < w → Z (v j - s * u j)) : Indep w (a ++ u :: b) ↔ Indep w (a ++ v :: b) := by
  have go : ∀ {u v : Vec} {s : Int}, ¬ Z s → (∀ j, j < w → Z (v j - s * u j)) → Indep w (a ++ u :: b) → Indep w (a ++ v :: b) := by
    intro u v s hs h i ps e hz
    obtain ⟨p1, p2, c, rfl, e1, e2⟩ := split_map e
    have i2 := i (p1 ++ (c * s, u) :: p2) (by rw [List.map_append, List.map_cons, e1, e2]) fun j hj => by
      have h1 := hz j hj
      rw [comb_app] at h1 ⊢
      have h1' : Z (comb p1 j + (c * v j + comb p2 j)) := h1
      show Z (comb p1 j + (c * s * u j + comb p2 j))
      have h2 := h1'.sub ((h j hj).mulL c)
      have e : comb p1 j + (c * v j + comb p2 j) - c * (v j - s * u j) = comb p1 j + (c * s * u j + comb p2 j) := by
        rw [Int.mul_sub, ← Int.mul_assoc]
        omega
      rw [← e]
      exact h2
    intro p hp
    rcases List.mem_append.mp hp with q | q
    · exact i2 p (List.mem_append_left _ q)
    · rcases List.mem_cons.mp q with q | q
      · rw [q]
        have h3 : Z (c * s) := i2 (c * s, u) (List.mem_append_right _ List.mem_cons_self)
        rw [Int.mul_comm] at h3
        exact Z.prime h3 hs
      · exact i2 p (List.mem_append_right _ (List.mem_cons_of_mem _ q))
  refine ⟨go hs h, ?_⟩
  obtain ⟨t, ht⟩ := inv_of hs
  refine go (unit_not ht) fun j hj => ?_
  have h1 := (h j hj).mulL t
  have h2 := ht.mulR (u j)
  have h3 : Z (0 - (t * (v j - s * u j) + (t * s - 1) * u j)) := Z.zero.sub (h1.add h2)
  have e : 0 - (t * (v j - s * u j) + (t * s - 1) * u j) = u j - t * v j := by
    rw [Int.mul_sub, Int.sub_mul, ← Int.mul_assoc, Int.one_mul]
    omega
  rw [← e]
  exact h3
theorem indep_row {w : Nat} {a b : List Vec} {l u v : Vec} {s c : Int} (hs : ¬ Z s) (hl : l ∈ a) (h : ∀ j, j < w → Z (v j - (s * u j - c * l j))) : Indep w (a ++ u :: b) ↔ Indep w (a ++ v :: b) := by
  obtain ⟨a1, a2, rfl⟩ := List.append_of_mem hl
  have pm : ∀ x : Vec, (a1 ++ l :: a2 ++ x :: b).Perm (a1 ++ a2 ++ b ++ l :: [x]) := fun x => by
    refine List.perm_middle.trans ?_
    refine ((List.Perm.append_right b List.perm_middle).cons x).trans ?_
    refine List.Perm.trans (List.Perm.swap l x _) ?_
    exact (List.perm_append_comm (l₁ := [l, x]) (l₂ := a1 ++ a2 ++ b))
  have f1 : Op w s (fun _ => c) l (fun y j => s * y j - c * l j) := fun y j hj => by
    show Z (s * y j - c * l j - (s * y j - c * l j))
    rw [Int.sub_self]
    exact Z.zero
  rw [indep_perm (pm u), indep_op f1 hs, indep_perm (pm v)]
  have k := indep_scale (w := w) (a := a1 ++ a2 ++ b ++ [l]) (b := []) (s := 1) (u := fun j => s * u j - c * l j) (v := v) (fun h => by
    have h3 : (97 : Int) ∣ 1 := h
    omega) (fun j hj => by
      rw [Int.one_mul]
      exact h j hj)
  have e : ∀ x : Vec, a1 ++ a2 ++ b ++ [l] ++ [x] = a1 ++ a2 ++ b ++ l :: [x] := fun x => by
    rw [List.append_assoc (a1 ++ a2 ++ b)]
    rfl
  rw [e, e] at k
  exact k
/-! ### a kept list of rows and its basis -/
/-- rows of a basis, each with its column: 1 there (not 0 at least), and 0 in the columns of those before it -/
structure Bas (w : Nat) (rows : List Vec) (bs : List (Nat × Vec)) : Prop where
  eqv : ∀ tail, Indep w (rows ++ tail) ↔ Indep w (bs.map (·.2) ++ tail)
  ech : bs.Pairwise fun p q => Z (q.2 p.1)
  one : ∀ p ∈ bs, p.1 < w ∧ ¬ Z (p.2 p.1)
theorem bas_nil {w : Nat} : Bas w [] [] := ⟨fun _ => Iff.rfl, .nil, fun p hp => by cases hp⟩
theorem bas_ech {w : Nat} {post : List Vec} : ∀ {bs : List (Nat × Vec)}, bs.Pairwise (fun p q => Z (q.2 p.1)) → (∀ p ∈ bs, p.1 < w ∧ ¬ Z (p.2 p.1)) → (∀ s ∈ post, ∀ p ∈ bs, Z (s p.1)) → Ech w (bs.map (·.2)) post
  | [], _, _, _ => trivial
  | p :: bs, h1, h2, h3 => by
    rw [List.pairwise_cons] at h1
    refine ⟨⟨p.1, (h2 p List.mem_cons_self).1, (h2 p List.mem_cons_self).2, fun s hs => ?_⟩, bas_ech h1.2 (fun q hq => h2 q (List.mem_cons_of_mem _ hq)) fun s hs q hq => h3 s hs q (List.mem_cons_of_mem _ hq)⟩
    rcases List.mem_append.mp hs with q | q
    · obtain ⟨u, hu, rfl⟩ := List.mem_map.mp q
      exact h1.1 u hu
    · exact h3 s q p List.mem_cons_self
/-- the rest of a row, behind each row of the basis -/
def restOf (v : Vec) : List (Nat × Vec) → Vec
  | [] => v
  | p :: bs => restOf (fun j => v j - v p.1 * p.2 j) bs
/-- rows equal modulo 97 in the columns that count -/
def Cong (w : Nat) (u v : Vec) : Prop := ∀ j, j < w → Z (u j - v j)
/-- x is v less multiples of rows of a, by steps -/
inductive Less (w : Nat) (a : List Vec) : Vec → Vec → Prop
  | refl (v : Vec) : Less w a v v
  | step {v u x : Vec} (l : Vec) (c : Int) (hl : l ∈ a) (h : ∀ j, j < w → Z (u j - (v j - c * l j))) (t : Less w a u x) : Less w a v x
theorem less_indep {w : Nat} {a b : List Vec} {v x : Vec} (h : Less w a v x) : Indep w (a ++ v :: b) ↔ Indep w (a ++ x :: b) := by
  induction h with
  | refl v => exact Iff.rfl
  | step l c hl h t ih =>
    refine Iff.trans ?_ ih
    refine indep_row (s := 1) (c := c) (fun h => by
      have h3 : (97 : Int) ∣ 1 := h
      omega) hl fun j hj => ?_
    rw [Int.one_mul]
    exact h j hj
theorem not_z1 : ¬ Z 1 := fun h => by
  have h3 : (97 : Int) ∣ 1 := h
  omega
/-- a row whose rest is all zero is no more to be kept; one whose rest is not is -/
theorem bas_test {w : Nat} {rows : List Vec} {bs : List (Nat × Vec)} {v x : Vec} (B : Bas w rows bs) (h : Less w (bs.map (·.2)) v x) (hx : ∀ p ∈ bs, Z (x p.1)) : Indep w (rows ++ [v]) ↔ ∃ c, c < w ∧ ¬ Z (x c) := by
  rw [B.eqv, less_indep h]
  constructor
  · intro i
    apply Classical.byContradiction
    intro n
    refine zero_dep (fun j hj => ?_) i
    apply Classical.byContradiction
    intro z
    exact n ⟨j, hj, z⟩
  · rintro ⟨c, hc, hz⟩
    have e1 : Ech w (bs.map (·.2)) [x] := bas_ech B.ech B.one fun s hs p hp => by
      rw [List.mem_singleton] at hs
      rw [hs]
      exact hx p hp
    have e2 := ech_snoc (post := []) hc hz (fun s hs => by cases hs) e1
    exact ech_indep e2
/-- the basis grown by a multiple of the rest -/
theorem bas_grow {w : Nat} {rows : List Vec} {bs : List (Nat × Vec)} {v x y : Vec} {c : Nat} {s : Int} (B : Bas w rows bs) (h : Less w (bs.map (·.2)) v x) (hx : ∀ p ∈ bs, Z (x p.1)) (hc : c < w) (hz : ¬ Z (x c)) (hs : ¬ Z s) (hy : ∀ j, j < w → Z (y j - s * x j)) : Bas w (rows ++ [v]) (bs ++ [(c, y)]) := by
  have ky : ∀ j, j < w → Z (x j) → Z (y j) := fun j hj h1 => by
    have h2 := (hy j hj).add (h1.mulL s)
    have e : y j - s * x j + s * x j = y j := by omega
    rw [← e]
    exact h2
  have kz : ¬ Z (y c) := fun h1 => by
    have h2 := h1.sub (hy c hc)
    have e : y c - (y c - s * x c) = s * x c := by omega
    rw [e] at h2
    exact hz (Z.prime h2 hs)
  refine ⟨fun tail => ?_, List.pairwise_append.mpr ⟨B.ech, List.pairwise_singleton _ _, fun p hp q hq => ?_⟩, fun p hp => ?_⟩
  · rw [List.append_assoc, B.eqv, List.map_append, List.append_assoc]
    show Indep w (bs.map (·.2) ++ v :: tail) ↔ Indep w (bs.map (·.2) ++ y :: tail)
    rw [less_indep h]
    exact indep_scale hs hy
  · rw [List.mem_singleton] at hq
    rw [hq]
    exact ky p.1 (B.one p hp).1 (hx p hp)
  · rcases List.mem_append.mp hp with q | q
    · exact B.one p q
    · rw [List.mem_singleton] at q
      rw [q]
      exact ⟨hc, kz⟩
end LA97
set_option Elab.async false
set_option linter.all false
set_option maxRecDepth 100000
set_option maxHeartbeats 1000000
/-! the inverse modulo 97 by powers -/
namespace LA97
def powR (r : Int) : Nat → Int
  | 0 => 1
  | n + 1 => powR r n * r % 97
theorem pow_table : ∀ k : Fin 97, k.val ≠ 0 → powR (k.val : Int) 95 * (k.val : Int) % 97 = 1 ∧ 0 < powR (k.val : Int) 95 ∧ powR (k.val : Int) 95 < 97 := by decide +kernel
theorem pow_inv {n : Int} (h : ¬ Z n) : powR (n % 97) 95 * n % 97 = 1 ∧ 0 < powR (n % 97) 95 ∧ powR (n % 97) 95 < 97 := by
  have h1 : n % 97 ≠ 0 := fun e => h (Int.dvd_of_emod_eq_zero e)
  have h0 := Int.emod_nonneg n (show (97 : Int) ≠ 0 by decide)
  have h9 := Int.emod_lt_of_pos n (show (0 : Int) < 97 by decide)
  obtain ⟨k, hk⟩ := Int.eq_ofNat_of_zero_le h0
  have t := pow_table ⟨k, by omega⟩ (by show k ≠ 0; omega)
  have t : powR (k : Int) 95 * (k : Int) % 97 = 1 ∧ 0 < powR (k : Int) 95 ∧ powR (k : Int) 95 < 97 := t
  rw [← hk] at t
  refine ⟨?_, t.2⟩
  have e : powR (n % 97) 95 * n % 97 = powR (n % 97) 95 * (n % 97) % 97 := by
    rw [Int.mul_emod, Int.mul_emod (powR (n % 97) 95) (n % 97), Int.emod_emod_of_dvd n (show (97 : Int) ∣ 97 by decide)]
  rw [e]
  exact t.1
end LA97
set_option Elab.async false
set_option linter.all false
set_option maxRecDepth 100000
set_option maxHeartbeats 1000000
/-! the program's elimination and the law's, as functions of lists; what they say of independence modulo 97 -/
namespace K00
open LA97
abbrev Row := List Int
def vec (r : Row) : Vec := fun j => r.getD j 0
theorem vec_get {r : Row} {j : Nat} (h : j < r.length) : vec r j = r[j] := by
  unfold vec
  rw [List.getD_eq_getElem?_getD, List.getElem?_eq_getElem h]
  rfl
theorem vec_some {r : Row} {j : Nat} {x : Int} (h : r[j]? = some x) : vec r j = x := by
  unfold vec
  rw [List.getD_eq_getElem?_getD, h]
  rfl
theorem z_mod (x : Int) : Z (x % 97 - x) := ⟨-(x / 97), by have := Int.mul_ediv_add_emod x 97; omega⟩
theorem z_res {x : Int} (h : Z x) (h0 : 0 ≤ x) (h1 : x < 97) : x = 0 := by
  obtain ⟨k, hk⟩ := h
  omega
theorem z_one {x : Int} (h : Z (x - 1)) (h0 : 0 ≤ x) (h1 : x < 97) : x = 1 := by
  obtain ⟨k, hk⟩ := h
  omega
def Res (r : Row) : Prop := ∀ x ∈ r, 0 ≤ x ∧ x < 97
theorem res_map {α : Type} (l : List α) (f : α → Int) : Res (l.map fun a => f a % 97) := fun x hx => by
  obtain ⟨a, _, rfl⟩ := List.mem_map.mp hx
  exact ⟨Int.emod_nonneg _ (by decide), Int.emod_lt_of_pos _ (by decide)⟩
theorem res_vec {r : Row} (h : Res r) (j : Nat) : 0 ≤ vec r j ∧ vec r j < 97 := by
  by_cases hj : j < r.length
  · rw [vec_get hj]
    exact h _ (List.getElem_mem hj)
  · unfold vec
    rw [List.getD_eq_getElem?_getD, List.getElem?_eq_none (by omega)]
    exact ⟨by decide, by decide⟩
/-! ### the program's functions -/
def mod97 (r : Row) : Row := r.map fun x => x % 97
def invF (n : Int) : Int := powR (n % 97) 95
def dotF (a b : Row) : Int := ((List.zip a b).map fun p => p.1 * p.2).sum % 97
def combF (cs : Row) (rows : List Row) (w : Nat) : Row := (List.range w).map fun j => dotF cs (rows.map fun r => vec r j)
def unitF (c n : Nat) : Row := (List.range n).map fun j => if j = c then 1 else 0
def leadF (r : Row) : Option Nat := r.findIdx? fun x => decide (x ≠ 0)
def lessF (rest : Row) (f : Int) (o : Row) : Row := (List.zip rest o).map fun p => (p.1 - f * p.2) % 97
def subF (rest : Row) (b : Nat × Row) : Row := if vec rest b.1 = 0 then rest else lessF rest (vec rest b.1) b.2
def redF (r : Row) (bs : List (Nat × Row)) : Row := bs.foldl subF (mod97 r)
def sclF (r : Row) (c : Nat) : Row := r.map fun n => n * invF (vec r c) % 97
def indF : List Row → Nat → List (Nat × Row) → List Nat → List Nat
  | [], _, _, found => found
  | r :: rs, i, bs, found => if bs.length = r.length then found else
    match leadF (redF r bs) with
    | some c => indF rs (i + 1) (bs ++ [(c, sclF (redF r bs) c)]) (found ++ [i])
    | none => indF rs (i + 1) bs found
def relF (many : Nat) : List Row → Nat → List (Nat × Row) → Option Row
  | [], _, _ => none
  | r :: rs, i, bs => match leadF ((redF (r ++ unitF i many) bs).take r.length) with
    | none => some ((redF (r ++ unitF i many) bs).drop r.length)
    | some c => relF many rs (i + 1) (bs ++ [(c, sclF (redF (r ++ unitF i many) bs) c)])
/-! ### lengths and residues -/
theorem less_len {rest o : Row} {f : Int} {W : Nat} (h : rest.length = W) (ho : o.length = W) : (lessF rest f o).length = W := by
  unfold lessF
  rw [List.length_map, List.length_zip, h, ho, Nat.min_self]
theorem sub_len {rest : Row} {b : Nat × Row} {W : Nat} (h : rest.length = W) (ho : b.2.length = W) : (subF rest b).length = W := by
  unfold subF
  split
  · exact h
  · exact less_len h ho
theorem sub_res {rest : Row} {b : Nat × Row} (h : Res rest) : Res (subF rest b) := by
  unfold subF
  split
  · exact h
  · exact res_map _ _
theorem fold_len {W : Nat} : ∀ (bs : List (Nat × Row)) (rest : Row), rest.length = W → (∀ b ∈ bs, b.2.length = W) → (bs.foldl subF rest).length = W
  | [], rest, h, _ => h
  | b :: bs, rest, h, hb => fold_len bs _ (sub_len h (hb b List.mem_cons_self)) fun q hq => hb q (List.mem_cons_of_mem _ hq)
theorem fold_res : ∀ (bs : List (Nat × Row)) (rest : Row), Res rest → Res (bs.foldl subF rest)
  | [], rest, h => h
  | b :: bs, rest, h => fold_res bs _ (sub_res h)
theorem mod_len {r : Row} : (mod97 r).length = r.length := by
  unfold mod97
  rw [List.length_map]
theorem red_len {W : Nat} {bs : List (Nat × Row)} {r : Row} (h : r.length = W) (hb : ∀ b ∈ bs, b.2.length = W) : (redF r bs).length = W := fold_len bs _ (by rw [mod_len]; exact h) hb
theorem red_res {bs : List (Nat × Row)} {r : Row} : Res (redF r bs) := fold_res bs _ (res_map _ _)
theorem scl_len {r : Row} {c : Nat} : (sclF r c).length = r.length := by
  unfold sclF
  rw [List.length_map]
theorem unit_len {c n : Nat} : (unitF c n).length = n := by
  unfold unitF
  rw [List.length_map, List.length_range]
/-! ### the functions as functions of columns -/
theorem vec_map {r : Row} {f : Int → Int} {j : Nat} (h : j < r.length) : vec (r.map f) j = f (vec r j) := by
  rw [vec_get h, vec_get (by rw [List.length_map]; exact h), List.getElem_map]
theorem vec_less {rest o : Row} {f : Int} {j : Nat} (h : j < rest.length) (ho : j < o.length) : vec (lessF rest f o) j = (vec rest j - f * vec o j) % 97 := by
  have hz : j < (List.zip rest o).length := by
    rw [List.length_zip]
    omega
  show vec ((List.zip rest o).map fun p => (p.1 - f * p.2) % 97) j = _
  rw [vec_get (by rw [List.length_map]; exact hz), List.getElem_map, List.getElem_zip, vec_get h, vec_get ho]
theorem less_one {w : Nat} {a : List Vec} {v u : Vec} {l : Vec} {c : Int} (hl : l ∈ a) (h : ∀ j, j < w → Z (u j - (v j - c * l j))) : Less w a v u := .step l c hl h (.refl u)
theorem less_trans {w : Nat} {a : List Vec} {u v x : Vec} (h : Less w a u v) (k : Less w a v x) : Less w a u x := by
  induction h with
  | refl v => exact k
  | step l c hl h t ih => exact .step l c hl h (ih k)
theorem less_narrow {w W : Nat} (hw : w ≤ W) {a : List Vec} {u v : Vec} (h : Less W a u v) : Less w a u v := by
  induction h with
  | refl v => exact .refl v
  | step l c hl h t ih => exact .step l c hl (fun j hj => h j (by omega)) ih
theorem less_grow {w : Nat} {a b : List Vec} (hab : ∀ l ∈ a, l ∈ b) {u v : Vec} (h : Less w a u v) : Less w b u v := by
  induction h with
  | refl v => exact .refl v
  | step l c hl h t ih => exact .step l c (hab l hl) h ih
/-- what every row has, and the first, has the rest: a linear form -/
theorem less_form {w : Nat} {a : List Vec} {u v : Vec} (φ : Vec → Int) (hφ : ∀ (x y l : Vec) (c : Int), (∀ j, j < w → Z (y j - (x j - c * l j))) → Z (φ y - (φ x - c * φ l))) (ha : ∀ l ∈ a, Z (φ l)) (h : Less w a u v) : Z (φ v - φ u) := by
  induction h with
  | refl v =>
    rw [Int.sub_self]
    exact Z.zero
  | step l c hl h t ih =>
    rename_i x y z
    have h1 := hφ _ _ l c h
    have h2 := (ha l hl).mulL c
    have e : φ z - φ x = (φ z - φ y) + (φ y - (φ x - c * φ l)) - c * φ l := by omega
    rw [e]
    exact (ih.add h1).sub h2
/-- a basis: rows of W residues, each with 1 at its column (below w), 0 at the columns of those before it -/
structure Bs (W w : Nat) (bs : List (Nat × Row)) : Prop where
  len : ∀ b ∈ bs, b.2.length = W
  one : ∀ b ∈ bs, b.1 < w ∧ Z (vec b.2 b.1 - 1)
  ech : bs.Pairwise fun p q => Z (vec q.2 p.1)
def rowsOf (bs : List (Nat × Row)) : List Vec := bs.map fun b => vec b.2
theorem fold_less {W w : Nat} (hw : w ≤ W) {all : List Vec} : ∀ (pre bs : List (Nat × Row)) (rest : Row), rest.length = W → Bs W w (pre ++ bs) → (∀ b ∈ bs, vec b.2 ∈ all) → (∀ b ∈ pre, Z (vec rest b.1)) →
    Less W all (vec rest) (vec (bs.foldl subF rest)) ∧ ∀ b ∈ pre ++ bs, Z (vec (bs.foldl subF rest) b.1)
  | pre, [], rest, h, B, _, hz => ⟨.refl _, fun b hb => hz b (by rw [List.append_nil] at hb; exact hb)⟩
  | pre, b :: bs, rest, h, B, ha, hz => by
    have hbm : b ∈ pre ++ b :: bs := List.mem_append_right _ List.mem_cons_self
    have hlen := B.len b hbm
    obtain ⟨hc, h1⟩ := B.one b hbm
    have hstep : ∀ j, j < W → Z (vec (subF rest b) j - (vec rest j - vec rest b.1 * vec b.2 j)) := fun j hj => by
      unfold subF
      split
      · rename_i e
        rw [e, Int.zero_mul]
        have e2 : vec rest j - (vec rest j - 0) = 0 := by omega
        rw [e2]
        exact Z.zero
      · rw [vec_less (by omega) (by omega)]
        exact z_mod _
    have ech := List.pairwise_append.mp B.ech
    have key : ∀ p ∈ pre ++ [b], Z (vec (subF rest b) p.1) := fun p hp => by
      rcases List.mem_append.mp hp with q | q
      · have z1 := hz p q
        have z2 : Z (vec b.2 p.1) := ech.2.2 p q b List.mem_cons_self
        have hpc := (B.one p (List.mem_append_left _ q)).1
        have z3 := hstep p.1 (by omega)
        have e : vec (subF rest b) p.1 = vec (subF rest b) p.1 - (vec rest p.1 - vec rest b.1 * vec b.2 p.1) + (vec rest p.1 - vec rest b.1 * vec b.2 p.1) := by omega
        rw [e]
        exact z3.add (z1.sub (z2.mulL _))
      · rw [List.mem_singleton] at q
        subst q
        have z3 := hstep p.1 (by omega)
        have z4 := h1.mulL (vec rest p.1)
        have e : vec (subF rest p) p.1 = vec (subF rest p) p.1 - (vec rest p.1 - vec rest p.1 * vec p.2 p.1) - vec rest p.1 * (vec p.2 p.1 - 1) := by
          rw [Int.mul_sub, Int.mul_one]
          omega
        rw [e]
        exact z3.sub z4
    have ih := fold_less hw (all := all) (pre ++ [b]) bs (subF rest b) (sub_len h hlen) (by rw [List.append_assoc]; exact B) (fun q hq => ha q (List.mem_cons_of_mem _ hq)) key
    refine ⟨less_trans (less_one (ha b List.mem_cons_self) hstep) ih.1, fun p hp => ih.2 p ?_⟩
    rw [List.append_assoc]
    exact hp
theorem red_less {W w : Nat} (hw : w ≤ W) {bs : List (Nat × Row)} (B : Bs W w bs) {r : Row} (h : r.length = W) : Less W (rowsOf bs) (vec (mod97 r)) (vec (redF r bs)) ∧ ∀ b ∈ bs, Z (vec (redF r bs) b.1) :=
  fold_less hw [] bs (mod97 r) (by rw [mod_len]; exact h) B (fun b hb => List.mem_map.mpr ⟨b, hb, rfl⟩) fun b hb => by cases hb
theorem mod_cong {r : Row} {W : Nat} (h : r.length = W) (j : Nat) (hj : j < W) : Z (vec (mod97 r) j - vec r j) := by
  unfold mod97
  rw [vec_map (by omega)]
  exact z_mod _
theorem inv_ok {n : Int} (h : ¬ Z n) : Z (invF n * n - 1) ∧ ¬ Z (invF n) := by
  obtain ⟨h1, _, _⟩ := pow_inv h
  have h2 : Z (invF n * n - 1) := by
    have := z_mod (powR (n % 97) 95 * n)
    rw [h1] at this
    have e : invF n * n - 1 = 0 - (1 - powR (n % 97) 95 * n) := by
      show powR (n % 97) 95 * n - 1 = _
      omega
    rw [e]
    exact Z.zero.sub this
  exact ⟨h2, unit_not h2⟩
theorem scl_cong {r : Row} {c j : Nat} (hj : j < r.length) : Z (vec (sclF r c) j - invF (vec r c) * vec r j) := by
  unfold sclF
  rw [vec_map hj, Int.mul_comm (invF _)]
  exact z_mod _
/-! ### the leading column -/
theorem lead_none {r : Row} (h : leadF r = none) : ∀ x ∈ r, x = 0 := by
  unfold leadF at h
  rw [List.findIdx?_eq_none_iff] at h
  intro x hx
  have := h x hx
  simpa using this
theorem lead_some {r : Row} {c : Nat} (h : leadF r = some c) : ∃ hc : c < r.length, r[c] ≠ 0 := by
  unfold leadF at h
  rw [List.findIdx?_eq_some_iff_getElem] at h
  obtain ⟨hc, h1, _⟩ := h
  exact ⟨hc, by simpa using h1⟩
theorem not_z_res {x : Int} (h0 : 0 ≤ x) (h1 : x < 97) (h : x ≠ 0) : ¬ Z x := fun z => h (z_res z h0 h1)
/-- a basis grown by the rest -/
theorem bs_grow {W w : Nat} {bs : List (Nat × Row)} (B : Bs W w bs) {x : Row} (hx : x.length = W) (hw : w ≤ W) (hz : ∀ b ∈ bs, Z (vec x b.1)) {c : Nat} (hc : c < w) (hn : ¬ Z (vec x c)) : Bs W w (bs ++ [(c, sclF x c)]) := by
  refine ⟨fun b hb => ?_, fun b hb => ?_, List.pairwise_append.mpr ⟨B.ech, List.pairwise_singleton _ _, fun p hp q hq => ?_⟩⟩
  · rcases List.mem_append.mp hb with q | q
    · exact B.len b q
    · rw [List.mem_singleton] at q
      rw [q]
      exact scl_len.trans hx
  · rcases List.mem_append.mp hb with q | q
    · exact B.one b q
    · rw [List.mem_singleton] at q
      rw [q]
      refine ⟨hc, ?_⟩
      have h1 := scl_cong (r := x) (c := c) (j := c) (by omega)
      have h2 := (inv_ok hn).1
      have := h1.add h2
      have e : vec (sclF x c) c - invF (vec x c) * vec x c + (invF (vec x c) * vec x c - 1) = vec (sclF x c) c - 1 := by omega
      rw [← e]
      exact this
  · rw [List.mem_singleton] at hq
    rw [hq]
    have hpc := (B.one p hp).1
    have h1 := scl_cong (r := x) (c := c) (j := p.1) (by omega)
    have h2 := (hz p hp).mulL (invF (vec x c))
    have := h1.add h2
    have e : vec (sclF x c) p.1 - invF (vec x c) * vec x p.1 + invF (vec x c) * vec x p.1 = vec (sclF x c) p.1 := by omega
    rw [← e]
    exact this
theorem bs_nil {W w : Nat} : Bs W w [] := ⟨fun b hb => (by cases hb), fun b hb => (by cases hb), .nil⟩
end K00
set_option Elab.async false
set_option linter.all false
set_option maxRecDepth 100000
set_option maxHeartbeats 1000000
namespace K00
open LA97
def bv (bs : List (Nat × Row)) : List (Nat × Vec) := bs.map fun b => (b.1, vec b.2)
theorem bv_rows {bs : List (Nat × Row)} : (bv bs).map (·.2) = rowsOf bs := by
  unfold bv rowsOf
  rw [List.map_map]
  rfl
theorem bas_cong {w : Nat} {R : List Vec} {u v : Vec} {bs : List (Nat × Vec)} (B : Bas w (R ++ [u]) bs) (h : ∀ j, j < w → Z (v j - u j)) : Bas w (R ++ [v]) bs := by
  refine ⟨fun tail => ?_, B.ech, B.one⟩
  rw [← B.eqv, List.append_assoc, List.append_assoc]
  refine (indep_scale (s := 1) not_z1 fun j hj => ?_).symm
  rw [Int.one_mul]
  exact h j hj
theorem indep_cong {w : Nat} {a b : List Vec} {u v : Vec} (h : ∀ j, j < w → Z (v j - u j)) : Indep w (a ++ u :: b) ↔ Indep w (a ++ v :: b) := indep_scale (s := 1) not_z1 fun j hj => by
  rw [Int.one_mul]
  exact h j hj
theorem indep_pre {w : Nat} {a b : List Vec} (i : Indep w (a ++ b)) : Indep w a := fun ps e hz p hp => by
  refine i (ps ++ b.map fun v => ((0 : Int), v)) (by
    rw [List.map_append, e, List.map_map]
    show a ++ b.map (fun v => v) = _
    rw [List.map_id']) (fun j hj => ?_) p (List.mem_append_left _ hp)
  rw [comb_app]
  refine (hz j hj).add (comb_null fun q hq => ?_)
  obtain ⟨u, _, rfl⟩ := List.mem_map.mp hq
  exact Z.zero
/-- one step: the rest tells whether the row is to be kept, and the basis grows -/
theorem step_ok {W w : Nat} (hw : w ≤ W) {R : List Vec} {bs : List (Nat × Row)} (A : Bas w R (bv bs)) (B : Bs W w bs) {r : Row} (hr : r.length = W) {v : Vec} (hv : ∀ j, j < w → vec r j = v j) :
    (Indep w (R ++ [v]) ↔ ∃ c, c < w ∧ ¬ Z (vec (redF r bs) c)) ∧ (∀ c, c < w → ¬ Z (vec (redF r bs) c) → Bas w (R ++ [v]) (bv (bs ++ [(c, sclF (redF r bs) c)]))) := by
  obtain ⟨h1, h2⟩ := red_less hw B hr
  have hx := red_len hr B.len
  have h3 : Less w ((bv bs).map (·.2)) (vec (mod97 r)) (vec (redF r bs)) := by
    rw [bv_rows]
    exact less_narrow hw h1
  have h4 : ∀ p ∈ bv bs, Z (vec (redF r bs) p.1) := fun p hp => by
    obtain ⟨b, hb, rfl⟩ := List.mem_map.mp hp
    exact h2 b hb
  have hm : ∀ j, j < w → Z (v j - vec (mod97 r) j) := fun j hj => by
    have := mod_cong hr j (by omega)
    rw [hv j hj] at this
    have e : v j - vec (mod97 r) j = 0 - (vec (mod97 r) j - v j) := by omega
    rw [e]
    exact Z.zero.sub this
  refine ⟨?_, fun c hc hn => ?_⟩
  · rw [← bas_test A h3 h4]
    exact (indep_cong hm).symm
  · have := bas_grow (y := vec (sclF (redF r bs) c)) (s := invF (vec (redF r bs) c)) A h3 h4 hc hn (inv_ok hn).2 fun j hj => scl_cong (by omega)
    refine bas_cong ?_ hm
    unfold bv at this ⊢
    rw [List.map_append]
    exact this
/-! ### which rows are kept -/
open Classical in
noncomputable def dueN (w : Nat) (rows : List Row) : Nat → List Nat
  | 0 => []
  | k + 1 => if Indep w ((dueN w rows k).map (fun i => vec (rows.getD i [])) ++ [vec (rows.getD k [])]) then dueN w rows k ++ [k] else dueN w rows k
open Classical in
theorem due_yes {w : Nat} {rows : List Row} {k : Nat} (h : Indep w ((dueN w rows k).map (fun i => vec (rows.getD i [])) ++ [vec (rows.getD k [])])) : dueN w rows (k + 1) = dueN w rows k ++ [k] := by
  show (if _ then _ else _) = _
  rw [if_pos h]
open Classical in
theorem due_no {w : Nat} {rows : List Row} {k : Nat} (h : ¬ Indep w ((dueN w rows k).map (fun i => vec (rows.getD i [])) ++ [vec (rows.getD k [])])) : dueN w rows (k + 1) = dueN w rows k := by
  show (if _ then _ else _) = _
  rw [if_neg h]
theorem due_indep {w : Nat} {rows : List Row} : ∀ k, Indep w ((dueN w rows k).map fun i => vec (rows.getD i []))
  | 0 => fun ps e _ p hp => by
    rw [List.map_eq_nil_iff.mp e] at hp
    cases hp
  | k + 1 => by
    by_cases h : Indep w ((dueN w rows k).map (fun i => vec (rows.getD i [])) ++ [vec (rows.getD k [])])
    · rw [due_yes h, List.map_append]
      exact h
    · rw [due_no h]
      exact due_indep k
theorem due_lt {w : Nat} {rows : List Row} : ∀ k, ∀ i ∈ dueN w rows k, i < k
  | 0, i, h => by cases h
  | k + 1, i, h => by
    by_cases c : Indep w ((dueN w rows k).map (fun i => vec (rows.getD i [])) ++ [vec (rows.getD k [])])
    · rw [due_yes c] at h
      rcases List.mem_append.mp h with q | q
      · have := due_lt k i q
        omega
      · rw [List.mem_singleton] at q
        omega
    · rw [due_no c] at h
      have := due_lt k i h
      omega
theorem due_len {w : Nat} {rows : List Row} : ∀ k, (dueN w rows k).length ≤ k
  | 0 => Nat.le_refl _
  | k + 1 => by
    have := due_len (w := w) (rows := rows) k
    by_cases c : Indep w ((dueN w rows k).map (fun i => vec (rows.getD i [])) ++ [vec (rows.getD k [])])
    · rw [due_yes c, List.length_append]
      show _ + 1 ≤ _
      omega
    · rw [due_no c]
      omega
theorem nodup_len : ∀ (w : Nat) (l : List Nat), l.Nodup → (∀ x ∈ l, x < w) → l.length ≤ w
  | 0, l, _, h => by
    cases l with
    | nil => exact Nat.le_refl _
    | cons x t => exact absurd (h x List.mem_cons_self) (Nat.not_lt_zero _)
  | w + 1, l, hn, h => by
    have h1 := nodup_len w (l.erase w) (hn.erase w) fun x hx => by
      have h2 := h x (List.mem_of_mem_erase hx)
      have h3 : x ≠ w := fun e => by
        rw [e] at hx
        exact (List.Nodup.not_mem_erase hn) hx
      omega
    have h4 : l.length ≤ (l.erase w).length + 1 := by
      by_cases hm : w ∈ l
      · rw [List.length_erase_of_mem hm]
        omega
      · rw [List.erase_of_not_mem hm]
        omega
    omega
theorem full_all {w : Nat} {l : List Nat} (hn : l.Nodup) (h : ∀ x ∈ l, x < w) (hl : l.length = w) : ∀ c, c < w → c ∈ l := fun c hc => by
  apply Classical.byContradiction
  intro n
  have := nodup_len w (c :: l) (List.nodup_cons.mpr ⟨n, hn⟩) fun x hx => by
    rcases List.mem_cons.mp hx with q | q
    · omega
    · exact h x q
  rw [List.length_cons] at this
  omega
theorem bs_nodup {W w : Nat} {bs : List (Nat × Row)} (B : Bs W w bs) : (bs.map (·.1)).Nodup := by
  unfold List.Nodup
  rw [List.pairwise_map]
  refine List.Pairwise.imp_of_mem (fun {p q} hp hq h e => ?_) B.ech
  have := (B.one q hq).2
  rw [← e] at this
  exact not_z1 (by
    have h2 := h.sub this
    have e2 : vec q.2 p.1 - (vec q.2 p.1 - 1) = 1 := by omega
    rw [e2] at h2
    exact h2)
/-- as many rows as columns: no more are to be kept -/
theorem full_no {w : Nat} {R : List Vec} {bs : List (Nat × Row)} (A : Bas w R (bv bs)) (B : Bs w w bs) (hl : bs.length = w) {r : Row} (hr : r.length = w) : ¬ Indep w (R ++ [vec r]) := by
  rw [(step_ok (Nat.le_refl _) A B hr (fun _ _ => rfl)).1]
  rintro ⟨c, hc, hn⟩
  have hm := full_all (bs_nodup B) (fun x hx => by
    obtain ⟨b, hb, rfl⟩ := List.mem_map.mp hx
    exact (B.one b hb).1) (by rw [List.length_map]; exact hl) c hc
  obtain ⟨b, hb, rfl⟩ := List.mem_map.mp hm
  exact hn ((red_less (Nat.le_refl _) B hr).2 b hb)
theorem ind_due {w : Nat} {rows : List Row} (hw : ∀ r ∈ rows, r.length = w) : ∀ (rest pre : List Row) (bs : List (Nat × Row)), rows = pre ++ rest → Bs w w bs → Bas w ((dueN w rows pre.length).map fun i => vec (rows.getD i [])) (bv bs) →
    indF rest pre.length bs (dueN w rows pre.length) = dueN w rows rows.length
  | [], pre, bs, e, B, A => by
    rw [e, List.append_nil]
    rfl
  | r :: rest, pre, bs, e, B, A => by
    have hr : r.length = w := hw r (by rw [e]; exact List.mem_append_right _ List.mem_cons_self)
    have hg : rows.getD pre.length [] = r := by
      rw [e, List.getD_eq_getElem?_getD, List.getElem?_append_right (Nat.le_refl _), Nat.sub_self]
      rfl
    unfold indF
    split
    · rename_i hf
      rw [hr] at hf
      have stay : ∀ m, dueN w rows (pre.length + m) = dueN w rows pre.length ∨ rows.length < pre.length + m := by
        intro m
        induction m with
        | zero => exact .inl rfl
        | succ m ih =>
          rcases ih with ih | ih
          · by_cases hl : pre.length + m < rows.length
            · refine .inl ?_
              have hr2 : (rows.getD (pre.length + m) []).length = w := by
                rw [List.getD_eq_getElem?_getD, List.getElem?_eq_getElem hl]
                exact hw _ (List.getElem_mem hl)
              rw [← Nat.add_assoc, due_no (by rw [ih]; exact full_no A B hf hr2), ih]
            · exact .inr (by omega)
          · exact .inr (by omega)
      have := stay (rows.length - pre.length)
      have hle : pre.length ≤ rows.length := by
        rw [e, List.length_append]
        omega
      rw [show pre.length + (rows.length - pre.length) = rows.length by omega] at this
      rcases this with q | q
      · exact q.symm
      · omega
    · obtain ⟨s1, s2⟩ := step_ok (Nat.le_refl _) A B hr (v := vec r) fun _ _ => rfl
      have hx := red_len hr B.len
      split
      · rename_i c hc
        obtain ⟨h1, h2⟩ := lead_some hc
        have hcw : c < w := by omega
        have hn : ¬ Z (vec (redF r bs) c) := by
          rw [vec_get h1]
          have := red_res (r := r) (bs := bs) _ (List.getElem_mem h1)
          exact not_z_res this.1 this.2 h2
        have hy := due_yes (w := w) (rows := rows) (k := pre.length) (by
          rw [hg]
          exact s1.mpr ⟨c, hcw, hn⟩)
        have ih := ind_due hw rest (pre ++ [r]) (bs ++ [(c, sclF (redF r bs) c)]) (by rw [e, List.append_assoc]; rfl) (bs_grow B hx (Nat.le_refl _) (red_less (Nat.le_refl _) B hr).2 hcw hn) (by
          rw [List.length_append, show pre.length + [r].length = pre.length + 1 from rfl, hy, List.map_append]
          show Bas w (_ ++ [vec (rows.getD pre.length [])]) _
          rw [hg]
          exact s2 c hcw hn)
        rw [List.length_append, show pre.length + [r].length = pre.length + 1 from rfl, hy] at ih
        exact ih
      · rename_i hc
        have hy := due_no (w := w) (rows := rows) (k := pre.length) (by
          rw [hg, s1]
          rintro ⟨c, hcw, hn⟩
          refine hn ?_
          rw [vec_get (by omega), lead_none hc _ (List.getElem_mem (by omega))]
          exact Z.zero)
        have ih := ind_due hw rest (pre ++ [r]) bs (by rw [e, List.append_assoc]; rfl) B (by
          rw [List.length_append, show pre.length + [r].length = pre.length + 1 from rfl, hy]
          exact A)
        rw [List.length_append, show pre.length + [r].length = pre.length + 1 from rfl, hy] at ih
        exact ih
theorem ind_is {w : Nat} {rows : List Row} (hw : ∀ r ∈ rows, r.length = w) : indF rows 0 [] [] = dueN w rows rows.length := ind_due hw rows [] [] rfl bs_nil bas_nil
theorem due_all {w : Nat} {rows : List Row} : ∀ i, i ≤ rows.length → Indep w ((rows.take i).map vec) → dueN w rows i = List.range i ∧ (dueN w rows i).map (fun i => vec (rows.getD i [])) = (rows.take i).map vec
  | 0, _, _ => ⟨rfl, by
    rw [List.take_zero]
    rfl⟩
  | i + 1, hi, h => by
    have hl : i < rows.length := hi
    have et : rows.take (i + 1) = rows.take i ++ [rows[i]] := by
      rw [List.take_add_one, List.getElem?_eq_getElem hl]
      rfl
    have hg : rows.getD i [] = rows[i] := by
      rw [List.getD_eq_getElem?_getD, List.getElem?_eq_getElem hl]
      rfl
    rw [et, List.map_append] at h
    obtain ⟨e1, e2⟩ := due_all i (by omega) (indep_pre h)
    have hy := due_yes (w := w) (rows := rows) (k := i) (by
      rw [e2, hg]
      exact h)
    refine ⟨?_, ?_⟩
    · rw [hy, e1, List.range_succ]
    · rw [hy, List.map_append, e2, et, List.map_append]
      show _ ++ [vec (rows.getD i [])] = _
      rw [hg]
      rfl
/-- what the rows kept are when row i is the first other one -/
theorem due_first {w : Nat} {rows : List Row} {i : Nat} (hi : i < rows.length) (h : Indep w ((rows.take i).map vec)) (hn : ¬ Indep w ((rows.take (i + 1)).map vec)) :
    ∀ m, ∃ tail, dueN w rows (i + 1 + m) = List.range i ++ tail ∧ (∀ x ∈ tail, i < x) ∧ tail.length ≤ m
  | 0 => by
    obtain ⟨e1, e2⟩ := due_all i (by omega) h
    have et : rows.take (i + 1) = rows.take i ++ [rows[i]] := by
      rw [List.take_add_one, List.getElem?_eq_getElem hi]
      rfl
    have hg : rows.getD i [] = rows[i] := by
      rw [List.getD_eq_getElem?_getD, List.getElem?_eq_getElem hi]
      rfl
    refine ⟨[], ?_, fun x hx => (by cases hx), Nat.le_refl _⟩
    rw [Nat.add_zero, due_no (by
      rw [e2, hg]
      rw [et, List.map_append] at hn
      exact hn), e1, List.append_nil]
  | m + 1 => by
    obtain ⟨tail, e, h1, h2⟩ := due_first hi h hn m
    rw [← Nat.add_assoc]
    by_cases c : Indep w ((dueN w rows (i + 1 + m)).map (fun i => vec (rows.getD i [])) ++ [vec (rows.getD (i + 1 + m) [])])
    · refine ⟨tail ++ [i + 1 + m], ?_, fun x hx => ?_, ?_⟩
      · rw [due_yes c, e, List.append_assoc]
      · rcases List.mem_append.mp hx with q | q
        · exact h1 x q
        · rw [List.mem_singleton] at q
          omega
      · rw [List.length_append]
        show _ + 1 ≤ _
        omega
    · exact ⟨tail, (due_no c).trans e, h1, by omega⟩
end K00
set_option Elab.async false
set_option linter.all false
set_option maxRecDepth 100000
set_option maxHeartbeats 1000000
/-! determinants as sums over orders: rows exchanged, scaled, added; a first column of zeros -/
namespace K03
open LA97 K00 DL
def ext (n : Nat) (os : List (List Int)) : List (List Int) := os.flatMap fun o => ((rng 0 n).filter fun k => !decide (k ∈ o)).map fun k => o ++ [k]
def ordK (n : Nat) : Nat → List (List Int)
  | 0 => [[]]
  | k + 1 => ext n (ordK n k)
def ords (n : Nat) : List (List Int) := ordK n n
theorem mem_ext {n : Nat} {os : List (List Int)} {o : List Int} : o ∈ ext n os ↔ ∃ p ∈ os, ∃ k : Int, 0 ≤ k ∧ k < n ∧ k ∉ p ∧ o = p ++ [k] := by
  unfold ext
  rw [List.mem_flatMap]
  constructor
  · rintro ⟨p, hp, h⟩
    obtain ⟨k, hk, rfl⟩ := List.mem_map.mp h
    rw [List.mem_filter, mem_rng] at hk
    obtain ⟨⟨h1, h2⟩, h3⟩ := hk
    exact ⟨p, hp, k, h1, by omega, by simpa using h3, rfl⟩
  · rintro ⟨p, hp, k, h1, h2, h3, rfl⟩
    refine ⟨p, hp, List.mem_map.mpr ⟨k, ?_, rfl⟩⟩
    rw [List.mem_filter, mem_rng]
    exact ⟨⟨h1, by omega⟩, by simpa using h3⟩
structure Ord (n k : Nat) (o : List Int) : Prop where
  len : o.length = k
  nd : o.Nodup
  low : ∀ x ∈ o, 0 ≤ x ∧ x < (n : Int)
theorem mem_ordK {n : Nat} : ∀ {k : Nat} {o : List Int}, o ∈ ordK n k ↔ Ord n k o
  | 0, o => by
    show o ∈ [[]] ↔ _
    rw [List.mem_singleton]
    constructor
    · rintro rfl
      exact ⟨rfl, List.nodup_nil, fun x hx => by cases hx⟩
    · intro h
      exact List.length_eq_zero_iff.mp h.len
  | k + 1, o => by
    show o ∈ ext n (ordK n k) ↔ _
    rw [mem_ext]
    constructor
    · rintro ⟨p, hp, x, h1, h2, h3, rfl⟩
      have ih := mem_ordK.mp hp
      refine ⟨by rw [List.length_append, ih.len]; rfl, ?_, fun y hy => ?_⟩
      · rw [List.nodup_append]
        refine ⟨ih.nd, by simp, fun a ha b hb => ?_⟩
        rw [List.mem_singleton] at hb
        rw [hb]
        intro e
        rw [e] at ha
        exact h3 ha
      · rcases List.mem_append.mp hy with q | q
        · exact ih.low y q
        · rw [List.mem_singleton] at q
          rw [q]
          exact ⟨h1, h2⟩
    · intro h
      have hne : o ≠ [] := fun e => by
        have := h.len
        rw [e] at this
        cases this
      refine ⟨o.dropLast, mem_ordK.mpr ⟨by rw [List.length_dropLast, h.len]; rfl, h.nd.sublist (List.dropLast_sublist o), fun x hx => h.low x (List.dropLast_subset o hx)⟩, o.getLast hne, (h.low _ (List.getLast_mem hne)).1, (h.low _ (List.getLast_mem hne)).2, ?_, (List.dropLast_concat_getLast hne).symm⟩
      intro hm
      have hnd := h.nd
      rw [← List.dropLast_concat_getLast hne, List.nodup_append] at hnd
      exact hnd.2.2 _ hm _ (List.mem_singleton_self _) rfl
theorem nodup_ext {n : Nat} {os : List (List Int)} (h : os.Nodup) : (ext n os).Nodup := by
  induction os with
  | nil => exact List.nodup_nil
  | cons o os ih =>
    rw [List.nodup_cons] at h
    unfold ext
    rw [List.flatMap_cons, List.nodup_append]
    refine ⟨?_, ih h.2, fun a ha b hb e => ?_⟩
    · have nr : (rng 0 n).Nodup := by
        unfold rng List.Nodup
        rw [List.pairwise_map]
        refine List.Pairwise.imp (fun {x y} hxy e => hxy ?_) (List.nodup_range (n := n))
        have e : (0 : Int) + (x : Int) = 0 + (y : Int) := e
        omega
      show List.Pairwise _ _
      rw [List.pairwise_map]
      refine List.Pairwise.imp (fun {x y} hxy e => hxy ?_) (nr.filter _)
      have := (List.append_inj' e rfl).2
      exact (List.cons.inj this).1
    · obtain ⟨k, _, rfl⟩ := List.mem_map.mp ha
      have hb : b ∈ ext n os := hb
      obtain ⟨p, hp, x, _, _, _, hx⟩ := mem_ext.mp hb
      rw [← e] at hx
      have := (List.append_inj' hx rfl).1
      rw [← this] at hp
      exact h.1 hp
theorem nodup_ordK {n : Nat} : ∀ k, (ordK n k).Nodup
  | 0 => by
    show [[]].Nodup
    simp
  | k + 1 => nodup_ext (nodup_ordK k)
theorem mem_ords {n : Nat} {o : List Int} : o ∈ ords n ↔ Ord n n o := mem_ordK
theorem nodup_ords {n : Nat} : (ords n).Nodup := nodup_ordK n
/-! ### signs -/
def inv : List Int → Nat
  | [] => 0
  | x :: t => (t.filter fun y => decide (y < x)).length + inv t
def sg (o : List Int) : Int := 1 - 2 * ((inv o % 2 : Nat) : Int)
theorem sg_flip {o p : List Int} (h : (inv o + inv p) % 2 = 1) : sg p = - sg o := by
  unfold sg
  omega
def sw : Nat → List Int → List Int
  | 0, x :: y :: t => y :: x :: t
  | i + 1, x :: t => x :: sw i t
  | _, o => o
theorem sw_perm : ∀ (i : Nat) (o : List Int), (sw i o).Perm o
  | 0, [] => .refl _
  | 0, [x] => .refl _
  | 0, x :: y :: t => .swap x y t
  | i + 1, [] => .refl _
  | i + 1, x :: t => (sw_perm i t).cons x
theorem sw_sw : ∀ (i : Nat) (o : List Int), sw i (sw i o) = o
  | 0, [] => rfl
  | 0, [x] => rfl
  | 0, x :: y :: t => rfl
  | i + 1, [] => rfl
  | i + 1, x :: t => congrArg (x :: ·) (sw_sw i t)
theorem sw_inv : ∀ (i : Nat) (o : List Int), i + 1 < o.length → o.Nodup → (inv o + inv (sw i o)) % 2 = 1
  | 0, [], h, _ => absurd h (by simp)
  | 0, [x], h, _ => absurd h (by simp)
  | 0, x :: y :: t, _, hn => by
    have hxy : x ≠ y := fun e => by
      rw [e, List.nodup_cons] at hn
      exact hn.1 List.mem_cons_self
    show (((y :: t).filter fun z => decide (z < x)).length + ((t.filter fun z => decide (z < y)).length + inv t) + (((x :: t).filter fun z => decide (z < y)).length + ((t.filter fun z => decide (z < x)).length + inv t))) % 2 = 1
    rw [List.filter_cons, List.filter_cons]
    by_cases c : x < y
    · rw [if_neg (by simp; omega), if_pos (by simp; omega), List.length_cons]
      omega
    · rw [if_pos (by simp; omega), if_neg (by simp; omega), List.length_cons]
      omega
  | i + 1, [], h, _ => absurd h (by simp)
  | i + 1, x :: t, h, hn => by
    rw [List.nodup_cons] at hn
    have ih := sw_inv i t (by rw [List.length_cons] at h; omega) hn.2
    show (((t.filter fun z => decide (z < x)).length + inv t) + (((sw i t).filter fun z => decide (z < x)).length + inv (sw i t))) % 2 = 1
    rw [((sw_perm i t).filter _).length_eq]
    omega
/-! ### terms -/
def tm : List Row → List Int → Int
  | r :: rs, c :: o => vec r c.toNat * tm rs o
  | _, _ => 1
theorem tm_sw : ∀ (p : List Row) (a b : Row) (q : List Row) (o : List Int), o.length = (p ++ a :: b :: q).length → tm (p ++ b :: a :: q) o = tm (p ++ a :: b :: q) (sw p.length o)
  | [], a, b, q, x :: y :: t, _ => by
    show vec b x.toNat * (vec a y.toNat * tm q t) = vec a y.toNat * (vec b x.toNat * tm q t)
    rw [← Int.mul_assoc, Int.mul_comm (vec b x.toNat), Int.mul_assoc]
  | [], a, b, q, [], h => by simp at h
  | [], a, b, q, [x], h => by simp at h
  | r :: p, a, b, q, x :: t, h => by
    show vec r x.toNat * tm (p ++ b :: a :: q) t = vec r x.toNat * tm (p ++ a :: b :: q) (sw p.length t)
    rw [tm_sw p a b q t (by simpa using h)]
  | r :: p, a, b, q, [], h => by simp at h
def sumZ {α : Type} (f : α → Int) : List α → Int
  | [] => 0
  | a :: l => f a + sumZ f l
theorem sumZ_eq {α : Type} {f : α → Int} {l : List α} : (l.map f).sum = sumZ f l := by
  induction l with
  | nil => rfl
  | cons a l ih =>
    rw [List.map_cons, List.sum_cons, ih]
    rfl
theorem sumZ_perm {α : Type} {f : α → Int} {l m : List α} (h : l.Perm m) : sumZ f l = sumZ f m := by
  induction h with
  | nil => rfl
  | cons x _ ih =>
    show f x + _ = f x + _
    rw [ih]
  | swap x y l =>
    show f y + (f x + sumZ f l) = f x + (f y + sumZ f l)
    omega
  | trans _ _ h1 h2 => rw [h1, h2]
theorem sumZ_map {α β : Type} {f : β → Int} {g : α → β} {l : List α} : sumZ f (l.map g) = sumZ (fun a => f (g a)) l := by
  induction l with
  | nil => rfl
  | cons a l ih =>
    show f (g a) + _ = f (g a) + _
    rw [ih]
theorem sumZ_lin {α : Type} {f g h : α → Int} {x y : Int} {l : List α} (H : ∀ a ∈ l, f a = x * g a + y * h a) : sumZ f l = x * sumZ g l + y * sumZ h l := by
  induction l with
  | nil =>
    show (0 : Int) = x * 0 + y * 0
    omega
  | cons a l ih =>
    show f a + sumZ f l = x * (g a + sumZ g l) + y * (h a + sumZ h l)
    rw [H a List.mem_cons_self, ih fun b hb => H b (List.mem_cons_of_mem _ hb), Int.mul_add, Int.mul_add]
    omega
theorem sumZ_cong {α : Type} {f g : α → Int} {l : List α} (H : ∀ a ∈ l, Z (f a - g a)) : Z (sumZ f l - sumZ g l) := by
  induction l with
  | nil => exact Z.zero
  | cons a l ih =>
    have e : sumZ f (a :: l) - sumZ g (a :: l) = (f a - g a) + (sumZ f l - sumZ g l) := by
      show f a + sumZ f l - (g a + sumZ g l) = _
      omega
    rw [e]
    exact (H a List.mem_cons_self).add (ih fun b hb => H b (List.mem_cons_of_mem _ hb))
/-- the sum over the orders -/
def Dt (n : Nat) (rows : List Row) : Int := sumZ (fun o => sg o * tm rows o) (ords n)
theorem det_swap {n : Nat} {p : List Row} {a b : Row} {q : List Row} (h : (p ++ a :: b :: q).length = n) : Dt n (p ++ b :: a :: q) = - Dt n (p ++ a :: b :: q) := by
  have hp : ((ords n).map (sw p.length)).Perm (ords n) := by
    refine (List.perm_ext_iff_of_nodup ?_ nodup_ords).mpr fun o => ?_
    · unfold List.Nodup
      rw [List.pairwise_map]
      refine List.Pairwise.imp (fun {x y} hxy e => hxy ?_) nodup_ords
      rw [← sw_sw p.length x, e, sw_sw]
    · rw [List.mem_map]
      have key : ∀ o, o ∈ ords n → sw p.length o ∈ ords n := fun o ho => by
        have O := mem_ords.mp ho
        have P := sw_perm p.length o
        exact mem_ords.mpr ⟨P.length_eq.trans O.len, P.nodup_iff.mpr O.nd, fun x hx => O.low x (P.mem_iff.mp hx)⟩
      constructor
      · rintro ⟨x, hx, rfl⟩
        exact key x hx
      · intro ho
        exact ⟨sw p.length o, key o ho, sw_sw _ _⟩
  unfold Dt
  rw [← sumZ_perm (f := fun o => sg o * tm (p ++ a :: b :: q) o) hp, sumZ_map]
  have := sumZ_lin (f := fun o => sg o * tm (p ++ b :: a :: q) o) (g := fun o => sg (sw p.length o) * tm (p ++ a :: b :: q) (sw p.length o)) (h := fun _ => 0) (x := -1) (y := 0) (l := ords n) fun o ho => by
    have O := mem_ords.mp ho
    have hl : p.length + 1 < o.length := by
      rw [O.len, ← h, List.length_append, List.length_cons, List.length_cons]
      omega
    rw [tm_sw p a b q o (by rw [O.len, h]), sg_flip (sw_inv p.length o hl O.nd)]
    have e : -1 * (-sg o * tm (p ++ a :: b :: q) (sw p.length o)) = sg o * tm (p ++ a :: b :: q) (sw p.length o) := by rw [Int.neg_mul, Int.neg_mul, Int.one_mul, Int.neg_neg]
    rw [e]
    omega
  rw [this]
  omega
theorem det_adj {n : Nat} {p : List Row} {a : Row} {q : List Row} (h : (p ++ a :: a :: q).length = n) : Dt n (p ++ a :: a :: q) = 0 := by
  have := det_swap h
  omega
theorem det_same {n : Nat} {a : Row} : ∀ (m p q : List Row), (p ++ a :: (m ++ a :: q)).length = n → Dt n (p ++ a :: (m ++ a :: q)) = 0
  | [], p, q, h => det_adj h
  | b :: m, p, q, h => by
    have h1 := det_swap (p := p) (a := b) (b := a) (q := m ++ a :: q) (n := n) (by
      rw [← h]
      simp)
    have h2 := det_same (n := n) (a := a) m (p ++ [b]) q (by
      rw [← h]
      simp)
    rw [List.append_assoc] at h2
    have h2 : Dt n (p ++ b :: a :: (m ++ a :: q)) = 0 := h2
    show Dt n (p ++ a :: b :: (m ++ a :: q)) = 0
    omega
theorem tm_app : ∀ (p q : List Row) (o : List Int), p.length ≤ o.length → tm (p ++ q) o = tm p (o.take p.length) * tm q (o.drop p.length)
  | [], q, o, _ => by
    show tm q o = 1 * tm q o
    rw [Int.one_mul]
  | r :: p, q, x :: t, h => by
    show vec r x.toNat * tm (p ++ q) t = vec r x.toNat * tm p (t.take p.length) * tm q (t.drop p.length)
    rw [tm_app p q t (by simpa using h), Int.mul_assoc]
  | r :: p, q, [], h => by simp at h
/-- a row is a sum of two -/
theorem det_lin {n : Nat} {p q : List Row} {r u v : Row} {x y : Int} (h : (p ++ r :: q).length = n) (hr : ∀ j, j < n → vec r j = x * vec u j + y * vec v j) : Dt n (p ++ r :: q) = x * Dt n (p ++ u :: q) + y * Dt n (p ++ v :: q) := by
  refine sumZ_lin fun o ho => ?_
  have O := mem_ords.mp ho
  have hl : p.length < o.length := by
    rw [O.len, ← h, List.length_append, List.length_cons]
    omega
  rw [tm_app p (r :: q) o (by omega), tm_app p (u :: q) o (by omega), tm_app p (v :: q) o (by omega), List.drop_eq_getElem_cons hl]
  show sg o * (tm p _ * (vec r o[p.length].toNat * tm q _)) = x * (sg o * (tm p _ * (vec u o[p.length].toNat * tm q _))) + y * (sg o * (tm p _ * (vec v o[p.length].toNat * tm q _)))
  have hc := O.low _ (List.getElem_mem hl)
  rw [hr _ (by omega)]
  generalize tm p (o.take p.length) = A
  generalize tm q (o.drop (p.length + 1)) = B
  generalize vec u o[p.length].toNat = U
  generalize vec v o[p.length].toNat = W
  generalize sg o = s
  have e1 : s * (A * (x * U * B)) = x * (s * (A * (U * B))) := by
    rw [Int.mul_assoc x, Int.mul_left_comm A x, Int.mul_left_comm s x]
  have e2 : s * (A * (y * W * B)) = y * (s * (A * (W * B))) := by
    rw [Int.mul_assoc y, Int.mul_left_comm A y, Int.mul_left_comm s y]
  rw [Int.add_mul, Int.mul_add, Int.mul_add, e1, e2]
theorem Z.mul_cong {a b c d : Int} (h : Z (a - b)) (k : Z (c - d)) : Z (a * c - b * d) := by
  have e : a * c - b * d = (a - b) * c + b * (c - d) := by
    rw [Int.sub_mul, Int.mul_sub]
    omega
  rw [e]
  exact (h.mulR c).add (k.mulL b)
/-- rows alike modulo 97 -/
inductive Cg (n : Nat) : List Row → List Row → Prop
  | nil : Cg n [] []
  | cons {a b : Row} {p q : List Row} (h : ∀ j, j < n → Z (vec a j - vec b j)) (t : Cg n p q) : Cg n (a :: p) (b :: q)
theorem Cg.refl {n : Nat} : ∀ rows : List Row, Cg n rows rows
  | [] => .nil
  | a :: p => .cons (fun j _ => by rw [Int.sub_self]; exact Z.zero) (Cg.refl p)
theorem Cg.app {n : Nat} {p q r s : List Row} (h : Cg n p q) (k : Cg n r s) : Cg n (p ++ r) (q ++ s) := by
  induction h with
  | nil => exact k
  | cons a _ ih => exact .cons a ih
theorem tm_cong {n : Nat} {rows rows' : List Row} (h : Cg n rows rows') : ∀ o : List Int, (∀ x ∈ o, 0 ≤ x ∧ x < (n : Int)) → Z (tm rows o - tm rows' o) := by
  induction h with
  | nil =>
    intro o _
    show Z (1 - 1)
    exact Z.zero
  | cons a t ih =>
    intro o ho
    cases o with
    | nil =>
      show Z (1 - 1)
      exact Z.zero
    | cons x o =>
      have hx := ho x List.mem_cons_self
      exact Z.mul_cong (a _ (by omega)) (ih o fun y hy => ho y (List.mem_cons_of_mem _ hy))
theorem det_cong {n : Nat} {rows rows' : List Row} (h : Cg n rows rows') : Z (Dt n rows - Dt n rows') := sumZ_cong fun o ho => by
  rw [← Int.mul_sub]
  exact (tm_cong h o (mem_ords.mp ho).low).mulL _
/-- a row with a multiple of another row added, modulo 97 -/
theorem det_add {n : Nat} {p q : List Row} {r u a : Row} {c : Int} (h : (p ++ r :: q).length = n) (hr : ∀ j, j < n → Z (vec r j - (vec u j + c * vec a j))) (ha : Dt n (p ++ a :: q) = 0) : Z (Dt n (p ++ r :: q) - Dt n (p ++ u :: q)) := by
  have ex : ∃ w : Row, ∀ j, j < n → vec w j = 1 * vec u j + c * vec a j := ⟨(List.range n).map fun j => vec u j + c * vec a j, fun j hj => by
    rw [vec_get (by rw [List.length_map, List.length_range]; exact hj), List.getElem_map, List.getElem_range, Int.one_mul]⟩
  obtain ⟨w, hw⟩ := ex
  have h1 := det_lin (p := p) (q := q) (r := w) (u := u) (v := a) (x := 1) (y := c) (n := n) (by rw [← h]; simp) hw
  rw [ha] at h1
  have h2 := det_cong ((Cg.refl p).app (.cons (a := r) (b := w) (fun j hj => by
    have := hr j hj
    rw [hw j hj, Int.one_mul]
    exact this) (Cg.refl q)) : Cg n (p ++ r :: q) (p ++ w :: q))
  rw [h1] at h2
  have e : Dt n (p ++ r :: q) - (1 * Dt n (p ++ u :: q) + c * 0) = Dt n (p ++ r :: q) - Dt n (p ++ u :: q) := by omega
  rw [e] at h2
  exact h2
def pm (k : Nat) : Int := if k % 2 = 0 then 1 else -1
theorem det_front {n : Nat} {a : Row} : ∀ (p w q : List Row), (w ++ (p ++ a :: q)).length = n → Dt n (w ++ (p ++ a :: q)) = pm p.length * Dt n (w ++ a :: (p ++ q))
  | [], w, q, _ => by
    show _ = 1 * _
    rw [Int.one_mul]
    rfl
  | b :: p, w, q, h => by
    have ih := det_front (n := n) (a := a) p (w ++ [b]) q (by rw [← h]; simp)
    have e1 : w ++ [b] ++ (p ++ a :: q) = w ++ (b :: p ++ a :: q) := by simp
    have e2 : w ++ [b] ++ a :: (p ++ q) = w ++ b :: a :: (p ++ q) := by simp
    rw [e1, e2] at ih
    have h1 := det_swap (p := w) (a := a) (b := b) (q := p ++ q) (n := n) (by rw [← h]; simp; omega)
    rw [ih, h1]
    have e3 : pm (b :: p).length = - pm p.length := by
      unfold pm
      rw [List.length_cons]
      split <;> split <;> omega
    rw [e3, Int.mul_neg, Int.neg_mul]
    rfl
end K03
set_option Elab.async false
set_option linter.all false
set_option maxRecDepth 100000
set_option maxHeartbeats 1000000
namespace K03
open LA97 K00 DL
theorem zero_mem {n : Nat} {o : List Int} (h : Ord n n o) (hn : 0 < n) : (0 : Int) ∈ o := by
  have hm := full_all (l := o.map Int.toNat) (w := n) (by
    unfold List.Nodup
    rw [List.pairwise_map]
    refine List.Pairwise.imp_of_mem (fun {x y} hx hy hxy e => hxy ?_) h.nd
    have h1 := h.low x hx
    have h2 := h.low y hy
    omega) (fun x hx => by
      obtain ⟨y, hy, rfl⟩ := List.mem_map.mp hx
      have := h.low y hy
      omega) (by rw [List.length_map]; exact h.len) 0 hn
  obtain ⟨x, hx, e⟩ := List.mem_map.mp hm
  have := h.low x hx
  have e2 : x = 0 := by omega
  rw [e2] at hx
  exact hx
theorem tm_zero : ∀ (rs : List Row) (t : List Int), (∀ r ∈ rs, Z (vec r 0)) → (0 : Int) ∈ t → t.length ≤ rs.length → Z (tm rs t)
  | [], [], _, h, _ => by cases h
  | [], c :: t, _, _, h => by simp at h
  | r :: rs, [], _, h, _ => by cases h
  | r :: rs, c :: t, hr, h, hl => by
    show Z (vec r c.toNat * tm rs t)
    rcases List.mem_cons.mp h with q | q
    · rw [← q]
      exact (hr r List.mem_cons_self).mulR _
    · exact (tm_zero rs t (fun s hs => hr s (List.mem_cons_of_mem _ hs)) q (by simpa using hl)).mulL _
theorem sumZ_zero {α : Type} {f : α → Int} {l : List α} (h : ∀ a ∈ l, Z (f a)) : Z (sumZ f l) := by
  induction l with
  | nil => exact Z.zero
  | cons a l ih => exact (h a List.mem_cons_self).add (ih fun b hb => h b (List.mem_cons_of_mem _ hb))
theorem det_zero {n : Nat} {rows : List Row} (hl : rows.length = n) (hn : 0 < n) (h : ∀ r ∈ rows, Z (vec r 0)) : Z (Dt n rows) := sumZ_zero fun o ho => by
  have O := mem_ords.mp ho
  exact (tm_zero rows o h (zero_mem O hn) (by rw [O.len, hl]; exact Nat.le_refl _)).mulL _
theorem sumZ_filter {α : Type} {f : α → Int} {p : α → Bool} {l : List α} (h : ∀ a ∈ l, p a = false → Z (f a)) : Z (sumZ f l - sumZ f (l.filter p)) := by
  induction l with
  | nil => exact Z.zero
  | cons a l ih =>
    have ih := ih fun b hb => h b (List.mem_cons_of_mem _ hb)
    rw [List.filter_cons]
    cases hp : p a with
    | true =>
      rw [if_pos rfl]
      have e : sumZ f (a :: l) - sumZ f (a :: l.filter p) = sumZ f l - sumZ f (l.filter p) := by
        show f a + sumZ f l - (f a + sumZ f (l.filter p)) = _
        omega
      rw [e]
      exact ih
    | false =>
      rw [if_neg (by decide)]
      have e : sumZ f (a :: l) - sumZ f (l.filter p) = f a + (sumZ f l - sumZ f (l.filter p)) := by
        show f a + sumZ f l - sumZ f (l.filter p) = _
        omega
      rw [e]
      exact (h a List.mem_cons_self hp).add ih
def hd0 : List Int → Bool
  | c :: _ => decide (c = 0)
  | [] => false
def up (t : List Int) : List Int := 0 :: t.map (· + 1)
theorem inv_up : ∀ t : List Int, inv (t.map (· + 1)) = inv t
  | [] => rfl
  | x :: t => by
    show ((t.map (· + 1)).filter fun y => decide (y < x + 1)).length + inv (t.map (· + 1)) = (t.filter fun y => decide (y < x)).length + inv t
    rw [inv_up t, List.filter_map, List.length_map]
    congr 2
    refine List.filter_congr fun y _ => ?_
    show decide (y + 1 < x + 1) = decide (y < x)
    exact decide_eq_decide.mpr ⟨fun h => by omega, fun h => by omega⟩
theorem sg_up {t : List Int} (h : ∀ x ∈ t, 0 ≤ x) : sg (up t) = sg t := by
  unfold sg up
  have e : inv (0 :: t.map (· + 1)) = inv t := by
    show ((t.map (· + 1)).filter fun y => decide (y < 0)).length + inv (t.map (· + 1)) = _
    rw [inv_up, List.filter_eq_nil_iff.mpr fun y hy => by
      obtain ⟨x, hx, rfl⟩ := List.mem_map.mp hy
      have := h x hx
      simp
      omega]
    simp
  rw [e]
theorem vec_tail {r : Row} {k : Nat} : vec r.tail k = vec r (k + 1) := by
  cases r with
  | nil => rfl
  | cons a r => rfl
theorem tm_up : ∀ (rs : List Row) (t : List Int), (∀ x ∈ t, 0 ≤ x) → tm rs (t.map (· + 1)) = tm (rs.map List.tail) t
  | [], [], _ => rfl
  | [], c :: t, _ => rfl
  | r :: rs, [], _ => rfl
  | r :: rs, c :: t, h => by
    show vec r (c + 1).toNat * tm rs (t.map (· + 1)) = vec r.tail c.toNat * tm (rs.map List.tail) t
    have hc := h c List.mem_cons_self
    rw [tm_up rs t fun x hx => h x (List.mem_cons_of_mem _ hx), vec_tail, show (c + 1).toNat = c.toNat + 1 by omega]
theorem det_block {n : Nat} {a : Row} {rs : List Row} (hl : rs.length = n) (h : ∀ r ∈ rs, Z (vec r 0)) : Z (Dt (n + 1) (a :: rs) - vec a 0 * Dt n (rs.map List.tail)) := by
  have h1 : Z (Dt (n + 1) (a :: rs) - sumZ (fun o => sg o * tm (a :: rs) o) ((ords (n + 1)).filter hd0)) := sumZ_filter fun o ho hp => by
    have O := mem_ords.mp ho
    cases o with
    | nil =>
      have := O.len
      simp at this
    | cons c t =>
      have hc : c ≠ 0 := by simpa [hd0] using hp
      have hz : (0 : Int) ∈ t := by
        rcases List.mem_cons.mp (zero_mem O (Nat.succ_pos n)) with q | q
        · exact absurd q.symm hc
        · exact q
      have hlt : t.length ≤ rs.length := by
        have := O.len
        rw [List.length_cons] at this
        omega
      show Z (sg (c :: t) * (vec a c.toNat * tm rs t))
      exact ((tm_zero rs t h hz hlt).mulL _).mulL _
  have hp : ((ords (n + 1)).filter hd0).Perm ((ords n).map up) := by
    refine (List.perm_ext_iff_of_nodup (nodup_ords.filter _) ?_).mpr fun o => ?_
    · unfold List.Nodup
      rw [List.pairwise_map]
      refine List.Pairwise.imp (fun {x y} hxy e => hxy ?_) nodup_ords
      have e := (List.cons.inj e).2
      exact (List.map_inj_right (fun a b (h : a + 1 = b + 1) => by omega)).mp e
    · rw [List.mem_filter, List.mem_map, mem_ords]
      constructor
      · rintro ⟨O, hp⟩
        cases o with
        | nil => cases hp
        | cons c t =>
          have hc : c = 0 := by simpa [hd0] using hp
          subst hc
          have hnd := List.nodup_cons.mp O.nd
          have hlow : ∀ x ∈ t, 1 ≤ x ∧ x < (n : Int) + 1 := fun x hx => by
            have := O.low x (List.mem_cons_of_mem _ hx)
            have hx0 : x ≠ 0 := fun e => hnd.1 (e ▸ hx)
            omega
          refine ⟨t.map (· - 1), mem_ords.mpr ⟨by have := O.len; rw [List.length_cons] at this; rw [List.length_map]; omega, ?_, fun x hx => ?_⟩, ?_⟩
          · unfold List.Nodup
            rw [List.pairwise_map]
            exact List.Pairwise.imp (fun {x y} hxy e => hxy (by omega)) hnd.2
          · obtain ⟨y, hy, rfl⟩ := List.mem_map.mp hx
            have := hlow y hy
            omega
          · unfold up
            rw [List.map_map]
            congr 1
            conv => rhs; rw [← List.map_id t]
            refine List.map_congr_left fun x _ => ?_
            show x - 1 + 1 = x
            omega
      · rintro ⟨t, ht, rfl⟩
        have O := mem_ords.mp ht
        refine ⟨⟨by unfold up; rw [List.length_cons, List.length_map, O.len], ?_, fun x hx => ?_⟩, by simp [up, hd0]⟩
        · unfold up
          rw [List.nodup_cons]
          refine ⟨fun hm => ?_, ?_⟩
          · obtain ⟨x, hx, e⟩ := List.mem_map.mp hm
            have := O.low x hx
            omega
          · unfold List.Nodup
            rw [List.pairwise_map]
            exact List.Pairwise.imp (fun {x y} hxy e => hxy (by omega)) O.nd
        · rcases List.mem_cons.mp hx with q | q
          · omega
          · obtain ⟨y, hy, rfl⟩ := List.mem_map.mp q
            have := O.low y hy
            omega
  rw [sumZ_perm hp, sumZ_map] at h1
  have h2 := sumZ_lin (f := fun t => sg (up t) * tm (a :: rs) (up t)) (g := fun t => sg t * tm (rs.map List.tail) t) (h := fun _ => 0) (x := vec a 0) (y := 0) (l := ords n) fun t ht => by
    have O := mem_ords.mp ht
    show sg (up t) * (vec a (0 : Int).toNat * tm rs (t.map (· + 1))) = _
    rw [sg_up fun x hx => (O.low x hx).1, tm_up rs t fun x hx => (O.low x hx).1, show (0 : Int).toNat = 0 from rfl, Int.mul_left_comm]
    omega
  rw [h2, Int.zero_mul, Int.add_zero] at h1
  exact h1
theorem det_clear {n : Nat} {a : Row} {α : Type} {f g : α → Row} {c : α → Int} : ∀ (t : List α) (pre : List Row), (a :: (pre ++ t.map g)).length = n → (∀ z ∈ t, ∀ j, j < n → Z (vec (f z) j - (vec (g z) j + c z * vec a j))) → Z (Dt n (a :: (pre ++ t.map f)) - Dt n (a :: (pre ++ t.map g)))
  | [], pre, _, _ => by
    rw [List.map_nil, List.map_nil, Int.sub_self]
    exact Z.zero
  | z :: t, pre, hl, h => by
    have ih := det_clear (n := n) (a := a) (f := f) (g := g) (c := c) t (pre ++ [f z]) (by rw [← hl]; simp) fun y hy => h y (List.mem_cons_of_mem _ hy)
    rw [List.append_assoc, List.append_assoc] at ih
    have hd : Dt n ((a :: pre) ++ a :: t.map g) = 0 := det_same pre [] (t.map g) (by rw [← hl]; simp)
    have h2 := det_add (n := n) (p := a :: pre) (q := t.map g) (r := f z) (u := g z) (a := a) (c := c z) (by rw [← hl]; simp) (h z List.mem_cons_self) hd
    have e : Dt n (a :: (pre ++ (z :: t).map f)) - Dt n (a :: (pre ++ (z :: t).map g)) = (Dt n (a :: (pre ++ ([f z] ++ t.map f))) - Dt n (a :: (pre ++ ([f z] ++ t.map g)))) + (Dt n (a :: pre ++ f z :: t.map g) - Dt n (a :: pre ++ g z :: t.map g)) := by
      show Dt n (a :: (pre ++ f z :: t.map f)) - Dt n (a :: (pre ++ g z :: t.map g)) = (Dt n (a :: (pre ++ f z :: t.map f)) - Dt n (a :: (pre ++ f z :: t.map g))) + (Dt n (a :: (pre ++ f z :: t.map g)) - Dt n (a :: (pre ++ g z :: t.map g)))
      omega
    rw [e]
    exact ih.add h2
def prodZ : List Int → Int
  | [] => 1
  | x :: l => x * prodZ l
theorem det_scale {n : Nat} {α : Type} {f g : α → Row} {s : α → Int} : ∀ (t : List α) (pre : List Row), (pre ++ t.map g).length = n → (∀ z ∈ t, ∀ j, j < n → vec (f z) j = s z * vec (g z) j) → Dt n (pre ++ t.map f) = prodZ (t.map s) * Dt n (pre ++ t.map g)
  | [], pre, _, _ => by
    show _ = 1 * _
    rw [Int.one_mul]
    rfl
  | z :: t, pre, hl, h => by
    have ih := det_scale (n := n) (f := f) (g := g) (s := s) t (pre ++ [f z]) (by rw [← hl]; simp) fun y hy => h y (List.mem_cons_of_mem _ hy)
    rw [List.append_assoc, List.append_assoc] at ih
    have ih : Dt n (pre ++ f z :: t.map f) = prodZ (t.map s) * Dt n (pre ++ f z :: t.map g) := ih
    have h2 := det_lin (n := n) (p := pre) (q := t.map g) (r := f z) (u := g z) (v := g z) (x := s z) (y := 0) (by rw [← hl]; simp) fun j hj => by
      rw [Int.zero_mul, Int.add_zero]
      exact h z List.mem_cons_self j hj
    show Dt n (pre ++ f z :: t.map f) = s z * prodZ (t.map s) * Dt n (pre ++ g z :: t.map g)
    rw [ih, h2, Int.zero_mul, Int.add_zero, Int.mul_assoc, Int.mul_left_comm]
/-- one step of the elimination -/
theorem det_step {n : Nat} {a : Row} {p q : List Row} {g : Row → Row} (hl : (p ++ a :: q).length = n + 1) (ha : ¬ Z (vec a 0))
    (hg : ∀ r ∈ p ++ q, ∀ j, j < n → Z (vec (g r) j - (vec r (j + 1) - vec r 0 * invF (vec a 0) * vec a (j + 1)))) : Z (Dt (n + 1) (p ++ a :: q) - pm p.length * (vec a 0 * Dt n ((p ++ q).map g))) := by
  have hpq : (p ++ q).length = n := by
    rw [List.length_append, List.length_cons] at hl
    rw [List.length_append]
    omega
  have h1 := det_front (n := n + 1) (a := a) p [] q hl
  have h1 : Dt (n + 1) (p ++ a :: q) = pm p.length * Dt (n + 1) (a :: (p ++ q)) := h1
  let f : Row → Row := fun r => (List.range (n + 1)).map fun j => vec r j - vec r 0 * invF (vec a 0) * vec a j
  have hf : ∀ (r : Row) j, j < n + 1 → vec (f r) j = vec r j - vec r 0 * invF (vec a 0) * vec a j := fun r j hj => by
    show vec ((List.range (n + 1)).map _) j = _
    rw [vec_get (by rw [List.length_map, List.length_range]; exact hj), List.getElem_map, List.getElem_range]
  have h2 := det_clear (n := n + 1) (a := a) (f := f) (g := fun r => r) (c := fun r => - (vec r 0 * invF (vec a 0))) (p ++ q) [] (by
    rw [List.map_id', List.nil_append, List.length_cons, hpq]) fun r _ j hj => by
      rw [hf r j hj, Int.neg_mul]
      have e : ∀ x y : Int, x - y - (x + -y) = 0 := fun x y => by omega
      rw [e]
      exact Z.zero
  rw [List.map_id', List.nil_append, List.nil_append] at h2
  have h3 := det_block (n := n) (a := a) (rs := (p ++ q).map f) (by rw [List.length_map]; exact hpq) fun r hr => by
    obtain ⟨s, _, rfl⟩ := List.mem_map.mp hr
    rw [hf s 0 (Nat.succ_pos n)]
    have h4 := ((inv_ok ha).1).mulL (vec s 0)
    have e : vec s 0 - vec s 0 * invF (vec a 0) * vec a 0 = 0 - vec s 0 * (invF (vec a 0) * vec a 0 - 1) := by
      rw [Int.mul_sub, Int.mul_assoc]
      omega
    rw [e]
    exact Z.zero.sub h4
  rw [List.map_map] at h3
  have h5 : Cg n ((p ++ q).map (List.tail ∘ f)) ((p ++ q).map g) := by
    have : ∀ l : List Row, (∀ r ∈ l, ∀ j, j < n → Z (vec (g r) j - (vec r (j + 1) - vec r 0 * invF (vec a 0) * vec a (j + 1)))) → Cg n (l.map (List.tail ∘ f)) (l.map g) := by
      intro l
      induction l with
      | nil =>
        intro _
        exact .nil
      | cons r l ih =>
        intro h
        refine .cons (fun j hj => ?_) (ih fun s hs => h s (List.mem_cons_of_mem _ hs))
        show Z (vec (f r).tail j - vec (g r) j)
        rw [vec_tail, hf r (j + 1) (by omega)]
        have := Z.zero.sub (h r List.mem_cons_self j hj)
        have e : ∀ x y : Int, 0 - (x - y) = y - x := fun x y => by omega
        rw [e] at this
        exact this
    exact this _ hg
  have h6 := (det_cong h5).mulL (vec a 0)
  have h7 : Z (Dt (n + 1) (a :: (p ++ q)) - vec a 0 * Dt n ((p ++ q).map g)) := by
    rw [Int.mul_sub] at h6
    have := (Z.zero.sub h2).add (h3.add h6)
    have e : ∀ x y z w : Int, 0 - (x - y) + (x - z + (z - w)) = y - w := fun x y z w => by omega
    rw [e] at this
    exact this
  rw [h1, ← Int.mul_sub]
  exact h7.mulL _
/-! ### powers -/
def H : List Int → Nat → Int
  | [], 0 => 1
  | [], _ + 1 => 0
  | _ :: _, 0 => 1
  | y :: Y, k + 1 => y * H (y :: Y) k + H Y (k + 1)
theorem H_zero : ∀ Y : List Int, H Y 0 = 1
  | [] => by rw [H]
  | _ :: _ => by rw [H]
theorem H_succ {y : Int} {Y : List Int} {k : Nat} : H (y :: Y) (k + 1) = y * H (y :: Y) k + H Y (k + 1) := by
  conv => lhs; rw [H]
theorem H_diff {x z : Int} {Y : List Int} : ∀ k, H (x :: Y) (k + 1) - H (z :: Y) (k + 1) = (x - z) * H (x :: z :: Y) k
  | 0 => by
    rw [H_succ, H_succ, H_zero, H_zero, H_zero, Int.mul_one, Int.mul_one, Int.mul_one]
    omega
  | k + 1 => by
    have ih := H_diff (x := x) (z := z) (Y := Y) k
    rw [H_succ (y := x) (Y := Y), H_succ (y := z) (Y := Y) (k := k + 1), H_succ (y := x) (Y := z :: Y), Int.mul_add, Int.mul_left_comm, ← ih, Int.mul_sub, Int.sub_mul]
    omega
def rowV (Y : List Int) (n : Nat) (x : Int) : Row := (List.range n).map fun k => H (x :: Y) k
theorem vec_rowV {Y : List Int} {n k : Nat} {x : Int} (h : k < n) : vec (rowV Y n x) k = H (x :: Y) k := by
  unfold rowV
  rw [vec_get (by rw [List.length_map, List.length_range]; exact h), List.getElem_map, List.getElem_range]
def diffP : List Int → Int
  | [] => 1
  | x :: t => prodZ (t.map fun z => z - x) * diffP t
theorem vand : ∀ (xs Y : List Int), Z (Dt xs.length (xs.map (rowV Y xs.length)) - diffP xs)
  | [], Y => by
    show Z (sg [] * 1 + 0 - 1)
    exact Z.zero
  | x :: t, Y => by
    have ih := vand t (x :: Y)
    let f : Int → Row := fun z => (List.range (t.length + 1)).map fun k => H (z :: Y) k - H (x :: Y) k
    have hf : ∀ (z : Int) j, j < t.length + 1 → vec (f z) j = H (z :: Y) j - H (x :: Y) j := fun z j hj => by
      show vec ((List.range (t.length + 1)).map _) j = _
      rw [vec_get (by rw [List.length_map, List.length_range]; exact hj), List.getElem_map, List.getElem_range]
    have h2 := det_clear (n := t.length + 1) (a := rowV Y (t.length + 1) x) (f := f) (g := rowV Y (t.length + 1)) (c := fun _ => -1) t [] (by simp) fun z _ j hj => by
      rw [hf z j hj, vec_rowV hj, vec_rowV hj]
      have e : ∀ x y : Int, x - y - (x + -1 * y) = 0 := fun x y => by omega
      rw [e]
      exact Z.zero
    rw [List.nil_append, List.nil_append] at h2
    have h3 := det_block (n := t.length) (a := rowV Y (t.length + 1) x) (rs := t.map f) (by rw [List.length_map]) fun r hr => by
      obtain ⟨z, _, rfl⟩ := List.mem_map.mp hr
      rw [hf z 0 (Nat.succ_pos _), H_zero, H_zero]
      exact Z.zero
    rw [List.map_map, vec_rowV (Nat.succ_pos _), H_zero, Int.one_mul] at h3
    have h4 := det_scale (n := t.length) (f := List.tail ∘ f) (g := rowV (x :: Y) t.length) (s := fun z => z - x) t [] (by simp) fun z _ j hj => by
      show vec (f z).tail j = _
      rw [vec_tail, hf z (j + 1) (by omega), vec_rowV hj, H_diff]
    rw [List.nil_append, List.nil_append] at h4
    rw [h4] at h3
    have h5 := ih.mulL (prodZ (t.map fun z => z - x))
    rw [Int.mul_sub] at h5
    show Z (Dt (t.length + 1) (rowV Y (t.length + 1) x :: t.map (rowV Y (t.length + 1))) - prodZ (t.map fun z => z - x) * diffP t)
    have := (Z.zero.sub h2).add (h3.add h5)
    have e : ∀ x y z w : Int, 0 - (x - y) + (x - z + (z - w)) = y - w := fun x y z w => by omega
    rw [e] at this
    exact this
/-! ### rows by their place -/
theorem set_split {rows : List Row} {i : Nat} (h : i < rows.length) (r : Row) : rows.set i r = rows.take i ++ r :: rows.drop (i + 1) := by
  rw [List.set_eq_take_append_cons_drop, if_pos h]
theorem D_lin {n i : Nat} {rows : List Row} {r u v : Row} {x y : Int} (hl : rows.length = n) (hi : i < n) (h : ∀ j, j < n → vec r j = x * vec u j + y * vec v j) : Dt n (rows.set i r) = x * Dt n (rows.set i u) + y * Dt n (rows.set i v) := by
  rw [set_split (by omega), set_split (by omega), set_split (by omega)]
  refine det_lin ?_ h
  rw [← set_split (by omega), List.length_set, hl]
theorem D_two {n i j : Nat} {rows : List Row} {a : Row} (hl : rows.length = n) (hij : i < j) (hj : j < n) : Dt n ((rows.set i a).set j a) = 0 := by
  have e : (rows.set i a).set j a = rows.take i ++ a :: (((rows.drop (i + 1)).take (j - (i + 1))) ++ a :: rows.drop (j + 1)) := by
    have hj2 : j < (rows.take i ++ a :: rows.drop (i + 1)).length := by
      rw [← set_split (by omega), List.length_set]
      omega
    rw [set_split (rows := rows) (i := i) (by omega) a, set_split hj2]
    have e1 : (rows.take i ++ a :: rows.drop (i + 1)).take j = rows.take i ++ a :: (rows.drop (i + 1)).take (j - (i + 1)) := by
      rw [List.take_append, List.length_take, Nat.min_eq_left (by omega), List.take_of_length_le (by rw [List.length_take]; omega)]
      congr 1
      rw [show j - i = (j - (i + 1)) + 1 by omega, List.take_succ_cons]
    have e2 : (rows.take i ++ a :: rows.drop (i + 1)).drop (j + 1) = rows.drop (j + 1) := by
      rw [List.drop_append, List.length_take, Nat.min_eq_left (by omega), List.drop_of_length_le (by rw [List.length_take]; omega), List.nil_append, show j + 1 - i = (j - i) + 1 by omega, List.drop_succ_cons, List.drop_drop]
      congr 1
      omega
    rw [e1, e2, List.append_assoc]
    rfl
  rw [e]
  refine det_same _ _ _ ?_
  rw [← e, List.length_set, List.length_set, hl]
theorem D_two' {n i j : Nat} {rows : List Row} {a : Row} (hl : rows.length = n) (hij : i ≠ j) (hi : i < n) (hj : j < n) : Dt n ((rows.set i a).set j a) = 0 := by
  by_cases h : i < j
  · exact D_two hl h hj
  · rw [List.set_comm _ _ hij]
    exact D_two hl (by omega) hi
theorem set_id {rows : List Row} {i : Nat} (h : i < rows.length) : rows.set i rows[i] = rows := List.set_getElem_self h
theorem D_same {n i j : Nat} {rows : List Row} (hl : rows.length = n) (hij : i ≠ j) (hi : i < n) (hj : j < rows.length) : Dt n (rows.set i rows[j]) = 0 := by
  have h := D_two' (n := n) (i := i) (j := j) (rows := rows) (a := rows[j]) hl hij hi (by omega)
  rw [List.set_comm _ _ hij, set_id hj] at h
  exact h
theorem D_swap {n i j : Nat} {rows : List Row} (hl : rows.length = n) (hij : i ≠ j) (hi : i < rows.length) (hj : j < rows.length) : Dt n ((rows.set i rows[j]).set j rows[i]) = - Dt n rows := by
  let s : Row := (List.range n).map fun k => vec rows[i] k + vec rows[j] k
  have hs : ∀ k, k < n → vec s k = 1 * vec rows[i] k + 1 * vec rows[j] k := fun k hk => by
    show vec ((List.range n).map _) k = _
    rw [vec_get (by rw [List.length_map, List.length_range]; exact hk), List.getElem_map, List.getElem_range, Int.one_mul, Int.one_mul]
  have h0 := D_two' (n := n) (i := i) (j := j) (rows := rows) (a := s) hl hij (by omega) (by omega)
  have h1 := D_lin (n := n) (i := j) (rows := rows.set i s) (r := s) (u := rows[i]) (v := rows[j]) (by rw [List.length_set, hl]) (by omega) hs
  have h2 := D_lin (n := n) (i := i) (rows := rows.set j rows[i]) (r := s) (u := rows[i]) (v := rows[j]) (by rw [List.length_set, hl]) (by omega) hs
  have h3 := D_lin (n := n) (i := i) (rows := rows.set j rows[j]) (r := s) (u := rows[i]) (v := rows[j]) (by rw [List.length_set, hl]) (by omega) hs
  have k1 := D_two' (n := n) (i := i) (j := j) (rows := rows) (a := rows[i]) hl hij (by omega) (by omega)
  have k2 := D_two' (n := n) (i := i) (j := j) (rows := rows) (a := rows[j]) hl hij (by omega) (by omega)
  rw [List.set_comm _ _ hij] at k1 k2
  have c1 : (rows.set i s).set j rows[i] = (rows.set j rows[i]).set i s := List.set_comm _ _ hij
  have c2 : (rows.set i s).set j rows[j] = (rows.set j rows[j]).set i s := List.set_comm _ _ hij
  have c3 : (rows.set i rows[j]).set j rows[i] = (rows.set j rows[i]).set i rows[j] := List.set_comm _ _ hij
  rw [c1, c2, h2, h3, k1, k2] at h1
  rw [c3]
  have e : (rows.set j rows[j]).set i rows[i] = rows := by rw [set_id hj, set_id hi]
  rw [e] at h1
  omega
theorem D_scale {n i : Nat} {rows : List Row} {r : Row} {x : Int} (hl : rows.length = n) (hi : i < rows.length) (h : ∀ j, j < n → vec r j = x * vec rows[i] j) : Dt n (rows.set i r) = x * Dt n rows := by
  have h1 := D_lin (n := n) (i := i) (rows := rows) (r := r) (u := rows[i]) (v := rows[i]) (x := x) (y := 0) hl (by omega) fun j hj => by
    rw [Int.zero_mul, Int.add_zero]
    exact h j hj
  rw [set_id hi, Int.zero_mul, Int.add_zero] at h1
  exact h1
theorem D_add {n i j : Nat} {rows : List Row} {r : Row} {x : Int} (hl : rows.length = n) (hij : i ≠ j) (hi : i < rows.length) (hj : j < rows.length) (h : ∀ k, k < n → vec r k = vec rows[i] k + x * vec rows[j] k) : Dt n (rows.set i r) = Dt n rows := by
  have h1 := D_lin (n := n) (i := i) (rows := rows) (r := r) (u := rows[i]) (v := rows[j]) (x := 1) (y := x) hl (by omega) fun k hk => by
    rw [Int.one_mul]
    exact h k hk
  rw [set_id hi, D_same hl hij (by omega) hj, Int.one_mul, Int.mul_zero, Int.add_zero] at h1
  exact h1
end K03
set_option Elab.async false
set_option linter.all false
set_option maxRecDepth 100000
set_option maxHeartbeats 4000000
/-! enumerate of a tuple; zip of a list and a tuple -/
namespace DLT
open PySem PySem.Spec PyProof.Rows L2
/-- one turn of an iterator that makes pairs, by what is known of its walk -/
theorem step_walk {X : Cx} {I : Addr} {fpW wr : List Addr} {n i : Nat} {Pt : Nat → Array Value → Prop} {St : Nat → Heap → Prop} {Mid : Nat → Addr → Heap → Prop} {elts : List Expr} {kk : Nat} {tpos : Pos} {pins : List (Addr × Obj)} {s : Shared} {σ : L2.St} {H : Hp} {E : Value → Shared → Prop}
    (W : WalksT X.prog X.w X.A I fpW wr n Pt St Mid) (J : Inv X pins σ H s) (hf : ∀ b ∈ wr, FpOk X pins H b) (hi : i < n) (st : St i s.heap) {x y : V} (hp : ∀ vals, Pt i vals → ∃ u1 u2, vals = #[u1, u2] ∧ RelV x u1 ∧ RelV y u2) :
    wpAny (model X.prog X.w) X.A (pyNext (.ref I)) (fun r s1 => ∃ u, r = some u ∧
      wpAny (model X.prog X.w) X.A (letOwnedTupleGo (.Tuple elts kk tpos) (.ref I) u) (fun _ s2 => ∃ T, u = .ref T ∧ s.heap.objs.size ≤ T ∧ H T = none ∧ Inv X pins σ (upd H T (.tup [x, y])) s2 ∧ St (i + 1) s2.heap ∧ (∀ b o, b ∉ wr → s.heap.get? b = some o → s2.heap.get? b = some o)) E s1) E s := by
  refine W.item i s _ E hi st fun T vals h1 tk hP hsz hT hm hk => ?_
  refine ⟨_, rfl, ?_⟩
  refine W.go elts kk tpos i T _ _ E hm fun h2 st2 hk2 => ?_
  obtain ⟨u1, u2, rfl, r1, r2⟩ := hp vals hP
  obtain ⟨oT, e1, e2, nd, e3⟩ := hT
  have hap := W.apart i T h1 hm
  have e1 := hk2 T oT hap e1
  have new : ObjOk X.prog X.w (upd H T (.tup [x, y])) h2 T (.tup [x, y]) := ⟨by show 2 ≤ sizeLine; decide, [u1, u2], .cons r1 (.cons r2 .nil), ⟨oT, e1, e2, nd, e3⟩⟩
  exact ⟨T, rfl, hsz, J.hok.fresh hsz, J.turnedNew (ch := wr) (fun b ob hb q => hk2 b ob hb (hk b ob hb q)) hf hsz new, st2, fun b o hb q => hk2 b o hb (hk b o hb q)⟩
/-- the tuple at a, its items with their numbers -/
def IteT (K : PySem.W.Frag) (a : Addr) : It where
  go := fun i H => ∃ xs x, SqT K H a xs ∧ xs[i]? = some x
  yld := fun i H v H' => ∃ (T : Addr) (x : V), v = .ref T ∧ H T = none ∧ H' = upd H T (.tup [.int (i : Nat), x]) ∧ ∀ xs, SqT K H a xs → xs[i]? = some x
  stop := fun i H => ∃ xs, SqT K H a xs ∧ xs.length = i
theorem turn_enumT {P : Program} {w : World} {K : PySem.W.Frag} {elts : List Expr} {kk : Nat} {tpos : Pos} {a e it : Addr} (h1 : e ≠ it) (h2 : e ≠ a) (h3 : a ≠ it) :
    Turn P w K (.Tuple elts kk tpos) (IteT K a) [e, it] e (fun i h => (∃ old, IsEnum h e it (0 + (i : Int)) old) ∧ h.IsTupleIter it a i) where
  mem := List.mem_cons_self
  obj := fun i h st b hb => by
    obtain ⟨⟨old, he⟩, o, ho, _, hd⟩ := st
    rcases List.mem_cons.mp hb with q | q
    · subst q
      exact ⟨_, he, fun v z => nomatch z⟩
    · rw [List.mem_singleton] at q
      subst q
      exact ⟨o, ho, fun v z => by rw [hd] at z; cases z⟩
  keep := fun i h h' st k => ⟨⟨st.1.choose, k e List.mem_cons_self _ st.1.choose_spec⟩, st.2.at fun o q => k it (List.mem_cons_of_mem _ List.mem_cons_self) o q⟩
  item := by
    intro X hP hw hK hc i pins s σ H E J hf st hg
    subst hP hw hK
    obtain ⟨xs, x, hq, hx⟩ := hg
    obtain ⟨its, rv, p, _⟩ := J.tuple hq
    obtain ⟨u, hu, ru⟩ := rv.get hx
    have D := Draws.tuple (prog := X.prog) (w := X.w) (A := X.A.in1) (J.ok.hd hc) it a h3 its.toArray
    have W := WalksT.enumFrom 0 D e h1 (by simp [h1, h2]) List.mem_cons_self
    have hlt : i < its.toArray.size := by
      rw [List.size_toArray]
      exact (List.getElem?_eq_some_iff.mp hu).1
    obtain ⟨⟨old, he⟩, hit⟩ := id st
    have hel := Heap.lt_size he
    have hil : it < s.heap.objs.size := by
      obtain ⟨_, q, _⟩ := hit
      exact Heap.lt_size q
    refine wpAny_mono (step_walk (elts := elts) (kk := kk) (tpos := tpos) (E := E) W J hf hlt ⟨st.1, st.2, p⟩ (x := .int (i : Nat)) (y := x) fun vals ⟨t, v, hv, ev⟩ => ?_) (fun r s1 ⟨u', e1, h⟩ => ⟨u', e1, wpAny_mono h (fun _ s2 ⟨T, eu, hsz, hT, J2, st2, _⟩ => ?_) fun _ _ z => z⟩) fun _ _ z => z
    · have : v = u := by
        rw [List.getElem?_toArray, hu] at hv
        exact (Option.some.inj hv).symm
      subst this
      exact ⟨_, _, ev, ⟨t, by rw [Int.zero_add]⟩, ru⟩
    · subst eu
      refine ⟨.ref T, _, J2, rfl, ⟨T, x, rfl, hT, rfl, fun ys hy => by rw [J.tuple_inj hy hq]; exact hx⟩, ⟨st2.1, st2.2.1⟩, fun b hb => ?_⟩
      have hbT : b ≠ T := by
        rcases List.mem_cons.mp hb with q | q
        · rw [q]
          exact Nat.ne_of_lt (Nat.lt_of_lt_of_le hel hsz)
        · rw [List.mem_singleton] at q
          rw [q]
          exact Nat.ne_of_lt (Nat.lt_of_lt_of_le hil hsz)
      rw [upd_ne hbT]
      exact (hf b hb).1
  done := by
    intro X hP hw hK hc i pins s σ H E J hf st hg
    subst hP hw hK
    obtain ⟨xs, hq, hx⟩ := hg
    obtain ⟨its, rv, p, _⟩ := J.tuple hq
    have hl := rv.length
    have D := Draws.tuple (prog := X.prog) (w := X.w) (A := X.A.in1) (J.ok.hd hc) it a h3 its.toArray
    have W := WalksT.enumFrom 0 D e h1 (by simp [h1, h2]) List.mem_cons_self
    have hn : its.toArray.size = i := by
      rw [List.size_toArray, ← hl, hx]
    refine W.done s _ E (by rw [hn]; exact ⟨st.1, st.2, p⟩) fun h' tk hk => ⟨rfl, J.turnedL (ch := [e, it]) (fun b o hb q => hk b o hb q) hf⟩
  self := fun A i s Q E st h => by
    obtain ⟨⟨old, he⟩, _⟩ := st
    exact wpAny_pyIter_enum he h
def iEnumT (K : PySem.W.Frag) (ta : TA) : TI := fun σ H R => ta σ H fun vs H1 => ∃ a xs, vs = [.ref a] ∧ SqT K H1 a xs ∧ R (IteT K a) H1
theorem meetsE1 {v : Value} {o : Obj} {G : Heap → Prop} (B : Begins v o G) :
    Meets (Builtin.«enumerate.__new__» ⟨[.type "enumerate", v], []⟩) (fun _ R s => G s.heap ∧
      R (.ok (.ret (.ref (s.heap.push o).objs.size))) { s with heap := (s.heap.push o).push { cls := .type "enumerate", data := .fields #[.none, .bool false, .ref s.heap.objs.size, rawInt 0, .none, .none] } }) :=
  .of_wp fun prog w A R s h => by
    obtain ⟨hp, g, d, tk, os⟩ := s
    obtain ⟨h1, h⟩ := h
    have hsub := sub_enumerate
    have begin1 : ∀ {A' : Around} {E : Value → Shared → Prop} {Q : Value → Shared → Prop}, Q (.ref hp.objs.size) ⟨hp.push o, g, d, tk, os⟩ → wpAny (model prog w) A' (pyIter v) Q E ⟨hp, g, d, tk, os⟩ := fun q => B.iter prog w _ _ _ _ h1 q
    wp_walk using begin1
    refine wpAny_stack_any fun st => wpAny_pure ?_
    split
    · rename_i c _ _ _ _ _
      cases (c == Value.type "enumerate") <;> (wp_walk using begin1; exact ⟨_, rfl, h⟩)
    · (wp_walk using begin1; exact ⟨_, rfl, h⟩)
theorem call_enum1 {prog : Program} {w : World} {A : Around} {E : Value → Shared → Prop} {s : Shared} {v : Value} {o : Obj} {G : Heap → Prop} {Q : Value → Shared → Prop} (B : Begins v o G) (h1 : G s.heap)
    (h : ∀ h', IsEnum h' (s.heap.objs.size + 1) s.heap.objs.size 0 .none → h'.get? s.heap.objs.size = some o → (∀ b o, s.heap.get? b = some o → h'.get? b = some o) → Q (.ref (s.heap.objs.size + 1)) { s with heap := h' }) :
    wpAny (model prog w) A (call (.type "enumerate") [v]) Q E s := by
  refine callType_new F.called_enumerate (by decide) (F.typeCall_enumerate_1 _) (F.newCall_enumerate_1 _) (fun obj => F.args_object_init_2 obj _) F.entry_enumerate_new (meetsE1 B) ⟨h1, ?_⟩
  have hz : (s.heap.push o).objs.size = s.heap.objs.size + 1 := Heap.size_push ..
  show _ ∧ _
  rw [hz]
  have he : IsEnum ((s.heap.push o).push { cls := .type "enumerate", data := .fields #[.none, .bool false, .ref s.heap.objs.size, rawInt 0, .none, .none] }) (s.heap.objs.size + 1) s.heap.objs.size 0 .none := by
    rw [← hz]
    exact Heap.get?_push_size (s.heap.push o) rfl
  exact ⟨⟨_, he, rfl⟩, h _ he (Heap.get?_push_of_some _ (Heap.get?_push_size _ B.free)) fun b o x => Heap.get?_push_of_some _ (Heap.get?_push_of_some _ x)⟩
theorem pi_enumT {X : Cx} {e : Expr} {ta : TA} {p pos tpos : Pos} {elts : List Expr} {kk : Nat} (hg : Gl X "enumerate") (hm : X.mg "enumerate" = none) (ha : PA X [e] ta) (hs : starEach [e] X.env = [(false, eval e X.env)] := by rfl) :
    PI X (.Tuple elts kk tpos) (.Call (.Name "enumerate" p) [e] [] pos) (iEnumT X.K ta) := by
  refine ⟨fun pins s σ H R I h => ?_⟩
  refine Call_ (ld_blt I hg hm boot_enumerate (PyProof.Rows.callWith_type1 (thn (ha.run pos pins s σ H _ I h) fun us s1 hh => ?_) hs rfl))
  obtain ⟨vs, H1, I1, r1, a, xs, ex, hq, q⟩ := hh
  subst ex
  obtain ⟨u, rfl, ru⟩ := vals1 r1
  obtain rfl : u = Value.ref a := ru
  obtain ⟨its, rv, p', _⟩ := I1.tuple hq
  have hal : a < s1.heap.objs.size := by
    obtain ⟨_, z, _⟩ := p'
    exact Heap.lt_size z
  refine call_enum1 (begins_tuple a its.toArray) p' fun h' he hit hk => wpAny_pyIter_enum he ?_
  have I2 : Inv X pins σ H1 { s1 with heap := h' } := I1.kept (t' := s1.toks) hk
  refine ⟨s1.heap.objs.size + 1, [s1.heap.objs.size + 1, s1.heap.objs.size], _, _, H1, rfl, I2, turn_enumT (a := a) (Nat.succ_ne_self _) (Nat.ne_of_gt (Nat.lt_succ_of_lt hal)) (Nat.ne_of_lt hal), ⟨⟨.none, he⟩, ⟨_, hit, rfl, rfl⟩⟩, fun b hb => ?_, q⟩
  have hle : s1.heap.objs.size ≤ b := by
    rcases List.mem_cons.mp hb with z | z
    · rw [z]
      exact Nat.le_succ _
    · rw [List.mem_singleton] at z
      rw [z]
      exact Nat.le_refl _
  exact I1.fpOk hle (I1.hok.fresh hle)
/-- the list at a and the tuple at b, side by side -/
def ItzM (K : PySem.W.Frag) (a b : Addr) : It where
  go := fun i H => ∃ xs ys x y, SqL K H a xs ∧ SqT K H b ys ∧ xs[i]? = some x ∧ ys[i]? = some y
  yld := fun i H v H' => ∃ (T : Addr) (x y : V), v = .ref T ∧ H T = none ∧ H' = upd H T (.tup [x, y]) ∧ (∀ xs, SqL K H a xs → xs[i]? = some x) ∧ ∀ ys, SqT K H b ys → ys[i]? = some y
  stop := fun i H => ∃ xs ys, SqL K H a xs ∧ SqT K H b ys ∧ i = min xs.length ys.length
theorem turn_zipM {P : Program} {w : World} {K : PySem.W.Frag} {elts : List Expr} {kk : Nat} {tpos : Pos} {a b z TI TO i1 i2 : Addr} (S : ZipSep2 z TI TO i1 i2 [i1, a] [i2, b]) (ne1 : a ≠ i1) (ne2 : b ≠ i2) :
    Turn P w K (.Tuple elts kk tpos) (ItzM K a b) [z, TI, TO, i1, i2] z (fun i h => IsZip h z TI TO .none ∧ IsTupOf2 h TI (.ref i1) (.ref i2) ∧ (∃ a1 a2, IsTupOf2 h TO a1 a2) ∧ h.IsListIter i1 a i ∧ h.IsTupleIter i2 b i) where
  mem := List.mem_cons_self
  obj := fun i h st c hc => by
    obtain ⟨h1, h2, ⟨a1, a2, h3⟩, ⟨o4, e4, _, d4⟩, o5, e5, _, d5⟩ := st
    simp only [List.mem_cons, List.not_mem_nil, or_false] at hc
    rcases hc with q | q | q | q | q <;> subst q
    · exact ⟨_, h1, fun v e => nomatch e⟩
    · exact ⟨_, h2, fun v e => nomatch e⟩
    · exact ⟨_, h3, fun v e => nomatch e⟩
    · exact ⟨o4, e4, fun v e => by rw [d4] at e; cases e⟩
    · exact ⟨o5, e5, fun v e => by rw [d5] at e; cases e⟩
  keep := fun i h h' st k => by
    obtain ⟨h1, h2, ⟨a1, a2, h3⟩, h4, h5⟩ := st
    exact ⟨k z (by simp) _ h1, k TI (by simp) _ h2, ⟨a1, a2, k TO (by simp) _ h3⟩, h4.at fun o q => k i1 (by simp) o q, h5.at fun o q => k i2 (by simp) o q⟩
  item := by
    intro X hP hw hK hc i pins s σ H E J hf st hg
    subst hP hw hK
    obtain ⟨xs, ys, x, y, hqx, hqy, hx, hy⟩ := hg
    obtain ⟨its, rv, p, _⟩ := J.list hqx
    obtain ⟨its2, rv2, p2, _⟩ := J.tuple hqy
    obtain ⟨u, hu, ru⟩ := rv.get hx
    obtain ⟨u2, hu2, ru2⟩ := rv2.get hy
    have D1 := Draws.list (prog := X.prog) (w := X.w) (A := X.A.in1) (J.ok.hd hc) i1 a ne1 its.toArray
    have D2 := Draws.tuple (prog := X.prog) (w := X.w) (A := X.A.in1) (J.ok.hd hc) i2 b ne2 its2.toArray
    have W := WalksT.zipD2 S D1 D2
    have hl1 : i < its.toArray.size := by
      rw [List.size_toArray]
      exact (List.getElem?_eq_some_iff.mp hu).1
    have hl2 : i < its2.toArray.size := by
      rw [List.size_toArray]
      exact (List.getElem?_eq_some_iff.mp hu2).1
    obtain ⟨h1, h2, h3, h4, h5⟩ := id st
    refine wpAny_mono (step_walk (elts := elts) (kk := kk) (tpos := tpos) (E := E) W J (fun c hc => hf c (by simp only [List.mem_cons, List.not_mem_nil, or_false] at hc; rcases hc with q | q | q | q <;> simp [q])) (by omega) ⟨h1, h2, h3, ⟨h4, p.isList⟩, h5, p2⟩ (x := x) (y := y) fun vals ⟨v1, v2, hv1, hv2, ev⟩ => ?_) (fun r s1 ⟨u', e1, h⟩ => ⟨u', e1, wpAny_mono h (fun _ s2 ⟨T, eu, hsz, hT, J2, st2, hk⟩ => ?_) fun _ _ z => z⟩) fun _ _ z => z
    · rw [List.getElem?_toArray, hu] at hv1
      rw [List.getElem?_toArray, hu2] at hv2
      cases hv1
      cases hv2
      exact ⟨_, _, ev, ru, ru2⟩
    · subst eu
      obtain ⟨k1, k2, k3, k4, k5⟩ := st2
      refine ⟨.ref T, _, J2, rfl, ⟨T, x, y, rfl, hT, rfl, fun l hl => by rw [J.list_inj hl hqx]; exact hx, fun l hl => by rw [J.tuple_inj hl hqy]; exact hy⟩, ⟨k1, k2, k3, k4.1, k5.1⟩, fun c hcm => ?_⟩
      have hlt : c < s.heap.objs.size := by
        obtain ⟨a1, a2, h3⟩ := h3
        obtain ⟨o4, e4, _⟩ := h4
        obtain ⟨o5, e5, _⟩ := h5
        simp only [List.mem_cons, List.not_mem_nil, or_false] at hcm
        rcases hcm with q | q | q | q | q <;> subst q
        · exact Heap.lt_size h1
        · exact Heap.lt_size h2
        · exact Heap.lt_size h3
        · exact Heap.lt_size e4
        · exact Heap.lt_size e5
      rw [upd_ne (Nat.ne_of_lt (Nat.lt_of_lt_of_le hlt hsz))]
      exact (hf c hcm).1
  done := by
    intro X hP hw hK hc i pins s σ H E J hf st hg
    subst hP hw hK
    obtain ⟨xs, ys, hqx, hqy, hi⟩ := hg
    obtain ⟨its, rv, p, _⟩ := J.list hqx
    obtain ⟨its2, rv2, p2, _⟩ := J.tuple hqy
    have hl := rv.length
    have hl2 := rv2.length
    have D1 := Draws.list (prog := X.prog) (w := X.w) (A := X.A.in1) (J.ok.hd hc) i1 a ne1 its.toArray
    have D2 := Draws.tuple (prog := X.prog) (w := X.w) (A := X.A.in1) (J.ok.hd hc) i2 b ne2 its2.toArray
    have W := WalksT.zipD2 S D1 D2
    have hn : min its.toArray.size its2.toArray.size = i := by
      rw [List.size_toArray, List.size_toArray, ← hl, ← hl2, hi]
    obtain ⟨h1, h2, h3, h4, h5⟩ := id st
    refine W.done s _ E (by rw [hn]; exact ⟨h1, h2, h3, ⟨h4, p.isList⟩, h5, p2⟩) fun h' tk hk => ⟨rfl, J.turnedL (ch := [z, TI, TO, i1, i2]) (fun c o hb q => hk c o (fun hm => hb (by simp only [List.mem_cons, List.not_mem_nil, or_false] at hm; rcases hm with q | q | q | q <;> simp [q])) q) hf⟩
  self := fun A i s Q E st h => wpAny_pyIter_zip st.1 h
def iZipM (K : PySem.W.Frag) (ta : TA) : TI := fun σ H R => ta σ H fun vs H1 => ∃ a b xs ys, vs = [.ref a, .ref b] ∧ SqL K H1 a xs ∧ SqT K H1 b ys ∧ R (ItzM K a b) H1
theorem pi_zipM {X : Cx} {e e2 : Expr} {ta : TA} {p pos tpos : Pos} {elts : List Expr} {kk : Nat} (hg : Gl X "zip") (hm : X.mg "zip" = none) (ha : PA X [e, e2] ta)
    (hs : starEach [e, e2] X.env = (false, eval e X.env) :: starEach [e2] X.env := by rfl) (hpl : (backTo pos (starEach [e2] X.env)).any (·.1) = false := by rfl) :
    PI X (.Tuple elts kk tpos) (.Call (.Name "zip" p) [e, e2] [] pos) (iZipM X.K ta) := by
  refine ⟨fun pins s σ H R I h => ?_⟩
  refine Call_ (ld_blt I hg hm PyProof.Rows.boot_zip (PyProof.Rows.callWith_type1 (thn (ha.run pos pins s σ H _ I h) fun us s1 hh => ?_) hs hpl))
  obtain ⟨vs, H1, I1, r1, a, b, xs, ys, ex, hqx, hqy, q⟩ := hh
  subst ex
  obtain ⟨u1, u2, rfl, ru1, ru2⟩ := vals2 r1
  obtain rfl : u1 = Value.ref a := ru1
  obtain rfl : u2 = Value.ref b := ru2
  obtain ⟨its, _, p1, _⟩ := I1.list hqx
  obtain ⟨its2, _, p2, _⟩ := I1.tuple hqy
  have hal : a < s1.heap.objs.size := by
    obtain ⟨_, _, z, _⟩ := p1
    exact Heap.lt_size z
  have hbl : b < s1.heap.objs.size := by
    obtain ⟨_, z, _⟩ := p2
    exact Heap.lt_size z
  refine zip_begins2 (begins_list a its.toArray) (begins_tuple b its2.toArray) p1.isList p2 fun h' hz hTI hTO e1 e2 hsz hk => wpAny_pyIter_zip hz ?_
  have I2 : Inv X pins σ H1 { s1 with heap := h' } := I1.kept (t' := s1.toks) hk
  refine ⟨s1.heap.objs.size + 4, [s1.heap.objs.size + 4, s1.heap.objs.size + 2, s1.heap.objs.size + 3, s1.heap.objs.size, s1.heap.objs.size + 1], _, _, H1, rfl, I2, turn_zipM (a := a) (b := b) (zip_sep2 (fp1 := [a]) (fp2 := [b]) (fun c hc => by rw [List.mem_singleton] at hc; rw [hc]; exact hal) fun c hc => by rw [List.mem_singleton] at hc; rw [hc]; exact hbl) (Nat.ne_of_lt hal) (Nat.ne_of_lt (Nat.lt_succ_of_lt hbl)), ⟨hz, hTI, ⟨_, _, hTO⟩, ⟨_, e1, rfl, rfl⟩, ⟨_, e2, rfl, rfl⟩⟩, fun c hc => ?_, q⟩
  have hle : s1.heap.objs.size ≤ c := by
    simp only [List.mem_cons, List.not_mem_nil, or_false] at hc
    rcases hc with z | z | z | z | z <;> rw [z]
    · exact Nat.le_add_right _ _
    · exact Nat.le_add_right _ _
    · exact Nat.le_add_right _ _
    · exact Nat.le_refl _
    · exact Nat.le_add_right _ _
  exact I1.fpOk hle (I1.hok.fresh hle)
end DLT
namespace DL
open PySem L2 Evl DLT
section
variable {α β : Type} {K : PySem.W.Frag} {σ : L2.St} {F : Hp} {ta : TA} {r : Rep α} {s : Rep β} {as : List α} {bs : List β}
theorem src_enumT (h : Ea (A1 (rTup r) as) ta σ F) : Src (iEnumT K ta) σ F (rPair rInt r) (List.zip (rng 0 as.length) as) := fun H1 e R k => h H1 e _ fun vs H2 e2 ⟨v, hv, p, xs, hv2, hp, ha⟩ => by
  subst hv2
  refine ⟨p, xs, hv, SqT.of (part_sub (e.trans e2) p _ hp), k _ H2 e2 ?_⟩
  have hl : (List.zip (rng 0 as.length) as).length = xs.length := by rw [List.length_zip, rng_len, Nat.min_self, ha.len]
  rw [hl]
  refine ⟨fun i H hi eG => ⟨xs, xs[i], SqT.of (eG p _ hp), List.getElem?_eq_getElem hi⟩, fun H eG => ⟨xs, SqT.of (eG p _ hp), rfl⟩, fun i H x H' hi eG ⟨T, y, y1, y2, y3, y4⟩ => ?_⟩
  subst y1
  subst y3
  obtain ⟨a, h1, h2⟩ := ha.get (y4 xs (SqT.of (eG p _ hp)))
  refine ⟨Ex.new y2, ((0 : Int) + (i : Int), a), ?_, pair_new eG y2 ?_ h2⟩
  · rw [List.getElem?_zip_eq_some]
    exact ⟨rng_get (by rw [← ha.len]; exact hi), h1⟩
  · show V.int _ = V.int ((0 : Int) + (i : Int))
    rw [Int.zero_add]
theorem src_zipM (h : Ea (A2 (rLst r) (rTup s) as bs) ta σ F) : Src (iZipM K ta) σ F (rPair r s) (List.zip as bs) := fun H1 e R k => h H1 e _ fun vs H2 e2 ⟨v, w, hv, ⟨p, xs, hv2, hp, ha⟩, ⟨q, ys, hw2, hq, hb⟩⟩ => by
  subst hv2 hw2
  refine ⟨p, q, xs, ys, hv, SqL.of (part_sub (e.trans e2) p _ hp), SqT.of (part_sub (e.trans e2) q _ hq), k _ H2 e2 ?_⟩
  have hl : (List.zip as bs).length = min xs.length ys.length := by rw [List.length_zip, ha.len, hb.len]
  rw [hl]
  refine ⟨fun i H hi eG => ⟨xs, ys, xs[i]'(by omega), ys[i]'(by omega), SqL.of (eG p _ hp), SqT.of (eG q _ hq), List.getElem?_eq_getElem _, List.getElem?_eq_getElem _⟩, fun H eG => ⟨xs, ys, SqL.of (eG p _ hp), SqT.of (eG q _ hq), rfl⟩, fun i H x H' hi eG ⟨T, y, z, y1, y2, y3, y4, y5⟩ => ?_⟩
  subst y1
  subst y3
  obtain ⟨a, h1, h2⟩ := ha.get (y4 xs (SqL.of (eG p _ hp)))
  obtain ⟨b, h3, h4⟩ := hb.get (y5 ys (SqT.of (eG q _ hq)))
  refine ⟨Ex.new y2, (a, b), ?_, pair_new eG y2 h2 h4⟩
  rw [List.getElem?_zip_eq_some]
  exact ⟨h1, h3⟩
end
section
open DLT
variable {X : Cx} {K : PySem.W.Frag}
theorem pi_enumTK {e : Expr} {ta : TA} {p pos tpos : Pos} {elts : List Expr} {kk : Nat} (hg : Gl X "enumerate") (hm : X.mg "enumerate" = none) (ha : PA X [e] ta) (hs : starEach [e] X.env = [(false, eval e X.env)] := by rfl) (hK : X.K = K := by rfl) : PI X (.Tuple elts kk tpos) (.Call (.Name "enumerate" p) [e] [] pos) (iEnumT K ta) := hK ▸ pi_enumT hg hm ha hs
theorem pi_zipMK {e e2 : Expr} {ta : TA} {p pos tpos : Pos} {elts : List Expr} {kk : Nat} (hg : Gl X "zip") (hm : X.mg "zip" = none) (ha : PA X [e, e2] ta)
    (hs : starEach [e, e2] X.env = (false, eval e X.env) :: starEach [e2] X.env := by rfl) (hpl : (backTo pos (starEach [e2] X.env)).any (·.1) = false := by rfl) (hK : X.K = K := by rfl) : PI X (.Tuple elts kk tpos) (.Call (.Name "zip" p) [e, e2] [] pos) (iZipM K ta) := hK ▸ pi_zipM hg hm ha hs hpl
end
end DL
set_option Elab.async false
set_option linter.all false
set_option maxRecDepth 100000
set_option maxHeartbeats 4000000
/-! general lemmas on defs, gathered -/
namespace K03
abbrev Row := K00.Row
open PySem PySem.Spec PyProof.Rows L2 Evl DL K00
section
variable {α β γ δ : Type} {K : PySem.W.Frag} {σ σ2 : L2.St} {F0 H0 F G G2 G3 H H1 H2 : Hp} {ta tb tc td te tj tl : TE} {r : Rep α} {s : Rep β} {t : Rep γ} {u : Rep δ} {a : α} {b : β} {c : γ} {d : δ} {as : List α} {ns : List Int} {D : Ends} {tu tz : TS} {g : TG} {i i' : Nat} {p : Addr} {v : V} {x : Int} {tt : TT}
def rNat : Rep Nat := ⟨fun _ v n => v = .int (n : Int), fun _ h => h⟩
theorem er_nat {n : Nat} (h : Er rInt te σ F (n : Int)) : Er rNat te σ F n := er_to h fun _ _ k => k
theorem er_ofNat {n : Nat} (h : Er rNat te σ F n) : Er rInt te σ F (n : Int) := er_to h fun _ _ k => k
theorem er_sum {ns : List Int} (h : Er (rLst rInt) ta σ F ns) : Er rInt (tCB (rSum K) (tCons ta tNil)) σ F ns.sum := fun H1 e Q q => h H1 e _ fun v H2 e2 ⟨p, xs, hx, hp, hal⟩ => by
  rw [rel_ints hal] at hp
  exact ⟨p, ns, congrArg (· :: []) hx, SqL.of (part_sub (e.trans e2) p _ hp), q _ H2 e2 rfl⟩
theorem sol_nat : Sol rNat := fun _ _ h => by cases (show V.non = V.int _ from h)
theorem atI_vec {r : Row} {j : Nat} (h : j < r.length) : atI r (j : Int) = some (vec r j) := by
  rw [vec_get h]
  exact atI_nat (List.getElem?_eq_getElem h)
theorem rng0 {n : Nat} : rng 0 n = (List.range n).map fun (i : Nat) => (i : Int) := by
  unfold rng
  exact List.map_congr_left fun i _ => Int.zero_add _
theorem res_cmul {x : Int} (h : 0 ≤ x ∧ x < 97) : -(2 ^ 64) < x ∧ x < 2 ^ 64 := ⟨by omega, by omega⟩
theorem inv_res {n : Int} (h : ¬ LA97.Z n) : 0 ≤ invF n ∧ invF n < 97 := ⟨Int.le_of_lt (LA97.pow_inv h).2.1, (LA97.pow_inv h).2.2⟩
theorem enum_split {α : Type} {r : List α} {pre post : List (Int × α)} {a : Int × α} (h : List.zip (rng 0 r.length) r = pre ++ a :: post) : r = pre.map (·.2) ++ a.2 :: post.map (·.2) ∧ a.1 = (pre.length : Int) := by
  constructor
  · have := congrArg (List.map (·.2)) h
    rw [List.map_snd_zip (by rw [rng_len]; exact Nat.le_refl _), List.map_append] at this
    exact this
  · have h2 : (List.zip (rng 0 r.length) r)[pre.length]? = some a := by
      rw [h, List.getElem?_append_right (Nat.le_refl _), Nat.sub_self]
      rfl
    rw [List.getElem?_zip_eq_some] at h2
    obtain ⟨h3, h4⟩ := h2
    have hl : pre.length < r.length := by
      obtain ⟨h5, _⟩ := List.getElem?_eq_some_iff.mp h4
      exact h5
    rw [rng_get hl] at h3
    have := Option.some.inj h3
    omega
def zs (l : List Nat) : List Int := l.map fun (i : Nat) => (i : Int)
theorem zs_app {a b : List Nat} : zs (a ++ b) = zs a ++ zs b := List.map_append
theorem zs_len {a : List Nat} : (zs a).length = a.length := List.length_map _
theorem enum_drop {α : Type} {r : List α} {pre post : List (Int × α)} {a : Int × α} (h : List.zip (rng 0 r.length) r = pre ++ a :: post) : r.drop pre.length = a.2 :: post.map (·.2) ∧ r.drop (pre ++ [a]).length = post.map (·.2) ∧ a.2 ∈ r ∧ pre.length < r.length := by
  obtain ⟨e, _⟩ := enum_split h
  have hl : pre.length = (pre.map (·.2)).length := by rw [List.length_map]
  refine ⟨?_, ?_, by rw [e]; exact List.mem_append_right _ List.mem_cons_self, by rw [e, List.length_append, List.length_map, List.length_cons]; omega⟩
  · rw [hl]
    conv => lhs; rw [e]
    rw [List.drop_left]
  · have h2 : (pre ++ [a]).length = (pre.map (·.2) ++ [a.2]).length := by
      rw [List.length_append, List.length_append, List.length_map]
      rfl
    rw [h2]
    conv => lhs; rw [e, show pre.map (·.2) ++ a.2 :: post.map (·.2) = (pre.map (·.2) ++ [a.2]) ++ post.map (·.2) by simp]
    rw [List.drop_left]
theorem cut_to {r : Row} {k : Nat} (h : k ≤ r.length) : cutA r none (some (k : Int)) = r.take k := by
  unfold cutA
  rw [HT.sIx_nat, HT.sIx_none, Nat.sub_zero, List.drop_zero, Nat.min_eq_left h]
theorem cut_from {r : Row} {k : Nat} (h : k ≤ r.length) : cutA r (some (k : Int)) none = r.drop k := by
  unfold cutA
  rw [HT.sIx_nat, HT.sIx_none, Nat.min_eq_left h]
  exact List.take_of_length_le (by rw [List.length_drop]; exact Nat.le_refl _)
theorem w_asgNB (w : Wd F0 H0 G H) (w3 : Wd F0 H0 G3 H) (h : En rInt te σ G3 ns) (k : ∀ p H2, Wd F0 H0 (part G H H2) H2 → Stp none G H (part G H H2) H2 → (rLst rInt).rel (part G H H2) (.ref p) ns → tz D (σ.set i (some (.ref p))) H2) : tSeq (tAsg te (gName i)) tz D σ H :=
  h H w3.sub _ fun p H2 e ⟨n1, xs, n2, n3⟩ => k p H2 (w.ev e) (stp_ev e) (New.rel (r := rInt) ⟨n1, xs, n2, n3.imp fun _ _ k => k⟩ w.sub)
def Ev1 (r : Rep α) (te : TE) (σ : L2.St) (G H : Hp) (a : α) : Prop := ∀ Q : VK, (∀ v H2, Ex H H2 → r.rel (part G H H2) v a → Q v H2) → te σ H Q
theorem ev_er (w : Wd F0 H0 G H) (h : Er r te σ G a) : Ev1 r te σ G H a := fun Q q => h H w.sub Q q
theorem ev_newB (w : Wd F0 H0 G H) (w3 : Wd F0 H0 G3 H) (h : En rInt te σ G3 ns) : Ev1 (rLst rInt) te σ G H ns := fun Q q => h H w3.sub _ fun p H2 e ⟨n1, xs, n2, n3⟩ => q _ H2 e (New.rel (r := rInt) ⟨n1, xs, n2, n3.imp fun _ _ k => k⟩ w.sub)
theorem al_get {R : V → α → Prop} : ∀ {xs : List V} {as : List α}, Al R xs as → ∀ (j : Nat) (h1 : j < xs.length) (h2 : j < as.length), R xs[j] as[j]
  | _, _, .nil, _, h1, _ => absurd h1 (Nat.not_lt_zero _)
  | _, _, .cons a t, 0, _, _ => a
  | _, _, .cons a t, n + 1, h1, h2 => al_get t n (Nat.lt_of_succ_lt_succ h1) (Nat.lt_of_succ_lt_succ h2)
theorem ev_at {j : Nat} (w : Wd F0 H0 G H) (hi : σ[i]? = some (some (.ref p))) (m : Mu r as G H p) (hj : Er rInt tj σ G (j : Int)) (hl : j < as.length) : Ev1 r (tOp (rIxL K) (tVar i) tj) σ G H as[j] := fun Q q => by
  obtain ⟨h1, xs, h2, h3⟩ := m
  have hlx : j < xs.length := by
    rw [h3.len]
    exact hl
  refine ⟨_, hi, hj H w.sub _ fun u H2 e2 hu => ?_⟩
  cases (show u = V.int (j : Int) from hu)
  exact ⟨p, xs, (j : Int), xs[j], rfl, rfl, SqL.of (e2 p _ h2), atI_nat (List.getElem?_eq_getElem hlx), q _ H2 e2 (r.mono part_ex (al_get h3 j hlx hl))⟩
theorem w_asg1 (w : Wd F0 H0 G H) (h : Ev1 r te σ G H a) (k : ∀ v G2 H2, Wd F0 H0 G2 H2 → Stp none G H G2 H2 → r.rel G2 v a → tz D (σ.set i (some v)) H2) : tSeq (tAsg te (gName i)) tz D σ H := h _ fun v H2 e hv => k v _ H2 (w.ev e) (stp_ev e) hv
theorem v_put1 {j : Nat} (w : Wd F0 H0 G H) (h : Ev1 r te σ G H a) (hi : σ[i]? = some (some (.ref p))) (m : Mu r as G H p) (h0 : H0 p = none) (hj : Er rInt tb σ G (j : Int)) (hl : j < as.length)
    (k : ∀ G2 H2, Wd F0 H0 G2 H2 → Stp (some p) G H G2 H2 → Mu r (as.set j a) G2 H2 p → D.nx σ H2) : tAsg te (gSub (tVar i) tb rSetL) D σ H :=
  h _ fun v H2 e2 hv => ⟨.ref p, hi, hj H2 (w.sub.trans e2) _ fun x H3 e3 hx => by
    obtain ⟨h1, xs, h2, h3⟩ := m
    cases (show x = V.int (j : Int) from hx)
    have e23 := e2.trans e3
    have hG : part G H H3 p = none := part_old h1 h2
    exact ⟨p, xs, (j : Int), j, rfl, rfl, e23 p _ h2, ixN_nat (by rw [h3.len]; exact hl), k (part G H H3) _ ((w.ev e23).put hG h0) (Stp.trans (stp_ev e23).any stp_put)
      ⟨hG, _, upd_same, Al.set (r.mono (part_up e3) hv) j (h3.imp fun _ _ k => r.mono part_ex k)⟩⟩⟩
theorem w_put1 {j : Nat} (w : Wd F0 H0 G H) (h : Ev1 r te σ G H a) (hi : σ[i]? = some (some (.ref p))) (m : Mu r as G H p) (h0 : H0 p = none) (hj : Er rInt tb σ G (j : Int)) (hl : j < as.length)
    (k : ∀ G2 H2, Wd F0 H0 G2 H2 → Stp (some p) G H G2 H2 → Mu r (as.set j a) G2 H2 p → tz D σ H2) : tSeq (tAsg te (gSub (tVar i) tb rSetL)) tz D σ H := v_put1 (D := { D with nx := tz D }) w h hi m h0 hj hl k
theorem getD_some {l : List Row} {i : Nat} (h : i < l.length) : l[i]? = some (l.getD i []) := by
  rw [List.getD_eq_getElem?_getD, List.getElem?_eq_getElem h]
  rfl
theorem vec_out {r : Row} {j : Nat} (h : r.length ≤ j) : vec r j = 0 := by
  unfold vec
  rw [List.getD_eq_getElem?_getD, List.getElem?_eq_none h]
  rfl
def Bd (rows : List Row) : Prop := ∀ r ∈ rows, ∀ x ∈ r, x.natAbs < 2 ^ 200
theorem bd_vec {rows : List Row} (h : Bd rows) {r : Row} (hr : r ∈ rows) (j : Nat) : (vec r j).natAbs < 2 ^ 200 := by
  by_cases hj : j < r.length
  · rw [vec_get hj]
    exact h r hr _ (List.getElem_mem hj)
  · rw [vec_out (by omega)]
    decide
theorem bd_res {r : Row} (h : Res r) : ∀ x ∈ r, x.natAbs < 2 ^ 200 := fun x hx => by
  have := h x hx
  have h2 : x.natAbs < 97 := by omega
  exact Nat.lt_of_lt_of_le h2 (by decide)
theorem getD_mem {l : List Row} {i : Nat} (h : i < l.length) : l.getD i [] ∈ l := List.mem_of_getElem? (getD_some h)
abbrev rRows : Rep (List Row) := rLst (rLst rInt)
theorem rng_mid {lo : Int} {n : Nat} {pre post : List Int} {a : Int} (h : rng lo n = pre ++ a :: post) : a = lo + (pre.length : Int) ∧ pre.length < n ∧ pre = rng lo pre.length := by
  have hl : pre.length < n := by
    have := congrArg List.length h
    rw [rng_len, List.length_append, List.length_cons] at this
    omega
  refine ⟨?_, hl, ?_⟩
  · have h2 : (rng lo n)[pre.length]? = some a := by
      rw [h, List.getElem?_append_right (Nat.le_refl _), Nat.sub_self]
      rfl
    rw [rng_get hl] at h2
    exact (Option.some.inj h2).symm
  · have h2 : pre = (rng lo n).take pre.length := by
      rw [h, List.take_left]
    conv => lhs; rw [h2]
    unfold rng
    rw [← List.map_take, List.take_range, Nat.min_eq_left (by omega)]
def Src1 (wi : TI) (σ : L2.St) (G H : Hp) (r : Rep α) (as : List α) : Prop := ∀ R : It → Hp → Prop, (∀ J H2, Ex H H2 → Walk J as.length (fun H' => Ex (part G H H2) H') (YD (part G H H2) r as) → R J H2) → wi σ H R
theorem src1_rng2 {lo n : Int} {tA : TA} (w3 : Wd F0 H0 G3 H) (h : Ea (A2 rInt rInt lo n) tA σ G3) (hn : -1000000 ≤ lo ∧ lo ≤ 1000000 ∧ -1000000 ≤ n ∧ n ≤ 1000000) : Src1 (iRng2 tA) σ G H rInt (rng lo (n - lo).toNat) := fun R k => h H w3.sub _ fun vs H2 e2 ⟨v, w, hv, hr, hw⟩ => by
  cases (show v = V.int lo from hr)
  cases (show w = V.int n from hw)
  exact ⟨lo, n, hv, by omega, k _ H2 e2 walkR⟩
theorem src1_is {wi : TI} {as' : List α} (h : Src1 wi σ G H r as) (e : as = as') : Src1 wi σ G H r as' := e ▸ h
theorem v_for1 {wi : TI} {S : Hp → α → L2.St → L2.St → Prop} (w : Wd F0 H0 G H) (h : Src1 wi σ G H r as) (hg : Tgt g r S) (hm : MonoS S) (Pv : List α → L2.St → Hp → Hp → Prop)
    (h0 : ∀ G1 H1, Wd F0 H0 G1 H1 → Stp none G H G1 H1 → Pv [] σ G1 H1)
    (hs : ∀ G1 pre a post σ' σ2 G' H' G2 H2, as = pre ++ a :: post → Pv pre σ' G' H' → Stp none G' H' G2 H2 → Wd F0 H0 G2 H2 → Ex G1 G2 → S G2 a σ' σ2 →
      tu { D with nx := Nxt F0 H0 G1 (Pv (pre ++ [a])), ct := Nxt F0 H0 G1 (Pv (pre ++ [a])), bk := D.nx } σ2 H2)
    (hd : ∀ σ' G' H', Wd F0 H0 G' H' → Pv as σ' G' H' → D.nx σ' H') : tFor wi g tu D σ H :=
  (v_for (wi := fun _ H1 R => H1 = H → wi σ H R) (tb := tu) (D := D) w (fun H1 e R k eq => by subst eq; exact h R k) hg hm Pv h0 hs hd) rfl
theorem w_for1 {wi : TI} {S : Hp → α → L2.St → L2.St → Prop} (w : Wd F0 H0 G H) (h : Src1 wi σ G H r as) (hg : Tgt g r S) (hm : MonoS S) (Pv : List α → L2.St → Hp → Hp → Prop)
    (h0 : ∀ G1 H1, Wd F0 H0 G1 H1 → Stp none G H G1 H1 → Pv [] σ G1 H1)
    (hs : ∀ G1 pre a post σ' σ2 G' H' G2 H2, as = pre ++ a :: post → Pv pre σ' G' H' → Stp none G' H' G2 H2 → Wd F0 H0 G2 H2 → Ex G1 G2 → S G2 a σ' σ2 →
      tu { D with nx := Nxt F0 H0 G1 (Pv (pre ++ [a])), ct := Nxt F0 H0 G1 (Pv (pre ++ [a])), bk := tz D } σ2 H2)
    (hd : ∀ σ' G' H', Wd F0 H0 G' H' → Pv as σ' G' H' → tz D σ' H') : tSeq (tFor wi g tu) tz D σ H := v_for1 (D := { D with nx := tz D }) w h hg hm Pv h0 hs hd
theorem mul_w {x y : Int} (hx : x.natAbs < 2 ^ 200) (hy : y.natAbs < 2 ^ 200) : CMulW x y := wide_mul hx hy (by decide) (by decide) (by decide)
def spNA {β : Type} (s : Rep β) (W : (Hp → List V → Prop) → List β → Prop) : Sp := fun vs H Q _ => ∃ F P, Ex F H ∧ MonoP P ∧ (∃ b, W P b) ∧ P F vs ∧ ∀ b p H2, W P b → Ex H H2 → New s b F H H2 p → Q (.ref p) H2
theorem w_callA {W : (Hp → List V → Prop) → List β → Prop} {P : Hp → List V → Prop} {E : XK} {tr : TA} (w : Wd F0 H0 G H) (h : Ea P tr σ G) (hP : MonoP P) (ex : ∃ b, W P b)
    (k : ∀ b p G2 H2, W P b → Wd F0 H0 G2 H2 → Stp none G H G2 H2 → Mu s b G2 H2 p → H p = none → tz D (σ.set i (some (.ref p))) H2) : tSeq (tAsg (tCall (spNA s W) [] E tr) (gName i)) tz D σ H :=
  h H w.sub _ fun vs H2 e2 hk => ⟨part G H H2, P, part_sub (w.sub.trans e2), hP, ex, by rw [List.append_nil]; exact hk, fun b p H3 wb e3 ⟨k1, xs, k2, k3⟩ => by
    have n : New s b G H H3 p := ⟨back_none e2 k1, xs, k2, k3.imp fun _ _ k => s.mono (mns_up (part_part e2 (Ex.refl H2) e3)) k⟩
    exact k b p _ H3 wb (w.new n (e2.trans e3)) (stp_new n w.sub (e2.trans e3)) n.mu n.1⟩
theorem v_asg1 (w : Wd F0 H0 G H) (h : Ev1 r te σ G H a) (k : ∀ v G2 H2, Wd F0 H0 G2 H2 → Stp none G H G2 H2 → r.rel G2 v a → D.nx (σ.set i (some v)) H2) : tAsg te (gName i) D σ H := h _ fun v H2 e hv => k v _ H2 (w.ev e) (stp_ev e) hv
theorem w_cut (Pv : L2.St → Hp → Hp → Prop) (h : tu { D with nx := Nxt F0 H0 G Pv } σ H) (k : ∀ σ2 G2 H2, Wd F0 H0 G2 H2 → Ex G G2 → Pv σ2 G2 H2 → tz D σ2 H2) : tCut tu tz D σ H := ⟨_, h, fun σ2 H2 ⟨G2, w2, e2, hP⟩ => k σ2 G2 H2 w2 e2 hP⟩
def Sm (B : Nat) (r : Row) : Prop := ∀ x ∈ r, x.natAbs < B
theorem sm_map {α : Type} {B : Nat} {l : List α} {f : α → Int} (h : ∀ a ∈ l, (f a).natAbs < B) : Sm B (l.map f) := fun x hx => by
  obtain ⟨a, ha, rfl⟩ := List.mem_map.mp hx
  exact h a ha
theorem sm_vec {B : Nat} {r : Row} (h : Sm B r) (hB : 0 < B) (j : Nat) : (vec r j).natAbs < B := by
  by_cases hj : j < r.length
  · rw [vec_get hj]
    exact h _ (List.getElem_mem hj)
  · rw [vec_out (by omega)]
    exact hB
theorem cut_mid {r : Row} {n : Nat} (h : n + 1 ≤ r.length) : cutA r (some 1) (some (1 + (n : Int))) = (r.drop 1).take n := by
  unfold cutA
  rw [show (1 : Int) = ((1 : Nat) : Int) from rfl, show ((1 : Nat) : Int) + (n : Int) = ((1 + n : Nat) : Int) by omega, HT.sIx_nat, HT.sIx_nat, Nat.min_eq_left (by omega), Nat.min_eq_left (by omega), show 1 + n - 1 = n by omega]
def A4 {α β γ δ : Type} (r : Rep α) (s : Rep β) (t : Rep γ) (u : Rep δ) (a : α) (b : β) (c : γ) (d : δ) : Hp → List V → Prop := fun G vs => ∃ v w x y, vs = [v, w, x, y] ∧ r.rel G v a ∧ s.rel G w b ∧ t.rel G x c ∧ u.rel G y d
theorem mono4 : MonoP (A4 r s t u a b c d) := fun e ⟨v, w, x, y, h, k1, k2, k3, k4⟩ => ⟨v, w, x, y, h, r.mono e k1, s.mono e k2, t.mono e k3, u.mono e k4⟩
theorem ea4 (h1 : Er r ta σ F a) (h2 : Er s tb σ F b) (h3 : Er t tc σ F c) (h4 : Er u td σ F d) : Ea (A4 r s t u a b c d) (tCons ta (tCons tb (tCons tc (tCons td tNil)))) σ F := fun H1 e _ q =>
  h1 H1 e _ fun v1 H2 e2 k1 => h2 H2 (e.trans e2) _ fun v2 H3 e3 k2 => h3 H3 (e.trans (e2.trans e3)) _ fun v3 H4 e4 k3 => h4 H4 (e.trans (e2.trans (e3.trans e4))) _ fun v4 H5 e5 k4 =>
    q _ H5 (e2.trans (e3.trans (e4.trans e5))) ⟨v1, v2, v3, v4, rfl, r.mono (part_up (e3.trans (e4.trans e5))) k1, s.mono ((part_back e2).trans (part_up (e4.trans e5))) k2, t.mono ((part_back (e2.trans e3)).trans (part_up e5)) k3, u.mono (part_back (e2.trans (e3.trans e4))) k4⟩
theorem vec_app {r u : Row} {j : Nat} : vec (r ++ u) j = if j < r.length then vec r j else vec u (j - r.length) := by
  unfold vec
  rw [List.getD_eq_getElem?_getD]
  by_cases h : j < r.length
  · rw [if_pos h, List.getElem?_append_left h, ← List.getD_eq_getElem?_getD]
  · rw [if_neg h, List.getElem?_append_right (by omega), ← List.getD_eq_getElem?_getD]
theorem vec_drop {r : Row} {w k : Nat} : vec (r.drop w) k = vec r (w + k) := by
  unfold vec
  rw [List.getD_eq_getElem?_getD, List.getD_eq_getElem?_getD, List.getElem?_drop]
theorem inV_bls {n : Bool} : ∀ {ns : List Bool}, inV (.bl n) (ns.map V.bl) = decide (n ∈ ns)
  | [] => rfl
  | m :: ns => by
    show (m == n || inV (.bl n) (ns.map V.bl)) = _
    rw [inV_bls]
    by_cases h : m = n
    · subst h; simp
    · have h2 : ¬ n = m := fun z => h z.symm
      simp [h, h2]
theorem flat_bls : ∀ {ns : List Bool}, (ns.map V.bl).all flatV = true
  | [] => rfl
  | _ :: ns => by
    show (true && (ns.map V.bl).all flatV) = true
    rw [flat_bls]
    rfl
theorem er_inB {n : Bool} {ns : List Bool} (ha : Er rBl ta σ F n) (hb : Er (rLst rBl) tb σ F ns) : Er rBl (tOp (rIn K false) ta tb) σ F (decide (n ∈ ns)) := fun H1 e Q q =>
  er_two ha hb e fun x y H3 e3 hx ⟨p, xs, hy, hp, hal⟩ => by
    cases (show x = V.bl n from hx)
    rw [rel_bls hal] at hp
    refine ⟨p, _, hy, .inl (SqL.of (part_sub (e.trans e3) p _ hp)), rfl, flat_bls, ?_⟩
    rw [inV_bls]
    exact q _ H3 e3 rfl
theorem ev_intB (w : Wd F0 H0 G H) (w3 : Wd F0 H0 G3 H) (h : Er rInt te σ G3 x) : Ev1 rInt te σ G H x := fun Q q => h H w3.sub _ fun v H2 e hv => q v H2 e hv
theorem stp_back (s : Stp none G3 H G3 H2) : Stp none G H G H2 := stp_same s.ex
end
end K03
set_option Elab.async false
set_option linter.all false
set_option maxRecDepth 100000
set_option maxHeartbeats 4000000
namespace K03
open PySem PySem.Spec PyProof.Rows L2 Evl DL K00
def topS (i : Nat) : Stmt := PySem.Challenge.pw_fewserve_k03_determinant.main.body.getD i (.Pass ⟨0, 0, 0, 0⟩)
structure DefAt (K : PySem.W.Frag) (mg : Str → Option Value) (x : Str) (st : Stmt) (ps : List Str) (f : Addr) (fd : FuncData) : Prop where
  F : Fun K x x st f fd
  g : mg x = some (.ref f)
  b : Binds K fd ps []
/-! ### the mathematics -/
def cell (ns : List Int) (k : Nat) : Int := match ns[k]? with
  | some n => n
  | none => 7919 * (k : Int) + 104729
def draws (rest state : Int) : List Int → List Int
  | [] => []
  | m :: ms =>
    let st := (state * 16807 + 10007) % 2147483647
    if 0 < rest then rest % m :: draws (rest / m) st ms else st / 64 % m :: draws rest st ms
def drawn (c : Int) (ms : List Int) : List Int := draws (if 10 ^ 18 ≤ c then c - 10 ^ 18 else 0) (c * 48271 % 2147483647) ms
theorem draws_len : ∀ (ms : List Int) (r s : Int), (draws r s ms).length = ms.length
  | [], _, _ => rfl
  | m :: ms, r, s => by
    unfold draws
    dsimp only
    split
    · rw [List.length_cons, List.length_cons, draws_len ms]
    · rw [List.length_cons, List.length_cons, draws_len ms]
theorem drawn_len {c : Int} {ms : List Int} : (drawn c ms).length = ms.length := draws_len ms _ _
theorem draws_get : ∀ (ms : List Int) (r s : Int) (i : Nat) (m : Int), (∀ x ∈ ms, 0 < x) → ms[i]? = some m → ∃ x, (draws r s ms)[i]? = some x ∧ 0 ≤ x ∧ x < m
  | [], _, _, i, m, _, h => by simp at h
  | m :: ms, r, s, 0, m', hp, h => by
    cases h
    have h0 := hp m List.mem_cons_self
    unfold draws
    dsimp only
    split
    · exact ⟨_, rfl, Int.emod_nonneg _ (by omega), Int.emod_lt_of_pos _ h0⟩
    · exact ⟨_, rfl, Int.emod_nonneg _ (by omega), Int.emod_lt_of_pos _ h0⟩
  | m :: ms, r, s, i + 1, m', hp, h => by
    unfold draws
    dsimp only
    split
    · exact draws_get ms _ _ i m' (fun x hx => hp x (List.mem_cons_of_mem _ hx)) h
    · exact draws_get ms _ _ i m' (fun x hx => hp x (List.mem_cons_of_mem _ hx)) h
/-! ### the law's cells and draws -/
abbrev s_law_cell : Stmt := topS 18
theorem sc_law_cell : FnScope ["script", "k"] ["script", "k"] (defScope s_law_cell) := ⟨rfl, rfl, rfl, by decide +kernel, rfl, by decide +kernel, by decide +kernel⟩
/- 0 script, 1 k -/
abbrev s_law_draws : Stmt := topS 19
theorem sc_law_draws : FnScope ["cell", "limits", "rest", "state", "drawn", "limit"] ["cell", "limits"] (defScope s_law_draws) := ⟨rfl, rfl, rfl, by decide +kernel, rfl, by decide +kernel, by decide +kernel⟩
/- 0 cell, 1 limits, 2 rest, 3 state, 4 drawn, 5 limit -/
def wCell (K : PySem.W.Frag) : (Hp → List V → Prop) → Int → Prop := fun P b => ∃ (ns : List Int) (k : Nat), P = A2 (rFro K) rInt ns (k : Int) ∧ ns.length ≤ 63 ∧ k ≤ 1000 ∧ b = cell ns k
def wDraws : (Hp → List V → Prop) → List Int → Prop := fun P b => ∃ (c : Int) (ms : List Int), P = A2 rInt (rLst rInt) c ms ∧ ms.length ≤ 1000 ∧ (∀ m ∈ ms, 0 < m ∧ m < 2 ^ 100) ∧ b = drawn c ms
section
variable {P : Program} {w : World} {K : PySem.W.Frag} {mg : Str → Option Value} {base : Heap}
theorem ok_law_cell {f : Addr} {fd : FuncData} (D : DefAt K mg "_law_cell" s_law_cell ["script", "k"] f fd) (mB_len : mg "len" = none) : FnOk P w K mg base CX0 1 f fd ["script", "k"] (spV rInt (wCell K)) := by
  refine D.F.ok sc_law_cell (fun vs H Q E h => ?_) (fun cdv A outer s H vs Q E hr h => ?_)
  · obtain ⟨F, Pp, b, _, _, ⟨ns, k, rfl, _⟩, ⟨v, w, rfl, _⟩, _⟩ := h
    rfl
  · obtain ⟨F, Pp, b, eF, _, ⟨ns, k, rfl, hl, hk, rfl⟩, ⟨v, w', rfl, hv, hw⟩, q⟩ := h
    cases (show w' = V.int k from hw)
    refine ⟨_, (pss_cons (ps_if (pt_cmpR op_lt (pv 1) (pe_callB (r := rLenQ K) call_len_seq (by rfl) mB_len (by decide +kernel) (pa_cons (pv 0) pa_nil)) (nomark _))
    (pss_one (ps_ret (pe_ix (r := rIxL K) ix_list (pv 0) (pv 1) (fun _ _ => rfl))))
    pss_nil)
  (pss_one (ps_ret (pe_op op_add (pe_op op_mul pe_int (pv 1)) pe_int)))), ?_⟩
    have e0 : Er (rFro K) (tVar 0) [some v, some (.int (k : Int))] F ns := er_var rfl hv
    refine q_when (F := F) (et_test (er_cmp0 (er_vi rfl) (er_lenF e0))) eF (fun hb H2 e2 => ?_) (fun hb H2 e2 => ?_)
    · have hb := of_decide_eq_true hb
      have hg : ns[k]? = some ns[k] := List.getElem?_eq_getElem (by omega)
      refine s_retI (F := F) (er_ixF e0 (er_vi rfl) (atI_nat hg)) (eF.trans e2) fun H3 e3 => ?_
      have ec : cell ns k = ns[k] := by
        unfold cell
        rw [hg]
      rw [ec] at q
      exact q _ H3 (e2.trans e3) rfl
    · have hb := of_decide_eq_false hb
      have hg : ns[k]? = none := List.getElem?_eq_none (by omega)
      refine s_retI (F := F) (er_I0 (er_I er_int (er_vi rfl) (Or.inl (by decide))) er_int) (eF.trans e2) fun H3 e3 => ?_
      have ec : cell ns k = 7919 * (k : Int) + 104729 := by
        unfold cell
        rw [hg]
      rw [ec] at q
      exact q _ H3 (e2.trans e3) rfl
theorem ok_law_draws {f : Addr} {fd : FuncData} (D : DefAt K mg "_law_draws" s_law_draws ["cell", "limits"] f fd) (mB_int : mg "int" = none) : FnOk P w K mg base CX0 1 f fd ["cell", "limits"] (spN rInt wDraws) := by
  refine D.F.ok sc_law_draws (fun vs H Q E h => ?_) (fun cdv A outer s H vs Q E hr h => ?_)
  · obtain ⟨F, Pp, b, _, _, ⟨c, ms, rfl, _⟩, ⟨v, w, rfl, _⟩, _⟩ := h
    rfl
  · obtain ⟨F, Pp, b, eF, _, ⟨c, ms, rfl, hl, hm, rfl⟩, ⟨v, w', rfl, hv, hw⟩, q⟩ := h
    cases (show v = V.int c from hv)
    refine ⟨_, (pss_cons (ps_set (i := 2) sc_law_draws.nd rfl (by first | exact Or.inl rfl | exact Or.inr rfl) pe_int)
  (pss_cut (ps_if (pt_cmpR op_ge (pv 0) (pe_op op_pow pe_int pe_int) (nomark _))
    (pss_one (ps_set (i := 2) sc_law_draws.nd rfl (by first | exact Or.inl rfl | exact Or.inr rfl) (pe_op op_sub (pv 0) (pe_op op_pow pe_int pe_int))))
    pss_nil)
  (pss_cons (ps_set (i := 3) sc_law_draws.nd rfl (by first | exact Or.inl rfl | exact Or.inr rfl) (pe_op op_mod (pe_op op_mul (pe_callTy (r := rInt1) call_int1 (by rfl) mB_int (by decide +kernel) (pa_cons (pv 0) pa_nil)) pe_int) pe_int))
  (pss_cons (ps_set (i := 4) sc_law_draws.nd rfl (by first | exact Or.inl rfl | exact Or.inr rfl) (pe_lst pa_nil))
  (pss_cons (ps_for PassesOwn.never rfl (pi_listK (K := K) (pv 1)) (pg_name (i := 5) sc_law_draws.nd rfl (by first | exact Or.inl rfl | exact Or.inr rfl))
    (pss_cons (ps_set (i := 3) sc_law_draws.nd rfl (by first | exact Or.inl rfl | exact Or.inr rfl) (pe_op op_mod (pe_op op_add (pe_op op_mul (pv 3) pe_int) pe_int) pe_int))
  (pss_one (ps_if (pt_cmpR op_gt (pv 2) pe_int (nomark _))
    (pss_cons (ps_expr (pe_bm PySem.F.plainAttrs_list PySem.F.slot_list_append PySem.F.type_list_append mt_append (pv 4) (pa_cons (pe_op op_mod (pv 2) (pv 5)) pa_nil)))
  (pss_one (ps_set (i := 2) sc_law_draws.nd rfl (by first | exact Or.inl rfl | exact Or.inr rfl) (pe_op op_fdivW (pv 2) (pv 5)))))
    (pss_one (ps_expr (pe_bm PySem.F.plainAttrs_list PySem.F.slot_list_append PySem.F.type_list_append mt_append (pv 4) (pa_cons (pe_op op_mod (pe_op op_fdivW (pv 3) pe_int) (pv 5)) pa_nil))))))))
  (pss_one (ps_ret (pv 4)))))))), ?_⟩
    -- rest = 0; if cell >= 10 ** 18: rest = cell - 10 ** 18
    refine q_asgI (F := F) er_int eF fun H1 e1 => ?_
    refine ⟨fun σ' H' => Ex H H' ∧ σ' = [some (.int c), some w', some (.int (if 10 ^ 18 ≤ c then c - 10 ^ 18 else 0)), none, none, none], ?_, fun σ2 H2 ⟨e2, hσ⟩ => ?_⟩
    · refine s_if (F := F) (et_test (er_cmp0 (er_vi rfl) (er_I (C := CPow) er_int er_int ⟨by decide, by decide, by decide⟩))) (eF.trans e1) (fun hb H2 e2 => ?_) (fun hb H2 e2 => ?_)
      · have hb : (10 : Int) ^ 18 ≤ c := of_decide_eq_true hb
        refine s_asgI (F := F) (er_I0 (er_vi rfl) (er_I (C := CPow) er_int er_int ⟨by decide, by decide, by decide⟩)) (eF.trans (e1.trans e2)) fun H3 e3 => ?_
        refine ⟨e1.trans (e2.trans e3), ?_⟩
        rw [if_pos hb]
        rfl
      · have hb : ¬ (10 : Int) ^ 18 ≤ c := of_decide_eq_false hb
        refine ⟨e1.trans e2, ?_⟩
        rw [if_neg hb]
        rfl
    subst hσ
    -- state, drawn
    refine q_asgI (F := F) (er_I (er_I (er_int1 (er_vi rfl)) er_int (Or.inr (by decide))) er_int (by decide)) (eF.trans e2) fun H3 e3 => ?_
    refine q_asgN (F := F) (r := rInt) (en_lst eal_nil (Nat.zero_le _)) (eF.trans (e2.trans e3)) fun p H4 e4 hp => ?_
    have eF3 := eF.trans (e2.trans e3)
    have e0 : Er (rLst rInt) (tVar 1) [some (.int c), some w', some (.int (if 10 ^ 18 ≤ c then c - 10 ^ 18 else 0)), some (.int (c * 48271 % 2147483647)), some (.ref p), none] F ms := er_var rfl hw
    have nF : F p = none := back_none eF3 hp.1
    -- the loop
    refine d_for (F := mns (part F H3 H4) p) (S := SN rInt 5) (src_list (e0.mono (hp.ex eF3))) tgt_n (hp.sub eF3 e4) (fun G pre σ' H' => ∃ (G' : Hp) (r s : Int) (ds : List Int) (x : Option V), Ex G G' ∧ Ex G' H' ∧ Ex H3 (mns H' p) ∧ Mu rInt ds G' H' p ∧ ds.length = pre.length ∧
      σ' = [some (.int c), some w', some (.int r), some (.int s), some (.ref p), x] ∧ ds ++ draws r s (ms.drop pre.length) = drawn c ms) (fun G pre σ' H' ⟨G', _, _, _, _, h1, h2, _⟩ => h1.trans h2) (fun H5 e5 => ?_) (fun G pre a post σ' H' H'' σ2 has hP e5 hS => ?_) (fun G σ' H' hP => ?_)
    · refine ⟨part (mns (part F H3 H4) p) H4 H5, _, _, [], none, Ex.refl _, part_sub ((hp.sub eF3 e4).trans e5), ?_, ?_, rfl, rfl, rfl⟩
      · exact ex_mns (e4.trans e5) hp.1
      · exact (hp.mu).part e5
    · obtain ⟨G', r, s, ds, x, g1, g2, g3, g4, g5, rfl, g6⟩ := hP
      obtain ⟨y, hy, rfl⟩ := hS
      cases (show y = V.int a from hy)
      have hma := hm a (by rw [has]; exact List.mem_append_right _ List.mem_cons_self)
      have hd : ms.drop pre.length = a :: post := by
        rw [has, List.drop_left]
      have hd2 : ms.drop (pre ++ [a]).length = post := by
        rw [has, List.length_append, show pre ++ a :: post = (pre ++ [a]) ++ post by simp, ← List.length_append, List.drop_left]
      have hlen : ds.length < 100000 := by
        have : pre.length ≤ ms.length := by
          rw [has, List.length_append]
          omega
        omega
      rw [hd] at g6
      unfold draws at g6
      dsimp only at g6
      -- state = ..
      refine q_asgI (F := G') (er_I (er_I0 (er_I (er_vi rfl) er_int (Or.inr (by decide))) er_int) er_int (by decide)) (g2.trans e5) fun H6 e6 => ?_
      have m6 := g4.up (Ex.refl _) g4.1 (e5.trans e6)
      refine s_if (F := G') (et_test (er_cmp0 (er_vi rfl) er_int)) (g2.trans (e5.trans e6)) (fun hb H7 e7 => ?_) (fun hb H7 e7 => ?_)
      · have hb := of_decide_eq_true hb
        rw [if_pos hb] at g6
        refine q_app (F := G') rfl (m6.up (Ex.refl _) g4.1 e7) hlen (er_I (er_vi rfl) (er_vi rfl) hma.1) (g2.trans (e5.trans (e6.trans e7))) fun o H8 G2 e8 i1 i2 i3 i4 => ?_
        refine s_asgI (F := G2) (er_I (C := CDivW) (er_vi rfl) (er_vi rfl) (wide_div hma.1 (b := 101) (by omega) (by decide) (by decide))) i2 fun H9 e9 => ?_
        refine ⟨G2, r / a, _, ds ++ [r % a], _, g1.trans i1, i2.trans e9, ?_, i3.up (Ex.refl _) i3.1 e9, ?_, rfl, ?_⟩
        · refine (ex_mns ((g3.trans mns_sub).trans (e5.trans (e6.trans (e7.trans e8)))) hp.1).trans ?_
          rw [← mns_upd (u := o)]
          exact mns_up e9
        · rw [List.length_append, List.length_append, g5]
          rfl
        · rw [hd2, List.append_assoc]
          exact g6
      · have hb := of_decide_eq_false hb
        rw [if_neg hb] at g6
        refine s_app (F := G') rfl (m6.up (Ex.refl _) g4.1 e7) hlen (er_I (er_I (C := CDivW) (er_vi rfl) er_int (wide_div (by decide) (b := 101) (by decide) (by decide) (by decide))) (er_vi rfl) hma.1) (g2.trans (e5.trans (e6.trans e7))) fun o H8 G2 e8 i1 i2 i3 i4 => ?_
        refine ⟨G2, r, _, ds ++ [_], _, g1.trans i1, i2, ?_, i3, ?_, rfl, ?_⟩
        · rw [mns_upd]
          exact ex_mns ((g3.trans mns_sub).trans (e5.trans (e6.trans (e7.trans e8)))) hp.1
        · rw [List.length_append, List.length_append, g5]
          rfl
        · rw [hd2, List.append_assoc]
          exact g6
    · obtain ⟨G', r, s, ds, x, g1, g2, g3, g4, g5, rfl, g6⟩ := hP
      rw [List.drop_length, show draws r s [] = [] from rfl, List.append_nil] at g6
      subst g6
      obtain ⟨h1, xs, h2, h3⟩ := g4
      refine ⟨_, rfl, q p H' (e2.trans (e3.trans (g3.trans mns_sub))) ⟨back_none (e2.trans e3) hp.1, xs, h2, h3.imp fun _ _ k => k⟩⟩
end
end K03
set_option Elab.async false
set_option linter.all false
set_option maxRecDepth 100000
set_option maxHeartbeats 4000000
namespace K03
open PySem PySem.Spec PyProof.Rows L2 Evl DL K00
abbrev s_inverse : Stmt := topS 7
theorem sc_inverse : FnScope ["number", "residue", "power", "_"] ["number"] (defScope s_inverse) := ⟨rfl, rfl, rfl, by decide +kernel, rfl, by decide +kernel, by decide +kernel⟩
/- 0 number, 1 residue, 2 power, 3 _ -/
abbrev s_order_sign : Stmt := topS 9
theorem sc_order_sign : FnScope ["order", "turned", "at", "number", "later"] ["order"] (defScope s_order_sign) := ⟨rfl, rfl, rfl, by decide +kernel, rfl, by decide +kernel, by decide +kernel⟩
/- 0 order, 1 turned, 2 at, 3 number, 4 later -/
abbrev s_signed_orders : Stmt := topS 10
theorem sc_signed_orders : FnScope ["count", "orders", "_", "order", "k"] ["count"] (defScope s_signed_orders) := ⟨rfl, rfl, rfl, by decide +kernel, rfl, by decide +kernel, by decide +kernel⟩
/- 0 count, 1 orders, 2 _, 3 order, 4 k -/
abbrev s_check_square : Stmt := topS 11
theorem sc_check_square : FnScope ["rows", "row"] ["rows"] (defScope s_check_square) := ⟨rfl, rfl, rfl, by decide +kernel, rfl, by decide +kernel, by decide +kernel⟩
/- 0 rows, 1 row -/
abbrev s_det_by_orders : Stmt := topS 12
theorem sc_det_by_orders : FnScope ["rows", "order", "sign"] ["rows"] (defScope s_det_by_orders) := ⟨rfl, rfl, rfl, by decide +kernel, rfl, by decide +kernel, by decide +kernel⟩
/- 0 rows, 1 order, 2 sign -/
abbrev s_term : Stmt := topS 13
theorem sc_term : FnScope ["rows", "order", "product", "row", "column"] ["rows", "order"] (defScope s_term) := ⟨rfl, rfl, rfl, by decide +kernel, rfl, by decide +kernel, by decide +kernel⟩
/- 0 rows, 1 order, 2 product, 3 row, 4 column -/
abbrev s_determinant : Stmt := topS 14
theorem sc_determinant : FnScope ["rows", "rest", "result", "filled", "at", "pivot", "row", "number", "k"] ["rows"] (defScope s_determinant) := ⟨rfl, rfl, rfl, by decide +kernel, rfl, by decide +kernel, by decide +kernel⟩
/- 0 rows, 1 rest, 2 result, 3 filled, 4 at, 5 pivot, 6 row, 7 number, 8 k -/
abbrev s_cleared : Stmt := topS 15
theorem sc_cleared : FnScope ["rows", "pivot", "factor", "row", "a", "b"] ["rows", "pivot"] (defScope s_cleared) := ⟨rfl, rfl, rfl, by decide +kernel, rfl, by decide +kernel, by decide +kernel⟩
/- 0 rows, 1 pivot, 2 factor, 3 row, 4 a, 5 b -/
abbrev s_difference_product : Stmt := topS 16
theorem sc_difference_product : FnScope ["numbers", "product", "at", "number", "later"] ["numbers"] (defScope s_difference_product) := ⟨rfl, rfl, rfl, by decide +kernel, rfl, by decide +kernel, by decide +kernel⟩
/- 0 numbers, 1 product, 2 at, 3 number, 4 later -/
def wInv : (Hp → List V → Prop) → Int → Prop := fun P b => ∃ n : Int, P = A1 rInt n ∧ ¬ LA97.Z n ∧ b = invF n
def wSign : (Hp → List V → Prop) → Int → Prop := fun P b => ∃ o : List Int, P = A1 (rTup rInt) o ∧ o.length ≤ 10 ∧ b = sg o
abbrev rOS : Rep (List Int × Int) := rPair (rTup rInt) rInt
def sgs (n : Nat) : List (List Int × Int) := (ords n).map fun o => (o, sg o)
def wSOrd : (Hp → List V → Prop) → List (List Int × Int) → Prop := fun P b => ∃ n : Nat, P = A1 rInt (n : Int) ∧ n ≤ 6 ∧ b = sgs n
def Sq (rows : List Row) (n : Nat) : Prop := rows.length = n ∧ ∀ r ∈ rows, r.length = n
def wSq : (Hp → List V → Prop) → Unit → Prop := fun P _ => ∃ (rows : List Row) (n : Nat), P = A1 rRows rows ∧ n ≤ 6 ∧ Sq rows n
def tmF (rows : List Row) (o : List Int) : Int := (List.zip rows o).foldl (fun p q => p * vec q.1 q.2.toNat % 97) 1
def wTm : (Hp → List V → Prop) → Int → Prop := fun P b => ∃ (rows : List Row) (o : List Int) (n : Nat), P = A2 rRows (rTup rInt) rows o ∧ n ≤ 6 ∧ Sq rows n ∧ Ord n n o ∧ b = tmF rows o
def wDet : (Hp → List V → Prop) → Int → Prop := fun P b => ∃ (rows : List Row) (n : Nat), P = A1 rRows rows ∧ n ≤ 6 ∧ Sq rows n ∧ b = Dt n rows % 97
def clrF (pivot row : Row) : Row := (List.zip (row.drop 1) (pivot.drop 1)).map fun p => (p.1 - vec row 0 * invF (vec pivot 0) * p.2) % 97
def wClr : (Hp → List V → Prop) → List Row → Prop := fun P b => ∃ (rows : List Row) (pivot : Row) (n : Nat), P = A2 rRows (rLst rInt) rows pivot ∧ rows.length ≤ 100 ∧ n ≤ 100 ∧ pivot.length = n + 1 ∧ (∀ r ∈ rows, r.length = n + 1 ∧ Res r) ∧ ¬ LA97.Z (vec pivot 0) ∧ b = rows.map (clrF pivot)
def wDiff : (Hp → List V → Prop) → Int → Prop := fun P b => ∃ xs : List Int, P = A1 (rLst rInt) xs ∧ xs.length ≤ 100 ∧ b = diffP xs % 97
/-! mathematics for the defs -/
theorem rng_cons {lo : Int} {n : Nat} : rng lo (n + 1) = lo :: rng (lo + 1) n := by
  unfold rng
  rw [List.range_succ_eq_map, List.map_cons, List.map_map]
  congr 1
  · show lo + 0 = lo
    omega
  · refine List.map_congr_left fun i _ => ?_
    show lo + ((i + 1 : Nat) : Int) = lo + 1 + (i : Int)
    omega
theorem turned_len : ∀ (q p : List Int), ((List.zip (rng p.length q.length) q).flatMap fun a => (((p ++ q).drop (a.1.toNat + 1)).filter fun y => decide (a.2 > y)).map fun _ => a.1).length = inv q
  | [], p => rfl
  | x :: q, p => by
    have ih := turned_len q (p ++ [x])
    rw [List.length_append, List.append_assoc] at ih
    have e1 : ((p.length + [x].length : Nat) : Int) = (p.length : Int) + 1 := by
      show ((p.length + 1 : Nat) : Int) = _
      omega
    rw [e1] at ih
    have ih : ((List.zip (rng ((p.length : Int) + 1) q.length) q).flatMap fun a => (((p ++ x :: q).drop (a.1.toNat + 1)).filter fun y => decide (a.2 > y)).map fun _ => a.1).length = inv q := ih
    rw [List.length_cons, rng_cons, List.zip_cons_cons, List.flatMap_cons, List.length_append, ih, List.length_map]
    have e2 : (p ++ x :: q).drop ((p.length : Int).toNat + 1) = q := by
      rw [Int.toNat_natCast, show p ++ x :: q = (p ++ [x]) ++ q by simp, show p.length + 1 = (p ++ [x]).length by simp, List.drop_left]
    show ((((p ++ x :: q).drop ((p.length : Int).toNat + 1)).filter fun y => decide (x > y)).length) + inv q = _
    rw [e2]
    rfl
theorem ext_len {n : Nat} : ∀ os : List (List Int), (ext n os).length ≤ n * os.length
  | [] => Nat.zero_le _
  | o :: os => by
    have ih := ext_len (n := n) os
    unfold ext at ih ⊢
    rw [List.flatMap_cons, List.length_append, List.length_map, List.length_cons, Nat.mul_add, Nat.mul_one]
    have h1 := List.length_filter_le (fun k => !decide (k ∈ o)) (rng 0 n)
    rw [rng_len] at h1
    omega
theorem ord_len {n : Nat} : ∀ k, (ordK n k).length ≤ n ^ k
  | 0 => Nat.le_refl _
  | k + 1 => by
    have h1 := ext_len (n := n) (ordK n k)
    have h2 := Nat.mul_le_mul_left n (ord_len (n := n) k)
    show (ext n (ordK n k)).length ≤ n ^ (k + 1)
    rw [Nat.pow_succ, Nat.mul_comm (n ^ k)]
    omega
theorem ord_small {n k : Nat} (hn : n ≤ 6) (hk : k ≤ 6) : (ordK n k).length ≤ 46656 := by
  have h1 := ord_len (n := n) k
  have h2 : n ^ k ≤ 6 ^ 6 := Nat.le_trans (Nat.pow_le_pow_left hn k) (Nat.pow_le_pow_right (by decide) hk)
  exact Nat.le_trans h1 h2
theorem fold_z (l : List (Row × Int)) : ∀ (x y : Int), LA97.Z (x - y) → LA97.Z (l.foldl (fun p q => p * vec q.1 q.2.toNat % 97) x - y * (l.map fun q => vec q.1 q.2.toNat).foldr (· * ·) 1) := by
  induction l with
  | nil =>
    intro x y h
    show LA97.Z (x - y * 1)
    rw [Int.mul_one]
    exact h
  | cons q l ih =>
    intro x y h
    have h1 := ih (x * vec q.1 q.2.toNat % 97) (y * vec q.1 q.2.toNat) (by
      have a := z_mod (x * vec q.1 q.2.toNat)
      have b := h.mulR (vec q.1 q.2.toNat)
      have e : x * vec q.1 q.2.toNat % 97 - y * vec q.1 q.2.toNat = x * vec q.1 q.2.toNat % 97 - x * vec q.1 q.2.toNat + (x - y) * vec q.1 q.2.toNat := by
        rw [Int.sub_mul]
        omega
      rw [e]
      exact a.add b)
    rw [Int.mul_assoc] at h1
    exact h1
theorem fold_tm : ∀ (rows : List Row) (o : List Int), ((List.zip rows o).map fun q => vec q.1 q.2.toNat).foldr (· * ·) 1 = tm rows o
  | [], o => by
    rw [List.zip_nil_left]
    cases o <;> rfl
  | r :: rows, [] => rfl
  | r :: rows, c :: o => by
    rw [List.zip_cons_cons, List.map_cons, List.foldr_cons, fold_tm rows o]
    rfl
theorem tmF_z (rows : List Row) (o : List Int) : LA97.Z (tmF rows o - tm rows o) := by
  have := fold_z (List.zip rows o) 1 1 (by rw [Int.sub_self]; exact LA97.Z.zero)
  rw [fold_tm, Int.one_mul] at this
  exact this
theorem fold_snoc {rows : List Row} (l : List (Row × Int)) : 0 ≤ l.foldl (fun p q => p * vec q.1 q.2.toNat % 97) 1 ∧ l.foldl (fun p q => p * vec q.1 q.2.toNat % 97) 1 < 97 := by
  have : ∀ (l : List (Row × Int)) (x : Int), 0 ≤ x ∧ x < 97 → 0 ≤ l.foldl (fun p q => p * vec q.1 q.2.toNat % 97) x ∧ l.foldl (fun p q => p * vec q.1 q.2.toNat % 97) x < 97 := by
    intro l
    induction l with
    | nil => exact fun _ h => h
    | cons q l ih => exact fun x _ => ih _ ⟨Int.emod_nonneg _ (by decide), Int.emod_lt_of_pos _ (by decide)⟩
  exact this l 1 (by decide)
theorem emod_eq {x y : Int} (h : LA97.Z (x - y)) : x % 97 = y % 97 := Int.emod_eq_emod_iff_emod_sub_eq_zero.mpr (Int.emod_eq_zero_of_dvd h)
theorem sum_det {n : Nat} {rows : List Row} : ((sgs n).map fun p => p.2 * tmF rows p.1).sum % 97 = Dt n rows % 97 := by
  refine emod_eq ?_
  unfold sgs
  rw [List.map_map, sumZ_eq]
  refine sumZ_cong fun o _ => ?_
  show LA97.Z (sg o * tmF rows o - sg o * tm rows o)
  rw [← Int.mul_sub]
  exact (tmF_z rows o).mulL _
section
variable {P : Program} {w : World} {K : PySem.W.Frag} {mg : Str → Option Value} {base : Heap} {t : Tok}
theorem ok_inverse0 {f : Addr} {fd : FuncData} (D : DefAt K mg "inverse" s_inverse ["number"] f fd) (c_PRIME : mg "PRIME" = some (.int 97 t)) (mB_range : mg "range" = none) : FnOk P w K mg base CX0 1 f fd ["number"] (spV rInt wInv) := by
  refine D.F.ok sc_inverse (fun vs H Q E h => ?_) (fun cdv A outer s H vs Q E hr h => ?_)
  · obtain ⟨F, Pp, b, _, _, ⟨n, rfl, _⟩, ⟨v, rfl, _⟩, _⟩ := h
    rfl
  · obtain ⟨F, Pp, b, eF, _, ⟨n, rfl, hn, rfl⟩, ⟨v, rfl, hv⟩, q⟩ := h
    cases (show v = V.int n from hv)
    refine ⟨_, (pss_cons (ps_set (i := 1) sc_inverse.nd rfl (by first | exact Or.inl rfl | exact Or.inr rfl) (pe_op op_mod (pv 0) (pe_glob (v := .int 97) rfl c_PRIME ⟨_, rfl⟩)))
  (pss_cons (ps_if (pt_cmpR op_eq (pv 1) pe_int (nomark _))
    pss_never
    pss_nil)
  (pss_cons (ps_set (i := 2) sc_inverse.nd rfl (by first | exact Or.inl rfl | exact Or.inr rfl) pe_int)
  (pss_cons (ps_for PassesOwn.never rfl (pi_range1 (by rfl) mB_range (pa_cons (pe_op op_sub (pe_glob (v := .int 97) rfl c_PRIME ⟨_, rfl⟩) pe_int) pa_nil)) (pg_name (i := 3) sc_inverse.nd rfl (by first | exact Or.inl rfl | exact Or.inr rfl))
    (pss_one (ps_set (i := 2) sc_inverse.nd rfl (by first | exact Or.inl rfl | exact Or.inr rfl) (pe_op op_mod (pe_op op_mul (pv 2) (pv 1)) (pe_glob (v := .int 97) rfl c_PRIME ⟨_, rfl⟩)))))
  (pss_one (ps_ret (pv 2))))))), ?_⟩
    refine w_asgI (Wd.start eF) (er_I (er_vi rfl) er_int (by decide)) fun H1 w1 s1 => ?_
    refine w_no w1 (et_test (er_eqI (er_vi rfl) er_int)) (decide_eq_false fun e => hn (Int.dvd_of_emod_eq_zero e)) fun H2 w2 s2 => ?_
    refine w_asgI w2 er_int fun H3 w3 s3 => ?_
    have hm : 0 ≤ n % 97 ∧ n % 97 < 97 := ⟨Int.emod_nonneg _ (by decide), Int.emod_lt_of_pos _ (by decide)⟩
    refine w_for w3 (src_rng1 (ea1 (er_I0 er_int er_int)) (by decide)) tgt_n mono_sn (fun pre σ' G' H' => ∃ x : Option V, σ' = [some (.int n), some (.int (n % 97)), some (.int (LA97.powR (n % 97) pre.length)), x])
      (fun G2 H2 w2 s2 => ⟨none, rfl⟩) (fun Gs pre a post σ' σ2 G' H' G2 H2 has hP s2 w2 eGs hS => ?_) (fun σ' G' H' w2 hP => ?_)
    · obtain ⟨x, rfl⟩ := hP
      obtain ⟨z, hz, rfl⟩ := hS
      refine v_asgI w2 (er_I (er_I (er_vi rfl) (er_vi rfl) (Or.inr (res_cmul hm))) er_int (by decide)) fun H5 w5 s5 => ?_
      refine ⟨_, w5, eGs, some z, ?_⟩
      rw [List.length_append]
      rfl
    · obtain ⟨x, rfl⟩ := hP
      refine v_retI w2 (er_vi rfl) fun H5 e5 => q _ H5 e5 ?_
      rfl
theorem ok_order_sign {f : Addr} {fd : FuncData} (D : DefAt K mg "order_sign" s_order_sign ["order"] f fd) (mB_enumerate : mg "enumerate" = none) (mB_len : mg "len" = none) : FnOk P w K mg base CX0 1 f fd ["order"] (spV rInt wSign) := by
  refine D.F.ok sc_order_sign (fun vs H Q E h => ?_) (fun cdv A outer s H vs Q E hr h => ?_)
  · obtain ⟨F, Pp, b, _, _, ⟨n, rfl, _⟩, ⟨v, rfl, _⟩, _⟩ := h
    rfl
  · obtain ⟨F, Pp, b, eF, _, ⟨o, rfl, hl, rfl⟩, ⟨v, rfl, hv⟩, q⟩ := h
    refine ⟨_, (pss_cons (ps_setLc2 (i := 1) (own := [("at", 2), ("number", 3), ("later", 4)]) (g := gTup K 2 (gCons (gName 2) (gCons (gName 3) gNil))) (g1 := gName 4) (vs1 := [4]) rfl sc_order_sign.nd rfl rfl (sw_true rfl rfl rfl (by decide +kernel)) (pi_enumTK (K := K) (by rfl) mB_enumerate (pa_cons (pv 0) pa_nil)) (blkOk_by (own := [("at", 2), ("number", 3), ("later", 4)]) (N := ["order", "turned", "at", "number", "later"]) (sc := defScope s_order_sign) (by decide +kernel)) (by decide) (fun _ _ _ _ _ => (pg_tupK (K := K) (by rfl) (pgs_cons (pg_name (i := 2) sc_order_sign.nd rfl (by first | exact Or.inl rfl | exact Or.inr rfl)) (pgs_cons (pg_name (i := 3) sc_order_sign.nd rfl (by first | exact Or.inl rfl | exact Or.inr rfl)) pgs_nil)))) (fun _ _ _ _ _ => pts_nil) (fun _ _ _ _ _ => (pi_tupK (K := K) (pe_slice (r := rSlA K) sl_tupA (pv 0) (po_some (pe_op op_add (pv 2) pe_int)) po_none))) (fun _ _ _ _ _ => (pg_name (i := 4) sc_order_sign.nd rfl (by first | exact Or.inl rfl | exact Or.inr rfl))) (fun _ _ _ _ _ => pts_one (pt_cmpR op_gt (pv 3) (pv 4) (nomark _))) (fun _ _ _ _ _ => (pv 2)))
  (pss_one (ps_ret (pe_ifExp (pt_cmpR op_eq (pe_op op_mod (pe_callB (r := rLenQ K) call_len_seq (by rfl) mB_len (by decide +kernel) (pa_cons (pv 1) pa_nil)) pe_int) pe_int (nomark _)) pe_int (pe_un un_neg pe_int))))), ?_⟩
    have hlen := turned_len o []
    have hlen : ((List.zip (rng 0 o.length) o).flatMap fun a => ((o.drop (a.1.toNat + 1)).filter fun y => decide (a.2 > y)).map fun _ => a.1).length = inv o := hlen
    have hinv : inv o ≤ 100 := by
      have : ∀ (l : List Int), inv l ≤ l.length * l.length := by
        intro l
        induction l with
        | nil => exact Nat.le_refl _
        | cons x l ih =>
          show (l.filter _).length + inv l ≤ (l.length + 1) * (l.length + 1)
          have h1 := List.length_filter_le (fun y => decide (y < x)) l
          rw [Nat.add_mul, Nat.mul_add]
          omega
      have h1 := this o
      have h2 := Nat.mul_le_mul hl hl
      omega
    refine w_asg (r := rLst rInt) (a := (List.zip (rng 0 o.length) o).flatMap fun a => ((o.drop (a.1.toNat + 1)).filter fun y => decide (a.2 > y)).map fun _ => a.1) (Wd.start eF) (En.er (en_is (en_lc2 (s := rInt) (r1 := rInt) (fun _ => true) (fun a => o.drop (a.1.toNat + 1)) (fun a y => decide (a.2 > y)) (fun a _ => a.1) (src_enumT (ea1 (er_var rfl hv))) tgt_p tgt_n ?_ (fun a ha G σ2 eG hS => ?_)) ?_)) fun v1 G1 H1 w1 s1 hv1 => ?_
    · rw [List.filter_eq_self.mpr fun _ _ => rfl, hlen]
      omega
    · obtain ⟨x, y, hx, hy, rfl⟩ := hS
      cases (show x = V.int a.1 from hx)
      cases (show y = V.int a.2 from hy)
      have ha1 := mem_rng.mp (List.of_mem_zip ha).1
      obtain ⟨k, hk⟩ := Int.eq_ofNat_of_zero_le ha1.1
      refine ⟨rfl, fun H1 _ Q q => q H1 (Ex.refl _), fun _ => ⟨src_is (src_tup (er_slT (er_var rfl ((rTup rInt).mono eG hv)) (eo_part (er_I0 (er_vi rfl) er_int)) eo_none)) ?_, fun c hc G' σ3 eG2 hS2 => ?_⟩⟩
      · rw [hk, show (k : Int) + 1 = ((k + 1 : Nat) : Int) by omega]
        have hkl : k + 1 ≤ o.length := by omega
        unfold cutA
        rw [HT.sIx_nat, HT.sIx_none, Nat.min_eq_left hkl]
        exact List.take_of_length_le (by rw [List.length_drop]; exact Nat.le_refl _)
      · obtain ⟨z, hz, rfl⟩ := hS2
        cases (show z = V.int c from hz)
        exact ⟨rfl, et_test (er_cmp0 (er_vi rfl) (er_vi rfl)), fun _ => er_vi rfl⟩
    · rw [List.filter_eq_self.mpr fun _ _ => rfl]
    · refine v_retI (n := sg o) w1 (er_if (b := decide ((inv o : Int) % 2 = 0)) (et_test (er_is (er_eqI (er_I (er_lenL (er_var rfl hv1)) er_int (by decide)) er_int) (by rw [hlen]))) (fun hb => ?_) (fun hb => ?_)) fun H5 e5 => q _ H5 e5 rfl
      · have hb := of_decide_eq_true hb
        refine er_is er_int ?_
        unfold sg
        omega
      · have hb := of_decide_eq_false hb
        refine er_is (er_neg er_int) ?_
        unfold sg
        omega
theorem ok_signed_orders {f fO : Addr} {fd fdO : FuncData} (D : DefAt K mg "signed_orders" s_signed_orders ["count"] f fd) (D_order_sign : DefAt K mg "order_sign" s_order_sign ["order"] fO fdO) (mB_enumerate : mg "enumerate" = none) (mB_len : mg "len" = none) (mB_range : mg "range" = none) : FnOk P w K mg base CX0 2 f fd ["count"] (spN rOS wSOrd) := by
  have G_order_sign : FnOk P w K mg base CX0 1 fO fdO ["order"] (spV rInt wSign) := ok_order_sign D_order_sign mB_enumerate mB_len
  refine D.F.ok sc_signed_orders (fun vs H Q E h => ?_) (fun cdv A outer s H vs Q E hr h => ?_)
  · obtain ⟨F, Pp, b, _, _, ⟨n, rfl, _⟩, ⟨v, rfl, _⟩, _⟩ := h
    rfl
  · obtain ⟨F, Pp, b, eF, _, ⟨n, rfl, hn, rfl⟩, ⟨v, rfl, hv⟩, q⟩ := h
    cases (show v = V.int (n : Int) from hv)
    refine ⟨_, (pss_cons (ps_set (i := 1) sc_signed_orders.nd rfl (by first | exact Or.inl rfl | exact Or.inr rfl) (pe_lst (pa_cons (pe_tup pa_nil) pa_nil)))
  (pss_cons (ps_for PassesOwn.never rfl (pi_range1 (by rfl) mB_range (pa_cons (pv 0) pa_nil)) (pg_name (i := 2) sc_signed_orders.nd rfl (by first | exact Or.inl rfl | exact Or.inr rfl))
    (pss_one (ps_setLc2 (i := 1) (own := [("order", 3), ("k", 4)]) (g := gName 3) (g1 := gName 4) (vs1 := [4]) rfl sc_signed_orders.nd rfl rfl (sw_true rfl rfl rfl (by decide +kernel)) (pi_listK (K := K) (pv 1)) (blkOk_by (own := [("order", 3), ("k", 4)]) (N := ["count", "orders", "_", "order", "k"]) (sc := defScope s_signed_orders) (by decide +kernel)) (by decide) (fun _ _ _ _ _ => (pg_name (i := 3) sc_signed_orders.nd rfl (by first | exact Or.inl rfl | exact Or.inr rfl))) (fun _ _ _ _ _ => pts_nil) (fun _ _ _ _ _ => (pi_range1 (by rfl) mB_range (pa_cons (pv 0) pa_nil))) (fun _ _ _ _ _ => (pg_name (i := 4) sc_signed_orders.nd rfl (by first | exact Or.inl rfl | exact Or.inr rfl))) (fun _ _ _ _ _ => pts_one (pt_cmpR (r := rIn K true) op_notIn_seq (pv 4) (pv 3) (by rfl))) (fun _ _ _ _ _ => (pe_op (r := rCatA K) op_catA (pv 3) (pe_tup (pa_cons (pv 4) pa_nil)))))))
  (pss_one (ps_ret (pe_lc (own := [("order", 3)]) (g := gName 3) rfl sc_signed_orders.nd (pi_listK (K := K) (pv 1)) (blkOk_by (own := [("order", 3)]) (N := ["count", "orders", "_", "order", "k"]) (sc := defScope s_signed_orders) (by decide +kernel)) (fun _ _ _ _ _ => (pg_name (i := 3) sc_signed_orders.nd rfl (by first | exact Or.inl rfl | exact Or.inr rfl))) (fun _ _ _ _ _ => pts_nil) (fun _ _ _ _ _ => (pe_tup (pa_cons (pv 3) (pa_cons (pe_call G_order_sign (hr.mono (by decide)) (by rfl) D_order_sign.g D_order_sign.F.kp D_order_sign.b .nil pass0 (pa_cons (pv 3) pa_nil)) pa_nil))))))))), ?_⟩
    refine w_asg (r := rLst (rTup rInt)) (a := [[]]) (Wd.start eF) (En.er (en_lst (r := rTup rInt) (eal_cons (er_tup eal_nil (Nat.zero_le _)) eal_nil) (by show 1 ≤ 100000; decide))) fun v1 G1 H1 w1 s1 hv1 => ?_
    refine w_for w1 (src_rng1 (ea1 (er_vi rfl)) (by omega)) tgt_n mono_sn (fun pre σ' G' H' => ∃ (v1 : V) (x2 : Option V), (rLst (rTup rInt)).rel G' v1 (ordK n pre.length) ∧ σ' = [some (.int (n : Int)), some v1, x2, none, none])
      (fun G2 H2 w2 s2 => ⟨v1, none, (rLst (rTup rInt)).mono s2.fr hv1, rfl⟩) (fun Gs pre a post σ' σ2 G' H' G2 H2 has hP s2 w2 eGs hS => ?_) (fun σ' G' H' w2 hP => ?_)
    · obtain ⟨v2, x2, hv2, rfl⟩ := hP
      obtain ⟨z, hz, rfl⟩ := hS
      obtain ⟨_, hk, _⟩ := rng_mid has
      have hk : pre.length < n := by omega
      have hv3 := (rLst (rTup rInt)).mono s2.fr hv2
      refine v_asg (r := rLst (rTup rInt)) (a := ordK n (pre.length + 1)) w2 (En.er (en_is (en_lc2 (s := rTup rInt) (r1 := rInt) (fun _ => true) (fun _ => rng 0 n) (fun o k => !decide (k ∈ o)) (fun o k => o ++ [k]) (src_list (er_var rfl hv3)) tgt_n tgt_n ?_ (fun o ho G σ2 eG hS => ?_)) ?_)) fun v4 G4 H4 w4 s4 hv4 => ?_
      · rw [List.filter_eq_self.mpr fun _ _ => rfl]
        have := ord_small (n := n) (k := pre.length + 1) hn (by omega)
        exact Nat.lt_of_le_of_lt this (by decide)
      · obtain ⟨y, hy, rfl⟩ := hS
        have hol := (mem_ordK.mp ho).len
        refine ⟨rfl, fun H1 _ Q q => q H1 (Ex.refl _), fun _ => ⟨src_is (src_rng1 (ea1 (er_vi rfl)) (by omega)) (by rw [show ((n : Int)).toNat = n by omega]), fun c hc G' σ3 eG2 hS2 => ?_⟩⟩
        obtain ⟨x, hx, rfl⟩ := hS2
        cases (show x = V.int c from hx)
        have hy2 := (rTup rInt).mono eG2 hy
        exact ⟨rfl, et_test (er_niT (er_vi rfl) (er_var rfl hy2)), fun _ => er_catT (er_var rfl hy2) (er_tup (eal_cons (er_vi rfl) eal_nil) (by show 1 ≤ 100000; decide)) (by show o.length + 1 ≤ 100000; omega)⟩
      · rw [List.filter_eq_self.mpr fun _ _ => rfl]
        rfl
      · refine ⟨G4, w4, eGs.trans s4.fr, v4, _, ?_, rfl⟩
        rw [List.length_append]
        exact hv4
    · obtain ⟨v2, x2, hv2, rfl⟩ := hP
      rw [rng_len, show ((n : Int)).toNat = n by omega] at hv2
      refine v_retN w2 (en_is (en_lc (s := rOS) (fun _ => true) (fun o => (o, sg o)) (src_list (er_var rfl hv2)) tgt_n (Nat.lt_of_le_of_lt (ord_small hn hn) (by decide)) (fun o ho G σ2 eG hS => ?_)) ?_) fun p H5 e5 nn => q p H5 e5 nn
      · obtain ⟨y, hy, rfl⟩ := hS
        have hol := (mem_ordK.mp ho).len
        exact ⟨rfl, fun H1 _ Q q => q H1 (Ex.refl _), fun _ => er_pair (ea2 (er_var rfl hy) (er_call (s := rInt) (ea1 (er_var rfl hy)) mono1 ⟨o, rfl, by omega, rfl⟩))⟩
      · rw [List.filter_eq_self.mpr fun _ _ => rfl]
        rfl
theorem ok_check_square {f : Addr} {fd : FuncData} (D : DefAt K mg "check_square" s_check_square ["rows"] f fd) (mB_any : mg "any" = none) (mB_len : mg "len" = none) : FnOk P w K mg base CX0 1 f fd ["rows"] (spV rNon wSq) := by
  refine D.F.ok sc_check_square (fun vs H Q E h => ?_) (fun cdv A outer s H vs Q E hr h => ?_)
  · obtain ⟨F, Pp, b, _, _, ⟨n, u, rfl, _⟩, ⟨v, rfl, _⟩, _⟩ := h
    rfl
  · obtain ⟨F, Pp, b, eF, _, ⟨rows, n, rfl, hn, hl, hw⟩, ⟨v, rfl, hv⟩, q⟩ := h
    refine ⟨_, (pss_one (ps_if (pt_val (pe_callB (r := rAny K) (cr_any rfl) (by rfl) mB_any (by decide +kernel) (pa_cons (pe_lc (own := [("row", 1)]) (g := gName 1) rfl sc_check_square.nd (pi_listK (K := K) (pv 0)) (blkOk_by (own := [("row", 1)]) (N := ["rows", "row"]) (sc := defScope s_check_square) (by decide +kernel)) (fun _ _ _ _ _ => (pg_name (i := 1) sc_check_square.nd rfl (by first | exact Or.inl rfl | exact Or.inr rfl))) (fun _ _ _ _ _ => pts_nil) (fun _ _ _ _ _ => (pe_cmpR op_ne (pe_callB (r := rLenQ K) call_len_seq (by rfl) mB_len (by decide +kernel) (pa_cons (pv 1) pa_nil)) (pe_callB (r := rLenQ K) call_len_seq (by rfl) mB_len (by decide +kernel) (pa_cons (pv 0) pa_nil)) (nomark _)))) pa_nil)))
    pss_never
    pss_nil)), ?_⟩
    refine v_no (Wd.start eF) (DL.et_B (er_any (En.er (en_lc (s := rBl) (fun _ => true) (fun r => !decide ((r.length : Int) = (rows.length : Int))) (src_list (er_var rfl hv)) tgt_n (by omega) (fun r hr G σ2 eG hS => ?_))))) ?_ fun H1 w1 s1 => q _ H1 w1.up rfl
    · obtain ⟨x, hx, rfl⟩ := hS
      exact ⟨rfl, fun H1 _ Q q => q H1 (Ex.refl _), fun _ => er_neI (er_lenL (er_var rfl hx)) (er_lenL (er_var rfl (rRows.mono eG hv)))⟩
    · rw [List.filter_eq_self.mpr fun _ _ => rfl, List.any_eq_false]
      intro k hk
      obtain ⟨r, hr, rfl⟩ := List.mem_map.mp hk
      rw [hw r hr, hl]
      simp
end
end K03
set_option Elab.async false
set_option linter.all false
set_option maxRecDepth 100000
set_option maxHeartbeats 4000000
namespace K03
open PySem PySem.Spec PyProof.Rows L2 Evl DL K00
section
variable {α : Type} {σ : L2.St} {F0 H0 G H : Hp} {te : TE} {r : Rep α} {a : α} {D : Ends} {tz : TS}
theorem w_drop (w : Wd F0 H0 G H) (h : Er r te σ G a) (k : ∀ H2, Wd F0 H0 G H2 → Stp none G H G H2 → tz D σ H2) : tSeq (tDrop te) tz D σ H := h H w.sub _ fun _ H2 e _ => k H2 (w.same e) (stp_same e)
end
theorem vec_clr {pivot row : Row} {n j : Nat} (h1 : row.length = n + 1) (h2 : pivot.length = n + 1) (hj : j < n) : vec (clrF pivot row) j = (vec row (j + 1) - vec row 0 * invF (vec pivot 0) * vec pivot (j + 1)) % 97 := by
  have hz : j < (List.zip (row.drop 1) (pivot.drop 1)).length := by
    rw [List.length_zip, List.length_drop, List.length_drop]
    omega
  unfold clrF
  rw [vec_get (by rw [List.length_map]; exact hz), List.getElem_map, List.getElem_zip, List.getElem_drop, List.getElem_drop, vec_get (show j + 1 < row.length by omega), vec_get (show j + 1 < pivot.length by omega)]
  simp only [Nat.add_comm 1 j]
theorem clr_len {pivot row : Row} {n : Nat} (h1 : row.length = n + 1) (h2 : pivot.length = n + 1) : (clrF pivot row).length = n := by
  unfold clrF
  rw [List.length_map, List.length_zip, List.length_drop, List.length_drop]
  omega
theorem clr_res {pivot row : Row} : Res (clrF pivot row) := res_map _ _
/-- the scopes of the outer ones of two comprehensions in another each -/
abbrev sc_clr : Scope := { kind := .function, names := [(Str.ofString ".0", .local), (Str.ofString "row", .cell), (Str.ofString "zip", .globalImplicit), (Str.ofString "factor", .cell), (Str.ofString "pivot", .cell)], isGenerator := false, isCoroutine := false }
section
variable {P : Program} {w : World} {K : PySem.W.Frag} {mg : Str → Option Value} {base : Heap} {t : Tok}
theorem ok_term {f : Addr} {fd : FuncData} (D : DefAt K mg "term" s_term ["rows", "order"] f fd) (c_PRIME : mg "PRIME" = some (.int 97 t)) (mB_zip : mg "zip" = none) : FnOk P w K mg base CX0 1 f fd ["rows", "order"] (spV rInt wTm) := by
  refine D.F.ok sc_term (fun vs H Q E h => ?_) (fun cdv A outer s H vs Q E hr h => ?_)
  · obtain ⟨F, Pp, b, _, _, ⟨n, u, _, rfl, _⟩, ⟨v, z, rfl, _⟩, _⟩ := h
    rfl
  · obtain ⟨F, Pp, b, eF, _, ⟨rows, o, n, rfl, hn, ⟨hl, hw⟩, O, rfl⟩, ⟨v, u, rfl, hv, hu⟩, q⟩ := h
    refine ⟨_, (pss_cons (ps_set (i := 2) sc_term.nd rfl (by first | exact Or.inl rfl | exact Or.inr rfl) pe_int)
  (pss_cons (ps_for PassesOwn.never rfl (pi_zipMK (K := K) (by rfl) mB_zip (pa_cons (pv 0) (pa_cons (pv 1) pa_nil))) (pg_tupK (K := K) (by rfl) (pgs_cons (pg_name (i := 3) sc_term.nd rfl (by first | exact Or.inl rfl | exact Or.inr rfl)) (pgs_cons (pg_name (i := 4) sc_term.nd rfl (by first | exact Or.inl rfl | exact Or.inr rfl)) pgs_nil)))
    (pss_one (ps_set (i := 2) sc_term.nd rfl (by first | exact Or.inl rfl | exact Or.inr rfl) (pe_op op_mod (pe_op op_mul (pv 2) (pe_ix (r := rIxL K) ix_list (pv 3) (pv 4) (fun _ _ => rfl))) (pe_glob (v := .int 97) rfl c_PRIME ⟨_, rfl⟩)))))
  (pss_one (ps_ret (pv 2))))), ?_⟩
    refine w_asgI (n := 1) (Wd.start eF) er_int fun H1 w1 s1 => ?_
    refine w_for w1 (src_zipM (ea2 (er_var rfl hv) (er_var rfl hu))) tgt_p mono_sp (fun pre σ' G' H' => ∃ x3 x4 : Option V, σ' = [some v, some u, some (.int (pre.foldl (fun p q => p * vec q.1 q.2.toNat % 97) 1)), x3, x4])
      (fun G2 H2 w2 s2 => ⟨none, none, rfl⟩) (fun Gs pre a post σ' σ2 G' H' G2 H2 has hP s2 w2 eGs hS => ?_) (fun σ' G' H' w2 hP => ?_)
    · obtain ⟨x3, x4, rfl⟩ := hP
      obtain ⟨x, y, hx, hy, rfl⟩ := hS
      cases (show y = V.int a.2 from hy)
      have ham : a ∈ List.zip rows o := by
        rw [has]
        exact List.mem_append_right _ List.mem_cons_self
      have hr1 := hw _ (List.of_mem_zip ham).1
      have ho1 := O.low _ (List.of_mem_zip ham).2
      obtain ⟨c, hc⟩ := Int.eq_ofNat_of_zero_le ho1.1
      have hb := fold_snoc (rows := rows) pre
      refine v_asgI w2 (er_I (er_I (er_vi rfl) (er_ixL (a := vec a.1 a.2.toNat) (er_var rfl hx) (er_vi rfl) (by rw [hc, Int.toNat_natCast]; exact atI_vec (by omega))) (Or.inl (res_cmul hb))) er_int (by decide)) fun H5 w5 s5 => ?_
      refine ⟨_, w5, eGs, some x, some (.int a.2), ?_⟩
      rw [List.foldl_append]
      rfl
    · obtain ⟨x3, x4, rfl⟩ := hP
      exact v_retI w2 (er_vi rfl) fun H5 e5 => q _ H5 e5 rfl
theorem ok_det_by_orders {f fQ fS fO fT : Addr} {fd fdQ fdS fdO fdT : FuncData} (D : DefAt K mg "det_by_orders" s_det_by_orders ["rows"] f fd) (D_check_square : DefAt K mg "check_square" s_check_square ["rows"] fQ fdQ) (D_signed_orders : DefAt K mg "signed_orders" s_signed_orders ["count"] fS fdS) (D_order_sign : DefAt K mg "order_sign" s_order_sign ["order"] fO fdO) (D_term : DefAt K mg "term" s_term ["rows", "order"] fT fdT)
    (c_PRIME : mg "PRIME" = some (.int 97 t)) (mB_zip : mg "zip" = none) (mB_any : mg "any" = none) (mB_len : mg "len" = none) (mB_enumerate : mg "enumerate" = none) (mB_range : mg "range" = none) (mB_sum : mg "sum" = none) : FnOk P w K mg base CX0 3 f fd ["rows"] (spV rInt wDet) := by
  have G_check_square : FnOk P w K mg base CX0 1 fQ fdQ ["rows"] (spV rNon wSq) := ok_check_square D_check_square mB_any mB_len
  have G_signed_orders : FnOk P w K mg base CX0 2 fS fdS ["count"] (spN rOS wSOrd) := ok_signed_orders D_signed_orders D_order_sign mB_enumerate mB_len mB_range
  have G_term : FnOk P w K mg base CX0 1 fT fdT ["rows", "order"] (spV rInt wTm) := ok_term D_term c_PRIME mB_zip
  refine D.F.ok sc_det_by_orders (fun vs H Q E h => ?_) (fun cdv A outer s H vs Q E hr h => ?_)
  · obtain ⟨F, Pp, b, _, _, ⟨n, u, rfl, _⟩, ⟨v, rfl, _⟩, _⟩ := h
    rfl
  · obtain ⟨F, Pp, b, eF, _, ⟨rows, n, rfl, hn, hsq, rfl⟩, ⟨v, rfl, hv⟩, q⟩ := h
    have hl := hsq.1
    refine ⟨_, (pss_cons (ps_expr (pe_call G_check_square (hr.mono (by decide)) (by rfl) D_check_square.g D_check_square.F.kp D_check_square.b .nil pass0 (pa_cons (pv 0) pa_nil)))
  (pss_one (ps_ret (pe_op op_mod (pe_callB (r := rSum K) (cr_sum rfl) (by rfl) mB_sum (by decide +kernel) (pa_cons (pe_lc (own := [("order", 1), ("sign", 2)]) (g := gTup K 2 (gCons (gName 1) (gCons (gName 2) gNil))) rfl sc_det_by_orders.nd (pi_listK (K := K) (pe_call G_signed_orders (hr.mono (by decide)) (by rfl) D_signed_orders.g D_signed_orders.F.kp D_signed_orders.b .nil pass0 (pa_cons (pe_callB (r := rLenQ K) call_len_seq (by rfl) mB_len (by decide +kernel) (pa_cons (pv 0) pa_nil)) pa_nil))) (blkOk_by (own := [("order", 1), ("sign", 2)]) (N := ["rows", "order", "sign"]) (sc := defScope s_det_by_orders) (by decide +kernel)) (fun _ _ _ _ _ => (pg_tupK (K := K) (by rfl) (pgs_cons (pg_name (i := 1) sc_det_by_orders.nd rfl (by first | exact Or.inl rfl | exact Or.inr rfl)) (pgs_cons (pg_name (i := 2) sc_det_by_orders.nd rfl (by first | exact Or.inl rfl | exact Or.inr rfl)) pgs_nil)))) (fun _ _ _ _ _ => pts_nil) (fun _ _ _ _ _ => (pe_op op_mul (pv 2) (pe_call G_term (hr.mono (by decide)) (by rfl) D_term.g D_term.F.kp D_term.b .nil pass0 (pa_cons (pv 0) (pa_cons (pv 1) pa_nil)))))) pa_nil)) (pe_glob (v := .int 97) rfl c_PRIME ⟨_, rfl⟩))))), ?_⟩
    refine w_drop (Wd.start eF) (er_call (s := rNon) (b := ()) (ea1 (er_var rfl hv)) mono1 ⟨rows, n, rfl, hn, hsq⟩) fun H1 w1 s1 => ?_
    refine v_retI (n := Dt n rows % 97) w1 (er_is (er_I (er_sum (ns := (sgs n).map fun p => p.2 * tmF rows p.1) (En.er (en_is (en_lc (s := rInt) (fun _ => true) (fun p => p.2 * tmF rows p.1) (src_list (En.er (en_call (s := rOS) (ea1 (er_lenL (er_var rfl hv))) mono1 ⟨n, by rw [hl], hn, rfl⟩))) tgt_p ?_ (fun p hp G σ2 eG hS => ?_)) ?_))) er_int (by decide)) sum_det) fun H5 e5 => q _ H5 e5 rfl
    · show ((ords n).map _).length < _
      rw [List.length_map]
      exact Nat.lt_of_le_of_lt (ord_small hn hn) (by decide)
    · obtain ⟨x, y, hx, hy, rfl⟩ := hS
      cases (show y = V.int p.2 from hy)
      obtain ⟨o, ho, rfl⟩ := List.mem_map.mp hp
      refine ⟨rfl, fun H1 _ Q q => q H1 (Ex.refl _), fun _ => er_I (er_vi rfl) (er_call (s := rInt) (ea2 (er_var rfl (rRows.mono eG hv)) (er_var rfl hx)) mono2 ⟨rows, o, n, rfl, hn, hsq, mem_ords.mp ho, rfl⟩) (Or.inl ?_)⟩
      show -(2 ^ 64) < sg o ∧ sg o < 2 ^ 64
      unfold sg
      omega
    · rw [List.filter_eq_self.mpr fun _ _ => rfl]
theorem ok_cleared {f fI : Addr} {fd fdI : FuncData} (D : DefAt K mg "cleared" s_cleared ["rows", "pivot"] f fd) (D_inverse : DefAt K mg "inverse" s_inverse ["number"] fI fdI) (c_PRIME : mg "PRIME" = some (.int 97 t)) (mB_zip : mg "zip" = none) (mB_range : mg "range" = none) : FnOk P w K mg base CX0 2 f fd ["rows", "pivot"] (spV rRows wClr) := by
  have G_inverse : FnOk P w K mg base CX0 1 fI fdI ["number"] (spV rInt wInv) := ok_inverse0 D_inverse c_PRIME mB_range
  refine D.F.ok sc_cleared (fun vs H Q E h => ?_) (fun cdv A outer s H vs Q E hr h => ?_)
  · obtain ⟨F, Pp, b, _, _, ⟨n, u, _, rfl, _⟩, ⟨v, z, rfl, _⟩, _⟩ := h
    rfl
  · obtain ⟨F, Pp, b, eF, _, ⟨rows, pivot, n, rfl, hrl, hn, hpl, hrs, hnz, rfl⟩, ⟨v, u, rfl, hv, hu⟩, q⟩ := h
    refine ⟨_, (pss_cons (ps_set (i := 2) sc_cleared.nd rfl (by first | exact Or.inl rfl | exact Or.inr rfl) (pe_call G_inverse (hr.mono (by decide)) (by rfl) D_inverse.g D_inverse.F.kp D_inverse.b .nil pass0 (pa_cons (pe_ix (r := rIxL K) ix_list (pv 1) pe_int (fun _ _ => rfl)) pa_nil)))
  (pss_one (ps_ret (pe_lc (own := [("row", 3)]) (g := gName 3) rfl sc_cleared.nd (pi_listK (K := K) (pv 0)) (blkOk_by (own := [("row", 3)]) (N := ["rows", "pivot", "factor", "row", "a", "b"]) (sc := defScope s_cleared) (by decide +kernel)) (fun _ _ _ _ _ => (pg_name (i := 3) sc_cleared.nd rfl (by first | exact Or.inl rfl | exact Or.inr rfl))) (fun _ _ _ _ _ => pts_nil) (fun _ _ _ _ _ => (pe_lc (own := [("a", 4), ("b", 5)]) (g := gTup K 2 (gCons (gName 4) (gCons (gName 5) gNil))) rfl sc_cleared.nd (pi_zipK (K := K) (by rfl) mB_zip (pa_cons (pe_slice (r := rSlL K) sl_list (pv 3) (po_some pe_int) po_none) (pa_cons (pe_slice (r := rSlL K) sl_list (pv 1) (po_some pe_int) po_none) pa_nil))) (blkOk_by (own := [("a", 4), ("b", 5)]) (N := ["rows", "pivot", "factor", "row", "a", "b"]) (sc := sc_clr) (by decide +kernel)) (fun _ _ _ _ _ => (pg_tupK (K := K) (by rfl) (pgs_cons (pg_name (i := 4) sc_cleared.nd rfl (by first | exact Or.inl rfl | exact Or.inr rfl)) (pgs_cons (pg_name (i := 5) sc_cleared.nd rfl (by first | exact Or.inl rfl | exact Or.inr rfl)) pgs_nil)))) (fun _ _ _ _ _ => pts_nil) (fun _ _ _ _ _ => (pe_op op_mod (pe_op op_sub (pv 4) (pe_op op_mul (pe_op op_mul (pe_ix (r := rIxL K) ix_list (pv 3) pe_int (fun _ _ => rfl)) (pv 2)) (pv 5))) (pe_glob (v := .int 97) rfl c_PRIME ⟨_, rfl⟩))))))))), ?_⟩
    refine w_asgI (n := invF (vec pivot 0)) (Wd.start eF) (er_call (s := rInt) (ea1 (er_ixL (er_var rfl hu) er_int (atI_vec (j := 0) (by omega)))) mono1 ⟨_, rfl, hnz, rfl⟩) fun H1 w1 s1 => ?_
    refine v_ret w1 (En.er (en_is (en_lc (s := rLst rInt) (fun _ => true) (clrF pivot) (src_list (er_var rfl hv)) tgt_n (by omega) (fun r hr G σ2 eG hS => ?_)) ?_)) fun v2 H2 e2 hv2 => q v2 H2 e2 hv2
    · obtain ⟨x, hx, rfl⟩ := hS
      obtain ⟨h1, h2⟩ := hrs r hr
      have hu2 := (rLst rInt).mono eG hu
      refine ⟨rfl, fun H1 _ Q q => q H1 (Ex.refl _), fun _ => En.er (en_is (en_lc (s := rInt) (fun _ => true) (fun p => (p.1 - vec r 0 * invF (vec pivot 0) * p.2) % 97) (src_is (src_zip (ea2 (En.er (en_is (en_sl (er_var rfl hx) (eo_part er_int) eo_none) (show cutA r (some ((1 : Nat) : Int)) none = r.drop 1 from cut_from (by omega)))) (En.er (en_is (en_sl (er_var rfl hu2) (eo_part er_int) eo_none) (show cutA pivot (some ((1 : Nat) : Int)) none = pivot.drop 1 from cut_from (by omega)))))) rfl) tgt_p (by rw [List.length_zip, List.length_drop]; omega) (fun p hp G2 σ3 eG2 hS2 => ?_)) ?_)⟩
      · obtain ⟨y, z, hy, hz, rfl⟩ := hS2
        cases (show y = V.int p.1 from hy)
        cases (show z = V.int p.2 from hz)
        have b1 := res_vec h2 0
        have b2 := inv_res hnz
        have b3 : 0 ≤ vec r 0 * invF (vec pivot 0) ∧ vec r 0 * invF (vec pivot 0) ≤ 97 * 97 := ⟨Int.mul_nonneg b1.1 b2.1, Int.mul_le_mul (by omega) (by omega) b2.1 (by decide)⟩
        exact ⟨rfl, fun H1 _ Q q => q H1 (Ex.refl _), fun _ => er_I (er_I0 (er_vi rfl) (er_I (er_I (er_ixL (a := vec r 0) (er_var rfl ((rLst rInt).mono eG2 hx)) er_int (atI_vec (j := 0) (by omega))) (er_vi rfl) (Or.inl (res_cmul b1))) (er_vi rfl) (Or.inl ⟨by omega, by omega⟩))) er_int (by decide)⟩
      · rw [List.filter_eq_self.mpr fun _ _ => rfl]
        rfl
    · rw [List.filter_eq_self.mpr fun _ _ => rfl]
theorem ok_difference_product {f : Addr} {fd : FuncData} (D : DefAt K mg "difference_product" s_difference_product ["numbers"] f fd) (c_PRIME : mg "PRIME" = some (.int 97 t)) (mB_enumerate : mg "enumerate" = none) : FnOk P w K mg base CX0 1 f fd ["numbers"] (spV rInt wDiff) := by
  refine D.F.ok sc_difference_product (fun vs H Q E h => ?_) (fun cdv A outer s H vs Q E hr h => ?_)
  · obtain ⟨F, Pp, b, _, _, ⟨n, rfl, _⟩, ⟨v, rfl, _⟩, _⟩ := h
    rfl
  · obtain ⟨F, Pp, b, eF, _, ⟨xs, rfl, hl, rfl⟩, ⟨v, rfl, hv⟩, q⟩ := h
    refine ⟨_, (pss_cons (ps_set (i := 1) sc_difference_product.nd rfl (by first | exact Or.inl rfl | exact Or.inr rfl) pe_int)
  (pss_cons (ps_for PassesOwn.never rfl (pi_enumK (K := K) (by rfl) mB_enumerate (pa_cons (pv 0) pa_nil)) (pg_tupK (K := K) (by rfl) (pgs_cons (pg_name (i := 2) sc_difference_product.nd rfl (by first | exact Or.inl rfl | exact Or.inr rfl)) (pgs_cons (pg_name (i := 3) sc_difference_product.nd rfl (by first | exact Or.inl rfl | exact Or.inr rfl)) pgs_nil)))
    (pss_one (ps_for PassesOwn.never rfl (pi_listK (K := K) (pe_slice (r := rSlL K) sl_list (pv 0) (po_some (pe_op op_add (pv 2) pe_int)) po_none)) (pg_name (i := 4) sc_difference_product.nd rfl (by first | exact Or.inl rfl | exact Or.inr rfl))
    (pss_one (ps_set (i := 1) sc_difference_product.nd rfl (by first | exact Or.inl rfl | exact Or.inr rfl) (pe_op op_mod (pe_op op_mul (pv 1) (pe_op op_sub (pv 4) (pv 3))) (pe_glob (v := .int 97) rfl c_PRIME ⟨_, rfl⟩)))))))
  (pss_one (ps_ret (pv 1))))), ?_⟩
    refine w_asgI (n := 1) (Wd.start eF) er_int fun H1 w1 s1 => ?_
    refine w_for w1 (src_enum (ea1 (er_var rfl hv))) tgt_p mono_sp (fun pre σ' G' H' => ∃ (A : Int) (x2 x3 x4 : Option V), Ex F G' ∧ A * diffP (xs.drop pre.length) = diffP xs ∧ σ' = [some v, some (.int (A % 97)), x2, x3, x4])
      (fun G2 H2 w2 s2 => ⟨1, none, none, none, s2.fr, by rw [Int.one_mul]; rfl, rfl⟩) (fun Gs pre a post σ' σ2 G' H' G2 H2 has hP s2 w2 eGs hS => ?_) (fun σ' G' H' w2 hP => ?_)
    · obtain ⟨A, x2, x3, x4, eF', hA, rfl⟩ := hP
      obtain ⟨x, y, hx, hy, rfl⟩ := hS
      cases (show x = V.int a.1 from hx)
      cases (show y = V.int a.2 from hy)
      obtain ⟨_, ei⟩ := enum_split has
      obtain ⟨d1, d2, dm, dl⟩ := enum_drop has
      rw [ei]
      have hv2 := (rLst rInt).mono (eF'.trans s2.fr) hv
      have e1 : xs.drop (pre.length + 1) = post.map (·.2) := by
        rw [List.length_append] at d2
        exact d2
      refine v_for w2 (src_list (En.er (en_is (en_sl (er_var rfl hv2) (eo_part (er_I0 (er_vi rfl) er_int)) eo_none) (show cutA xs (some ((pre.length : Int) + 1)) none = post.map (·.2) by rw [show (pre.length : Int) + 1 = ((pre.length + 1 : Nat) : Int) by omega, cut_from (by omega), e1])))) tgt_n mono_sn
        (fun pre2 σ' Ga Ha => ∃ x4 : Option V, Ex G2 Ga ∧ σ' = [some v, some (.int ((A * prodZ (pre2.map fun z => z - a.2)) % 97)), some (.int (pre.length : Int)), some (.int a.2), x4])
        (fun Ga Ha wa sa => ⟨x4, sa.fr, by rw [show prodZ (([] : List Int).map fun z => z - a.2) = 1 from rfl, Int.mul_one]; rfl⟩) (fun Gt pre2 b post2 σ' σ2 Ga Ha Gb Hb has2 hP2 sb wb eGt hS2 => ?_) (fun σ' Ga Ha wa hP2 => ?_)
      · obtain ⟨y4, ea, rfl⟩ := hP2
        obtain ⟨z, hz, rfl⟩ := hS2
        cases (show z = V.int b from hz)
        have hm : 0 ≤ A * prodZ (pre2.map fun z => z - a.2) % 97 ∧ A * prodZ (pre2.map fun z => z - a.2) % 97 < 97 := ⟨Int.emod_nonneg _ (by decide), Int.emod_lt_of_pos _ (by decide)⟩
        refine v_asgI (n := A * prodZ ((pre2 ++ [b]).map fun z => z - a.2) % 97) wb (er_is (er_I (er_I (er_vi rfl) (er_I0 (er_vi rfl) (er_vi rfl)) (Or.inl (res_cmul hm))) er_int (by decide)) ?_) fun Hc wc sc => ⟨_, wc, eGt, some (.int b), ea.trans sb.fr, rfl⟩
        have hp : prodZ ((pre2 ++ [b]).map fun z => z - a.2) = prodZ (pre2.map fun z => z - a.2) * (b - a.2) := by
          have : ∀ l : List Int, prodZ ((l ++ [b]).map fun z => z - a.2) = prodZ (l.map fun z => z - a.2) * (b - a.2) := by
            intro l
            induction l with
            | nil =>
              show (b - a.2) * 1 = 1 * (b - a.2)
              rw [Int.mul_comm]
            | cons c l ih =>
              show (c - a.2) * prodZ ((l ++ [b]).map fun z => z - a.2) = (c - a.2) * prodZ (l.map fun z => z - a.2) * (b - a.2)
              rw [ih, Int.mul_assoc]
          exact this pre2
        rw [hp, ← Int.mul_assoc, Int.mul_emod (A * prodZ (pre2.map fun z => z - a.2) % 97), Int.emod_emod_of_dvd _ (show (97 : Int) ∣ 97 by decide), ← Int.mul_emod]
      · obtain ⟨y4, ea, rfl⟩ := hP2
        refine ⟨Ga, wa, eGs.trans ea, A * prodZ ((post.map (·.2)).map fun z => z - a.2), _, _, _, (eF'.trans s2.fr).trans ea, ?_, rfl⟩
        rw [d2, ← hA, d1, Int.mul_assoc]
        rfl
    · obtain ⟨A, x2, x3, x4, eF', hA, rfl⟩ := hP
      rw [List.length_zip, rng_len, Nat.min_self, List.drop_length] at hA
      have hA : A * 1 = diffP xs := hA
      rw [Int.mul_one] at hA
      subst hA
      exact v_retI w2 (er_vi rfl) fun H5 e5 => q _ H5 e5 rfl
end
end K03
set_option Elab.async false
set_option linter.all false
set_option maxRecDepth 100000
set_option maxHeartbeats 8000000
namespace K03
open PySem PySem.Spec PyProof.Rows L2 Evl DL K00
abbrev sc_det : Scope := { kind := .function, names := [(Str.ofString ".0", .local), (Str.ofString "row", .local)], isGenerator := false, isCoroutine := false }
theorem mod_res {r : Row} : Res (mod97 r) := res_map _ _
theorem cg_mod {n : Nat} : ∀ rows : List Row, (∀ r ∈ rows, r.length = n) → Cg n (rows.map mod97) rows
  | [], _ => .nil
  | r :: rows, h => .cons (fun j hj => mod_cong (h r List.mem_cons_self) j hj) (cg_mod rows fun s hs => h s (List.mem_cons_of_mem _ hs))
theorem det_nil : Dt 0 [] = 1 := by decide
theorem pm_is {k : Nat} : pm k = if ((k : Int) % 2 = 0) then 1 else -1 := by
  unfold pm
  split <;> split <;> omega
theorem mod_of_z {x y : Int} (h : LA97.Z (x - y)) (h0 : 0 ≤ x) (h1 : x < 97) : x = y % 97 := by
  rw [← emod_eq h]
  exact (Int.emod_eq_of_lt h0 h1).symm
section
variable {P : Program} {w : World} {K : PySem.W.Frag} {mg : Str → Option Value} {base : Heap} {t : Tok}
theorem ok_determinant {f fQ fC fI : Addr} {fd fdQ fdC fdI : FuncData} (D : DefAt K mg "determinant" s_determinant ["rows"] f fd) (D_check_square : DefAt K mg "check_square" s_check_square ["rows"] fQ fdQ) (D_cleared : DefAt K mg "cleared" s_cleared ["rows", "pivot"] fC fdC) (D_inverse : DefAt K mg "inverse" s_inverse ["number"] fI fdI)
    (c_PRIME : mg "PRIME" = some (.int 97 t)) (mB_zip : mg "zip" = none) (mB_any : mg "any" = none) (mB_len : mg "len" = none) (mB_enumerate : mg "enumerate" = none) (mB_range : mg "range" = none) : FnOk P w K mg base CX0 3 f fd ["rows"] (spV rInt wDet) := by
  have G_check_square : FnOk P w K mg base CX0 1 fQ fdQ ["rows"] (spV rNon wSq) := ok_check_square D_check_square mB_any mB_len
  have G_cleared : FnOk P w K mg base CX0 2 fC fdC ["rows", "pivot"] (spV rRows wClr) := ok_cleared D_cleared D_inverse c_PRIME mB_zip mB_range
  refine D.F.ok sc_determinant (fun vs H Q E h => ?_) (fun cdv A outer s H vs Q E hr h => ?_)
  · obtain ⟨F, Pp, b, _, _, ⟨n, u, rfl, _⟩, ⟨v, rfl, _⟩, _⟩ := h
    rfl
  · obtain ⟨F, Pp, b, eF, _, ⟨rows, n, rfl, hn, hsq, rfl⟩, ⟨v, rfl, hv⟩, q⟩ := h
    obtain ⟨hl, hw⟩ := id hsq
    refine ⟨_, (pss_cons (ps_expr (pe_call G_check_square (hr.mono (by decide)) (by rfl) D_check_square.g D_check_square.F.kp D_check_square.b .nil pass0 (pa_cons (pv 0) pa_nil)))
  (pss_cons (ps_setLc (i := 1) (own := [("row", 6)]) (g := gName 6) rfl sc_determinant.nd rfl rfl (sw_true rfl rfl rfl (by decide +kernel)) (pi_listK (K := K) (pv 0)) (blkOk_by (own := [("row", 6)]) (N := ["rows", "rest", "result", "filled", "at", "pivot", "row", "number", "k"]) (sc := defScope s_determinant) (by decide +kernel)) (fun _ _ _ _ _ => (pg_name (i := 6) sc_determinant.nd rfl (by first | exact Or.inl rfl | exact Or.inr rfl))) (fun _ _ _ _ _ => pts_nil) (fun _ _ _ _ _ => (pe_lc (own := [("number", 7)]) (g := gName 7) rfl sc_determinant.nd (pi_listK (K := K) (pv 6)) (blkOk_by (own := [("number", 7)]) (N := ["rows", "rest", "result", "filled", "at", "pivot", "row", "number", "k"]) (sc := sc_det) (by decide +kernel)) (fun _ _ _ _ _ => (pg_name (i := 7) sc_determinant.nd rfl (by first | exact Or.inl rfl | exact Or.inr rfl))) (fun _ _ _ _ _ => pts_nil) (fun _ _ _ _ _ => (pe_op op_mod (pv 7) (pe_glob (v := .int 97) rfl c_PRIME ⟨_, rfl⟩))))))
  (pss_cons (ps_set (i := 2) sc_determinant.nd rfl (by first | exact Or.inl rfl | exact Or.inr rfl) pe_int)
  (pss_cons (ps_while PassesOwn.never (pt_tru (K := K) (pv 1) (by intro _; rfl))
    (pss_cons (ps_setLc (i := 3) (own := [("k", 8), ("row", 6)]) (g := gTup K 2 (gCons (gName 8) (gCons (gName 6) gNil))) rfl sc_determinant.nd rfl rfl (sw_true rfl rfl rfl (by decide +kernel)) (pi_enumK (K := K) (by rfl) mB_enumerate (pa_cons (pv 1) pa_nil)) (blkOk_by (own := [("k", 8), ("row", 6)]) (N := ["rows", "rest", "result", "filled", "at", "pivot", "row", "number", "k"]) (sc := defScope s_determinant) (by decide +kernel)) (fun _ _ _ _ _ => (pg_tupK (K := K) (by rfl) (pgs_cons (pg_name (i := 8) sc_determinant.nd rfl (by first | exact Or.inl rfl | exact Or.inr rfl)) (pgs_cons (pg_name (i := 6) sc_determinant.nd rfl (by first | exact Or.inl rfl | exact Or.inr rfl)) pgs_nil)))) (fun _ _ _ _ _ => pts_one (pt_cmpR op_ne (pe_ix (r := rIxL K) ix_list (pv 6) pe_int (fun _ _ => rfl)) pe_int (nomark _))) (fun _ _ _ _ _ => (pv 8)))
  (pss_cons (ps_if (pt_not (pt_tru (K := K) (pv 3) (by intro _; rfl)))
    (pss_one (ps_ret pe_int))
    pss_nil)
  (pss_cons (ps_set (i := 4) sc_determinant.nd rfl (by first | exact Or.inl rfl | exact Or.inr rfl) (pe_ix (r := rIxL K) ix_list (pv 3) pe_int (fun _ _ => rfl)))
  (pss_cons (ps_set (i := 5) sc_determinant.nd rfl (by first | exact Or.inl rfl | exact Or.inr rfl) (pe_ix (r := rIxL K) ix_list (pv 1) (pv 4) (fun _ _ => rfl)))
  (pss_cons (ps_set (i := 2) sc_determinant.nd rfl (by first | exact Or.inl rfl | exact Or.inr rfl) (pe_op op_mod (pe_op op_mul (pe_op op_mul (pv 2) (pe_ix (r := rIxL K) ix_list (pv 5) pe_int (fun _ _ => rfl))) (pe_ifExp (pt_cmpR op_eq (pe_op op_mod (pv 4) pe_int) pe_int (nomark _)) pe_int (pe_un un_neg pe_int))) (pe_glob (v := .int 97) rfl c_PRIME ⟨_, rfl⟩)))
  (pss_one (ps_set (i := 1) sc_determinant.nd rfl (by first | exact Or.inl rfl | exact Or.inr rfl) (pe_call G_cleared (hr.mono (by decide)) (by rfl) D_cleared.g D_cleared.F.kp D_cleared.b .nil pass0 (pa_cons (pe_op (r := rCat) op_cat (pe_slice (r := rSlL K) sl_list (pv 1) po_none (po_some (pv 4))) (pe_slice (r := rSlL K) sl_list (pv 1) (po_some (pe_op op_add (pv 4) pe_int)) po_none)) (pa_cons (pv 5) pa_nil)))))))))))
  (pss_one (ps_ret (pv 2))))))), ?_⟩
    refine w_drop (Wd.start eF) (er_call (s := rNon) (b := ()) (ea1 (er_var rfl hv)) mono1 ⟨rows, n, rfl, hn, hsq⟩) fun H1 w1 s1 => ?_
    refine w_asg (r := rRows) (a := rows.map mod97) w1 (En.er (en_is (en_lc (s := rLst rInt) (fun _ => true) mod97 (src_list (er_var rfl hv)) tgt_n (by omega) (fun r hr G σ2 eG hS => ?_)) ?_)) fun v2 G2 H2 w2 s2 hv2 => ?_
    · obtain ⟨x, hx, rfl⟩ := hS
      refine ⟨rfl, fun H1 _ Q q => q H1 (Ex.refl _), fun _ => En.er (en_is (en_lc (s := rInt) (fun _ => true) (fun x => x % 97) (src_list (er_var rfl hx)) tgt_n (by have := hw r hr; omega) (fun a ha G2 σ3 eG2 hS2 => ?_)) ?_)⟩
      · obtain ⟨y, hy, rfl⟩ := hS2
        cases (show y = V.int a from hy)
        exact ⟨rfl, fun H1 _ Q q => q H1 (Ex.refl _), fun _ => er_I (er_vi rfl) er_int (by decide)⟩
      · rw [List.filter_eq_self.mpr fun _ _ => rfl]
        rfl
    · rw [List.filter_eq_self.mpr fun _ _ => rfl]
    refine w_asgI (n := 1) w2 er_int fun H3 w3 s3 => ?_
    refine w_while w3 (fun m σ' G' H' => ∃ (rest : List Row) (res : Int) (v1 : V) (x3 x4 x5 : Option V), rRows.rel G' v1 rest ∧ m = rest.length ∧ rest.length ≤ 6 ∧ (∀ r ∈ rest, r.length = rest.length ∧ Res r) ∧ (0 ≤ res ∧ res < 97) ∧ LA97.Z (res * Dt rest.length rest - Dt n rows) ∧ σ' = [some v, some v1, some (.int res), x3, x4, x5, none, none, none]) n
      ⟨rows.map mod97, 1, v2, none, none, none, hv2, by rw [List.length_map, hl], by rw [List.length_map, hl]; exact hn, fun r hr => ?_, by decide, ?_, rfl⟩ (fun m σ' G' H' w4 e4 hP => ?_)
    · obtain ⟨r0, hr0, rfl⟩ := List.mem_map.mp hr
      exact ⟨by rw [List.length_map, mod_len, hw _ hr0, hl], mod_res⟩
    · rw [Int.one_mul, List.length_map, hl]
      exact det_cong (cg_mod rows hw)
    obtain ⟨rest, res, v1, x3, x4, x5, hv1, rfl, hrl, hrs, hres, hz, rfl⟩ := hP
    refine ⟨!rest.isEmpty, et_lst (er_var rfl hv1), fun hb H5 w5 s5 => ?_, fun hb H5 w5 s5 => ?_⟩
    · have hne : rest ≠ [] := fun e => by
        rw [e] at hb
        cases hb
      have hpos : 0 < rest.length := List.length_pos_iff.mpr hne
      -- filled
      refine w_asg (r := rLst rInt) (a := ((List.zip (rng 0 rest.length) rest).filter fun a => !decide (vec a.2 0 = 0)).map (·.1)) w5 (En.er (en_lc (s := rInt) (fun a => !decide (vec a.2 0 = 0)) (·.1) (src_enum (ea1 (er_var rfl hv1))) tgt_p (by rw [List.length_zip, rng_len]; omega) (fun a ha G σ2 eG hS => ?_))) fun v6 G6 H6 w6 s6 hv6 => ?_
      · obtain ⟨x, y, hx, hy, rfl⟩ := hS
        cases (show x = V.int a.1 from hx)
        have hm := hrs _ (List.of_mem_zip ha).2
        exact ⟨rfl, et_test (er_neI (er_ixL (a := vec a.2 0) (er_var rfl hy) er_int (atI_vec (j := 0) (by omega))) er_int), fun _ => er_vi rfl⟩
      cases hL : ((List.zip (rng 0 rest.length) rest).filter fun a => !decide (vec a.2 0 = 0)).map (·.1) with
      | nil =>
        rw [hL] at hv6
        refine w_when w6 (et_not (et_lst (er_var rfl hv6))) (fun _ H7 w7 s7 => ?_) (fun hb => by cases hb)
        refine v_retI (n := 0) w7 er_int fun H8 e8 => q _ H8 e8 ?_
        have hall : ∀ r ∈ rest, LA97.Z (vec r 0) := fun r hr => by
          have hnil := List.map_eq_nil_iff.mp hL
          obtain ⟨i, hi, rfl⟩ := List.mem_iff_getElem.mp hr
          have hmem : ((0 : Int) + (i : Int), rest[i]) ∈ List.zip (rng 0 rest.length) rest := by
            refine List.mem_of_getElem? (i := i) ?_
            rw [List.getElem?_zip_eq_some]
            exact ⟨rng_get hi, List.getElem?_eq_getElem hi⟩
          have := List.filter_eq_nil_iff.mp hnil _ hmem
          have h0 : vec rest[i] 0 = 0 := by simpa using this
          rw [h0]
          exact LA97.Z.zero
        have hz2 := (det_zero (n := rest.length) rfl hpos hall).mulL res
        have hz3 := hz2.sub hz
        have e : ∀ x y : Int, x - (x - y) = y := fun x y => by omega
        rw [e] at hz3
        show V.int 0 = V.int (Dt n rows % 97)
        rw [Int.emod_eq_zero_of_dvd hz3]
      | cons at' tl =>
        rw [hL] at hv6
        have hat : at' ∈ ((List.zip (rng 0 rest.length) rest).filter fun a => !decide (vec a.2 0 = 0)).map (·.1) := by
          rw [hL]
          exact List.mem_cons_self
        obtain ⟨a, ha, rfl⟩ := List.mem_map.mp hat
        rw [List.mem_filter] at ha
        obtain ⟨ha1, ha2⟩ := ha
        have hnz0 : vec a.2 0 ≠ 0 := by simpa using ha2
        obtain ⟨i, hi, hia⟩ := List.mem_iff_getElem.mp ha1
        rw [List.length_zip, rng_len, Nat.min_self] at hi
        have hia2 : (List.zip (rng 0 rest.length) rest)[i]? = some a := by
          rw [← hia]
          exact List.getElem?_eq_getElem _
        rw [List.getElem?_zip_eq_some, rng_get hi] at hia2
        obtain ⟨hi1, hi2⟩ := hia2
        have ea1' : a.1 = (i : Int) := by
          have := Option.some.inj hi1
          omega
        have hra := hrs _ (List.of_mem_zip ha1).2
        rw [ea1'] at hv6
        refine w_no w6 (et_not (et_lst (er_var rfl hv6))) rfl fun H7 w7 s7 => ?_
        refine w_asgI (n := (i : Int)) w7 (er_ixL (er_var rfl hv6) er_int (atI_nat (j := 0) rfl)) fun H8 w8 s8 => ?_
        have hv16 := rRows.mono s6.fr hv1
        refine w_asg (r := rLst rInt) (a := a.2) w8 (er_ixL (er_var rfl hv16) (er_vi rfl) (atI_nat hi2)) fun v9 G9 H9 w9 s9 hv9 => ?_
        have hv19 := rRows.mono s9.fr hv16
        have hp0 := res_vec hra.2 0
        have hnz : ¬ LA97.Z (vec a.2 0) := not_z_res hp0.1 hp0.2 hnz0
        refine w_asgI (n := (res * vec a.2 0 * pm i) % 97) w9 (er_I (er_I (er_I (er_vi rfl) (er_ixL (a := vec a.2 0) (er_var rfl hv9) er_int (atI_vec (j := 0) (by omega))) (Or.inl (res_cmul hres))) (er_if (b := decide ((i : Int) % 2 = 0)) (et_test (er_eqI (er_I (er_vi rfl) er_int (by decide)) er_int)) (fun hb => er_is er_int (by rw [pm_is, if_pos (of_decide_eq_true hb)])) (fun hb => er_is (er_neg er_int) (by rw [pm_is, if_neg (of_decide_eq_false hb)]))) (Or.inr (by rw [pm_is]; split <;> decide))) er_int (by decide)) fun H10 w10 s10 => ?_
        have esplit : rest = rest.take i ++ a.2 :: rest.drop (i + 1) := by
          have : rest[i] = a.2 := by
            rw [List.getElem?_eq_getElem hi] at hi2
            exact Option.some.inj hi2
          rw [← this, ← List.drop_eq_getElem_cons hi, List.take_append_drop]
        have hoth : ∀ r ∈ rest.take i ++ rest.drop (i + 1), r ∈ rest := fun r hr => by
          rcases List.mem_append.mp hr with z | z
          · exact List.mem_of_mem_take z
          · exact List.mem_of_mem_drop z
        have hlo : (rest.take i ++ rest.drop (i + 1)).length = rest.length - 1 := by
          rw [List.length_append, List.length_take, List.length_drop]
          omega
        refine v_asg (r := rRows) (a := (rest.take i ++ rest.drop (i + 1)).map (clrF a.2)) w10 (er_call (s := rRows) (ea2 (En.er (en_catL (En.er (en_is (en_sl (er_var rfl hv19) eo_none (eo_part (er_vi rfl))) (show cutA rest none (some (i : Int)) = rest.take i by unfold cutA; rw [HT.sIx_nat, HT.sIx_none, Nat.sub_zero, List.drop_zero, Nat.min_eq_left (by omega)]))) (En.er (en_is (en_sl (er_var rfl hv19) (eo_part (er_I0 (er_vi rfl) er_int)) eo_none) (show cutA rest (some ((i : Int) + 1)) none = rest.drop (i + 1) by rw [show (i : Int) + 1 = ((i + 1 : Nat) : Int) by omega]; unfold cutA; rw [HT.sIx_nat, HT.sIx_none, Nat.min_eq_left (by omega)]; exact List.take_of_length_le (by rw [List.length_drop]; exact Nat.le_refl _)))) (by rw [← List.length_append, hlo]; omega))) (er_var rfl hv9)) mono2 ⟨_, a.2, rest.length - 1, rfl, by omega, by omega, by omega, fun r hr => ⟨by have := (hrs r (hoth r hr)).1; omega, (hrs r (hoth r hr)).2⟩, hnz, rfl⟩) fun v11 G11 H11 w11 s11 hv11 => ?_
        refine ⟨G11, w11, e4.trans (s6.fr.trans (s9.fr.trans s11.fr)), rest.length - 1, by omega, (rest.take i ++ rest.drop (i + 1)).map (clrF a.2), (res * vec a.2 0 * pm i) % 97, v11, _, _, _, hv11, by rw [List.length_map, hlo], by rw [List.length_map, hlo]; omega, fun r hr => ?_, ⟨Int.emod_nonneg _ (by decide), Int.emod_lt_of_pos _ (by decide)⟩, ?_, rfl⟩
        · obtain ⟨r0, hr0, rfl⟩ := List.mem_map.mp hr
          refine ⟨?_, clr_res⟩
          rw [List.length_map, hlo]
          exact clr_len (by have := (hrs _ (hoth _ hr0)).1; omega) (by omega)
        · rw [List.length_map, hlo]
          have hstep := det_step (n := rest.length - 1) (a := a.2) (p := rest.take i) (q := rest.drop (i + 1)) (g := clrF a.2) (by rw [← esplit]; omega) hnz fun r hr j hj => by
            rw [vec_clr (n := rest.length - 1) (by have := (hrs _ (hoth _ hr)).1; omega) (by omega) hj]
            exact z_mod _
          rw [← esplit, show rest.length - 1 + 1 = rest.length by omega, List.length_take, Nat.min_eq_left (by omega)] at hstep
          generalize Dt (rest.length - 1) ((rest.take i ++ rest.drop (i + 1)).map (clrF a.2)) = Y at hstep ⊢
          generalize Dt rest.length rest = X at hstep hz
          have h1 := (z_mod (res * vec a.2 0 * pm i)).mulR Y
          have h2 := hstep.mulL res
          have e1 : res * vec a.2 0 * pm i * Y = res * (pm i * (vec a.2 0 * Y)) := by
            rw [Int.mul_assoc, Int.mul_assoc, Int.mul_left_comm (vec a.2 0)]
          rw [Int.sub_mul, e1] at h1
          rw [Int.mul_sub] at h2
          have := (h1.sub h2).add hz
          have e2 : ∀ x y z u : Int, x - y - (z - y) + (z - u) = x - u := fun x y z u => by omega
          rw [e2] at this
          exact this
    · have hnil : rest = [] := by
        cases rest with
        | nil => rfl
        | cons r l => cases hb
      subst hnil
      refine v_retI w5 (er_vi rfl) fun H6 e6 => q _ H6 e6 ?_
      show V.int res = V.int (Dt n rows % 97)
      have hz : LA97.Z (res * Dt 0 [] - Dt n rows) := hz
      rw [det_nil, Int.mul_one] at hz
      rw [mod_of_z hz hres.1 hres.2]
end
end K03
set_option Elab.async false
set_option linter.all false
set_option maxRecDepth 100000
set_option maxHeartbeats 8000000
namespace K03
open PySem PySem.Spec PyProof.Rows L2 Evl DL K00
abbrev s_law_rows : Stmt := topS 20
theorem sc_law_rows : FnScope ["script", "count", "rows", "k", "drawn", "row", "number", "j"] ["script", "count"] (defScope s_law_rows) := ⟨rfl, rfl, rfl, by decide +kernel, rfl, by decide +kernel, by decide +kernel⟩
/- 0 script, 1 count, 2 rows, 3 k, 4 drawn, 5 row, 6 number, 7 j -/
abbrev s_law_numbers : Stmt := topS 21
theorem sc_law_numbers : FnScope ["cell", "drawn", "numbers", "number"] ["cell"] (defScope s_law_numbers) := ⟨rfl, rfl, rfl, by decide +kernel, rfl, by decide +kernel, by decide +kernel⟩
/- 0 cell, 1 drawn, 2 numbers, 3 number -/
def msR : List Int := [12, 97, 97, 97, 97, 97, 97, 10 ^ 12]
def msN : List Int := [7, 4, 6, 6, 97, 97, 97, 97, 97, 97, 10 ^ 12]
def wRows (K : PySem.W.Frag) : (Hp → List V → Prop) → List Row → Prop := fun P b => ∃ (ns : List Int) (n : Nat), P = A2 (rFro K) rInt ns (n : Int) ∧ ns.length ≤ 63 ∧ n ≤ 6 ∧ Sq b n
def Nums (xs : List Int) : Prop := xs.length ≤ 6 ∧ ∀ x ∈ xs, -(2 ^ 60) < x ∧ x < 2 ^ 60
def wNums : (Hp → List V → Prop) → List Int → Prop := fun P b => ∃ c : Int, P = A1 rInt c ∧ Nums b
def RSt (v : V) (n : Nat) (p : Addr) (k : Nat) (vd : V) (rs : List Row) : L2.St → Hp → Hp → Prop := fun σ' G' H' => Mu (rLst rInt) rs G' H' p ∧ ∃ (row : Row) (vr : V), (rLst rInt).rel G' vr row ∧ row.length = n ∧ σ' = [some v, some (.int (n : Int)), some (.ref p), some (.int (k : Int)), some vd, some vr, none, none]
section
variable {α : Type} {K : PySem.W.Frag} {σ : L2.St} {F0 H0 G G3 H : Hp} {te tb : TE} {r : Rep α} {a : α} {as : List α} {D : Ends} {i : Nat} {p : Addr}
theorem v_put2 {j : Nat} (w : Wd F0 H0 G H) (w3 : Wd F0 H0 G3 H) (h : Ev1 r te σ G H a) (hi : σ[i]? = some (some (.ref p))) (m : Mu r as G H p) (h0 : H0 p = none) (hj : Er rInt tb σ G3 (j : Int)) (hl : j < as.length)
    (k : ∀ G2 H2, Wd F0 H0 G2 H2 → Stp (some p) G H G2 H2 → Mu r (as.set j a) G2 H2 p → D.nx σ H2) : tAsg te (gSub (tVar i) tb rSetL) D σ H :=
  h _ fun v H2 e2 hv => ⟨.ref p, hi, hj H2 (w3.sub.trans e2) _ fun x H3 e3 hx => by
    obtain ⟨h1, xs, h2, h3⟩ := m
    cases (show x = V.int (j : Int) from hx)
    have e23 := e2.trans e3
    have hG : part G H H3 p = none := part_old h1 h2
    exact ⟨p, xs, (j : Int), j, rfl, rfl, e23 p _ h2, ixN_nat (by rw [h3.len]; exact hl), k (part G H H3) _ ((w.ev e23).put hG h0) (Stp.trans (stp_ev e23).any stp_put)
      ⟨hG, _, upd_same, Al.set (r.mono (part_up e3) hv) j (h3.imp fun _ _ k => r.mono part_ex k)⟩⟩⟩
end
section
variable {P : Program} {w : World} {K : PySem.W.Frag} {mg : Str → Option Value} {base : Heap} {t : Tok}
theorem ok_law_rows {f fC fD : Addr} {fd fdC fdD : FuncData} (D : DefAt K mg "_law_rows" s_law_rows ["script", "count"] f fd) (D_law_cell : DefAt K mg "_law_cell" s_law_cell ["script", "k"] fC fdC) (D_law_draws : DefAt K mg "_law_draws" s_law_draws ["cell", "limits"] fD fdD)
    (mB_len : mg "len" = none) (mB_int : mg "int" = none) (mB_range : mg "range" = none) (mB_list : mg "list" = none) : FnOk P w K mg base CX0 2 f fd ["script", "count"] (spNA (rLst rInt) (wRows K)) := by
  have G_law_cell : FnOk P w K mg base CX0 1 fC fdC ["script", "k"] (spV rInt (wCell K)) := ok_law_cell D_law_cell mB_len
  have G_law_draws : FnOk P w K mg base CX0 1 fD fdD ["cell", "limits"] (spN rInt wDraws) := ok_law_draws D_law_draws mB_int
  refine D.F.ok sc_law_rows (fun vs H Q E h => ?_) (fun cdv A outer s H vs Q E hr h => ?_)
  · obtain ⟨F, Pp, _, _, ⟨b, ns, n, rfl, _⟩, ⟨v, w, rfl, _⟩, _⟩ := h
    rfl
  · obtain ⟨F, Pp, eF, _, ⟨b, ns, n, rfl, hl, hn, _⟩, ⟨v, u, rfl, hv, hu⟩, q⟩ := h
    cases (show u = V.int (n : Int) from hu)
    refine ⟨_, (pss_cons (ps_set (i := 2) sc_law_rows.nd rfl (by first | exact Or.inl rfl | exact Or.inr rfl) (pe_lst pa_nil))
  (pss_cons (ps_for PassesOwn.never rfl (pi_range1 (by rfl) mB_range (pa_cons (pv 1) pa_nil)) (pg_name (i := 3) sc_law_rows.nd rfl (by first | exact Or.inl rfl | exact Or.inr rfl))
    (pss_cons (ps_set (i := 4) sc_law_rows.nd rfl (by first | exact Or.inl rfl | exact Or.inr rfl) (pe_call G_law_draws (hr.mono (by decide)) (by rfl) D_law_draws.g D_law_draws.F.kp D_law_draws.b .nil pass0 (pa_cons (pe_call G_law_cell (hr.mono (by decide)) (by rfl) D_law_cell.g D_law_cell.F.kp D_law_cell.b .nil pass0 (pa_cons (pv 0) (pa_cons (pe_op op_add pe_int (pv 3)) pa_nil))) (pa_cons (pe_lst (pa_cons pe_int (pa_cons pe_int (pa_cons pe_int (pa_cons pe_int (pa_cons pe_int (pa_cons pe_int (pa_cons pe_int (pa_cons (pe_op op_pow pe_int pe_int) pa_nil))))))))) pa_nil))))
  (pss_cons (ps_set (i := 5) sc_law_rows.nd rfl (by first | exact Or.inl rfl | exact Or.inr rfl) (pe_slice (r := rSlL K) sl_list (pv 4) (po_some pe_int) (po_some (pe_op op_add pe_int (pv 1)))))
  (pss_cut (ps_if (pt_cmpR op_eq (pe_ix (r := rIxL K) ix_list (pv 4) pe_int (fun _ _ => rfl)) pe_int (nomark _))
    (pss_one (ps_set (i := 5) sc_law_rows.nd rfl (by first | exact Or.inl rfl | exact Or.inr rfl) (pe_lc (own := [("number", 6)]) (g := gName 6) rfl sc_law_rows.nd (pi_listK (K := K) (pv 5)) (blkOk_by (own := [("number", 6)]) (N := ["script", "count", "rows", "k", "drawn", "row", "number", "j"]) (sc := defScope s_law_rows) (by decide +kernel)) (fun _ _ _ _ _ => (pg_name (i := 6) sc_law_rows.nd rfl (by first | exact Or.inl rfl | exact Or.inr rfl))) (fun _ _ _ _ _ => pts_nil) (fun _ _ _ _ _ => (pe_op op_sub (pe_op op_mod (pv 6) pe_int) pe_int)))))
    pss_nil)
  (pss_cut (ps_if (pt_cmpR op_eq (pe_ix (r := rIxL K) ix_list (pv 4) pe_int (fun _ _ => rfl)) pe_int (nomark _))
    (pss_one (ps_set (i := 5) sc_law_rows.nd rfl (by first | exact Or.inl rfl | exact Or.inr rfl) (pe_lc (own := [("number", 6)]) (g := gName 6) rfl sc_law_rows.nd (pi_listK (K := K) (pv 5)) (blkOk_by (own := [("number", 6)]) (N := ["script", "count", "rows", "k", "drawn", "row", "number", "j"]) (sc := defScope s_law_rows) (by decide +kernel)) (fun _ _ _ _ _ => (pg_name (i := 6) sc_law_rows.nd rfl (by first | exact Or.inl rfl | exact Or.inr rfl))) (fun _ _ _ _ _ => pts_nil) (fun _ _ _ _ _ => (pe_op op_add (pe_op op_mul (pe_op op_sub (pv 6) pe_int) (pe_op op_add (pe_op op_pow pe_int pe_int) (pe_ix (r := rIxL K) ix_list (pv 4) pe_int (fun _ _ => rfl)))) pe_int)))))
    pss_nil)
  (pss_cut (ps_if (pt_cmpR op_eq (pe_ix (r := rIxL K) ix_list (pv 4) pe_int (fun _ _ => rfl)) pe_int (nomark _))
    (pss_one (ps_set (i := 5) sc_law_rows.nd rfl (by first | exact Or.inl rfl | exact Or.inr rfl) (pe_lc (own := [("number", 6)]) (g := gName 6) rfl sc_law_rows.nd (pi_listK (K := K) (pv 5)) (blkOk_by (own := [("number", 6)]) (N := ["script", "count", "rows", "k", "drawn", "row", "number", "j"]) (sc := defScope s_law_rows) (by decide +kernel)) (fun _ _ _ _ _ => (pg_name (i := 6) sc_law_rows.nd rfl (by first | exact Or.inl rfl | exact Or.inr rfl))) (fun _ _ _ _ _ => pts_nil) (fun _ _ _ _ _ => (pe_op op_mul (pv 6) (pe_callTy (r := rInt1) call_int1 (by rfl) mB_int (by decide +kernel) (pa_cons (pe_cmpR op_eq (pv 6) (pe_ix (r := rIxL K) ix_list (pv 5) (pe_op op_mod (pe_ix (r := rIxL K) ix_list (pv 4) pe_int (fun _ _ => rfl)) (pv 1)) (fun _ _ => rfl)) (nomark _)) pa_nil)))))))
    pss_nil)
  (pss_cut (ps_if (pt_cmpR op_eq (pe_ix (r := rIxL K) ix_list (pv 4) pe_int (fun _ _ => rfl)) pe_int (nomark _))
    (pss_one (ps_set (i := 5) sc_law_rows.nd rfl (by first | exact Or.inl rfl | exact Or.inr rfl) (pe_lc (own := [("j", 7)]) (g := gName 7) rfl sc_law_rows.nd (pi_range1 (by rfl) mB_range (pa_cons (pv 1) pa_nil)) (blkOk_by (own := [("j", 7)]) (N := ["script", "count", "rows", "k", "drawn", "row", "number", "j"]) (sc := defScope s_law_rows) (by decide +kernel)) (fun _ _ _ _ _ => (pg_name (i := 7) sc_law_rows.nd rfl (by first | exact Or.inl rfl | exact Or.inr rfl))) (fun _ _ _ _ _ => pts_nil) (fun _ _ _ _ _ => (pe_op op_mul (pe_ix (r := rIxL K) ix_list (pv 5) (pv 7) (fun _ _ => rfl)) (pe_callTy (r := rInt1) call_int1 (by rfl) mB_int (by decide +kernel) (pa_cons (pe_cmpR op_ge (pv 7) (pe_op op_mod (pe_ix (r := rIxL K) ix_list (pv 4) pe_int (fun _ _ => rfl)) (pv 1)) (nomark _)) pa_nil)))))))
    pss_nil)
  (pss_cut (ps_if (PW.pt (pw_and (pt_cmpR op_eq (pe_ix (r := rIxL K) ix_list (pv 4) pe_int (fun _ _ => rfl)) pe_int (nomark _)) (pw_and1 (pt_cmpR op_gt (pv 3) pe_int (nomark _)))))
    (pss_one (ps_set (i := 5) sc_law_rows.nd rfl (by first | exact Or.inl rfl | exact Or.inr rfl) (pe_callTy (r := rLstQ K) call_list_of (by rfl) mB_list (by decide +kernel) (pa_cons (pe_ix (r := rIxL K) ix_list (pv 2) (pe_op op_mod (pe_ix (r := rIxL K) ix_list (pv 4) pe_int (fun _ _ => rfl)) (pv 3)) (fun _ _ => rfl)) pa_nil))))
    pss_nil)
  (pss_cut (ps_if (PW.pt (pw_and (pt_cmpR op_eq (pe_ix (r := rIxL K) ix_list (pv 4) pe_int (fun _ _ => rfl)) pe_int (nomark _)) (pw_and1 (pt_cmpR op_gt (pv 3) pe_int (nomark _)))))
    (pss_one (ps_set (i := 5) sc_law_rows.nd rfl (by first | exact Or.inl rfl | exact Or.inr rfl) (pe_lc (own := [("number", 6)]) (g := gName 6) rfl sc_law_rows.nd (pi_listK (K := K) (pe_ix (r := rIxL K) ix_list (pv 2) (pe_op op_mod (pe_ix (r := rIxL K) ix_list (pv 4) pe_int (fun _ _ => rfl)) (pv 3)) (fun _ _ => rfl))) (blkOk_by (own := [("number", 6)]) (N := ["script", "count", "rows", "k", "drawn", "row", "number", "j"]) (sc := defScope s_law_rows) (by decide +kernel)) (fun _ _ _ _ _ => (pg_name (i := 6) sc_law_rows.nd rfl (by first | exact Or.inl rfl | exact Or.inr rfl))) (fun _ _ _ _ _ => pts_nil) (fun _ _ _ _ _ => (pe_op op_mul (pe_ix (r := rIxL K) ix_list (pv 4) pe_int (fun _ _ => rfl)) (pv 6))))))
    pss_nil)
  (pss_cut (ps_if (PW.pt (pw_and (pt_cmpR op_eq (pe_ix (r := rIxL K) ix_list (pv 4) pe_int (fun _ _ => rfl)) pe_int (nomark _)) (pw_and1 (pt_cmpR op_gt (pv 3) pe_int (nomark _)))))
    (pss_one (ps_set (i := 5) sc_law_rows.nd rfl (by first | exact Or.inl rfl | exact Or.inr rfl) (pe_lc (own := [("j", 7)]) (g := gName 7) rfl sc_law_rows.nd (pi_range1 (by rfl) mB_range (pa_cons (pv 1) pa_nil)) (blkOk_by (own := [("j", 7)]) (N := ["script", "count", "rows", "k", "drawn", "row", "number", "j"]) (sc := defScope s_law_rows) (by decide +kernel)) (fun _ _ _ _ _ => (pg_name (i := 7) sc_law_rows.nd rfl (by first | exact Or.inl rfl | exact Or.inr rfl))) (fun _ _ _ _ _ => pts_nil) (fun _ _ _ _ _ => (pe_op op_add (pe_ix (r := rIxL K) ix_list (pe_ix (r := rIxL K) ix_list (pv 2) (pe_op op_mod (pe_ix (r := rIxL K) ix_list (pv 4) pe_int (fun _ _ => rfl)) (pv 3)) (fun _ _ => rfl)) (pv 7) (fun _ _ => rfl)) (pe_op op_mul (pe_ix (r := rIxL K) ix_list (pv 4) pe_int (fun _ _ => rfl)) (pe_ix (r := rIxL K) ix_list (pe_ix (r := rIxL K) ix_list (pv 2) (pe_op op_mod (pe_ix (r := rIxL K) ix_list (pv 4) pe_int (fun _ _ => rfl)) (pv 3)) (fun _ _ => rfl)) (pv 7) (fun _ _ => rfl))))))))
    pss_nil)
  (pss_one (ps_expr (pe_bm PySem.F.plainAttrs_list PySem.F.slot_list_append PySem.F.type_list_append mt_append (pv 2) (pa_cons (pv 5) pa_nil))))))))))))))
  (pss_one (ps_ret (pv 2))))), ?_⟩
    refine w_asgN (r := rLst rInt) (Wd.start eF) (en_lst eal_nil (Nat.zero_le _)) fun p G1 H1 w1 s1 mp np => ?_
    refine w_for w1 (src_rng1 (ea1 (er_vi rfl)) (by omega)) tgt_n mono_sn
      (fun pre σ' G' H' => ∃ (rs : List Row) (x3 x4 x5 : Option V), rs.length = pre.length ∧ (∀ r ∈ rs, r.length = n) ∧ Mu (rLst rInt) rs G' H' p ∧ σ' = [some v, some (.int (n : Int)), some (.ref p), x3, x4, x5, none, none])
      (fun G2 H2 w2 s2 => ⟨[], none, none, none, rfl, fun r hr => (by cases hr), mp.go s2, rfl⟩) (fun Gs pre a post σ' σ2 G' H' G2 H2 has hP s2 w2 eGs hS => ?_) (fun σ' G' H' w2 hP => ?_)
    · obtain ⟨rs, x3, x4, x5, hlen, hgood, mp2, rfl⟩ := hP
      obtain ⟨z, hz, rfl⟩ := hS
      cases (show z = V.int a from hz)
      have m2 := mp2.go s2
      obtain ⟨ea, hk7, _⟩ := rng_mid has
      have hk : pre.length < n := by omega
      generalize hkd : pre.length = k at *
      have ea : a = (k : Int) := by omega
      subst ea
      have hd : ∀ (i : Nat) (m : Int), msR[i]? = some m → ∃ x, (drawn (cell ns (1 + k)) msR)[i]? = some x ∧ 0 ≤ x ∧ x < m := fun i m h => draws_get msR _ _ i m (by decide) h
      have hdl : (drawn (cell ns (1 + k)) msR).length = 8 := drawn_len
      refine w_asg (r := rLst rInt) (a := drawn (cell ns (1 + k)) msR) w2 (En.er (en_call (s := rInt) (ea2 (er_call (s := rInt) (ea2 (er_var rfl ((rFro K).mono w2.old hv)) (er_is (er_I0 er_int (er_vi rfl)) (show (1 : Int) + (k : Int) = ((1 + k : Nat) : Int) by omega))) mono2 ⟨ns, 1 + k, rfl, hl, by omega, rfl⟩)
        (En.er (en_lst (as := msR) (eal_cons er_int (eal_cons er_int (eal_cons er_int (eal_cons er_int (eal_cons er_int (eal_cons er_int (eal_cons er_int (eal_cons (er_I (C := CPow) er_int er_int ⟨by decide, by decide, by decide⟩) eal_nil)))))))) (by decide)))) mono2 ⟨_, msR, rfl, by decide, by decide, rfl⟩)) fun vd G3 H3 w3 s3 hvd => ?_
      generalize drawn (cell ns (1 + k)) msR = ds at hd hdl hvd
      obtain ⟨e0, he0, _⟩ := hd 0 _ rfl
      obtain ⟨e5, he5, l5, u5⟩ := hd 5 _ rfl
      obtain ⟨e6, he6, l6, u6⟩ := hd 6 _ rfl
      obtain ⟨e7, he7, l7, u7⟩ := hd 7 _ rfl
      have a0 : L2.atI ds (0 : Int) = some e0 := atI_nat (j := 0) he0
      have a5 : L2.atI ds (5 : Int) = some e5 := atI_nat (j := 5) he5
      have a6 : L2.atI ds (6 : Int) = some e6 := atI_nat (j := 6) he6
      have a7 : L2.atI ds (7 : Int) = some e7 := atI_nat (j := 7) he7
      have m3 := m2.go s3
      refine w_asg (r := rLst rInt) (a := (ds.drop 1).take n) w3 (En.er (en_is (en_sl (er_var rfl hvd) (eo_part er_int) (eo_part (er_I0 er_int (er_vi rfl)))) (cut_mid (by omega)))) fun vr G4 H4 w4 s4 hvr => ?_
      have m4 := m3.go s4
      have hvd4 := (rLst rInt).mono s4.fr hvd
      have hlen0 : ((ds.drop 1).take n).length = n := by
        rw [List.length_take, List.length_drop]
        omega
      generalize (ds.drop 1).take n = row at hvr hlen0
      have hmodn : ∀ e : Int, ∃ i : Nat, e % (n : Int) = (i : Int) ∧ i < n := fun e => by
        have h1 := Int.emod_nonneg e (show (n : Int) ≠ 0 by omega)
        have h2 := Int.emod_lt_of_pos e (show (0 : Int) < n by omega)
        obtain ⟨i, hi⟩ := Int.eq_ofNat_of_zero_le h1
        exact ⟨i, hi, by omega⟩
      have look : ∀ e : Int, 0 < k → ∃ i : Nat, e % (k : Int) = (i : Int) ∧ i < k ∧ ∃ r, rs[i]? = some r ∧ r.length = n := fun e hk0 => by
        have h1 := Int.emod_nonneg e (show (k : Int) ≠ 0 by omega)
        have h2 := Int.emod_lt_of_pos e (show (0 : Int) < k by omega)
        obtain ⟨i, hi⟩ := Int.eq_ofNat_of_zero_le h1
        have hik : i < rs.length := by omega
        exact ⟨i, hi, by omega, rs[i], List.getElem?_eq_getElem hik, hgood _ (List.getElem_mem hik)⟩
      -- 1
      refine w_cut (F0 := F) (H0 := H) (G := G4) (RSt v n p k vd rs) ?_ fun σ5 G5 H5 w5 e45 hP5 => ?_
      · refine v_when w4 (et_test (er_eqI (er_ixL (er_var rfl hvd4) er_int a0) er_int)) (fun hb H5 w5 s5 => ?_) (fun hb H5 w5 s5 => ?_)
        · refine v_asg (r := rLst rInt) (a := row.map fun x => x % 5 - 2) w5 (En.er (en_is (en_lc (s := rInt) (fun _ => true) (fun x => x % 5 - 2) (src_list (er_var rfl ((rLst rInt).mono s5.fr hvr))) tgt_n (by omega) (fun x hx G σ2 eG hS => ?_)) ?_)) fun v6 G6 H6 w6 s6 hv6 => ⟨G6, w6, s5.fr.trans s6.fr, (m4.go s5).go s6, _, _, hv6, by rw [List.length_map]; exact hlen0, rfl⟩
          · obtain ⟨y, hy, rfl⟩ := hS
            cases (show y = V.int x from hy)
            exact ⟨rfl, fun H1 _ Q q => q H1 (Ex.refl _), fun _ => er_I0 (er_I (er_vi rfl) er_int (by decide)) er_int⟩
          · rw [List.filter_eq_self.mpr fun _ _ => rfl]
        · exact ⟨_, w5, s5.fr, m4.go s5, _, _, (rLst rInt).mono s5.fr hvr, hlen0, rfl⟩
      clear hlen0 hvr
      obtain ⟨m4, row, vr, hvr, hlen0, rfl⟩ := hP5
      have hvd4 := (rLst rInt).mono e45 hvd4
      -- 2
      refine w_cut (F0 := F) (H0 := H) (G := G5) (RSt v n p k vd rs) ?_ fun σ5 G6 H6 w6 e56 hP5 => ?_
      · refine v_when w5 (et_test (er_eqI (er_ixL (er_var rfl hvd4) er_int a0) er_int)) (fun hb Hb wb sb => ?_) (fun hb Hb wb sb => ?_)
        · have hvdb := (rLst rInt).mono sb.fr hvd4
          refine v_asg (r := rLst rInt) (a := row.map fun x => (x - 48) * (10 ^ 12 + e7) + 1) wb (En.er (en_is (en_lc (s := rInt) (fun _ => true) (fun x => (x - 48) * (10 ^ 12 + e7) + 1) (src_list (er_var rfl ((rLst rInt).mono sb.fr hvr))) tgt_n (by omega) (fun x hx G σ2 eG hS => ?_)) ?_)) fun v6 G6 H6 w6 s6 hv6 => ⟨G6, w6, sb.fr.trans s6.fr, (m4.go sb).go s6, _, _, hv6, by rw [List.length_map]; exact hlen0, rfl⟩
          · obtain ⟨y, hy, rfl⟩ := hS
            cases (show y = V.int x from hy)
            exact ⟨rfl, fun H1 _ Q q => q H1 (Ex.refl _), fun _ => er_I0 (er_I (er_I0 (er_vi rfl) er_int) (er_I0 (er_I (C := CPow) er_int er_int ⟨by decide, by decide, by decide⟩) (er_ixL (er_var rfl ((rLst rInt).mono eG hvdb)) er_int a7)) (Or.inr ⟨by omega, by omega⟩)) er_int⟩
          · rw [List.filter_eq_self.mpr fun _ _ => rfl]
        · exact ⟨_, wb, sb.fr, m4.go sb, _, _, (rLst rInt).mono sb.fr hvr, hlen0, rfl⟩
      clear hlen0 hvr
      obtain ⟨m4, row, vr, hvr, hlen0, rfl⟩ := hP5
      have hvd4 := (rLst rInt).mono e56 hvd4
      -- 3
      refine w_cut (F0 := F) (H0 := H) (G := G6) (RSt v n p k vd rs) ?_ fun σ5 G7 H7 w7 e67 hP5 => ?_
      · refine v_when w6 (et_test (er_eqI (er_ixL (er_var rfl hvd4) er_int a0) er_int)) (fun hb Hb wb sb => ?_) (fun hb Hb wb sb => ?_)
        · have hvdb := (rLst rInt).mono sb.fr hvd4
          have hvrb := (rLst rInt).mono sb.fr hvr
          obtain ⟨i, ei, hi⟩ := hmodn e7
          refine v_asg (r := rLst rInt) (a := row.map fun x => x * (if decide (x = vec row i) then 1 else 0)) wb (En.er (en_is (en_lc (s := rInt) (fun _ => true) (fun x => x * (if decide (x = vec row i) then 1 else 0)) (src_list (er_var rfl hvrb)) tgt_n (by omega) (fun x hx G σ2 eG hS => ?_)) ?_)) fun v6 G6 H6 w6 s6 hv6 => ⟨G6, w6, sb.fr.trans s6.fr, (m4.go sb).go s6, _, _, hv6, by rw [List.length_map]; exact hlen0, rfl⟩
          · obtain ⟨y, hy, rfl⟩ := hS
            cases (show y = V.int x from hy)
            exact ⟨rfl, fun H1 _ Q q => q H1 (Ex.refl _), fun _ => er_I (er_vi rfl) (er_int1B (er_eqI (er_vi rfl) (er_ixL (a := vec row i) (er_var rfl ((rLst rInt).mono eG hvrb)) (er_I (er_ixL (er_var rfl ((rLst rInt).mono eG hvdb)) er_int a7) (er_vi rfl) (by omega)) (by rw [ei]; exact atI_vec (by omega))))) (Or.inr (by split <;> decide))⟩
          · rw [List.filter_eq_self.mpr fun _ _ => rfl]
        · exact ⟨_, wb, sb.fr, m4.go sb, _, _, (rLst rInt).mono sb.fr hvr, hlen0, rfl⟩
      clear hlen0 hvr
      obtain ⟨m4, row, vr, hvr, hlen0, rfl⟩ := hP5
      have hvd4 := (rLst rInt).mono e67 hvd4
      -- 4
      refine w_cut (F0 := F) (H0 := H) (G := G7) (RSt v n p k vd rs) ?_ fun σ5 G8 H8 w8 e78 hP5 => ?_
      · refine v_when w7 (et_test (er_eqI (er_ixL (er_var rfl hvd4) er_int a0) er_int)) (fun hb Hb wb sb => ?_) (fun hb Hb wb sb => ?_)
        · have hvdb := (rLst rInt).mono sb.fr hvd4
          have hvrb := (rLst rInt).mono sb.fr hvr
          refine v_asg (r := rLst rInt) (a := (rng 0 n).map fun j => vec row j.toNat * (if decide (j ≥ e7 % (n : Int)) then 1 else 0)) wb (En.er (en_is (en_lc (s := rInt) (fun _ => true) (fun j => vec row j.toNat * (if decide (j ≥ e7 % (n : Int)) then 1 else 0)) (src_rng1 (ea1 (er_vi rfl)) (by omega)) tgt_n (by rw [rng_len]; omega) (fun x hx G σ2 eG hS => ?_)) ?_)) fun v6 G6 H6 w6 s6 hv6 => ⟨G6, w6, sb.fr.trans s6.fr, (m4.go sb).go s6, _, _, hv6, by rw [List.length_map, rng_len], rfl⟩
          · obtain ⟨y, hy, rfl⟩ := hS
            cases (show y = V.int x from hy)
            have hj := mem_rng.mp hx
            obtain ⟨jn, rfl⟩ := Int.eq_ofNat_of_zero_le hj.1
            exact ⟨rfl, fun H1 _ Q q => q H1 (Ex.refl _), fun _ => er_I (er_ixL (a := vec row jn) (er_var rfl ((rLst rInt).mono eG hvrb)) (er_vi rfl) (atI_vec (by omega))) (er_int1B (er_cmp0 (er_vi rfl) (er_I (er_ixL (er_var rfl ((rLst rInt).mono eG hvdb)) er_int a7) (er_vi rfl) (by omega)))) (Or.inr (by split <;> decide))⟩
          · rw [List.filter_eq_self.mpr fun _ _ => rfl, show ((n : Int)).toNat = n by omega]
        · exact ⟨_, wb, sb.fr, m4.go sb, _, _, (rLst rInt).mono sb.fr hvr, hlen0, rfl⟩
      clear hlen0 hvr
      obtain ⟨m4, row, vr, hvr, hlen0, rfl⟩ := hP5
      have hvd4 := (rLst rInt).mono e78 hvd4
      -- 5
      refine w_cut (F0 := F) (H0 := H) (G := G8) (RSt v n p k vd rs) ?_ fun σ5 G9 H9 w9 e89 hP5 => ?_
      · refine v_when w8 (et_and (b := decide ((k : Int) > 0)) (et_test (er_eqI (er_ixL (er_var rfl hvd4) er_int a0) er_int)) fun _ => et_test (er_cmp0 (er_vi rfl) er_int)) (fun hb Hb wb sb => ?_) (fun hb Hb wb sb => ?_)
        · rw [Bool.and_eq_true] at hb
          have hk0 := of_decide_eq_true hb.2
          obtain ⟨i, ei, hik, r, hri, hrl⟩ := look e7 (by omega)
          have mb := m4.go sb
          obtain ⟨Gc, wc, ec, ry, _⟩ := mb.froz wb np
          exact v_asg1 (r := rLst rInt) (a := r) wb (ev_newB wb wc (en_listL (er_ixL (er_var rfl ry) (er_I (er_ixL (er_var rfl ((rLst rInt).mono (sb.fr.trans ec) hvd4)) er_int a7) (er_vi rfl) (by omega)) (by rw [ei]; exact atI_nat hri)))) fun v8 G8 H8 w8 s8 hv8 => ⟨G8, w8, sb.fr.trans s8.fr, mb.go s8, _, _, hv8, hrl, rfl⟩
        · exact ⟨_, wb, sb.fr, m4.go sb, _, _, (rLst rInt).mono sb.fr hvr, hlen0, rfl⟩
      clear hlen0 hvr
      obtain ⟨m4, row, vr, hvr, hlen0, rfl⟩ := hP5
      have hvd4 := (rLst rInt).mono e89 hvd4
      -- 6
      refine w_cut (F0 := F) (H0 := H) (G := G9) (RSt v n p k vd rs) ?_ fun σ5 G10 H10 w10 e910 hP5 => ?_
      · refine v_when w9 (et_and (b := decide ((k : Int) > 0)) (et_test (er_eqI (er_ixL (er_var rfl hvd4) er_int a0) er_int)) fun _ => et_test (er_cmp0 (er_vi rfl) er_int)) (fun hb Hb wb sb => ?_) (fun hb Hb wb sb => ?_)
        · rw [Bool.and_eq_true] at hb
          have hk0 := of_decide_eq_true hb.2
          obtain ⟨i, ei, hik, r, hri, hrl⟩ := look e7 (by omega)
          have mb := m4.go sb
          obtain ⟨Gc, wc, ec, ry, _⟩ := mb.froz wb np
          have hvdc := (rLst rInt).mono (sb.fr.trans ec) hvd4
          refine v_asg1 (r := rLst rInt) (a := r.map fun x => e6 * x) wb (ev_newB wb wc (en_is (en_lc (s := rInt) (fun _ => true) (fun x => e6 * x) (src_list (er_ixL (a := r) (er_var rfl ry) (er_I (er_ixL (er_var rfl hvdc) er_int a7) (er_vi rfl) (by omega)) (by rw [ei]; exact atI_nat hri))) tgt_n (by omega) (fun x hx G σ2 eG hS => ?_)) ?_)) fun v8 G8 H8 w8 s8 hv8 => ⟨G8, w8, sb.fr.trans s8.fr, mb.go s8, _, _, hv8, by rw [List.length_map]; exact hrl, rfl⟩
          · obtain ⟨y, hy, rfl⟩ := hS
            cases (show y = V.int x from hy)
            exact ⟨rfl, fun H1 _ Q q => q H1 (Ex.refl _), fun _ => er_I (er_ixL (er_var rfl ((rLst rInt).mono eG hvdc)) er_int a6) (er_vi rfl) (Or.inl (res_cmul ⟨l6, u6⟩))⟩
          · rw [List.filter_eq_self.mpr fun _ _ => rfl]
        · exact ⟨_, wb, sb.fr, m4.go sb, _, _, (rLst rInt).mono sb.fr hvr, hlen0, rfl⟩
      clear hlen0 hvr
      obtain ⟨m4, row, vr, hvr, hlen0, rfl⟩ := hP5
      have hvd4 := (rLst rInt).mono e910 hvd4
      -- 7
      refine w_cut (F0 := F) (H0 := H) (G := G10) (RSt v n p k vd rs) ?_ fun σ5 G11 H11 w11 e1011 hP5 => ?_
      · refine v_when w10 (et_and (b := decide ((k : Int) > 1)) (et_test (er_eqI (er_ixL (er_var rfl hvd4) er_int a0) er_int)) fun _ => et_test (er_cmp0 (er_vi rfl) er_int)) (fun hb Hb wb sb => ?_) (fun hb Hb wb sb => ?_)
        · rw [Bool.and_eq_true] at hb
          have hk0 := of_decide_eq_true hb.2
          obtain ⟨i, ei, hik, r, hri, hrl⟩ := look e7 (by omega)
          obtain ⟨i4, ei4, hik4, r4, hri4, hrl4⟩ := look e5 (by omega)
          have mb := m4.go sb
          obtain ⟨Gc, wc, ec, ry, _⟩ := mb.froz wb np
          have hvdc := (rLst rInt).mono (sb.fr.trans ec) hvd4
          refine v_asg1 (r := rLst rInt) (a := (rng 0 n).map fun j => vec r j.toNat + e6 * vec r4 j.toNat) wb (ev_newB wb wc (en_is (en_lc (s := rInt) (fun _ => true) (fun j => vec r j.toNat + e6 * vec r4 j.toNat) (src_rng1 (ea1 (er_vi rfl)) (by omega)) tgt_n (by rw [rng_len]; omega) (fun x hx G σ2 eG hS => ?_)) ?_)) fun v8 G8 H8 w8 s8 hv8 => ⟨G8, w8, sb.fr.trans s8.fr, mb.go s8, _, _, hv8, by rw [List.length_map, rng_len], rfl⟩
          · obtain ⟨y, hy, rfl⟩ := hS
            cases (show y = V.int x from hy)
            have hj := mem_rng.mp hx
            obtain ⟨jn, rfl⟩ := Int.eq_ofNat_of_zero_le hj.1
            have hjn : jn < n := by omega
            have rd := (rLst rInt).mono eG hvdc
            have rr := rRows.mono eG ry
            refine ⟨rfl, fun H1 _ Q q => q H1 (Ex.refl _), fun _ => er_I0 (er_ixL (a := vec r jn) (er_ixL (a := r) (er_var rfl rr) (er_I (er_ixL (er_var rfl rd) er_int a7) (er_vi rfl) (by omega)) (by rw [ei]; exact atI_nat hri)) (er_vi rfl) (atI_vec (by omega))) (er_I (er_ixL (er_var rfl rd) er_int a6) (er_ixL (a := vec r4 jn) (er_ixL (a := r4) (er_var rfl rr) (er_I (er_ixL (er_var rfl rd) er_int a5) (er_vi rfl) (by omega)) (by rw [ei4]; exact atI_nat hri4)) (er_vi rfl) (atI_vec (by omega))) (Or.inl (res_cmul ⟨l6, u6⟩)))⟩
          · rw [List.filter_eq_self.mpr fun _ _ => rfl, show ((n : Int)).toNat = n by omega]
        · exact ⟨_, wb, sb.fr, m4.go sb, _, _, (rLst rInt).mono sb.fr hvr, hlen0, rfl⟩
      clear hlen0 hvr
      obtain ⟨m4, row, vr, hvr, hlen0, rfl⟩ := hP5
      refine v_app w11 rfl m4 np (by omega) (er_var rfl hvr) fun G12 H12 w12 s12 m12 => ?_
      refine ⟨G12, w12, eGs.trans (s3.fr.trans (s4.fr.trans (e45.trans (e56.trans (e67.trans (e78.trans (e89.trans (e910.trans (e1011.trans s12.fr))))))))), rs ++ [row], _, _, _, ?_, ?_, m12, rfl⟩
      · rw [List.length_append, List.length_append, hkd, hlen]
        rfl
      · intro r hr
        rcases List.mem_append.mp hr with z | z
        · exact hgood r z
        · rw [List.mem_singleton] at z
          rw [z]
          exact hlen0
    · obtain ⟨rs, x3, x4, x5, hlen, hgood, mp2, rfl⟩ := hP
      rw [rng_len] at hlen
      exact v_retM w2 rfl mp2 np fun nn => q rs p H' ⟨ns, n, rfl, hl, hn, by omega, hgood⟩ w2.up nn
end
end K03
set_option Elab.async false
set_option linter.all false
set_option maxRecDepth 100000
set_option maxHeartbeats 8000000
namespace K03
open PySem PySem.Spec PyProof.Rows L2 Evl DL K00
abbrev s_law_orders : Stmt := topS 22
theorem sc_law_orders : FnScope ["count", "found", "k", "longer", "few", "x"] ["count"] (defScope s_law_orders) := ⟨rfl, rfl, rfl, by decide +kernel, rfl, by decide +kernel, by decide +kernel⟩
/- 0 count, 1 found, 2 k, 3 longer, 4 few, 5 x -/
abbrev s_law_sign : Stmt := topS 23
theorem sc_law_sign : FnScope ["order", "turned", "j", "i"] ["order"] (defScope s_law_sign) := ⟨rfl, rfl, rfl, by decide +kernel, rfl, by decide +kernel, by decide +kernel⟩
/- 0 order, 1 turned, 2 j, 3 i -/
abbrev s_law_sum : Stmt := topS 24
theorem sc_law_sum : FnScope ["rows", "total", "order", "term_v", "k"] ["rows"] (defScope s_law_sum) := ⟨rfl, rfl, rfl, by decide +kernel, rfl, by decide +kernel, by decide +kernel⟩
/- 0 rows, 1 total, 2 order, 3 term_v, 4 k -/
abbrev s_law_is : Stmt := topS 25
theorem sc_law_is : FnScope ["told", "due"] ["told", "due"] (defScope s_law_is) := ⟨rfl, rfl, rfl, by decide +kernel, rfl, by decide +kernel, by decide +kernel⟩
/- 0 told, 1 due -/
abbrev s_law_asked : Stmt := topS 26
theorem sc_law_asked : FnScope ["rows", "due", "twice", "given", "row"] ["rows", "due", "twice"] (defScope s_law_asked) := ⟨rfl, rfl, rfl, by decide +kernel, rfl, by decide +kernel, by decide +kernel⟩
/- 0 rows, 1 due, 2 twice, 3 given, 4 row -/
def wOrds : (Hp → List V → Prop) → List (List Int) → Prop := fun P b => ∃ n : Nat, P = A1 rInt (n : Int) ∧ n ≤ 6 ∧ b = ords n
def wIs : (Hp → List V → Prop) → Bool → Prop := fun P b => ∃ x y : Int, P = A2 rInt rInt x y ∧ b = decide (x = y)
def wAsked : (Hp → List V → Prop) → Bool → Prop := fun P b => ∃ (rows : List Row) (n : Nat) (tw : Bool), P = A3 rRows rInt rBl rows (Dt n rows % 97) tw ∧ n ≤ 6 ∧ Sq rows n ∧ b = true
theorem ext_app {n : Nat} {a b : List (List Int)} : ext n (a ++ b) = ext n a ++ ext n b := List.flatMap_append
theorem inv_snoc (x : Int) : ∀ p : List Int, inv (p ++ [x]) = inv p + (p.filter fun y => decide (y > x)).length
  | [] => rfl
  | y :: p => by
    have ih := inv_snoc x p
    show ((p ++ [x]).filter fun z => decide (z < y)).length + inv (p ++ [x]) = ((p.filter fun z => decide (z < y)).length + inv p) + ((y :: p).filter fun z => decide (z > x)).length
    rw [ih, List.filter_append, List.length_append, List.filter_cons, List.filter_cons, List.filter_nil]
    by_cases c : x < y
    · rw [if_pos (by simpa using c), if_pos (by simpa using c), List.length_cons, List.length_cons, List.length_nil]
      omega
    · rw [if_neg (by simpa using c), if_neg (by simpa using c), List.length_nil]
      omega
theorem take_snoc {α : Type} {l : List α} {i : Nat} (h : i < l.length) : l.take (i + 1) = l.take i ++ [l[i]] := by
  rw [List.take_add_one, List.getElem?_eq_getElem h]
  rfl
theorem tm_snoc {rows : List Row} {o : List Int} {k : Nat} (h1 : k < rows.length) (h2 : k < o.length) : tm (rows.take (k + 1)) (o.take (k + 1)) = tm (rows.take k) (o.take k) * vec rows[k] o[k].toNat := by
  have hr : (rows.take k).length = k := by
    rw [List.length_take]
    omega
  have ho : (o.take k).length = k := by
    rw [List.length_take]
    omega
  rw [take_snoc h1, take_snoc h2, tm_app _ _ _ (by rw [List.length_append, hr, ho]; omega), hr]
  have e1 : (o.take k ++ [o[k]]).take k = o.take k := by
    rw [List.take_append_of_le_length (by omega), List.take_of_length_le (by omega)]
  have e2 : (o.take k ++ [o[k]]).drop k = [o[k]] := by
    rw [List.drop_append_of_le_length (by omega), List.drop_of_length_le (by omega), List.nil_append]
  rw [e1, e2]
  show _ * (vec rows[k] o[k].toNat * 1) = _
  rw [Int.mul_one]
section
variable {P : Program} {w : World} {K : PySem.W.Frag} {mg : Str → Option Value} {base : Heap} {t : Tok}
theorem ok_law_numbers {f fD : Addr} {fd fdD : FuncData} (D : DefAt K mg "_law_numbers" s_law_numbers ["cell"] f fd) (D_law_draws : DefAt K mg "_law_draws" s_law_draws ["cell", "limits"] fD fdD) (mB_len : mg "len" = none) (mB_int : mg "int" = none) : FnOk P w K mg base CX0 2 f fd ["cell"] (spNA rInt wNums) := by
  have G_law_draws : FnOk P w K mg base CX0 1 fD fdD ["cell", "limits"] (spN rInt wDraws) := ok_law_draws D_law_draws mB_int
  refine D.F.ok sc_law_numbers (fun vs H Q E h => ?_) (fun cdv A outer s H vs Q E hr h => ?_)
  · obtain ⟨F, Pp, _, _, ⟨b, c, rfl, _⟩, ⟨v, rfl, _⟩, _⟩ := h
    rfl
  · obtain ⟨F, Pp, eF, _, ⟨b, c, rfl, _⟩, ⟨v, rfl, hv⟩, q⟩ := h
    cases (show v = V.int c from hv)
    refine ⟨_, (pss_cons (ps_set (i := 1) sc_law_numbers.nd rfl (by first | exact Or.inl rfl | exact Or.inr rfl) (pe_call G_law_draws (hr.mono (by decide)) (by rfl) D_law_draws.g D_law_draws.F.kp D_law_draws.b .nil pass0 (pa_cons (pv 0) (pa_cons (pe_lst (pa_cons pe_int (pa_cons pe_int (pa_cons pe_int (pa_cons pe_int (pa_cons pe_int (pa_cons pe_int (pa_cons pe_int (pa_cons pe_int (pa_cons pe_int (pa_cons pe_int (pa_cons (pe_op op_pow pe_int pe_int) pa_nil)))))))))))) pa_nil))))
  (pss_cons (ps_set (i := 2) sc_law_numbers.nd rfl (by first | exact Or.inl rfl | exact Or.inr rfl) (pe_slice (r := rSlL K) sl_list (pv 1) (po_some pe_int) (po_some (pe_op op_add pe_int (pe_ix (r := rIxL K) ix_list (pv 1) pe_int (fun _ _ => rfl))))))
  (pss_cut (ps_if (pt_cmpR op_eq (pe_ix (r := rIxL K) ix_list (pv 1) pe_int (fun _ _ => rfl)) pe_int (nomark _))
    (pss_one (ps_setLc (i := 2) (own := [("number", 3)]) (g := gName 3) rfl sc_law_numbers.nd rfl rfl (sw_true rfl rfl rfl (by decide +kernel)) (pi_listK (K := K) (pv 2)) (blkOk_by (own := [("number", 3)]) (N := ["cell", "drawn", "numbers", "number"]) (sc := defScope s_law_numbers) (by decide +kernel)) (fun _ _ _ _ _ => (pg_name (i := 3) sc_law_numbers.nd rfl (by first | exact Or.inl rfl | exact Or.inr rfl))) (fun _ _ _ _ _ => pts_nil) (fun _ _ _ _ _ => (pe_op op_mul (pe_op op_sub (pv 3) pe_int) (pe_op op_add (pe_op op_pow pe_int pe_int) (pe_ix (r := rIxL K) ix_list (pv 1) pe_int (fun _ _ => rfl)))))))
    pss_nil)
  (pss_cut (ps_if (pt_cmpR op_eq (pe_ix (r := rIxL K) ix_list (pv 1) pe_int (fun _ _ => rfl)) pe_int (nomark _))
    (pss_one (ps_setLc (i := 2) (own := [("number", 3)]) (g := gName 3) rfl sc_law_numbers.nd rfl rfl (sw_true rfl rfl rfl (by decide +kernel)) (pi_listK (K := K) (pv 2)) (blkOk_by (own := [("number", 3)]) (N := ["cell", "drawn", "numbers", "number"]) (sc := defScope s_law_numbers) (by decide +kernel)) (fun _ _ _ _ _ => (pg_name (i := 3) sc_law_numbers.nd rfl (by first | exact Or.inl rfl | exact Or.inr rfl))) (fun _ _ _ _ _ => pts_nil) (fun _ _ _ _ _ => (pe_op op_sub (pe_op op_mod (pv 3) pe_int) pe_int))))
    pss_nil)
  (pss_cut (ps_if (PW.pt (pw_and (pt_cmpR op_eq (pe_ix (r := rIxL K) ix_list (pv 1) pe_int (fun _ _ => rfl)) pe_int (nomark _)) (pw_and1 (pt_cmpR op_gt (pe_callB (r := rLenQ K) call_len_seq (by rfl) mB_len (by decide +kernel) (pa_cons (pv 2) pa_nil)) pe_int (nomark _)))))
    (pss_one (ps_asg (pe_op op_add (pe_ix (r := rIxL K) ix_list (pv 2) (pe_op op_mod (pe_ix (r := rIxL K) ix_list (pv 1) pe_int (fun _ _ => rfl)) (pe_callB (r := rLenQ K) call_len_seq (by rfl) mB_len (by decide +kernel) (pa_cons (pv 2) pa_nil))) (fun _ _ => rfl)) (pe_op op_mul pe_int (pe_ix (r := rIxL K) ix_list (pv 1) pe_int (fun _ _ => rfl)))) (pg_sub (pv 2) (pe_op op_mod (pe_ix (r := rIxL K) ix_list (pv 1) pe_int (fun _ _ => rfl)) (pe_callB (r := rLenQ K) call_len_seq (by rfl) mB_len (by decide +kernel) (pa_cons (pv 2) pa_nil))) set_list)))
    pss_nil)
  (pss_one (ps_ret (pv 2)))))))), ?_⟩
    have hd : ∀ (i : Nat) (m : Int), msN[i]? = some m → ∃ x, (drawn c msN)[i]? = some x ∧ 0 ≤ x ∧ x < m := fun i m h => draws_get msN _ _ i m (by decide) h
    have hdl : (drawn c msN).length = 11 := drawn_len
    refine w_asg (r := rLst rInt) (a := drawn c msN) (Wd.start eF) (En.er (en_call (s := rInt) (ea2 (er_vi rfl)
        (En.er (en_lst (as := msN) (eal_cons er_int (eal_cons er_int (eal_cons er_int (eal_cons er_int (eal_cons er_int (eal_cons er_int (eal_cons er_int (eal_cons er_int (eal_cons er_int (eal_cons er_int (eal_cons (er_I (C := CPow) er_int er_int ⟨by decide, by decide, by decide⟩) eal_nil))))))))))) (by decide)))) mono2 ⟨_, msN, rfl, by decide, by decide, rfl⟩)) fun vd G1 H1 w1 s1 hvd => ?_
    generalize drawn c msN = ds at hd hdl hvd
    obtain ⟨e0, he0, l0, u0⟩ := hd 0 _ rfl
    obtain ⟨e1, he1, _⟩ := hd 1 _ rfl
    obtain ⟨e2, he2, _⟩ := hd 2 _ rfl
    obtain ⟨e3, he3, _⟩ := hd 3 _ rfl
    obtain ⟨e10, he10, l10, u10⟩ := hd 10 _ rfl
    have a0 : L2.atI ds (0 : Int) = some e0 := atI_nat (j := 0) he0
    have a1 : L2.atI ds (1 : Int) = some e1 := atI_nat (j := 1) he1
    have a2 : L2.atI ds (2 : Int) = some e2 := atI_nat (j := 2) he2
    have a3 : L2.atI ds (3 : Int) = some e3 := atI_nat (j := 3) he3
    have a10 : L2.atI ds (10 : Int) = some e10 := atI_nat (j := 10) he10
    obtain ⟨n, rfl⟩ := Int.eq_ofNat_of_zero_le l0
    have hcut : cutA ds (some 4) (some (4 + (n : Int))) = (ds.drop 4).take n := by
      unfold cutA
      rw [show (4 : Int) = ((4 : Nat) : Int) from rfl, show ((4 : Nat) : Int) + (n : Int) = ((4 + n : Nat) : Int) by omega, HT.sIx_nat, HT.sIx_nat, Nat.min_eq_left (by omega), Nat.min_eq_left (by omega), show 4 + n - 4 = n by omega]
    have hsm : ((ds.drop 4).take n).length ≤ 6 ∧ ∀ x ∈ (ds.drop 4).take n, 0 ≤ x ∧ x < 97 := by
      refine ⟨by rw [List.length_take]; omega, fun x hx => ?_⟩
      obtain ⟨i, hi, e⟩ := List.mem_iff_getElem.mp hx
      rw [List.length_take, List.length_drop] at hi
      rw [List.getElem_take, List.getElem_drop] at e
      have hi6 : i < 6 := by omega
      have : ∀ m, msN[4 + i]? = some m → m = 97 := by
        intro m hm
        match i, hi6, hm with
        | 0, _, hm => exact (Option.some.inj hm).symm
        | 1, _, hm => exact (Option.some.inj hm).symm
        | 2, _, hm => exact (Option.some.inj hm).symm
        | 3, _, hm => exact (Option.some.inj hm).symm
        | 4, _, hm => exact (Option.some.inj hm).symm
        | 5, _, hm => exact (Option.some.inj hm).symm
      have hml : 4 + i < msN.length := by
        show 4 + i < 11
        omega
      obtain ⟨y, hy, y0, y1⟩ := hd (4 + i) _ (List.getElem?_eq_getElem hml)
      have e97 := this _ (List.getElem?_eq_getElem hml)
      rw [List.getElem?_eq_getElem (by omega)] at hy
      rw [Option.some.inj hy] at e
      rw [e97] at y1
      omega
    refine w_asgN (r := rInt) (as := (ds.drop 4).take n) w1 (en_is (en_sl (er_var rfl hvd) (eo_part er_int) (eo_part (er_I0 er_int (er_ixL (er_var rfl hvd) er_int a0)))) hcut) fun p G2 H2 w2 s2 mp np => ?_
    have np0 : H p = none := back_none w1.up np
    have hvd2 := (rLst rInt).mono s2.fr hvd
    generalize (ds.drop 4).take n = xs at hsm mp
    -- 1
    refine w_cut (F0 := F) (H0 := H) (G := G2) (fun σ' G' H' => ∃ (xs : List Int) (p : Addr), Mu rInt xs G' H' p ∧ H p = none ∧ xs.length ≤ 6 ∧ (∀ x ∈ xs, -(2 ^ 59) < x ∧ x < 2 ^ 59) ∧ σ' = [some (.int c), some vd, some (.ref p), none]) ?_ fun σ3 G3 H3 w3 e23 hP3 => ?_
    · refine v_when w2 (et_test (er_eqI (er_ixL (er_var rfl hvd2) er_int a1) er_int)) (fun hb Hb wb sb => ?_) (fun hb Hb wb sb => ?_)
      · have mb := mp.go sb
        obtain ⟨Gc, wc, ec, ry, _⟩ := mb.froz wb np0
        have hvdc := (rLst rInt).mono (sb.fr.trans ec) hvd2
        refine v_asgN (r := rInt) (as := xs.map fun x => (x - 48) * (10 ^ 12 + e10)) wc (en_is (en_lc (s := rInt) (fun _ => true) (fun x => (x - 48) * (10 ^ 12 + e10)) (src_list (er_var rfl ry)) tgt_n (by omega) (fun x hx G σ2 eG hS => ?_)) ?_) fun p2 G4 H4 w4 s4 m4 n4 => ⟨G4, w4, sb.fr.trans (ec.trans s4.fr), _, p2, m4, back_none wc.up n4, by rw [List.length_map]; exact hsm.1, fun x hx => ?_, rfl⟩
        · obtain ⟨y, hy, rfl⟩ := hS
          cases (show y = V.int x from hy)
          exact ⟨rfl, fun H1 _ Q q => q H1 (Ex.refl _), fun _ => er_I (er_I0 (er_vi rfl) er_int) (er_I0 (er_I (C := CPow) er_int er_int ⟨by decide, by decide, by decide⟩) (er_ixL (er_var rfl ((rLst rInt).mono eG hvdc)) er_int a10)) (Or.inr ⟨by omega, by omega⟩)⟩
        · rw [List.filter_eq_self.mpr fun _ _ => rfl]
        · obtain ⟨y, hy, rfl⟩ := List.mem_map.mp hx
          have hy2 := hsm.2 y hy
          have hm : ((y - 48) * (10 ^ 12 + e10)).natAbs ≤ 97 * 2000000000000 := by
            rw [Int.natAbs_mul]
            refine Nat.mul_le_mul ?_ ?_
            · omega
            · omega
          omega
      · exact ⟨G2, wb, Ex.refl _, xs, p, mp.go sb, np0, hsm.1, fun x hx => by have := hsm.2 x hx; omega, rfl⟩
    clear hsm mp np np0
    obtain ⟨xs, p, mp, np, hxl, hxb, rfl⟩ := hP3
    have hvd3 := (rLst rInt).mono e23 hvd2
    -- 2
    refine w_cut (F0 := F) (H0 := H) (G := G3) (fun σ' G' H' => ∃ (xs : List Int) (p : Addr), Mu rInt xs G' H' p ∧ H p = none ∧ xs.length ≤ 6 ∧ (∀ x ∈ xs, -(2 ^ 59) < x ∧ x < 2 ^ 59) ∧ σ' = [some (.int c), some vd, some (.ref p), none]) ?_ fun σ4 G4 H4 w4 e34 hP4 => ?_
    · refine v_when w3 (et_test (er_eqI (er_ixL (er_var rfl hvd3) er_int a1) er_int)) (fun hb Hb wb sb => ?_) (fun hb Hb wb sb => ?_)
      · have mb := mp.go sb
        obtain ⟨Gc, wc, ec, ry, _⟩ := mb.froz wb np
        refine v_asgN (r := rInt) (as := xs.map fun x => x % 5 - 2) wc (en_is (en_lc (s := rInt) (fun _ => true) (fun x => x % 5 - 2) (src_list (er_var rfl ry)) tgt_n (by omega) (fun x hx G σ2 eG hS => ?_)) ?_) fun p2 G4 H4 w4 s4 m4 n4 => ⟨G4, w4, sb.fr.trans (ec.trans s4.fr), _, p2, m4, back_none wc.up n4, by rw [List.length_map]; exact hxl, fun x hx => ?_, rfl⟩
        · obtain ⟨y, hy, rfl⟩ := hS
          cases (show y = V.int x from hy)
          exact ⟨rfl, fun H1 _ Q q => q H1 (Ex.refl _), fun _ => er_I0 (er_I (er_vi rfl) er_int (by decide)) er_int⟩
        · rw [List.filter_eq_self.mpr fun _ _ => rfl]
        · obtain ⟨y, hy, rfl⟩ := List.mem_map.mp hx
          omega
      · exact ⟨G3, wb, Ex.refl _, xs, p, mp.go sb, np, hxl, hxb, rfl⟩
    clear hxl hxb mp np
    obtain ⟨xs, p, mp, np, hxl, hxb, rfl⟩ := hP4
    have hvd4 := (rLst rInt).mono e34 hvd3
    -- 3
    refine w_cut (F0 := F) (H0 := H) (G := G4) (fun σ' G' H' => ∃ (xs : List Int), Mu rInt xs G' H' p ∧ Nums xs ∧ σ' = [some (.int c), some vd, some (.ref p), none]) ?_ fun σ5 G5 H5 w5 e45 hP5 => ?_
    · obtain ⟨Gc, wc, ec, ry, _⟩ := mp.froz w4 np
      have hvdc := (rLst rInt).mono ec hvd4
      refine v_when wc (et_and (b := decide ((xs.length : Int) > 0)) (et_test (er_eqI (er_ixL (er_var rfl hvdc) er_int a1) er_int)) fun _ => et_test (er_cmp0 (er_lenL (er_var rfl ry)) er_int)) (fun hb Hb wb sb => ?_) (fun hb Hb wb sb => ?_)
      · rw [Bool.and_eq_true] at hb
        have hpos := of_decide_eq_true hb.2
        have wx := w4.back wb ec
        have mx := mp.go (stp_back (G := G4) sb)
        have look : ∀ e : Int, ∃ i : Nat, e % (xs.length : Int) = (i : Int) ∧ i < xs.length := fun e => by
          have h1 := Int.emod_nonneg e (show (xs.length : Int) ≠ 0 by omega)
          have h2 := Int.emod_lt_of_pos e (show (0 : Int) < xs.length by omega)
          obtain ⟨i, hi⟩ := Int.eq_ofNat_of_zero_le h1
          exact ⟨i, hi, by omega⟩
        obtain ⟨i2, ei2, hi2⟩ := look e2
        obtain ⟨i3, ei3, hi3⟩ := look e3
        refine v_put2 (j := i2) (a := vec xs i3 + 97 * e10) wx wb (ev_intB wx wb (er_I0 (er_ixL (er_var rfl ry) (er_I (er_ixL (er_var rfl hvdc) er_int a3) (er_lenL (er_var rfl ry)) (by omega)) (by rw [ei3]; exact atI_vec hi3)) (er_I er_int (er_ixL (er_var rfl hvdc) er_int a10) (Or.inl (by decide))))) rfl mx np (er_is (er_I (er_ixL (er_var rfl hvdc) er_int a2) (er_lenL (er_var rfl ry)) (by omega)) ei2) hi2 fun G6 H6 w6 s6 m6 => ?_
        refine ⟨G6, w6, s6.fr, _, m6, ⟨by rw [List.length_set]; exact hxl, fun x hx => ?_⟩, rfl⟩
        rcases List.mem_or_eq_of_mem_set hx with z | z
        · have := hxb x z
          omega
        · rw [z, vec_get hi3]
          have := hxb _ (List.getElem_mem hi3)
          omega
      · exact ⟨G4, w4.back wb ec, Ex.refl _, xs, mp.go (stp_back (G := G4) sb), ⟨hxl, fun x hx => by have := hxb x hx; omega⟩, rfl⟩
    · obtain ⟨xs, mp, hx, rfl⟩ := hP5
      exact v_retM w5 rfl mp np fun nn => q xs p H5 ⟨c, rfl, hx⟩ w5.up nn
theorem ok_law_orders {f : Addr} {fd : FuncData} (D : DefAt K mg "_law_orders" s_law_orders ["count"] f fd) (mB_range : mg "range" = none) (mB_list : mg "list" = none) : FnOk P w K mg base CX0 1 f fd ["count"] (spV (rLst (rTup rInt)) wOrds) := by
  refine D.F.ok sc_law_orders (fun vs H Q E h => ?_) (fun cdv A outer s H vs Q E hr h => ?_)
  · obtain ⟨F, Pp, b, _, _, ⟨n, rfl, _⟩, ⟨v, rfl, _⟩, _⟩ := h
    rfl
  · obtain ⟨F, Pp, b, eF, _, ⟨n, rfl, hn, rfl⟩, ⟨v, rfl, hv⟩, q⟩ := h
    cases (show v = V.int (n : Int) from hv)
    refine ⟨_, (pss_cons (ps_set (i := 1) sc_law_orders.nd rfl (by first | exact Or.inl rfl | exact Or.inr rfl) (pe_lst (pa_cons (pe_tup pa_nil) pa_nil)))
  (pss_cons (ps_for PassesOwn.never rfl (pi_range1 (by rfl) mB_range (pa_cons (pv 0) pa_nil)) (pg_name (i := 2) sc_law_orders.nd rfl (by first | exact Or.inl rfl | exact Or.inr rfl))
    (pss_cons (ps_set (i := 3) sc_law_orders.nd rfl (by first | exact Or.inl rfl | exact Or.inr rfl) (pe_lst pa_nil))
  (pss_cons (ps_for PassesOwn.never rfl (pi_listK (K := K) (pv 1)) (pg_name (i := 4) sc_law_orders.nd rfl (by first | exact Or.inl rfl | exact Or.inr rfl))
    (pss_one (ps_for PassesOwn.never rfl (pi_range1 (by rfl) mB_range (pa_cons (pv 0) pa_nil)) (pg_name (i := 5) sc_law_orders.nd rfl (by first | exact Or.inl rfl | exact Or.inr rfl))
    (pss_one (ps_if (pt_cmpR (r := rIn K true) op_notIn_seq (pv 5) (pv 4) (by rfl))
    (pss_one (ps_expr (pe_bm PySem.F.plainAttrs_list PySem.F.slot_list_append PySem.F.type_list_append mt_append (pv 3) (pa_cons (pe_op (r := rCatA K) op_catA (pv 4) (pe_tup (pa_cons (pv 5) pa_nil))) pa_nil))))
    pss_nil)))))
  (pss_one (ps_set (i := 1) sc_law_orders.nd rfl (by first | exact Or.inl rfl | exact Or.inr rfl) (pe_callTy (r := rLstQ K) call_list_of (by rfl) mB_list (by decide +kernel) (pa_cons (pv 3) pa_nil)))))))
  (pss_one (ps_ret (pv 1))))), ?_⟩
    refine w_asg (r := rLst (rTup rInt)) (a := [[]]) (Wd.start eF) (En.er (en_lst (r := rTup rInt) (eal_cons (er_tup eal_nil (Nat.zero_le _)) eal_nil) (by show 1 ≤ 100000; decide))) fun v1 G1 H1 w1 s1 hv1 => ?_
    refine w_for w1 (src_rng1 (ea1 (er_vi rfl)) (by omega)) tgt_n mono_sn (fun pre σ' G' H' => ∃ (v1 : V) (x2 x3 x4 x5 : Option V), (rLst (rTup rInt)).rel G' v1 (ordK n pre.length) ∧ σ' = [some (.int (n : Int)), some v1, x2, x3, x4, x5])
      (fun G2 H2 w2 s2 => ⟨v1, none, none, none, none, (rLst (rTup rInt)).mono s2.fr hv1, rfl⟩) (fun Gs pre a post σ' σ2 G' H' G2 H2 has hP s2 w2 eGs hS => ?_) (fun σ' G' H' w2 hP => ?_)
    · obtain ⟨v2, x2, x3, x4, x5, hv2, rfl⟩ := hP
      obtain ⟨z, hz, rfl⟩ := hS
      obtain ⟨_, hk, _⟩ := rng_mid has
      have hk : pre.length < n := by omega
      have hv3 := (rLst (rTup rInt)).mono s2.fr hv2
      have hsm := ord_small (n := n) (k := pre.length + 1) hn (by omega)
      refine w_asgN (r := rTup rInt) (as := []) w2 (en_lst eal_nil (Nat.zero_le _)) fun p G3 H3 w3 s3 mp np => ?_
      have np0 : H p = none := back_none w2.up np
      have hv4 := (rLst (rTup rInt)).mono s3.fr hv3
      refine w_for w3 (src_list (er_var rfl hv4)) tgt_n mono_sn (fun pre2 σ' G' H' => ∃ x4 x5 : Option V, Mu (rTup rInt) (ext n pre2) G' H' p ∧ Ex G3 G' ∧ σ' = [some (.int (n : Int)), some v2, some z, some (.ref p), x4, x5])
        (fun Ga Ha wa sa => ⟨x4, x5, mp.go sa, sa.fr, rfl⟩) (fun Gt pre2 o post2 σ' σ2 G' H' Ga Ha has2 hP2 sa wa eGt hS2 => ?_) (fun σ' G4 H4 w4 hP2 => ?_)
      · obtain ⟨y4, y5, m, e3, rfl⟩ := hP2
        obtain ⟨u, hu, rfl⟩ := hS2
        have ma := m.go sa
        have hon : o ∈ ordK n pre.length := by
          rw [has2]
          exact List.mem_append_right _ List.mem_cons_self
        have hol := (mem_ordK.mp hon).len
        have hext : (ext n (pre2 ++ [o])).length ≤ 46656 := by
          have e : ordK n (pre.length + 1) = ext n (pre2 ++ [o]) ++ ext n post2 := by
            rw [← ext_app, List.append_assoc]
            show ext n (ordK n pre.length) = _
            rw [has2]
            rfl
          rw [e, List.length_append] at hsm
          omega
        refine v_for wa (src_rng1 (ea1 (er_vi rfl)) (by omega)) tgt_n mono_sn (fun pre3 σ' G' H' => ∃ x5 : Option V, Mu (rTup rInt) (ext n pre2 ++ (pre3.filter fun k => !decide (k ∈ o)).map fun k => o ++ [k]) G' H' p ∧ Ex Ga G' ∧ σ' = [some (.int (n : Int)), some v2, some z, some (.ref p), some u, x5])
          (fun Gb Hb wb sb => ⟨y5, by rw [List.filter_nil, List.map_nil, List.append_nil]; exact ma.go sb, sb.fr, rfl⟩) (fun Gt3 pre3 x post3 σ' σ2 G' H' Gb Hb has3 hP3 sb wb eGt3 hS3 => ?_) (fun σ' Gb Hb wb hP3 => ?_)
        · obtain ⟨z5, m3, ea, rfl⟩ := hP3
          obtain ⟨y, hy, rfl⟩ := hS3
          cases (show y = V.int x from hy)
          have mb := m3.go sb
          have hub := (rTup rInt).mono (ea.trans sb.fr) hu
          refine v_when wb (et_test (er_niT (er_vi rfl) (er_var rfl hub))) (fun hb Hc wc sc => ?_) (fun hb Hc wc sc => ?_)
          · have hlen : (ext n pre2 ++ (pre3.filter fun k => !decide (k ∈ o)).map fun k => o ++ [k]).length < 100000 := by
              have e1 : ext n (pre2 ++ [o]) = ext n pre2 ++ ((rng 0 n).filter fun k => !decide (k ∈ o)).map fun k => o ++ [k] := by
                rw [ext_app]
                congr 1
                exact List.flatMap_singleton _ _
              have h3 : (pre3.filter fun k => !decide (k ∈ o)).length ≤ ((rng 0 n).filter fun k => !decide (k ∈ o)).length := by
                have has3' : rng 0 n = pre3 ++ x :: post3 := by
                  rw [← has3, show ((n : Int)).toNat = n by omega]
                rw [has3', List.filter_append, List.length_append]
                omega
              rw [e1, List.length_append, List.length_map] at hext
              rw [List.length_append, List.length_map]
              omega
            refine v_app wc rfl (mb.go sc) np0 hlen (er_catT (er_var rfl ((rTup rInt).mono sc.fr hub)) (er_tup (eal_cons (er_vi rfl) eal_nil) (by show 1 ≤ 100000; decide)) (by show o.length + 1 ≤ 100000; omega)) fun Gd Hd wd sd md => ?_
            refine ⟨Gd, wd, eGt3.trans (sc.fr.trans sd.fr), some (.int x), ?_, ea.trans (sb.fr.trans (sc.fr.trans sd.fr)), rfl⟩
            rw [List.filter_append, List.filter_cons, if_pos hb, List.filter_nil, List.map_append, ← List.append_assoc]
            exact md
          · refine ⟨_, wc, eGt3.trans sc.fr, some (.int x), ?_, ea.trans (sb.fr.trans sc.fr), rfl⟩
            rw [List.filter_append, List.filter_cons, if_neg (by rw [hb]; decide), List.filter_nil, List.append_nil]
            exact mb.go sc
        · obtain ⟨z5, m3, ea, rfl⟩ := hP3
          refine ⟨Gb, wb, eGt.trans ea, some u, _, ?_, e3.trans (sa.fr.trans ea), rfl⟩
          rw [show ((n : Int)).toNat = n by omega] at m3
          rw [ext_app]
          have e1 : ext n [o] = ((rng 0 n).filter fun k => !decide (k ∈ o)).map fun k => o ++ [k] := List.flatMap_singleton _ _
          rw [e1]
          exact m3
      · obtain ⟨y4, y5, m, e3, rfl⟩ := hP2
        obtain ⟨G5, w5, e45, ry, _⟩ := m.froz w4 np0
        refine v_asg (r := rLst (rTup rInt)) (a := ordK n (pre.length + 1)) w5 (En.er (en_listL (er_var rfl ry))) fun v6 G6 H6 w6 s6 hv6 => ?_
        refine ⟨G6, w6, eGs.trans (s3.fr.trans (e3.trans (e45.trans s6.fr))), v6, _, _, _, _, ?_, rfl⟩
        rw [List.length_append]
        exact hv6
    · obtain ⟨v2, x2, x3, x4, x5, hv2, rfl⟩ := hP
      rw [rng_len, show ((n : Int)).toNat = n by omega] at hv2
      exact v_ret w2 (er_var rfl hv2) fun v5 H5 e5 hv5 => q v5 H5 e5 hv5
theorem ok_law_sign {f : Addr} {fd : FuncData} (D : DefAt K mg "_law_sign" s_law_sign ["order"] f fd) (mB_range : mg "range" = none) (mB_len : mg "len" = none) : FnOk P w K mg base CX0 1 f fd ["order"] (spV rInt wSign) := by
  refine D.F.ok sc_law_sign (fun vs H Q E h => ?_) (fun cdv A outer s H vs Q E hr h => ?_)
  · obtain ⟨F, Pp, b, _, _, ⟨n, rfl, _⟩, ⟨v, rfl, _⟩, _⟩ := h
    rfl
  · obtain ⟨F, Pp, b, eF, _, ⟨o, rfl, hl, rfl⟩, ⟨v, rfl, hv⟩, q⟩ := h
    refine ⟨_, (pss_cons (ps_set (i := 1) sc_law_sign.nd rfl (by first | exact Or.inl rfl | exact Or.inr rfl) pe_int)
  (pss_cons (ps_for PassesOwn.never rfl (pi_range1 (by rfl) mB_range (pa_cons (pe_callB (r := rLenQ K) call_len_seq (by rfl) mB_len (by decide +kernel) (pa_cons (pv 0) pa_nil)) pa_nil)) (pg_name (i := 2) sc_law_sign.nd rfl (by first | exact Or.inl rfl | exact Or.inr rfl))
    (pss_one (ps_for PassesOwn.never rfl (pi_range1 (by rfl) mB_range (pa_cons (pv 2) pa_nil)) (pg_name (i := 3) sc_law_sign.nd rfl (by first | exact Or.inl rfl | exact Or.inr rfl))
    (pss_one (ps_if (pt_cmpR op_gt (pe_ix (r := rIxT K) ix_tup (pv 0) (pv 3) (fun _ _ => rfl)) (pe_ix (r := rIxT K) ix_tup (pv 0) (pv 2) (fun _ _ => rfl)) (nomark _))
    (pss_one (ps_set (i := 1) sc_law_sign.nd rfl (by first | exact Or.inl rfl | exact Or.inr rfl) (pe_op op_add (pv 1) pe_int)))
    pss_nil)))))
  (pss_one (ps_ret (pe_op op_sub pe_int (pe_op op_mul pe_int (pe_op op_mod (pv 1) pe_int))))))), ?_⟩
    refine w_asgI (n := 0) (Wd.start eF) er_int fun H1 w1 s1 => ?_
    refine w_for w1 (src_rng1 (ea1 (er_lenT (er_var rfl hv))) (by omega)) tgt_n mono_sn (fun pre σ' G' H' => ∃ x2 x3 : Option V, Ex F G' ∧ σ' = [some v, some (.int ((inv (o.take pre.length) : Nat) : Int)), x2, x3])
      (fun G2 H2 w2 s2 => ⟨none, none, s2.fr, rfl⟩) (fun Gs pre a post σ' σ2 G' H' G2 H2 has hP s2 w2 eGs hS => ?_) (fun σ' G' H' w2 hP => ?_)
    · obtain ⟨x2, x3, eF', rfl⟩ := hP
      obtain ⟨z, hz, rfl⟩ := hS
      cases (show z = V.int a from hz)
      obtain ⟨ea, hj, _⟩ := rng_mid has
      have hj : pre.length < o.length := by omega
      have ea : a = (pre.length : Int) := by omega
      subst ea
      have hv2 := (rTup rInt).mono (eF'.trans s2.fr) hv
      refine v_for w2 (src_rng1 (ea1 (er_vi rfl)) (by omega)) tgt_n mono_sn (fun pre2 σ' Ga Ha => ∃ x3 : Option V, Ex G2 Ga ∧ σ' = [some v, some (.int ((inv (o.take pre.length) + ((o.take pre2.length).filter fun y => decide (y > o[pre.length])).length : Nat) : Int)), some (.int (pre.length : Int)), x3])
        (fun Ga Ha wa sa => ⟨x3, sa.fr, rfl⟩) (fun Gt pre2 b post2 σ' σ2 Ga Ha Gb Hb has2 hP2 sb wb eGt hS2 => ?_) (fun σ' Ga Ha wa hP2 => ?_)
      · obtain ⟨y3, eA, rfl⟩ := hP2
        obtain ⟨u, hu, rfl⟩ := hS2
        cases (show u = V.int b from hu)
        obtain ⟨eb, hi, _⟩ := rng_mid has2
        have hi : pre2.length < o.length := by omega
        have eb : b = (pre2.length : Int) := by omega
        subst eb
        have hvb := (rTup rInt).mono (eA.trans sb.fr) hv2
        have et : (pre2 ++ [(pre2.length : Int)]).length = pre2.length + 1 := by
          rw [List.length_append]
          rfl
        refine v_when wb (et_test (er_cmp0 (er_ixT (er_var rfl hvb) (er_vi rfl) (atI_nat (List.getElem?_eq_getElem hi))) (er_ixT (er_var rfl hvb) (er_vi rfl) (atI_nat (List.getElem?_eq_getElem hj))))) (fun hb Hc wc sc => ?_) (fun hb Hc wc sc => ?_)
        · refine v_asgI (n := ((inv (o.take pre.length) + ((o.take pre2.length).filter fun y => decide (y > o[pre.length])).length : Nat) : Int) + 1) wc (er_I0 (er_vi rfl) er_int) fun Hd wd sd => ⟨_, wd, eGt.trans sc.fr, some (.int (pre2.length : Int)), eA.trans (sb.fr.trans sc.fr), ?_⟩
          rw [et, take_snoc hi, List.filter_append, List.filter_cons, if_pos hb, List.filter_nil, List.length_append]
          rfl
        · refine ⟨_, wc, eGt.trans sc.fr, some (.int (pre2.length : Int)), eA.trans (sb.fr.trans sc.fr), ?_⟩
          rw [et, take_snoc hi, List.filter_append, List.filter_cons, if_neg (by rw [hb]; decide), List.filter_nil, List.append_nil]
          rfl
      · obtain ⟨y3, eA, rfl⟩ := hP2
        refine ⟨Ga, wa, eGs.trans eA, some (.int (pre.length : Int)), y3, (eF'.trans s2.fr).trans eA, ?_⟩
        rw [rng_len, show ((pre.length : Int)).toNat = pre.length by omega, List.length_append, show pre.length + [(pre.length : Int)].length = pre.length + 1 from rfl, take_snoc hj, inv_snoc]
    · obtain ⟨x2, x3, eF', rfl⟩ := hP
      rw [rng_len, show ((o.length : Int)).toNat = o.length by omega, List.take_length]
      refine v_retI (n := sg o) w2 (er_is (er_I0 er_int (er_I er_int (er_I (er_vi rfl) er_int (by decide)) (Or.inl (by decide)))) ?_) fun H5 e5 => q _ H5 e5 rfl
      unfold sg
      omega
theorem ok_law_sum {f fO fS : Addr} {fd fdO fdS : FuncData} (D : DefAt K mg "_law_sum" s_law_sum ["rows"] f fd) (D_law_orders : DefAt K mg "_law_orders" s_law_orders ["count"] fO fdO) (D_law_sign : DefAt K mg "_law_sign" s_law_sign ["order"] fS fdS) (mB_range : mg "range" = none) (mB_len : mg "len" = none) (mB_list : mg "list" = none) (mB_int : mg "int" = none) : FnOk P w K mg base CX0 2 f fd ["rows"] (spV rInt wDet) := by
  have G_law_orders : FnOk P w K mg base CX0 1 fO fdO ["count"] (spV (rLst (rTup rInt)) wOrds) := ok_law_orders D_law_orders mB_range mB_list
  have G_law_sign : FnOk P w K mg base CX0 1 fS fdS ["order"] (spV rInt wSign) := ok_law_sign D_law_sign mB_range mB_len
  refine D.F.ok sc_law_sum (fun vs H Q E h => ?_) (fun cdv A outer s H vs Q E hr h => ?_)
  · obtain ⟨F, Pp, b, _, _, ⟨n, u, rfl, _⟩, ⟨v, rfl, _⟩, _⟩ := h
    rfl
  · obtain ⟨F, Pp, b, eF, _, ⟨rows, n, rfl, hn, ⟨hl, hw⟩, rfl⟩, ⟨v, rfl, hv⟩, q⟩ := h
    refine ⟨_, (pss_cons (ps_set (i := 1) sc_law_sum.nd rfl (by first | exact Or.inl rfl | exact Or.inr rfl) pe_int)
  (pss_cons (ps_for PassesOwn.never rfl (pi_listK (K := K) (pe_call G_law_orders (hr.mono (by decide)) (by rfl) D_law_orders.g D_law_orders.F.kp D_law_orders.b .nil pass0 (pa_cons (pe_callB (r := rLenQ K) call_len_seq (by rfl) mB_len (by decide +kernel) (pa_cons (pv 0) pa_nil)) pa_nil))) (pg_name (i := 2) sc_law_sum.nd rfl (by first | exact Or.inl rfl | exact Or.inr rfl))
    (pss_cons (ps_set (i := 3) sc_law_sum.nd rfl (by first | exact Or.inl rfl | exact Or.inr rfl) (pe_call G_law_sign (hr.mono (by decide)) (by rfl) D_law_sign.g D_law_sign.F.kp D_law_sign.b .nil pass0 (pa_cons (pv 2) pa_nil)))
  (pss_cons (ps_for PassesOwn.never rfl (pi_range1 (by rfl) mB_range (pa_cons (pe_callB (r := rLenQ K) call_len_seq (by rfl) mB_len (by decide +kernel) (pa_cons (pv 0) pa_nil)) pa_nil)) (pg_name (i := 4) sc_law_sum.nd rfl (by first | exact Or.inl rfl | exact Or.inr rfl))
    (pss_one (ps_set (i := 3) sc_law_sum.nd rfl (by first | exact Or.inl rfl | exact Or.inr rfl) (pe_op op_mod (pe_callTy (r := rInt1) call_int1 (by rfl) mB_int (by decide +kernel) (pa_cons (pe_op op_mul (pv 3) (pe_ix (r := rIxL K) ix_list (pe_ix (r := rIxL K) ix_list (pv 0) (pv 4) (fun _ _ => rfl)) (pe_ix (r := rIxT K) ix_tup (pv 2) (pv 4) (fun _ _ => rfl)) (fun _ _ => rfl))) pa_nil)) pe_int))))
  (pss_one (ps_set (i := 1) sc_law_sum.nd rfl (by first | exact Or.inl rfl | exact Or.inr rfl) (pe_op op_add (pv 1) (pv 3)))))))
  (pss_one (ps_ret (pe_op op_mod (pv 1) pe_int))))), ?_⟩
    refine w_asgI (n := 0) (Wd.start eF) er_int fun H1 w1 s1 => ?_
    refine w_for w1 (src_list (er_call (s := rLst (rTup rInt)) (b := ords n) (ea1 (er_lenL (er_var rfl hv))) mono1 ⟨n, by rw [hl], hn, rfl⟩)) tgt_n mono_sn (fun pre σ' G' H' => ∃ (tot : Int) (x2 x3 x4 : Option V), Ex F G' ∧ LA97.Z (tot - sumZ (fun o => sg o * tm rows o) pre) ∧ σ' = [some v, some (.int tot), x2, x3, x4])
      (fun G2 H2 w2 s2 => ⟨0, none, none, none, s2.fr, by show LA97.Z (0 - 0); exact LA97.Z.zero, rfl⟩) (fun Gs pre o post σ' σ2 G' H' G2 H2 has hP s2 w2 eGs hS => ?_) (fun σ' G' H' w2 hP => ?_)
    · obtain ⟨tot, x2, x3, x4, eF', hZ, rfl⟩ := hP
      obtain ⟨z, hz, rfl⟩ := hS
      have O := mem_ords.mp (show o ∈ ords n by rw [has]; exact List.mem_append_right _ List.mem_cons_self)
      refine w_asgI (n := sg o) w2 (er_call (s := rInt) (ea1 (er_var rfl hz)) mono1 ⟨o, rfl, by have := O.len; omega, rfl⟩) fun H3 w3 s3 => ?_
      have hv3 := rRows.mono (eF'.trans s2.fr) hv
      refine w_for w3 (src_rng1 (ea1 (er_lenL (er_var rfl hv3))) (by omega)) tgt_n mono_sn (fun pre2 σ' Ga Ha => ∃ (x : Int) (x4 : Option V), Ex G2 Ga ∧ (-2 < x ∧ x < 97) ∧ LA97.Z (x - sg o * tm (rows.take pre2.length) (o.take pre2.length)) ∧ σ' = [some v, some (.int tot), some z, some (.int x), x4])
        (fun Ga Ha wa sa => ⟨sg o, x4, sa.fr, by unfold sg; omega, by show LA97.Z (sg o - sg o * tm (rows.take 0) (o.take 0)); rw [List.take_zero, List.take_zero, show tm [] [] = 1 from rfl, Int.mul_one, Int.sub_self]; exact LA97.Z.zero, rfl⟩) (fun Gt pre2 b post2 σ' σ2 Ga Ha Gb Hb has2 hP2 sb wb eGt hS2 => ?_) (fun σ' Ga Ha wa hP2 => ?_)
      · obtain ⟨x, y4, eA, hx, hxz, rfl⟩ := hP2
        obtain ⟨u, hu, rfl⟩ := hS2
        cases (show u = V.int b from hu)
        obtain ⟨eb, hk, _⟩ := rng_mid has2
        have hk : pre2.length < rows.length := by omega
        have hko : pre2.length < o.length := by
          rw [O.len]
          omega
        have eb : b = (pre2.length : Int) := by omega
        subst eb
        have hvb := rRows.mono (eA.trans sb.fr) hv3
        have hzb := (rTup rInt).mono (eA.trans sb.fr) hz
        have hol := O.low _ (List.getElem_mem hko)
        obtain ⟨cc, hcc⟩ := Int.eq_ofNat_of_zero_le hol.1
        have hrl := hw _ (List.getElem_mem hk)
        refine v_asgI (n := x * vec rows[pre2.length] o[pre2.length].toNat % 97) wb (er_I (er_int1 (er_I (er_vi rfl) (er_ixL (er_ixL (a := rows[pre2.length]) (er_var rfl hvb) (er_vi rfl) (atI_nat (List.getElem?_eq_getElem hk))) (er_ixT (a := o[pre2.length]) (er_var rfl hzb) (er_vi rfl) (atI_nat (List.getElem?_eq_getElem hko))) (by rw [hcc, Int.toNat_natCast]; exact atI_vec (by omega))) (Or.inl ⟨by omega, by omega⟩))) er_int (by decide)) fun Hc wc sc => ?_
        refine ⟨_, wc, eGt, _, some (.int (pre2.length : Int)), eA.trans sb.fr, ⟨by have := Int.emod_nonneg (x * vec rows[pre2.length] o[pre2.length].toNat) (show (97 : Int) ≠ 0 by decide); omega, Int.emod_lt_of_pos _ (by decide)⟩, ?_, rfl⟩
        rw [List.length_append, show pre2.length + [(pre2.length : Int)].length = pre2.length + 1 from rfl, tm_snoc hk hko, ← Int.mul_assoc]
        have h1 := z_mod (x * vec rows[pre2.length] o[pre2.length].toNat)
        have h2 := hxz.mulR (vec rows[pre2.length] o[pre2.length].toNat)
        rw [Int.sub_mul] at h2
        have := h1.add h2
        have e : ∀ x y z : Int, x - y + (y - z) = x - z := fun x y z => by omega
        rw [e] at this
        exact this
      · obtain ⟨x, y4, eA, hx, hxz, rfl⟩ := hP2
        rw [rng_len, show ((rows.length : Int)).toNat = rows.length by omega, List.take_length, List.take_of_length_le (by rw [O.len, hl]; exact Nat.le_refl _)] at hxz
        refine v_asgI (n := tot + x) wa (er_I0 (er_vi rfl) (er_vi rfl)) fun Hb wb sb => ⟨_, wb, eGs.trans eA, _, _, _, _, (eF'.trans s2.fr).trans eA, ?_, rfl⟩
        have hs : ∀ l : List (List Int), sumZ (fun o => sg o * tm rows o) (l ++ [o]) = sumZ (fun o => sg o * tm rows o) l + sg o * tm rows o := by
          intro l
          induction l with
          | nil =>
            show sg o * tm rows o + 0 = 0 + sg o * tm rows o
            omega
          | cons c l ih =>
            show sg c * tm rows c + sumZ _ (l ++ [o]) = sg c * tm rows c + sumZ _ l + _
            rw [ih]
            omega
        rw [hs]
        have := hZ.add hxz
        have e : ∀ x y z u : Int, x - y + (z - u) = x + z - (y + u) := fun x y z u => by omega
        rw [e] at this
        exact this
    · obtain ⟨tot, x2, x3, x4, eF', hZ, rfl⟩ := hP
      exact v_retI (n := Dt n rows % 97) w2 (er_is (er_I (er_vi rfl) er_int (by decide)) (emod_eq hZ)) fun H5 e5 => q _ H5 e5 rfl
theorem ok_law_is {f : Addr} {fd : FuncData} (D : DefAt K mg "_law_is" s_law_is ["told", "due"] f fd) (mB_isinstance : mg "isinstance" = none) (mB_int : mg "int" = none) (mB_bool : mg "bool" = none) : FnOk P w K mg base CX0 1 f fd ["told", "due"] (spV rBl wIs) := by
  refine D.F.ok sc_law_is (fun vs H Q E h => ?_) (fun cdv A outer s H vs Q E hr h => ?_)
  · obtain ⟨F, Pp, b, _, _, ⟨n, u, rfl, _⟩, ⟨v, z, rfl, _⟩, _⟩ := h
    rfl
  · obtain ⟨F, Pp, b, eF, _, ⟨x, y, rfl, rfl⟩, ⟨v, u, rfl, hv, hu⟩, q⟩ := h
    cases (show v = V.int x from hv)
    cases (show u = V.int y from hu)
    refine ⟨_, (pss_one (ps_ret (pe_and (pe_callB (r := rIsi K) call_isi (by rfl) mB_isinstance (by decide +kernel) (pa_cons (pv 0) (pa_cons (pe_bltn (v := .ty "int") (by rfl) mB_int (by decide +kernel) rfl) pa_nil))) (pe_and (pe_not (pe_callB (r := rIsi K) call_isi (by rfl) mB_isinstance (by decide +kernel) (pa_cons (pv 0) (pa_cons (pe_bltn (v := .ty "bool") (by rfl) mB_bool (by decide +kernel) rfl) pa_nil)))) (pe_one (pe_cmpR op_eq (pv 0) (pv 1) (nomark _))))))), ?_⟩
    have ei : Er rInt (tVar 0) [some (.int x), some (.int y)] F x := er_vi rfl
    exact v_retB (n := decide (x = y)) (Wd.start eF) (er_is (er_andV (a := true) (b := decide (x = y)) (er_isiV ei (fun _ _ h => ty_int h) (kit_ty (by decide +kernel))) fun _ => er_is (er_andV (a := true) (b := decide (x = y)) (er_notV (a := false) (er_isiV ei (fun _ _ h => ty_int h) (kit_ty (by decide +kernel)))) fun _ => er_eqI ei (er_vi rfl)) (Bool.true_and _)) (Bool.true_and _)) fun H5 e5 => q _ H5 e5 rfl
theorem ok_law_asked {f fI fD fO : Addr} {fd fdI fdD fdO : FuncData} (D : DefAt K mg "_law_asked" s_law_asked ["rows", "due", "twice"] f fd) (D_law_is : DefAt K mg "_law_is" s_law_is ["told", "due"] fI fdI) (D_determinant : DefAt K mg "determinant" s_determinant ["rows"] fD fdD) (D_det_by_orders : DefAt K mg "det_by_orders" s_det_by_orders ["rows"] fO fdO)
    (G_determinant : FnOk P w K mg base CX0 3 fD fdD ["rows"] (spV rInt wDet)) (G_det_by_orders : FnOk P w K mg base CX0 3 fO fdO ["rows"] (spV rInt wDet))
    (mB_list : mg "list" = none) (mB_isinstance : mg "isinstance" = none) (mB_int : mg "int" = none) (mB_bool : mg "bool" = none) : FnOk P w K mg base CX0 4 f fd ["rows", "due", "twice"] (spV rBl wAsked) := by
  have G_law_is : FnOk P w K mg base CX0 1 fI fdI ["told", "due"] (spV rBl wIs) := ok_law_is D_law_is mB_isinstance mB_int mB_bool
  refine D.F.ok sc_law_asked (fun vs H Q E h => ?_) (fun cdv A outer s H vs Q E hr h => ?_)
  · obtain ⟨F, Pp, b, _, _, ⟨n, u, _, rfl, _⟩, ⟨v, z, _, rfl, _⟩, _⟩ := h
    rfl
  · obtain ⟨F, Pp, b, eF, _, ⟨rows, n, tw, rfl, hn, hsq, rfl⟩, ⟨v, u, z, rfl, hv, hu, hz⟩, q⟩ := h
    cases (show u = V.int (Dt n rows % 97) from hu)
    cases (show z = V.bl tw from hz)
    have hl := hsq.1
    refine ⟨_, (pss_cons (ps_setLc (i := 3) (own := [("row", 4)]) (g := gName 4) rfl sc_law_asked.nd rfl rfl (sw_true rfl rfl rfl (by decide +kernel)) (pi_listK (K := K) (pv 0)) (blkOk_by (own := [("row", 4)]) (N := ["rows", "due", "twice", "given", "row"]) (sc := defScope s_law_asked) (by decide +kernel)) (fun _ _ _ _ _ => (pg_name (i := 4) sc_law_asked.nd rfl (by first | exact Or.inl rfl | exact Or.inr rfl))) (fun _ _ _ _ _ => pts_nil) (fun _ _ _ _ _ => (pe_callTy (r := rLstQ K) call_list_of (by rfl) mB_list (by decide +kernel) (pa_cons (pv 4) pa_nil))))
  (pss_cons (ps_if (PW.pt (pw_or (pt_not (pt_val (pe_call G_law_is (hr.mono (by decide)) (by rfl) D_law_is.g D_law_is.F.kp D_law_is.b .nil pass0 (pa_cons (pe_call G_determinant (hr.mono (by decide)) (by rfl) D_determinant.g D_determinant.F.kp D_determinant.b .nil pass0 (pa_cons (pv 3) pa_nil)) (pa_cons (pv 1) pa_nil))))) (pw_or1 (pt_cmpR (r := rNeD K) (op_neD hr.units) (pv 3) (pv 0) (nomark _)))))
    (pss_one (ps_ret pe_bl))
    pss_nil)
  (pss_one (ps_ret (pe_or (pe_not (pv 2)) (pe_one (pe_and (pe_call G_law_is (hr.mono (by decide)) (by rfl) D_law_is.g D_law_is.F.kp D_law_is.b .nil pass0 (pa_cons (pe_call G_det_by_orders (hr.mono (by decide)) (by rfl) D_det_by_orders.g D_det_by_orders.F.kp D_det_by_orders.b .nil pass0 (pa_cons (pv 3) pa_nil)) (pa_cons (pv 1) pa_nil))) (pe_one (pe_cmpR (r := rEqD K) (op_eqD hr.units) (pv 3) (pv 0) (nomark _)))))))))), ?_⟩
    refine w_asg (r := rRows) (a := rows) (Wd.start eF) (En.er (en_is (en_lc (s := rLst rInt) (fun _ => true) (fun r => r) (src_list (er_var rfl hv)) tgt_n (by omega) (fun r hr2 G σ2 eG hS => ?_)) ?_)) fun vg G1 H1 w1 s1 hvg => ?_
    · obtain ⟨x, hx, rfl⟩ := hS
      exact ⟨rfl, fun H1 _ Q q => q H1 (Ex.refl _), fun _ => En.er (en_listL (er_var rfl hx))⟩
    · rw [List.filter_eq_self.mpr fun _ _ => rfl, List.map_id']
    have hv1 := rRows.mono s1.fr hv
    refine w_no w1 (et_or (a := false) (b := false) (et_not (a := true) (DL.et_B (er_is (er_call (s := rBl) (ea2 (er_call (s := rInt) (ea1 (er_var rfl hvg)) mono1 ⟨rows, n, rfl, hn, hsq, rfl⟩) (er_vi rfl)) mono2 ⟨Dt n rows % 97, Dt n rows % 97, rfl, rfl⟩) (decide_eq_true rfl)))) fun _ => et_test (er_is (er_neD (eLst (eLst eInt)) (show 0 + 1 + 1 ≤ 64 by decide) (er_var rfl hvg) (er_var rfl hv1)) (by simp))) rfl fun H2 w2 s2 => ?_
    refine v_retB (n := true) w2 (er_is (er_orV (a := !tw) (b := true) (er_notV (er_var (r := rBl) rfl rfl)) fun _ => er_is (er_andV (a := true) (b := true) (er_is (er_call (s := rBl) (ea2 (er_call (s := rInt) (ea1 (er_var rfl hvg)) mono1 ⟨rows, n, rfl, hn, hsq, rfl⟩) (er_vi rfl)) mono2 ⟨Dt n rows % 97, Dt n rows % 97, rfl, rfl⟩) (decide_eq_true rfl)) fun _ => er_is (er_eqD (eLst (eLst eInt)) (show 0 + 1 + 1 ≤ 64 by decide) (er_var rfl hvg) (er_var rfl hv1)) (decide_eq_true rfl)) rfl) (Bool.or_true _)) fun H5 e5 => q _ H5 e5 rfl
end
end K03
set_option Elab.async false
set_option linter.all false
set_option maxRecDepth 100000
set_option maxHeartbeats 8000000
namespace K03
open PySem PySem.Spec PyProof.Rows L2 Evl DL K00
abbrev s_law_right_orders : Stmt := topS 27
theorem sc_law_right_orders : FnScope ["told", "count", "due", "k", "order", "x"] ["told", "count"] (defScope s_law_right_orders) := ⟨rfl, rfl, rfl, by decide +kernel, rfl, by decide +kernel, by decide +kernel⟩
/- 0 told, 1 count, 2 due, 3 k, 4 order, 5 x -/
abbrev s_law_powers : Stmt := topS 30
theorem sc_law_powers : FnScope ["numbers", "rows", "number", "row", "power", "k"] ["numbers"] (defScope s_law_powers) := ⟨rfl, rfl, rfl, by decide +kernel, rfl, by decide +kernel, by decide +kernel⟩
/- 0 numbers, 1 rows, 2 number, 3 row, 4 power, 5 k -/
abbrev s_law_right_differences : Stmt := topS 31
theorem sc_law_right_differences : FnScope ["numbers", "due", "j", "i", "given"] ["numbers"] (defScope s_law_right_differences) := ⟨rfl, rfl, rfl, by decide +kernel, rfl, by decide +kernel, by decide +kernel⟩
/- 0 numbers, 1 due, 2 j, 3 i, 4 given -/
abbrev s_law_changed_right : Stmt := topS 32
theorem sc_law_changed_right : FnScope ["rows", "due", "one", "other", "factor", "times", "turned", "added", "row", "number", "k"] ["rows", "due", "one", "other", "factor"] (defScope s_law_changed_right) := ⟨rfl, rfl, rfl, by decide +kernel, rfl, by decide +kernel, by decide +kernel⟩
/- 0 rows, 1 due, 2 one, 3 other, 4 factor, 5 times, 6 turned, 7 added, 8 row, 9 number, 10 k -/
def wRO : (Hp → List V → Prop) → Bool → Prop := fun P b => ∃ n : Nat, P = A2 (rLst rOS) rInt (sgs n) (n : Int) ∧ n ≤ 6 ∧ b = true
def wPow : (Hp → List V → Prop) → List Row → Prop := fun P b => ∃ xs : List Int, P = A1 (rLst rInt) xs ∧ Nums xs ∧ b = xs.map (rowV [] xs.length)
def wRD : (Hp → List V → Prop) → Bool → Prop := fun P b => ∃ xs : List Int, P = A1 (rLst rInt) xs ∧ Nums xs ∧ b = true
def A5 {α β γ δ ε : Type} (r : Rep α) (s : Rep β) (t : Rep γ) (u : Rep δ) (z : Rep ε) (a : α) (b : β) (c : γ) (d : δ) (e : ε) : Hp → List V → Prop := fun G vs => ∃ v w x y y2, vs = [v, w, x, y, y2] ∧ r.rel G v a ∧ s.rel G w b ∧ t.rel G x c ∧ u.rel G y d ∧ z.rel G y2 e
def wCR : (Hp → List V → Prop) → Bool → Prop := fun P b => ∃ (rows : List Row) (n i j : Nat) (x : Int), P = A5 rRows rInt rInt rInt rInt rows (Dt n rows % 97) (i : Int) (j : Int) x ∧ n ≤ 6 ∧ Sq rows n ∧ i < n ∧ j < n ∧ (-(2 ^ 60) < x ∧ x < 2 ^ 60) ∧ b = true
section
variable {α β γ δ ε : Type} {K : PySem.W.Frag} {σ : L2.St} {F G H H1 : Hp} {ta tb tc td te : TE} {r : Rep α} {s : Rep β} {t : Rep γ} {u : Rep δ} {z : Rep ε} {a : α} {b : β} {c : γ} {d : δ} {e : ε}
theorem mono5 : MonoP (A5 r s t u z a b c d e) := fun e ⟨v, w, x, y, y2, h, k1, k2, k3, k4, k5⟩ => ⟨v, w, x, y, y2, h, r.mono e k1, s.mono e k2, t.mono e k3, u.mono e k4, z.mono e k5⟩
theorem ea5 (h1 : Er r ta σ F a) (h2 : Er s tb σ F b) (h3 : Er t tc σ F c) (h4 : Er u td σ F d) (h5 : Er z te σ F e) : Ea (A5 r s t u z a b c d e) (tCons ta (tCons tb (tCons tc (tCons td (tCons te tNil))))) σ F := fun H1 eF _ q =>
  h1 H1 eF _ fun v1 H2 e2 k1 => h2 H2 (eF.trans e2) _ fun v2 H3 e3 k2 => h3 H3 (eF.trans (e2.trans e3)) _ fun v3 H4 e4 k3 => h4 H4 (eF.trans (e2.trans (e3.trans e4))) _ fun v4 H5 e5 k4 => h5 H5 (eF.trans (e2.trans (e3.trans (e4.trans e5)))) _ fun v5 H6 e6 k5 =>
    q _ H6 (e2.trans (e3.trans (e4.trans (e5.trans e6)))) ⟨v1, v2, v3, v4, v5, rfl, r.mono (part_up (e3.trans (e4.trans (e5.trans e6)))) k1, s.mono ((part_back e2).trans (part_up (e4.trans (e5.trans e6)))) k2, t.mono ((part_back (e2.trans e3)).trans (part_up (e5.trans e6))) k3, u.mono ((part_back (e2.trans (e3.trans e4))).trans (part_up e6)) k4, z.mono (part_back (e2.trans (e3.trans (e4.trans e5)))) k5⟩
theorem er_lenP {c : α × β} (h : Er (rPair r s) ta σ F c) : Er rInt (tCB (rLenQ K) (tCons ta tNil)) σ F (2 : Int) := fun H1 e Q q => h H1 e _ fun v H2 e2 ⟨p, x, y, hx, hp, _⟩ =>
  ⟨p, [x, y], congrArg (· :: []) hx, .inr (SqT.of (part_sub (e.trans e2) p _ hp)), q _ H2 e2 rfl⟩
end
theorem prodZ_snoc (b : Int) : ∀ l : List Int, prodZ (l ++ [b]) = prodZ l * b
  | [] => by
    show b * 1 = 1 * b
    rw [Int.mul_comm]
  | c :: l => by
    show c * prodZ (l ++ [b]) = c * prodZ l * b
    rw [prodZ_snoc b l, Int.mul_assoc]
theorem diffP_snoc (x : Int) : ∀ p : List Int, diffP (p ++ [x]) = diffP p * prodZ (p.map fun z => x - z)
  | [] => rfl
  | y :: p => by
    show prodZ ((p ++ [x]).map fun z => z - y) * diffP (p ++ [x]) = prodZ (p.map fun z => z - y) * diffP p * ((x - y) * prodZ (p.map fun z => x - z))
    rw [diffP_snoc x p, List.map_append, show [x].map (fun z => z - y) = [x - y] from rfl, prodZ_snoc]
    generalize prodZ (p.map fun z => z - y) = A
    generalize diffP p = B
    generalize prodZ (p.map fun z => x - z) = C
    rw [Int.mul_assoc, Int.mul_assoc, Int.mul_left_comm (x - y) B C]
theorem map_row0 {xs : List Int} {n : Nat} : ∀ r ∈ xs.map (rowV [] n), r.length = n := fun r hr => by
  obtain ⟨x, _, rfl⟩ := List.mem_map.mp hr
  unfold rowV
  rw [List.length_map, List.length_range]
theorem rowV_take {x : Int} {k : Nat} : rowV [] (k + 1) x = rowV [] k x ++ [H [x] k] := by
  unfold rowV
  rw [List.range_succ, List.map_append]
  rfl
theorem H_one {x : Int} {k : Nat} : H [x] (k + 1) = H [x] k * x := by
  rw [H_succ, Int.mul_comm]
  have : H [] (k + 1) = 0 := by rw [H]
  rw [this, Int.add_zero]
section
variable {P : Program} {w : World} {K : PySem.W.Frag} {mg : Str → Option Value} {base : Heap} {t : Tok}
theorem ok_law_right_orders {f fO fS fI : Addr} {fd fdO fdS fdI : FuncData} (D : DefAt K mg "_law_right_orders" s_law_right_orders ["told", "count"] f fd) (D_law_orders : DefAt K mg "_law_orders" s_law_orders ["count"] fO fdO) (D_law_sign : DefAt K mg "_law_sign" s_law_sign ["order"] fS fdS) (D_law_is : DefAt K mg "_law_is" s_law_is ["told", "due"] fI fdI)
    (mB_range : mg "range" = none) (mB_len : mg "len" = none) (mB_list : mg "list" = none) (mB_int : mg "int" = none) (mB_isinstance : mg "isinstance" = none) (mB_bool : mg "bool" = none) (mB_tuple : mg "tuple" = none) : FnOk P w K mg base CX0 2 f fd ["told", "count"] (spV rBl wRO) := by
  have G_law_orders : FnOk P w K mg base CX0 1 fO fdO ["count"] (spV (rLst (rTup rInt)) wOrds) := ok_law_orders D_law_orders mB_range mB_list
  have G_law_sign : FnOk P w K mg base CX0 1 fS fdS ["order"] (spV rInt wSign) := ok_law_sign D_law_sign mB_range mB_len
  have G_law_is : FnOk P w K mg base CX0 1 fI fdI ["told", "due"] (spV rBl wIs) := ok_law_is D_law_is mB_isinstance mB_int mB_bool
  refine D.F.ok sc_law_right_orders (fun vs H Q E h => ?_) (fun cdv A outer s H vs Q E hr h => ?_)
  · obtain ⟨F, Pp, b, _, _, ⟨n, rfl, _⟩, ⟨v, z, rfl, _⟩, _⟩ := h
    rfl
  · obtain ⟨F, Pp, b, eF, _, ⟨n, rfl, hn, rfl⟩, ⟨v, u, rfl, hv, hu⟩, q⟩ := h
    cases (show u = V.int (n : Int) from hu)
    refine ⟨_, (pss_cons (ps_setLc (i := 2) (own := [("order", 4)]) (g := gName 4) rfl sc_law_right_orders.nd rfl rfl (sw_true rfl rfl rfl (by decide +kernel)) (pi_listK (K := K) (pe_call G_law_orders (hr.mono (by decide)) (by rfl) D_law_orders.g D_law_orders.F.kp D_law_orders.b .nil pass0 (pa_cons (pv 1) pa_nil))) (blkOk_by (own := [("order", 4)]) (N := ["told", "count", "due", "k", "order", "x"]) (sc := defScope s_law_right_orders) (by decide +kernel)) (fun _ _ _ _ _ => (pg_name (i := 4) sc_law_right_orders.nd rfl (by first | exact Or.inl rfl | exact Or.inr rfl))) (fun _ _ _ _ _ => pts_nil) (fun _ _ _ _ _ => (pe_tup (pa_cons (pv 4) (pa_cons (pe_call G_law_sign (hr.mono (by decide)) (by rfl) D_law_sign.g D_law_sign.F.kp D_law_sign.b .nil pass0 (pa_cons (pv 4) pa_nil)) pa_nil)))))
  (pss_cons (ps_if (PW.pt (pw_or (pt_not (pt_val (pe_callB (r := rIsi K) call_isi (by rfl) mB_isinstance (by decide +kernel) (pa_cons (pv 0) (pa_cons (pe_bltn (v := .ty "list") (by rfl) mB_list (by decide +kernel) rfl) pa_nil))))) (pw_or1 (pt_cmpR op_ne (pe_callB (r := rLenQ K) call_len_seq (by rfl) mB_len (by decide +kernel) (pa_cons (pv 0) pa_nil)) (pe_callB (r := rLenQ K) call_len_seq (by rfl) mB_len (by decide +kernel) (pa_cons (pv 2) pa_nil)) (nomark _)))))
    (pss_one (ps_ret pe_bl))
    pss_nil)
  (pss_cons (ps_for PassesOwn.never rfl (pi_range1 (by rfl) mB_range (pa_cons (pe_callB (r := rLenQ K) call_len_seq (by rfl) mB_len (by decide +kernel) (pa_cons (pv 2) pa_nil)) pa_nil)) (pg_name (i := 3) sc_law_right_orders.nd rfl (by first | exact Or.inl rfl | exact Or.inr rfl))
    (pss_cons (ps_if (PW.pt (pw_or (pt_not (pt_val (pe_callB (r := rIsi K) call_isi (by rfl) mB_isinstance (by decide +kernel) (pa_cons (pe_ix (r := rIxL K) ix_list (pv 0) (pv 3) (fun _ _ => rfl)) (pa_cons (pe_bltn (v := .ty "tuple") (by rfl) mB_tuple (by decide +kernel) rfl) pa_nil))))) (pw_or (pt_cmpR op_ne (pe_callB (r := rLenQ K) call_len_seq (by rfl) mB_len (by decide +kernel) (pa_cons (pe_ix (r := rIxL K) ix_list (pv 0) (pv 3) (fun _ _ => rfl)) pa_nil)) pe_int (nomark _)) (pw_or1 (pt_not (pt_val (pe_callB (r := rIsi K) call_isi (by rfl) mB_isinstance (by decide +kernel) (pa_cons (pe_ix (r := rIxT K) ix_tup (pe_ix (r := rIxL K) ix_list (pv 0) (pv 3) (fun _ _ => rfl)) pe_int (fun _ _ => rfl)) (pa_cons (pe_bltn (v := .ty "tuple") (by rfl) mB_tuple (by decide +kernel) rfl) pa_nil)))))))))
    (pss_one (ps_ret pe_bl))
    pss_nil)
  (pss_cons (ps_if (PW.pt (pw_or (pt_cmpR (r := rNeD K) (op_neD hr.units) (pe_ix (r := rIxL K) ix_list (pv 0) (pv 3) (fun _ _ => rfl)) (pe_ix (r := rIxL K) ix_list (pv 2) (pv 3) (fun _ _ => rfl)) (nomark _)) (pw_or1 (pt_not (pt_val (pe_call G_law_is (hr.mono (by decide)) (by rfl) D_law_is.g D_law_is.F.kp D_law_is.b .nil pass0 (pa_cons (pe_ix (r := rIxT K) ix_tup (pe_ix (r := rIxL K) ix_list (pv 0) (pv 3) (fun _ _ => rfl)) pe_int (fun _ _ => rfl)) (pa_cons (pe_ix (r := rIxT K) ix_tup (pe_ix (r := rIxL K) ix_list (pv 2) (pv 3) (fun _ _ => rfl)) pe_int (fun _ _ => rfl)) pa_nil))))))))
    (pss_one (ps_ret pe_bl))
    pss_nil)
  (pss_one (ps_if (pt_cmpR (r := rIn K false) op_in_seq pe_bl (pe_lc (own := [("x", 5)]) (g := gName 5) rfl sc_law_right_orders.nd (pi_tupK (K := K) (pe_ix (r := rIxT K) ix_tup (pe_ix (r := rIxL K) ix_list (pv 0) (pv 3) (fun _ _ => rfl)) pe_int (fun _ _ => rfl))) (blkOk_by (own := [("x", 5)]) (N := ["told", "count", "due", "k", "order", "x"]) (sc := defScope s_law_right_orders) (by decide +kernel)) (fun _ _ _ _ _ => (pg_name (i := 5) sc_law_right_orders.nd rfl (by first | exact Or.inl rfl | exact Or.inr rfl))) (fun _ _ _ _ _ => pts_nil) (fun _ _ _ _ _ => (pe_or (pe_callB (r := rIsi K) call_isi (by rfl) mB_isinstance (by decide +kernel) (pa_cons (pv 5) (pa_cons (pe_bltn (v := .ty "bool") (by rfl) mB_bool (by decide +kernel) rfl) pa_nil))) (pe_one (pe_not (pe_callB (r := rIsi K) call_isi (by rfl) mB_isinstance (by decide +kernel) (pa_cons (pv 5) (pa_cons (pe_bltn (v := .ty "int") (by rfl) mB_int (by decide +kernel) rfl) pa_nil)))))))) (by rfl))
    (pss_one (ps_ret pe_bl))
    pss_nil)))))
  (pss_one (ps_ret pe_bl))))), ?_⟩
    have hsl : (sgs n).length ≤ 46656 := by
      unfold sgs
      rw [List.length_map]
      exact ord_small hn hn
    refine w_asg (r := rLst rOS) (a := sgs n) (Wd.start eF) (En.er (en_is (en_lc (s := rOS) (fun _ => true) (fun o => (o, sg o)) (src_list (er_call (s := rLst (rTup rInt)) (b := ords n) (ea1 (er_vi rfl)) mono1 ⟨n, rfl, hn, rfl⟩)) tgt_n (Nat.lt_of_le_of_lt (ord_small hn hn) (by decide)) (fun o ho G σ2 eG hS => ?_)) ?_)) fun v2 G1 H1 w1 s1 hv2 => ?_
    · obtain ⟨y, hy, rfl⟩ := hS
      have hol := (mem_ordK.mp ho).len
      exact ⟨rfl, fun H1 _ Q q => q H1 (Ex.refl _), fun _ => er_pair (ea2 (er_var rfl hy) (er_call (s := rInt) (ea1 (er_var rfl hy)) mono1 ⟨o, rfl, by omega, rfl⟩))⟩
    · rw [List.filter_eq_self.mpr fun _ _ => rfl]
      rfl
    have hv1 := (rLst rOS).mono s1.fr hv
    refine w_no w1 (et_or (a := false) (b := false) (et_not (a := true) (DL.et_B (er_isiV (er_var rfl hv1) (fun _ _ h => ty_lst h) (kit_ty (by decide +kernel))))) fun _ => et_test (er_is (er_neI (er_lenL (er_var rfl hv1)) (er_lenL (er_var rfl hv2))) (by simp))) rfl fun H3 w3 s3 => ?_
    refine w_for w3 (src_rng1 (ea1 (er_lenL (er_var rfl hv2))) (by omega)) tgt_n mono_sn (fun pre σ' G' H' => ∃ x3 : Option V, Ex G1 G' ∧ σ' = [some v, some (.int (n : Int)), some v2, x3, none, none])
      (fun G2 H2 w2 s2 => ⟨none, s2.fr, rfl⟩) (fun Gs pre a post σ' σ2 G' H' G2 H2 has hP s2 w2 eGs hS => ?_) (fun σ' G' H' w2 hP => ?_)
    · obtain ⟨x3, e1, rfl⟩ := hP
      obtain ⟨z, hz, rfl⟩ := hS
      cases (show z = V.int a from hz)
      obtain ⟨ea, hk, _⟩ := rng_mid has
      have hk : pre.length < (sgs n).length := by omega
      have ea : a = (pre.length : Int) := by omega
      subst ea
      have hvt := (rLst rOS).mono (e1.trans s2.fr) hv1
      have hvd := (rLst rOS).mono (e1.trans s2.fr) hv2
      have hget : (sgs n)[pre.length]? = some (sgs n)[pre.length] := List.getElem?_eq_getElem hk
      have hmem := List.getElem_mem hk
      obtain ⟨o, ho, heq⟩ := List.mem_map.mp hmem
      have O := mem_ords.mp ho
      rw [← heq] at hget
      have eT : Er rOS (tOp (rIxL K) (tVar 0) (tVar 3)) [some v, some (.int (n : Int)), some v2, some (.int (pre.length : Int)), none, none] G2 (o, sg o) := er_ixL (er_var rfl hvt) (er_vi rfl) (atI_nat hget)
      have eD : Er rOS (tOp (rIxL K) (tVar 2) (tVar 3)) [some v, some (.int (n : Int)), some v2, some (.int (pre.length : Int)), none, none] G2 (o, sg o) := er_ixL (er_var rfl hvd) (er_vi rfl) (atI_nat hget)
      have eT0 : Er (rTup rInt) (tOp (rIxT K) (tOp (rIxL K) (tVar 0) (tVar 3)) (tC (.int 0))) [some v, some (.int (n : Int)), some v2, some (.int (pre.length : Int)), none, none] G2 o := er_fst eT er_int
      refine w_no w2 (et_or (a := false) (b := false) (et_not (a := true) (DL.et_B (er_isiV eT (fun _ _ h => ty_pair h) (kit_ty (by decide +kernel))))) fun _ => et_or (a := false) (b := false) (et_test (er_is (er_neI (er_lenP eT) er_int) (by decide))) fun _ => et_not (a := true) (DL.et_B (er_isiV eT0 (fun _ _ h => ty_tup h) (kit_ty (by decide +kernel))))) rfl fun H4 w4 s4 => ?_
      refine w_no w4 (et_or (a := false) (b := false) (et_test (er_is (er_neD (ePair (eTup eInt) eInt) (show max (0 + 1) 0 + 1 ≤ 64 by decide) eT eD) (by simp))) fun _ => et_not (a := true) (DL.et_B (er_is (er_call (s := rBl) (ea2 (er_snd eT er_int) (er_snd eD er_int)) mono2 ⟨sg o, sg o, rfl, rfl⟩) (decide_eq_true rfl)))) rfl fun H5 w5 s5 => ?_
      refine v_no w5 (et_test (er_inB er_bl (En.er (en_lc (s := rBl) (fun _ => true) (fun _ => false) (src_tup eT0) tgt_n (by rw [O.len]; omega) (fun x hx G σ2 eG hS => ?_))))) ?_ fun H6 w6 s6 => ⟨_, w6, eGs, _, e1.trans s2.fr, rfl⟩
      · obtain ⟨y, hy, rfl⟩ := hS
        cases (show y = V.int x from hy)
        have ei : Er rInt (tVar 5) [some v, some (.int (n : Int)), some v2, some (.int (pre.length : Int)), none, some (.int x)] G x := er_vi rfl
        exact ⟨rfl, fun H1 _ Q q => q H1 (Ex.refl _), fun _ => er_is (er_orV (a := false) (b := false) (er_isiV ei (fun _ _ h => ty_int h) (kit_ty (by decide +kernel))) fun _ => er_notV (a := true) (er_isiV ei (fun _ _ h => ty_int h) (kit_ty (by decide +kernel)))) rfl⟩
      · refine decide_eq_false fun z => ?_
        obtain ⟨_, _, z2⟩ := List.mem_map.mp z
        cases z2
    · obtain ⟨x3, e1, rfl⟩ := hP
      exact v_retB w2 er_bl fun H5 e5 => q _ H5 e5 rfl
theorem ok_law_powers {f : Addr} {fd : FuncData} (D : DefAt K mg "_law_powers" s_law_powers ["numbers"] f fd) (mB_range : mg "range" = none) (mB_len : mg "len" = none) : FnOk P w K mg base CX0 1 f fd ["numbers"] (spN (rLst rInt) wPow) := by
  refine D.F.ok sc_law_powers (fun vs H Q E h => ?_) (fun cdv A outer s H vs Q E hr h => ?_)
  · obtain ⟨F, Pp, b, _, _, ⟨n, rfl, _⟩, ⟨v, rfl, _⟩, _⟩ := h
    rfl
  · obtain ⟨F, Pp, b, eF, _, ⟨xs, rfl, ⟨hl, hb⟩, rfl⟩, ⟨v, rfl, hv⟩, q⟩ := h
    refine ⟨_, (pss_cons (ps_set (i := 1) sc_law_powers.nd rfl (by first | exact Or.inl rfl | exact Or.inr rfl) (pe_lst pa_nil))
  (pss_cons (ps_for PassesOwn.never rfl (pi_listK (K := K) (pv 0)) (pg_name (i := 2) sc_law_powers.nd rfl (by first | exact Or.inl rfl | exact Or.inr rfl))
    (pss_cons (ps_set (i := 3) sc_law_powers.nd rfl (by first | exact Or.inl rfl | exact Or.inr rfl) (pe_lst pa_nil))
  (pss_cons (ps_set (i := 4) sc_law_powers.nd rfl (by first | exact Or.inl rfl | exact Or.inr rfl) pe_int)
  (pss_cons (ps_for PassesOwn.never rfl (pi_range1 (by rfl) mB_range (pa_cons (pe_callB (r := rLenQ K) call_len_seq (by rfl) mB_len (by decide +kernel) (pa_cons (pv 0) pa_nil)) pa_nil)) (pg_name (i := 5) sc_law_powers.nd rfl (by first | exact Or.inl rfl | exact Or.inr rfl))
    (pss_cons (ps_expr (pe_bm PySem.F.plainAttrs_list PySem.F.slot_list_append PySem.F.type_list_append mt_append (pv 3) (pa_cons (pv 4) pa_nil)))
  (pss_one (ps_set (i := 4) sc_law_powers.nd rfl (by first | exact Or.inl rfl | exact Or.inr rfl) (pe_op op_mul (pv 4) (pv 2))))))
  (pss_one (ps_expr (pe_bm PySem.F.plainAttrs_list PySem.F.slot_list_append PySem.F.type_list_append mt_append (pv 1) (pa_cons (pv 3) pa_nil))))))))
  (pss_one (ps_ret (pv 1))))), ?_⟩
    refine w_asgN (r := rLst rInt) (as := []) (Wd.start eF) (en_lst eal_nil (Nat.zero_le _)) fun p G1 H1 w1 s1 mp np => ?_
    have hv1 := (rLst rInt).mono s1.fr hv
    refine w_for w1 (src_list (er_var rfl hv1)) tgt_n mono_sn (fun pre σ' G' H' => ∃ x2 x3 x4 x5 : Option V, Ex G1 G' ∧ Mu (rLst rInt) (pre.map (rowV [] xs.length)) G' H' p ∧ σ' = [some v, some (.ref p), x2, x3, x4, x5])
      (fun G2 H2 w2 s2 => ⟨none, none, none, none, s2.fr, mp.go s2, rfl⟩) (fun Gs pre x post σ' σ2 G' H' G2 H2 has hP s2 w2 eGs hS => ?_) (fun σ' G' H' w2 hP => ?_)
    · obtain ⟨x2, x3, x4, x5, e1, m, rfl⟩ := hP
      obtain ⟨z, hz, rfl⟩ := hS
      cases (show z = V.int x from hz)
      have hbx := hb x (by rw [has]; exact List.mem_append_right _ List.mem_cons_self)
      have m2 := m.go s2
      have hv2 := (rLst rInt).mono (e1.trans s2.fr) hv1
      refine w_asgN (r := rInt) (as := []) w2 (en_lst eal_nil (Nat.zero_le _)) fun p2 G3 H3 w3 s3 mp2 np2 => ?_
      have np20 : H p2 = none := back_none w2.up np2
      have m3 := m2.go s3
      have hne : p ≠ p2 := fun e => by
        obtain ⟨_, ys, h2, _⟩ := m2
        rw [e, np2] at h2
        cases h2
      refine w_asgI (n := 1) w3 er_int fun H4 w4 s4 => ?_
      have hv4 := (rLst rInt).mono s3.fr hv2
      refine w_for w4 (src_rng1 (ea1 (er_lenL (er_var rfl hv4))) (by omega)) tgt_n mono_sn (fun pre3 σ' Ga Ha => ∃ x5 : Option V, Ex G3 Ga ∧ Mu rInt (rowV [] pre3.length x) Ga Ha p2 ∧ Mu (rLst rInt) (pre.map (rowV [] xs.length)) Ga Ha p ∧ σ' = [some v, some (.ref p), some (.int x), some (.ref p2), some (.int (K03.H [x] pre3.length)), x5])
        (fun Ga Ha wa sa => ⟨x5, sa.fr, (mp2.go s4).go sa, (m3.go s4).go sa, by rw [show ([] : List Int).length = 0 from rfl, H_zero]; rfl⟩) (fun Gt pre3 b post3 σ' σ2 Ga Ha Gb Hb has3 hP3 sb wb eGt hS3 => ?_) (fun σ' Ga Ha wa hP3 => ?_)
      · obtain ⟨y5, eA, mr, mm, rfl⟩ := hP3
        obtain ⟨u, hu, rfl⟩ := hS3
        obtain ⟨_, hk, _⟩ := rng_mid has3
        have et : (pre3 ++ [b]).length = pre3.length + 1 := by
          rw [List.length_append]
          rfl
        have hrl : (rowV [] pre3.length x).length = pre3.length := by
          unfold rowV
          rw [List.length_map, List.length_range]
        refine w_app wb rfl (mr.go sb) np20 (by rw [hrl]; omega) (er_vi rfl) fun Gc Hc wc sc mc => ?_
        refine v_asgI (n := K03.H [x] pre3.length * x) wc (er_I (er_vi rfl) (er_vi rfl) (Or.inr ⟨by omega, by omega⟩)) fun Hd wd sd => ⟨Gc, wd, eGt.trans sc.fr, some u, eA.trans (sb.fr.trans sc.fr), ?_, ((mm.go sb).step sc fun e => hne (Option.some.inj e)).go sd, ?_⟩
        · rw [et, rowV_take]
          exact mc.go sd
        · rw [et, H_one]
          rfl
      · obtain ⟨y5, eA, mr, mm, rfl⟩ := hP3
        rw [rng_len, show ((xs.length : Int)).toNat = xs.length by omega] at mr
        obtain ⟨Gb, wb, eb, ry, ob⟩ := mr.froz wa np20
        have mmb : Mu (rLst rInt) (pre.map (rowV [] xs.length)) Gb Ha p := by
          obtain ⟨h1, ys, h2, h3⟩ := mm
          exact ⟨(ob p hne).trans h1, ys, h2, h3.imp fun _ _ k => (rLst rInt).mono eb k⟩
        refine v_app wb rfl mmb np (by rw [List.length_map]; have := congrArg List.length has; rw [List.length_append] at this; omega) (er_var rfl ry) fun Gc Hc wc sc mc => ?_
        refine ⟨Gc, wc, eGs.trans (s3.fr.trans (eA.trans (eb.trans sc.fr))), _, _, _, _, e1.trans (s2.fr.trans (s3.fr.trans (eA.trans (eb.trans sc.fr)))), ?_, rfl⟩
        rw [List.map_append]
        exact mc
    · obtain ⟨x2, x3, x4, x5, e1, m, rfl⟩ := hP
      exact v_retM w2 rfl m np fun nn => q p H' w2.up nn
theorem ok_law_right_differences {f fI fDf fA fP : Addr} {fd fdI fdDf fdA fdP : FuncData} (D : DefAt K mg "_law_right_differences" s_law_right_differences ["numbers"] f fd) (D_law_is : DefAt K mg "_law_is" s_law_is ["told", "due"] fI fdI) (D_difference_product : DefAt K mg "difference_product" s_difference_product ["numbers"] fDf fdDf)
    (D_law_asked : DefAt K mg "_law_asked" s_law_asked ["rows", "due", "twice"] fA fdA) (G_law_asked : FnOk P w K mg base CX0 4 fA fdA ["rows", "due", "twice"] (spV rBl wAsked)) (D_law_powers : DefAt K mg "_law_powers" s_law_powers ["numbers"] fP fdP) (c_PRIME : mg "PRIME" = some (.int 97 t))
    (mB_range : mg "range" = none) (mB_len : mg "len" = none) (mB_list : mg "list" = none) (mB_int : mg "int" = none) (mB_isinstance : mg "isinstance" = none) (mB_bool : mg "bool" = none) (mB_enumerate : mg "enumerate" = none) : FnOk P w K mg base CX0 5 f fd ["numbers"] (spV rBl wRD) := by
  have G_law_is : FnOk P w K mg base CX0 1 fI fdI ["told", "due"] (spV rBl wIs) := ok_law_is D_law_is mB_isinstance mB_int mB_bool
  have G_difference_product : FnOk P w K mg base CX0 1 fDf fdDf ["numbers"] (spV rInt wDiff) := ok_difference_product D_difference_product c_PRIME mB_enumerate
  have G_law_powers : FnOk P w K mg base CX0 1 fP fdP ["numbers"] (spN (rLst rInt) wPow) := ok_law_powers D_law_powers mB_range mB_len
  refine D.F.ok sc_law_right_differences (fun vs H Q E h => ?_) (fun cdv A outer s H vs Q E hr h => ?_)
  · obtain ⟨F, Pp, b, _, _, ⟨n, rfl, _⟩, ⟨v, rfl, _⟩, _⟩ := h
    rfl
  · obtain ⟨F, Pp, b, eF, _, ⟨xs, rfl, hnums, rfl⟩, ⟨v, rfl, hv⟩, q⟩ := h
    obtain ⟨hl, hb⟩ := id hnums
    refine ⟨_, (pss_cons (ps_set (i := 1) sc_law_right_differences.nd rfl (by first | exact Or.inl rfl | exact Or.inr rfl) pe_int)
  (pss_cons (ps_for PassesOwn.never rfl (pi_range1 (by rfl) mB_range (pa_cons (pe_callB (r := rLenQ K) call_len_seq (by rfl) mB_len (by decide +kernel) (pa_cons (pv 0) pa_nil)) pa_nil)) (pg_name (i := 2) sc_law_right_differences.nd rfl (by first | exact Or.inl rfl | exact Or.inr rfl))
    (pss_one (ps_for PassesOwn.never rfl (pi_range1 (by rfl) mB_range (pa_cons (pv 2) pa_nil)) (pg_name (i := 3) sc_law_right_differences.nd rfl (by first | exact Or.inl rfl | exact Or.inr rfl))
    (pss_one (ps_set (i := 1) sc_law_right_differences.nd rfl (by first | exact Or.inl rfl | exact Or.inr rfl) (pe_op op_mod (pe_callTy (r := rInt1) call_int1 (by rfl) mB_int (by decide +kernel) (pa_cons (pe_op op_mul (pv 1) (pe_op op_sub (pe_ix (r := rIxL K) ix_list (pv 0) (pv 2) (fun _ _ => rfl)) (pe_ix (r := rIxL K) ix_list (pv 0) (pv 3) (fun _ _ => rfl)))) pa_nil)) pe_int))))))
  (pss_cons (ps_set (i := 4) sc_law_right_differences.nd rfl (by first | exact Or.inl rfl | exact Or.inr rfl) (pe_callTy (r := rLstQ K) call_list_of (by rfl) mB_list (by decide +kernel) (pa_cons (pv 0) pa_nil)))
  (pss_cons (ps_if (PW.pt (pw_or (pt_not (pt_val (pe_call G_law_is (hr.mono (by decide)) (by rfl) D_law_is.g D_law_is.F.kp D_law_is.b .nil pass0 (pa_cons (pe_call G_difference_product (hr.mono (by decide)) (by rfl) D_difference_product.g D_difference_product.F.kp D_difference_product.b .nil pass0 (pa_cons (pv 4) pa_nil)) (pa_cons (pv 1) pa_nil))))) (pw_or1 (pt_cmpR (r := rNeD K) (op_neD hr.units) (pv 4) (pv 0) (nomark _)))))
    (pss_one (ps_ret pe_bl))
    pss_nil)
  (pss_one (ps_ret (pe_call G_law_asked (hr.mono (by decide)) (by rfl) D_law_asked.g D_law_asked.F.kp D_law_asked.b .nil pass0 (pa_cons (pe_call G_law_powers (hr.mono (by decide)) (by rfl) D_law_powers.g D_law_powers.F.kp D_law_powers.b .nil pass0 (pa_cons (pv 0) pa_nil)) (pa_cons (pv 1) (pa_cons (pe_cmpR op_lt (pe_callB (r := rLenQ K) call_len_seq (by rfl) mB_len (by decide +kernel) (pa_cons (pv 0) pa_nil)) pe_int (nomark _)) pa_nil)))))))))), ?_⟩
    refine w_asgI (n := 1) (Wd.start eF) er_int fun H1 w1 s1 => ?_
    refine w_for w1 (src_rng1 (ea1 (er_lenL (er_var rfl hv))) (by omega)) tgt_n mono_sn (fun pre σ' G' H' => ∃ x2 x3 : Option V, Ex F G' ∧ σ' = [some v, some (.int (diffP (xs.take pre.length) % 97)), x2, x3, none])
      (fun G2 H2 w2 s2 => ⟨none, none, s2.fr, rfl⟩) (fun Gs pre a post σ' σ2 G' H' G2 H2 has hP s2 w2 eGs hS => ?_) (fun σ' G' H' w2 hP => ?_)
    · obtain ⟨x2, x3, eF', rfl⟩ := hP
      obtain ⟨z, hz, rfl⟩ := hS
      cases (show z = V.int a from hz)
      obtain ⟨ea, hj, _⟩ := rng_mid has
      have hj : pre.length < xs.length := by omega
      have ea : a = (pre.length : Int) := by omega
      subst ea
      have hv2 := (rLst rInt).mono (eF'.trans s2.fr) hv
      refine v_for w2 (src_rng1 (ea1 (er_vi rfl)) (by omega)) tgt_n mono_sn (fun pre2 σ' Ga Ha => ∃ x3 : Option V, Ex G2 Ga ∧ σ' = [some v, some (.int (diffP (xs.take pre.length) * prodZ ((xs.take pre2.length).map fun z => xs[pre.length] - z) % 97)), some (.int (pre.length : Int)), x3, none])
        (fun Ga Ha wa sa => ⟨x3, sa.fr, by rw [show (([] : List Int)).length = 0 from rfl, List.take_zero, show prodZ (([] : List Int).map fun z => xs[pre.length] - z) = 1 from rfl, Int.mul_one]; rfl⟩) (fun Gt pre2 b post2 σ' σ2 Ga Ha Gb Hb has2 hP2 sb wb eGt hS2 => ?_) (fun σ' Ga Ha wa hP2 => ?_)
      · obtain ⟨y3, eA, rfl⟩ := hP2
        obtain ⟨u, hu, rfl⟩ := hS2
        cases (show u = V.int b from hu)
        obtain ⟨eb, hi, _⟩ := rng_mid has2
        have hi : pre2.length < xs.length := by omega
        have eb : b = (pre2.length : Int) := by omega
        subst eb
        have hvb := (rLst rInt).mono (eA.trans sb.fr) hv2
        have et : (pre2 ++ [(pre2.length : Int)]).length = pre2.length + 1 := by
          rw [List.length_append]
          rfl
        have hm : 0 ≤ diffP (xs.take pre.length) * prodZ ((xs.take pre2.length).map fun z => xs[pre.length] - z) % 97 ∧ diffP (xs.take pre.length) * prodZ ((xs.take pre2.length).map fun z => xs[pre.length] - z) % 97 < 97 := ⟨Int.emod_nonneg _ (by decide), Int.emod_lt_of_pos _ (by decide)⟩
        refine v_asgI (n := diffP (xs.take pre.length) * prodZ ((xs.take (pre2.length + 1)).map fun z => xs[pre.length] - z) % 97) wb (er_is (er_I (er_int1 (er_I (er_vi rfl) (er_I0 (er_ixL (er_var rfl hvb) (er_vi rfl) (atI_nat (List.getElem?_eq_getElem hj))) (er_ixL (er_var rfl hvb) (er_vi rfl) (atI_nat (List.getElem?_eq_getElem hi)))) (Or.inl (res_cmul hm)))) er_int (by decide)) ?_) fun Hc wc sc => ⟨_, wc, eGt, some (.int (pre2.length : Int)), eA.trans sb.fr, by rw [et]; rfl⟩
        rw [take_snoc hi, List.map_append, show [xs[pre2.length]].map (fun z => xs[pre.length] - z) = [xs[pre.length] - xs[pre2.length]] from rfl, prodZ_snoc, ← Int.mul_assoc, Int.mul_emod (diffP (xs.take pre.length) * prodZ ((xs.take pre2.length).map fun z => xs[pre.length] - z) % 97), Int.emod_emod_of_dvd _ (show (97 : Int) ∣ 97 by decide), ← Int.mul_emod]
      · obtain ⟨y3, eA, rfl⟩ := hP2
        refine ⟨Ga, wa, eGs.trans eA, some (.int (pre.length : Int)), y3, (eF'.trans s2.fr).trans eA, ?_⟩
        rw [rng_len, show ((pre.length : Int)).toNat = pre.length by omega, List.length_append, show pre.length + [(pre.length : Int)].length = pre.length + 1 from rfl, take_snoc hj, diffP_snoc]
    · obtain ⟨x2, x3, eF', rfl⟩ := hP
      rw [rng_len, show ((xs.length : Int)).toNat = xs.length by omega, List.take_length]
      have hv2 := (rLst rInt).mono eF' hv
      refine w_asg (r := rLst rInt) (a := xs) w2 (En.er (en_listL (er_var rfl hv2))) fun vg G3 H3 w3 s3 hvg => ?_
      have hv3 := (rLst rInt).mono s3.fr hv2
      refine w_no w3 (et_or (a := false) (b := false) (et_not (a := true) (DL.et_B (er_is (er_call (s := rBl) (ea2 (er_call (s := rInt) (b := diffP xs % 97) (ea1 (er_var rfl hvg)) mono1 ⟨xs, rfl, by omega, rfl⟩) (er_vi rfl)) mono2 ⟨diffP xs % 97, diffP xs % 97, rfl, rfl⟩) (decide_eq_true rfl)))) fun _ => et_test (er_is (er_neD (eLst eInt) (show 0 + 1 ≤ 64 by decide) (er_var rfl hvg) (er_var rfl hv3)) (by simp))) rfl fun H4 w4 s4 => ?_
      have hdet : diffP xs % 97 = Dt xs.length (xs.map (rowV [] xs.length)) % 97 := (emod_eq (vand xs [])).symm
      rw [hdet]
      refine v_retB (n := true) w4 (er_call (s := rBl) (b := true) (ea3 (En.er (en_call (s := rLst rInt) (ea1 (er_var rfl hv3)) mono1 ⟨xs, rfl, hnums, rfl⟩)) (er_vi rfl) (er_cmp0 (er_lenL (er_var rfl hv3)) er_int)) mono3 ⟨xs.map (rowV [] xs.length), xs.length, _, rfl, hl, ⟨by rw [List.length_map], map_row0⟩, rfl⟩) fun H5 e5 => q _ H5 e5 rfl
end
end K03
set_option Elab.async false
set_option linter.all false
set_option maxRecDepth 100000
set_option maxHeartbeats 8000000
namespace K03
open PySem PySem.Spec PyProof.Rows L2 Evl DL K00
theorem sq_set {rows : List Row} {n i : Nat} {r : Row} (h : Sq rows n) (hr : r.length = n) : Sq (rows.set i r) n := ⟨by rw [List.length_set]; exact h.1, fun s hs => by
  rcases List.mem_or_eq_of_mem_set hs with z | z
  · exact h.2 s z
  · rw [z]
    exact hr⟩
theorem mul_mod' (x y : Int) : (x % 97 * y) % 97 = (y * x) % 97 := by
  rw [Int.mul_comm y x, Int.mul_emod (x % 97), Int.emod_emod_of_dvd _ (show (97 : Int) ∣ 97 by decide), ← Int.mul_emod]
section
variable {P : Program} {w : World} {K : PySem.W.Frag} {mg : Str → Option Value} {base : Heap} {t : Tok}
theorem ok_law_changed_right {f fA : Addr} {fd fdA : FuncData} (D : DefAt K mg "_law_changed_right" s_law_changed_right ["rows", "due", "one", "other", "factor"] f fd)
    (D_law_asked : DefAt K mg "_law_asked" s_law_asked ["rows", "due", "twice"] fA fdA) (G_law_asked : FnOk P w K mg base CX0 4 fA fdA ["rows", "due", "twice"] (spV rBl wAsked)) (mB_range : mg "range" = none) (mB_len : mg "len" = none) (mB_list : mg "list" = none) (mB_int : mg "int" = none) : FnOk P w K mg base CX0 5 f fd ["rows", "due", "one", "other", "factor"] (spV rBl wCR) := by
  refine D.F.ok sc_law_changed_right (fun vs H Q E h => ?_) (fun cdv A outer s H vs Q E hr h => ?_)
  · obtain ⟨F, Pp, b, _, _, ⟨rows, n, i, j, x, rfl, _⟩, ⟨v, w, x, y, z, rfl, _⟩, _⟩ := h
    rfl
  · obtain ⟨F, Pp, b, eF, _, ⟨rows, n, i, j, x, rfl, hn, hsq, hi, hj, hx, rfl⟩, ⟨v, v1, v2, v3, v4, rfl, hv, hv1, hv2, hv3, hv4⟩, q⟩ := h
    cases (show v1 = V.int (Dt n rows % 97) from hv1)
    cases (show v2 = V.int (i : Int) from hv2)
    cases (show v3 = V.int (j : Int) from hv3)
    cases (show v4 = V.int x from hv4)
    obtain ⟨hl, hw⟩ := id hsq
    have hi2 : i < rows.length := by omega
    have hj2 : j < rows.length := by omega
    have hri := hw _ (List.getElem_mem hi2)
    have hrj := hw _ (List.getElem_mem hj2)
    have hm : 0 ≤ Dt n rows % 97 ∧ Dt n rows % 97 < 97 := ⟨Int.emod_nonneg _ (by decide), Int.emod_lt_of_pos _ (by decide)⟩
    refine ⟨_, (pss_cons (ps_setLc (i := 5) (own := [("row", 8)]) (g := gName 8) rfl sc_law_changed_right.nd rfl rfl (sw_true rfl rfl rfl (by decide +kernel)) (pi_listK (K := K) (pv 0)) (blkOk_by (own := [("row", 8)]) (N := ["rows", "due", "one", "other", "factor", "times", "turned", "added", "row", "number", "k"]) (sc := defScope s_law_changed_right) (by decide +kernel)) (fun _ _ _ _ _ => (pg_name (i := 8) sc_law_changed_right.nd rfl (by first | exact Or.inl rfl | exact Or.inr rfl))) (fun _ _ _ _ _ => pts_nil) (fun _ _ _ _ _ => (pe_callTy (r := rLstQ K) call_list_of (by rfl) mB_list (by decide +kernel) (pa_cons (pv 8) pa_nil))))
  (pss_cons (ps_asg (pe_lc (own := [("number", 9)]) (g := gName 9) rfl sc_law_changed_right.nd (pi_listK (K := K) (pe_ix (r := rIxL K) ix_list (pv 0) (pv 2) (fun _ _ => rfl))) (blkOk_by (own := [("number", 9)]) (N := ["rows", "due", "one", "other", "factor", "times", "turned", "added", "row", "number", "k"]) (sc := defScope s_law_changed_right) (by decide +kernel)) (fun _ _ _ _ _ => (pg_name (i := 9) sc_law_changed_right.nd rfl (by first | exact Or.inl rfl | exact Or.inr rfl))) (fun _ _ _ _ _ => pts_nil) (fun _ _ _ _ _ => (pe_op op_mul (pv 4) (pv 9)))) (pg_sub (pv 5) (pv 2) set_list))
  (pss_cons (ps_if (pt_not (pt_val (pe_call G_law_asked (hr.mono (by decide)) (by rfl) D_law_asked.g D_law_asked.F.kp D_law_asked.b .nil pass0 (pa_cons (pv 5) (pa_cons (pe_op op_mod (pe_callTy (r := rInt1) call_int1 (by rfl) mB_int (by decide +kernel) (pa_cons (pe_op op_mul (pv 1) (pv 4)) pa_nil)) pe_int) (pa_cons pe_bl pa_nil))))))
    (pss_one (ps_ret pe_bl))
    pss_nil)
  (pss_cons (ps_if (pt_cmpR op_eq (pv 2) (pv 3) (nomark _))
    (pss_one (ps_ret pe_bl))
    pss_nil)
  (pss_cons (ps_setLc (i := 6) (own := [("row", 8)]) (g := gName 8) rfl sc_law_changed_right.nd rfl rfl (sw_true rfl rfl rfl (by decide +kernel)) (pi_listK (K := K) (pv 0)) (blkOk_by (own := [("row", 8)]) (N := ["rows", "due", "one", "other", "factor", "times", "turned", "added", "row", "number", "k"]) (sc := defScope s_law_changed_right) (by decide +kernel)) (fun _ _ _ _ _ => (pg_name (i := 8) sc_law_changed_right.nd rfl (by first | exact Or.inl rfl | exact Or.inr rfl))) (fun _ _ _ _ _ => pts_nil) (fun _ _ _ _ _ => (pe_callTy (r := rLstQ K) call_list_of (by rfl) mB_list (by decide +kernel) (pa_cons (pv 8) pa_nil))))
  (pss_cons (ps_asg (pe_callTy (r := rLstQ K) call_list_of (by rfl) mB_list (by decide +kernel) (pa_cons (pe_ix (r := rIxL K) ix_list (pv 0) (pv 3) (fun _ _ => rfl)) pa_nil)) (pg_sub (pv 6) (pv 2) set_list))
  (pss_cons (ps_if (pt_not (pt_val (pe_call G_law_asked (hr.mono (by decide)) (by rfl) D_law_asked.g D_law_asked.F.kp D_law_asked.b .nil pass0 (pa_cons (pv 6) (pa_cons pe_int (pa_cons pe_bl pa_nil))))))
    (pss_one (ps_ret pe_bl))
    pss_nil)
  (pss_cons (ps_asg (pe_callTy (r := rLstQ K) call_list_of (by rfl) mB_list (by decide +kernel) (pa_cons (pe_ix (r := rIxL K) ix_list (pv 0) (pv 2) (fun _ _ => rfl)) pa_nil)) (pg_sub (pv 6) (pv 3) set_list))
  (pss_cons (ps_setLc (i := 7) (own := [("row", 8)]) (g := gName 8) rfl sc_law_changed_right.nd rfl rfl (sw_true rfl rfl rfl (by decide +kernel)) (pi_listK (K := K) (pv 0)) (blkOk_by (own := [("row", 8)]) (N := ["rows", "due", "one", "other", "factor", "times", "turned", "added", "row", "number", "k"]) (sc := defScope s_law_changed_right) (by decide +kernel)) (fun _ _ _ _ _ => (pg_name (i := 8) sc_law_changed_right.nd rfl (by first | exact Or.inl rfl | exact Or.inr rfl))) (fun _ _ _ _ _ => pts_nil) (fun _ _ _ _ _ => (pe_callTy (r := rLstQ K) call_list_of (by rfl) mB_list (by decide +kernel) (pa_cons (pv 8) pa_nil))))
  (pss_cons (ps_asg (pe_lc (own := [("k", 10)]) (g := gName 10) rfl sc_law_changed_right.nd (pi_range1 (by rfl) mB_range (pa_cons (pe_callB (r := rLenQ K) call_len_seq (by rfl) mB_len (by decide +kernel) (pa_cons (pv 0) pa_nil)) pa_nil)) (blkOk_by (own := [("k", 10)]) (N := ["rows", "due", "one", "other", "factor", "times", "turned", "added", "row", "number", "k"]) (sc := defScope s_law_changed_right) (by decide +kernel)) (fun _ _ _ _ _ => (pg_name (i := 10) sc_law_changed_right.nd rfl (by first | exact Or.inl rfl | exact Or.inr rfl))) (fun _ _ _ _ _ => pts_nil) (fun _ _ _ _ _ => (pe_op op_add (pe_ix (r := rIxL K) ix_list (pe_ix (r := rIxL K) ix_list (pv 0) (pv 2) (fun _ _ => rfl)) (pv 10) (fun _ _ => rfl)) (pe_op op_mul (pv 4) (pe_ix (r := rIxL K) ix_list (pe_ix (r := rIxL K) ix_list (pv 0) (pv 3) (fun _ _ => rfl)) (pv 10) (fun _ _ => rfl)))))) (pg_sub (pv 7) (pv 2) set_list))
  (pss_one (ps_ret (pe_and (pe_call G_law_asked (hr.mono (by decide)) (by rfl) D_law_asked.g D_law_asked.F.kp D_law_asked.b .nil pass0 (pa_cons (pv 6) (pa_cons (pe_op op_mod (pe_op op_sub pe_int (pv 1)) pe_int) (pa_cons pe_bl pa_nil)))) (pe_one (pe_call G_law_asked (hr.mono (by decide)) (by rfl) D_law_asked.g D_law_asked.F.kp D_law_asked.b .nil pass0 (pa_cons (pv 7) (pa_cons (pv 1) (pa_cons pe_bl pa_nil)))))))))))))))))), ?_⟩
    -- times
    refine w_asgN (r := rLst rInt) (as := rows) (Wd.start eF) (en_is (en_lc (s := rLst rInt) (fun _ => true) (fun r => r) (src_list (er_var rfl hv)) tgt_n (by omega) (fun r hr2 G σ2 eG hS => ?_)) ?_) fun p1 G1 H1 w1 s1 m1 n1 => ?_
    · obtain ⟨y, hy, rfl⟩ := hS
      exact ⟨rfl, fun H1 _ Q q => q H1 (Ex.refl _), fun _ => En.er (en_listL (er_var rfl hy))⟩
    · rw [List.filter_eq_self.mpr fun _ _ => rfl, List.map_id']
    have hva := rRows.mono s1.fr hv
    refine w_put1 (j := i) (a := rows[i].map fun y => x * y) w1 (ev_er w1 (En.er (en_is (en_lc (s := rInt) (fun _ => true) (fun y => x * y) (src_list (er_ixL (a := rows[i]) (er_var rfl hva) (er_vi rfl) (atI_nat (List.getElem?_eq_getElem hi2)))) tgt_n (by omega) (fun y hy G σ2 eG hS => ?_)) ?_))) rfl m1 n1 (er_vi rfl) hi2 fun G2 H2 w2 s2 m2 => ?_
    · obtain ⟨z, hz, rfl⟩ := hS
      cases (show z = V.int y from hz)
      exact ⟨rfl, fun H1 _ Q q => q H1 (Ex.refl _), fun _ => er_I (er_vi rfl) (er_vi rfl) (Or.inl ⟨by omega, by omega⟩)⟩
    · rw [List.filter_eq_self.mpr fun _ _ => rfl]
    have hvb := rRows.mono s2.fr hva
    obtain ⟨G3, w3, e3, rt, _⟩ := m2.froz w2 n1
    have hvc := rRows.mono e3 hvb
    have d1 : Dt n (rows.set i (rows[i].map fun y => x * y)) = x * Dt n rows := D_scale hl hi2 fun k hk => vec_map (by omega)
    refine w_no w3 (et_not (a := true) (DL.et_B (er_call (s := rBl) (b := true) (ea3 (er_var rfl rt) (er_is (er_I (er_int1 (er_I (er_vi rfl) (er_vi rfl) (Or.inl (res_cmul hm)))) er_int (by decide)) (show Dt n rows % 97 * x % 97 = Dt n (rows.set i (rows[i].map fun y => x * y)) % 97 by rw [d1, mul_mod'])) er_bl) mono3 ⟨_, n, false, rfl, hn, sq_set hsq (by rw [List.length_map]; exact hri), rfl⟩))) rfl fun H4 w4 s4 => ?_
    refine w_when w4 (et_test (er_eqI (er_vi rfl) (er_vi rfl))) (fun hb H5 w5 s5 => v_retB w5 er_bl fun H6 e6 => q _ H6 e6 rfl) (fun hb H5 w5 s5 => ?_)
    have hij : i ≠ j := fun e => of_decide_eq_false hb (by rw [e])
    -- turned
    refine w_asgN (r := rLst rInt) (as := rows) w5 (en_is (en_lc (s := rLst rInt) (fun _ => true) (fun r => r) (src_list (er_var rfl hvc)) tgt_n (by omega) (fun r hr2 G σ2 eG hS => ?_)) ?_) fun p6 G6 H6 w6 s6 m6 n6 => ?_
    · obtain ⟨y, hy, rfl⟩ := hS
      exact ⟨rfl, fun H1 _ Q q => q H1 (Ex.refl _), fun _ => En.er (en_listL (er_var rfl hy))⟩
    · rw [List.filter_eq_self.mpr fun _ _ => rfl, List.map_id']
    have n60 : H p6 = none := back_none w5.up n6
    have hvd := rRows.mono s6.fr hvc
    refine w_put1 (j := i) (a := rows[j]) w6 (ev_er w6 (En.er (en_listL (er_ixL (a := rows[j]) (er_var rfl hvd) (er_vi rfl) (atI_nat (List.getElem?_eq_getElem hj2)))))) rfl m6 n60 (er_vi rfl) hi2 fun G7 H7 w7 s7 m7 => ?_
    have hve := rRows.mono s7.fr hvd
    obtain ⟨G8, w8, e8, rt8, _⟩ := m7.froz w7 n60
    have d2 : Dt n (rows.set i rows[j]) = 0 := D_same hl hij hi hj2
    refine w_no w8 (et_not (a := true) (DL.et_B (er_call (s := rBl) (b := true) (ea3 (er_var rfl rt8) (er_is er_int (show (0 : Int) = Dt n (rows.set i rows[j]) % 97 by rw [d2]; rfl)) er_bl) mono3 ⟨_, n, false, rfl, hn, sq_set hsq hrj, rfl⟩))) rfl fun H9 w9 s9 => ?_
    have w10 := w7.back w9 e8
    have m10 := m7.go (stp_back (G := G7) s9)
    refine w_put1 (j := j) (a := rows[i]) w10 (ev_er w10 (En.er (en_listL (er_ixL (a := rows[i]) (er_var rfl hve) (er_vi rfl) (atI_nat (List.getElem?_eq_getElem hi2)))))) rfl m10 n60 (er_vi rfl) (by rw [List.length_set]; exact hj2) fun G11 H11 w11 s11 m11 => ?_
    have hvf := rRows.mono s11.fr hve
    obtain ⟨G12, w12, e12, rt12, _⟩ := m11.froz w11 n60
    have hvg := rRows.mono e12 hvf
    -- added
    refine w_asgN (r := rLst rInt) (as := rows) w12 (en_is (en_lc (s := rLst rInt) (fun _ => true) (fun r => r) (src_list (er_var rfl hvg)) tgt_n (by omega) (fun r hr2 G σ2 eG hS => ?_)) ?_) fun p13 G13 H13 w13 s13 m13 n13 => ?_
    · obtain ⟨y, hy, rfl⟩ := hS
      exact ⟨rfl, fun H1 _ Q q => q H1 (Ex.refl _), fun _ => En.er (en_listL (er_var rfl hy))⟩
    · rw [List.filter_eq_self.mpr fun _ _ => rfl, List.map_id']
    have n130 : H p13 = none := back_none w12.up n13
    have hvh := rRows.mono s13.fr hvg
    refine w_put1 (j := i) (a := (List.range n).map fun k => vec rows[i] k + x * vec rows[j] k) w13 (ev_er w13 (En.er (en_is (en_lc (s := rInt) (fun _ => true) (fun k => vec rows[i] k.toNat + x * vec rows[j] k.toNat) (src_rng1 (ea1 (er_lenL (er_var rfl hvh))) (by omega)) tgt_n (by rw [rng_len]; omega) (fun y hy G σ2 eG hS => ?_)) ?_))) rfl m13 n130 (er_vi rfl) hi2 fun G14 H14 w14 s14 m14 => ?_
    · obtain ⟨z, hz, rfl⟩ := hS
      cases (show z = V.int y from hz)
      have hy2 := mem_rng.mp hy
      obtain ⟨k, rfl⟩ := Int.eq_ofNat_of_zero_le hy2.1
      have hkn : k < n := by omega
      have hvi := rRows.mono eG hvh
      exact ⟨rfl, fun H1 _ Q q => q H1 (Ex.refl _), fun _ => er_I0 (er_ixL (a := vec rows[i] k) (er_ixL (a := rows[i]) (er_var rfl hvi) (er_vi rfl) (atI_nat (List.getElem?_eq_getElem hi2))) (er_vi rfl) (atI_vec (by omega))) (er_I (er_vi rfl) (er_ixL (a := vec rows[j] k) (er_ixL (a := rows[j]) (er_var rfl hvi) (er_vi rfl) (atI_nat (List.getElem?_eq_getElem hj2))) (er_vi rfl) (atI_vec (by omega))) (Or.inl ⟨by omega, by omega⟩))⟩
    · rw [List.filter_eq_self.mpr fun _ _ => rfl, show ((rows.length : Int)).toNat = n by omega, rng0, List.map_map]
      rfl
    have rt14 := rRows.mono (s13.fr.trans s14.fr) rt12
    obtain ⟨G15, w15, e15, ra15, _⟩ := m14.froz w14 n130
    have d3 : Dt n ((rows.set i rows[j]).set j rows[i]) = - Dt n rows := D_swap hl hij hi2 hj2
    have hal : ((List.range n).map fun k => vec rows[i] k + x * vec rows[j] k).length = n := by rw [List.length_map, List.length_range]
    have d4 : Dt n (rows.set i ((List.range n).map fun k => vec rows[i] k + x * vec rows[j] k)) = Dt n rows := D_add (x := x) hl hij hi2 hj2 fun k hk => by
      rw [vec_get (by omega), List.getElem_map, List.getElem_range]
    refine v_retB (n := true) w15 (er_is (er_andV (a := true) (b := true) (er_call (s := rBl) (b := true) (ea3 (er_var rfl (rRows.mono e15 rt14)) (er_is (er_I (er_I0 er_int (er_vi rfl)) er_int (by decide)) (show (0 - Dt n rows % 97) % 97 = Dt n ((rows.set i rows[j]).set j rows[i]) % 97 by rw [d3]; omega)) er_bl) mono3 ⟨_, n, false, rfl, hn, sq_set (sq_set hsq hrj) hri, rfl⟩) fun _ => er_call (s := rBl) (b := true) (ea3 (er_var rfl ra15) (er_is (er_vi rfl) (show Dt n rows % 97 = Dt n (rows.set i ((List.range n).map fun k => vec rows[i] k + x * vec rows[j] k)) % 97 by rw [d4])) er_bl) mono3 ⟨_, n, false, rfl, hn, sq_set hsq hal, rfl⟩) rfl) fun H5 e5 => q _ H5 e5 rfl
end
end K03
set_option Elab.async false
set_option linter.all false
set_option maxRecDepth 100000
set_option maxHeartbeats 8000000
namespace K03
open PySem PySem.Spec PyProof.Rows L2 Evl DL K00
abbrev s_law_refused : Stmt := topS 28
theorem sc_law_refused : FnScope ["rows", "twice", "way", "given", "seen", "e", "row"] ["rows", "twice"] (defScope s_law_refused) := ⟨rfl, rfl, rfl, by decide +kernel, rfl, by decide +kernel, by decide +kernel⟩
/- 0 rows, 1 twice, 2 way, 3 given, 4 seen, 5 e, 6 row -/
/-- rows that are no square: the error -/
def NoSq (rows : List Row) : Prop := rows.length ≤ 1000 ∧ ∃ r ∈ rows, r.length ≠ rows.length
def spNS (B : Addr) : Sp := fun vs H Q E => ∃ F rows v, vs = [v] ∧ Ex F H ∧ rRows.rel F v rows ∧ NoSq rows ∧ ∀ H2, Ex H H2 → E (.ref B) none H2
def wRef : (Hp → List V → Prop) → Bool → Prop := fun P b => ∃ (rows : List Row) (tw : Bool), P = A2 rRows rBl rows tw ∧ NoSq rows ∧ b = true
/-- isinstance of the error that the suite holds -/
def rIsH (K : PySem.W.Frag) (B a : Addr) (cls : Value) (d : Option Addr) : List V → Hp → VK → Prop := fun xs H Q => cls = .ref B ∧ d = none ∧ rIsE K B a xs H Q
theorem call_isH {X : Cx} {a B : Addr} {cls : Value} {d : Option Addr} {oe : Obj} {pn : List (Addr × Obj)} (C : ExcC X.K B) (hz : Zc cls d oe) (hf : ∃ vs, oe.data = .fields vs) :
    CallR (X.suite a ((a, oe) :: pn)) (.builtin "isinstance") (rIsH X.K B a cls d) := by
  intro pins s σ H xs us Q I r ⟨e1, e2, h⟩
  subst e1
  subst e2
  exact call_isE C hz hf pins s σ H xs us Q I r h
/-- what the head says of the errors -/
structure ErrB (K : PySem.W.Frag) (mg : Str → Option Value) (B S Z : Addr) : Prop where
  C : ExcC K B
  em : PySem.W.exmOne K (.ref B) (.ref B) = some true
  xi : PySem.W.excIn K B [.type "ValueError", .type "Exception", .type "BaseException", .type "object"] "ValueError.__new__" = true
  kp : PySem.W.keepIn K (.ref B) = true
  ty : PySem.W.typeIn K (.ref B) = some (.type "type")
  gB : mg "BadTable" = some (.ref B)
  gS : mg "ServeError" = some (.ref S)
  gZ : mg "BadSize" = some (.ref Z)
  kS : PySem.W.kitOne K (.ref B) (.ref S) = some true
  kV : PySem.W.kitOne K (.ref B) (.type "ValueError") = some true
  kZ : PySem.W.kitOne K (.ref B) (.ref Z) = some false
theorem er_isH {K : PySem.W.Frag} {σ : L2.St} {F : Hp} {B a : Addr} {b : Bool} {i : Nat} {c : V} {cv : Value} (h : σ[i]? = some (some (.ref a))) (hc : ∀ u, RelV c u → u = cv) (hk : PySem.W.kitOne K (.ref B) cv = some b) : Er rBl (tCB (rIsH K B a (.ref B) none) (tCons (tVar i) (tCons (tC c) tNil))) σ F b := fun H1 e Q q =>
  ⟨_, h, rfl, rfl, c, cv, b, rfl, hc, hk, q _ H1 (Ex.refl H1) rfl⟩
section
variable {P : Program} {w : World} {K : PySem.W.Frag} {mg : Str → Option Value} {base : Heap} {t : Tok} {B S Z : Addr}
theorem ok_check_squareX {f : Addr} {fd : FuncData} (D : DefAt K mg "check_square" s_check_square ["rows"] f fd) (EB : ErrB K mg B S Z) (mB_any : mg "any" = none) (mB_len : mg "len" = none) : FnOk P w K mg base (L2.CX P w) 1 f fd ["rows"] (spNS B) := by
  refine D.F.okX sc_check_square (fun vs H Q E h => ?_) (fun cdv A outer s H vs Q E hr h => ?_)
  · obtain ⟨F, rows, v, rfl, _⟩ := h
    rfl
  · obtain ⟨F, rows, v, rfl, eF, hv, ⟨hl, r0, hr0, hn0⟩, hE⟩ := h
    refine ⟨_, (pss_one (ps_if (pt_val (pe_callB (r := rAny K) (cr_any rfl) (by rfl) mB_any (by decide +kernel) (pa_cons (pe_lc (own := [("row", 1)]) (g := gName 1) rfl sc_check_square.nd (pi_listK (K := K) (pv 0)) (blkOk_by (own := [("row", 1)]) (N := ["rows", "row"]) (sc := defScope s_check_square) (by decide +kernel)) (fun _ _ _ _ _ => (pg_name (i := 1) sc_check_square.nd rfl (by first | exact Or.inl rfl | exact Or.inr rfl))) (fun _ _ _ _ _ => pts_nil) (fun _ _ _ _ _ => (pe_cmpR op_ne (pe_callB (r := rLenQ K) call_len_seq (by rfl) mB_len (by decide +kernel) (pa_cons (pv 1) pa_nil)) (pe_callB (r := rLenQ K) call_len_seq (by rfl) mB_len (by decide +kernel) (pa_cons (pv 0) pa_nil)) (nomark _)))) pa_nil)))
    (pss_one (ps_raise rfl (takes_of rfl rfl rfl rfl) (pmk_own PySem.F.excBase_ValueError EB.xi EB.gB EB.kp (raises_own EB.C.hs EB.ty) (by exact rfl))))
    pss_nil)), ?_⟩
    refine v_when (Wd.start eF) (b := true) (DL.et_B (er_is (er_any (En.er (en_lc (s := rBl) (fun _ => true) (fun r => !decide ((r.length : Int) = (rows.length : Int))) (src_list (er_var rfl hv)) tgt_n (by omega) (fun r hr G σ2 eG hS => ?_)))) ?_)) (fun _ H1 w1 s1 => ?_) (fun hb => by cases hb)
    · obtain ⟨x, hx, rfl⟩ := hS
      exact ⟨rfl, fun H1 _ Q q => q H1 (Ex.refl _), fun _ => er_neI (er_lenL (er_var rfl hx)) (er_lenL (er_var rfl (rRows.mono eG hv)))⟩
    · rw [List.filter_eq_self.mpr fun _ _ => rfl, List.any_eq_true]
      refine ⟨_, List.mem_map.mpr ⟨r0, hr0, rfl⟩, ?_⟩
      rw [decide_eq_false (by omega)]
      rfl
    · exact hE H1 w1.up
theorem ok_determinantX {f fQ : Addr} {fd fdQ : FuncData} (D : DefAt K mg "determinant" s_determinant ["rows"] f fd) (D_check_square : DefAt K mg "check_square" s_check_square ["rows"] fQ fdQ) (EB : ErrB K mg B S Z) (mB_any : mg "any" = none) (mB_len : mg "len" = none) : FnOk P w K mg base (L2.CX P w) 2 f fd ["rows"] (spNS B) := by
  have G : FnOk P w K mg base (L2.CX P w) 1 fQ fdQ ["rows"] (spNS B) := ok_check_squareX D_check_square EB mB_any mB_len
  refine D.F.okX sc_determinant (fun vs H Q E h => ?_) (fun cdv A outer s H vs Q E hr h => ?_)
  · obtain ⟨F, rows, v, rfl, _⟩ := h
    rfl
  · obtain ⟨F, rows, v, rfl, eF, hv, hn, hE⟩ := h
    refine ⟨_, pss_cons (ps_expr (pe_callS G (hr.mono (by decide)) (by rfl) D_check_square.g D_check_square.F.kp D_check_square.b (fun σ => passAt (takes_of rfl rfl rfl rfl) σ) (pa_cons (pv 0) pa_nil))) pss_never, ?_⟩
    exact ⟨v, rfl, F, rows, v, rfl, eF, hv, hn, hE⟩
theorem ok_det_by_ordersX {f fQ : Addr} {fd fdQ : FuncData} (D : DefAt K mg "det_by_orders" s_det_by_orders ["rows"] f fd) (D_check_square : DefAt K mg "check_square" s_check_square ["rows"] fQ fdQ) (EB : ErrB K mg B S Z) (mB_any : mg "any" = none) (mB_len : mg "len" = none) : FnOk P w K mg base (L2.CX P w) 2 f fd ["rows"] (spNS B) := by
  have G : FnOk P w K mg base (L2.CX P w) 1 fQ fdQ ["rows"] (spNS B) := ok_check_squareX D_check_square EB mB_any mB_len
  refine D.F.okX sc_det_by_orders (fun vs H Q E h => ?_) (fun cdv A outer s H vs Q E hr h => ?_)
  · obtain ⟨F, rows, v, rfl, _⟩ := h
    rfl
  · obtain ⟨F, rows, v, rfl, eF, hv, hn, hE⟩ := h
    refine ⟨_, pss_cons (ps_expr (pe_callS G (hr.mono (by decide)) (by rfl) D_check_square.g D_check_square.F.kp D_check_square.b (fun σ => passAt (takes_of rfl rfl rfl rfl) σ) (pa_cons (pv 0) pa_nil))) pss_never, ?_⟩
    exact ⟨v, rfl, F, rows, v, rfl, eF, hv, hn, hE⟩
theorem ok_law_refused {f fQ fM fO : Addr} {fd fdQ fdM fdO : FuncData} (D : DefAt K mg "_law_refused" s_law_refused ["rows", "twice"] f fd) (D_check_square : DefAt K mg "check_square" s_check_square ["rows"] fQ fdQ)
    (D_determinant : DefAt K mg "determinant" s_determinant ["rows"] fM fdM) (D_det_by_orders : DefAt K mg "det_by_orders" s_det_by_orders ["rows"] fO fdO) (EB : ErrB K mg B S Z)
    (mB_any : mg "any" = none) (mB_len : mg "len" = none) (mB_range : mg "range" = none) (mB_int : mg "int" = none) (mB_list : mg "list" = none) (mB_isinstance : mg "isinstance" = none) (mB_ValueError : mg "ValueError" = none) : FnOk P w K mg base CX0 4 f fd ["rows", "twice"] (spV rBl wRef) := by
  have G_determinant : FnOk P w K mg base (L2.CX P w) 2 fM fdM ["rows"] (spNS B) := ok_determinantX D_determinant D_check_square EB mB_any mB_len
  have G_det_by_orders : FnOk P w K mg base (L2.CX P w) 2 fO fdO ["rows"] (spNS B) := ok_det_by_ordersX D_det_by_orders D_check_square EB mB_any mB_len
  refine D.F.ok sc_law_refused (fun vs H Q E h => ?_) (fun cdv A outer s H vs Q E hr h => ?_)
  · obtain ⟨F, Pp, b, _, _, ⟨rows, tw, rfl, _⟩, ⟨v, v1, rfl, _⟩, _⟩ := h
    rfl
  · obtain ⟨F, Pp, b, eF, _, ⟨rows, tw, rfl, hn, rfl⟩, ⟨v, v1, rfl, hv, hv1⟩, q⟩ := h
    cases (show v1 = V.bl tw from hv1)
    have hr2 : Room 2 _ := hr.mono (by decide)
    refine ⟨_, (pss_cons (ps_for PassesOwn.never rfl (pi_range1 (by rfl) mB_range (pa_cons (pe_op op_add pe_int (pe_callTy (r := rInt1) call_int1 (by rfl) mB_int (by decide +kernel) (pa_cons (pv 1) pa_nil))) pa_nil)) (pg_name (i := 2) sc_law_refused.nd rfl (by first | exact Or.inl rfl | exact Or.inr rfl))
    (pss_cons (ps_setLc (i := 3) (own := [("row", 6)]) (g := gName 6) rfl sc_law_refused.nd rfl rfl (sw_true rfl rfl rfl (by decide +kernel)) (pi_listK (K := K) (pv 0)) (blkOk_by (own := [("row", 6)]) (N := ["rows", "twice", "way", "given", "seen", "e", "row"]) (sc := defScope s_law_refused) (by decide +kernel)) (fun _ _ _ _ _ => (pg_name (i := 6) sc_law_refused.nd rfl (by first | exact Or.inl rfl | exact Or.inr rfl))) (fun _ _ _ _ _ => pts_nil) (fun _ _ _ _ _ => (pe_callTy (r := rLstQ K) call_list_of (by rfl) mB_list (by decide +kernel) (pa_cons (pv 6) pa_nil))))
  (pss_cons (ps_set (i := 4) sc_law_refused.nd rfl (by first | exact Or.inl rfl | exact Or.inr rfl) pe_bl)
  (pss_cons (ps_try_as (i := 5) (tb := fun W => tIfS _ (tDrop (tCallS (spNS B) (WE W) (tCons (tVar 3) tNil))) (tDrop (tCallS (spNS B) (WE W) (tCons (tVar 3) tNil)))) (Wout := fun _ _ _ _ => False) rfl rfl sc_law_refused.nd rfl rfl ⟨rfl, by decide, Or.inl EB.gB⟩ takes0
      (fun W pn xe tk _ => pss_one (ps_if (pt_cmpR op_eq (pv 2) pe_int (nomark _))
        (pss_one (ps_expr (by exact (pe_callS G_determinant hr2 rfl D_determinant.g D_determinant.F.kp D_determinant.b (fun σ => passAt tk σ) (by exact (pa_cons (pv 3) pa_nil))))))
        (pss_one (ps_expr (by exact (pe_callS G_det_by_orders hr2 rfl D_det_by_orders.g D_det_by_orders.F.kp D_det_by_orders.b (fun σ => passAt tk σ) (by exact (pa_cons (pv 3) pa_nil))))))))
      (fun a oe cls d pn hz hf => pss_one (ps_set (i := 4) sc_law_refused.nd rfl (Or.inl rfl) (pe_and (pe_callB (r := rIsH K B a cls d) (call_isH EB.C hz hf) (by rfl) mB_isinstance (by decide +kernel) (pa_cons (pv 5) (pa_cons (pe_glob (v := .ref S) (by rfl) EB.gS rfl) pa_nil)))
        (pe_and (pe_callB (r := rIsH K B a cls d) (call_isH EB.C hz hf) (by rfl) mB_isinstance (by decide +kernel) (pa_cons (pv 5) (pa_cons (pe_bltn (v := .ty "ValueError") (by rfl) mB_ValueError (by decide +kernel) rfl) pa_nil)))
        (pe_one (pe_not (pe_callB (r := rIsH K B a cls d) (call_isH EB.C hz hf) (by rfl) mB_isinstance (by decide +kernel) (pa_cons (pv 5) (pa_cons (pe_glob (v := .ref Z) (by rfl) EB.gZ rfl) pa_nil))))))))))
  (pss_one (ps_if (PW.pt (pw_or (pt_not (pt_val (pv 4))) (pw_or1 (pt_cmpR (r := rNeD K) (op_neD hr.units) (pv 3) (pv 0) (nomark _)))))
    (pss_one (ps_ret pe_bl))
    pss_nil))))))
  (pss_one (ps_ret pe_bl))), ?_⟩
    refine w_for (Wd.start eF) (src_rng1 (n := 1 + if tw = true then 1 else 0) (ea1 (er_I0 er_int (er_int1B (er_var (r := rBl) rfl hv1)))) (by cases tw <;> decide)) tgt_n mono_sn (fun pre σ' G' H' => ∃ x2 x3 x4 : Option V, Ex F G' ∧ σ' = [some v, some (.bl tw), x2, x3, x4, none, none])
      (fun G2 H2 w2 s2 => ⟨none, none, none, s2.fr, rfl⟩) (fun Gs pre a post σ' σ2 G' H' G2 H2 has hP s2 w2 eGs hS => ?_) (fun σ' G' H' w2 hP => ?_)
    · obtain ⟨x2, x3, x4, eF', rfl⟩ := hP
      obtain ⟨z, hz, rfl⟩ := hS
      cases (show z = V.int a from hz)
      have hv2 := rRows.mono (eF'.trans s2.fr) hv
      refine w_asgN (r := rLst rInt) (as := rows) w2 (en_is (en_lc (s := rLst rInt) (fun _ => true) (fun r => r) (src_list (er_var rfl hv2)) tgt_n (by have := hn.1; omega) (fun r hr2 G σ2 eG hS => ?_)) ?_) fun p3 G3 H3 w3 s3 m3 n3 => ?_
      · obtain ⟨y, hy, rfl⟩ := hS
        exact ⟨rfl, fun H1 _ Q q => q H1 (Ex.refl _), fun _ => En.er (en_listL (er_var rfl hy))⟩
      · rw [List.filter_eq_self.mpr fun _ _ => rfl, List.map_id']
      have n30 : H p3 = none := back_none w2.up n3
      obtain ⟨G4, w4, e4, rt, _⟩ := m3.froz w3 n30
      have hv4 := rRows.mono (s3.fr.trans e4) hv2
      refine w_asg (r := rBl) (a := false) w4 er_bl fun vb G5 H5 w5 s5 hvb => ?_
      cases (show vb = V.bl false from hvb)
      have rt5 := rRows.mono s5.fr rt
      have hv5 := rRows.mono s5.fr hv4
      refine v_if (b := decide (a = 0)) w5 (et_test (er_eqI (er_vi rfl) er_int)) (fun _ H6 w6 s6 => ⟨_, rfl, G5, rows, _, rfl, w6.sub, rt5, hn, fun H7 e7 => ?_⟩) (fun _ H6 w6 s6 => ⟨_, rfl, G5, rows, _, rfl, w6.sub, rt5, hn, fun H7 e7 => ?_⟩)
      all_goals
        refine ⟨true, EB.em, fun _ a1 ha => ?_, fun z => by cases z⟩
        have w7 := w6.same e7
        refine v_asg (r := rBl) (a := true) w7 (er_is (er_andV (a := true) (b := true) (er_isH rfl (fun u hu => hu) EB.kS) fun _ => er_is (er_andV (a := true) (b := true) (er_isH rfl (fun u hu => hu) EB.kV) fun _ => er_notV (a := false) (er_isH rfl (fun u hu => hu) EB.kZ)) rfl) rfl) fun vb8 G8 H8 w8 s8 hvb8 => ?_
        cases (show vb8 = V.bl true from hvb8)
        refine v_no w8 (et_or (a := false) (b := false) (et_not (a := true) (DL.et_B (er_var (r := rBl) rfl rfl))) fun _ => et_test (er_is (er_neD (eLst (eLst eInt)) (show 0 + 1 + 1 ≤ 64 by decide) (er_var rfl (rRows.mono s8.fr rt5)) (er_var rfl (rRows.mono s8.fr hv5))) (by simp))) rfl fun H9 w9 s9 => ?_
        exact ⟨_, w9, eGs.trans (s3.fr.trans (e4.trans (s5.fr.trans s8.fr))), _, _, _, eF'.trans (s2.fr.trans (s3.fr.trans (e4.trans (s5.fr.trans s8.fr)))), rfl⟩
    · obtain ⟨x2, x3, x4, eF', rfl⟩ := hP
      exact v_retB w2 er_bl fun H5 e5 => q _ H5 e5 rfl
end
end K03
set_option Elab.async false
set_option linter.all false
set_option maxRecDepth 100000
set_option maxHeartbeats 4000000
/-! a list of new lists: one of them changed -/
namespace K03
open PySem PySem.Spec PyProof.Rows L2 Evl DL K00
def Fr (H1 H2 : Hp) (p : Addr) : V → Row → Prop := fun v r => ∃ q, v = .ref q ∧ H1 q = none ∧ q ≠ p ∧ H2 q = some (.lst (r.map V.int))
section
variable {H1 H2 H3 F G H : Hp} {p q : Addr} {xs : List V} {rows : List Row} {o : HO}
theorem Fr.up (h : Al (Fr H1 H2 p) xs rows) (e : Ex (mns H2 p) (mns H3 p)) : Al (Fr H1 H3 p) xs rows := h.imp fun v r ⟨q, h1, h2, h3, h4⟩ => ⟨q, h1, h2, h3, by
  have := e q _ ((mns_ne h3).trans h4)
  rwa [mns_ne h3] at this⟩
theorem Fr.oth : ∀ {xs : List V} {rows : List Row}, Al (Fr H1 H2 p) xs rows → V.ref q ∉ xs → Al (Fr H1 (upd H2 q o) p) xs rows
  | _, _, .nil, _ => .nil
  | _, _, .cons ⟨c, h1, h2, h3, h4⟩ t, n => .cons ⟨c, h1, h2, h3, by
      rw [upd_ne fun e => n (by rw [h1, e]; exact List.mem_cons_self)]
      exact h4⟩ (Fr.oth t fun m => n (List.mem_cons_of_mem _ m))
theorem Fr.set : ∀ {xs : List V} {rows : List Row} (j : Nat) (hj : j < rows.length), Al (Fr H1 H2 p) xs rows → xs.Nodup → ∃ q, xs[j]? = some (.ref q) ∧ H1 q = none ∧ q ≠ p ∧ H2 q = some (.lst (rows[j].map V.int)) ∧ ∀ r' : Row, Al (Fr H1 (upd H2 q (.lst (r'.map V.int))) p) xs (rows.set j r')
  | _, _, _, hj, .nil, _ => absurd hj (Nat.not_lt_zero _)
  | _, _, 0, hj, .cons ⟨c, h1, h2, h3, h4⟩ t, n => ⟨c, by rw [h1]; rfl, h2, h3, h4, fun r' => .cons ⟨c, h1, h2, h3, upd_same⟩ (Fr.oth t fun m => (List.nodup_cons.mp n).1 (by rw [h1]; exact m))⟩
  | _, _, j + 1, hj, .cons ⟨c, h1, h2, h3, h4⟩ t, n => by
    obtain ⟨q, k1, k2, k3, k4, k5⟩ := Fr.set j (Nat.lt_of_succ_lt_succ hj) t (List.nodup_cons.mp n).2
    refine ⟨q, k1, k2, k3, k4, fun r' => .cons ⟨c, h1, h2, h3, ?_⟩ (k5 r')⟩
    rw [upd_ne fun e => (List.nodup_cons.mp n).1 (by rw [h1, e]; exact List.mem_of_getElem? k1)]
    exact h4
theorem Fr.rel (h : Al (Fr H H2 p) xs rows) (e : Ex G H) : Al ((rLst rInt).rel (part G H H2)) xs rows := h.imp fun v r ⟨q, h1, h2, h3, h4⟩ => ⟨q, r.map V.int, h1, by
  rw [part_new (back_none e h2) h2]
  exact h4, ints_rel r⟩
end
section
variable {α : Type} {K : PySem.W.Frag} {σ : L2.St} {F F0 H0 G H : Hp} {te : TE} {tt : TT} {r : Rep α} {as : List α} {D : Ends} {tz : TS} {i : Nat}
theorem en_lcF {wi : TI} {g : TG} {S : Hp → α → L2.St → L2.St → Prop} {vs : List Nat} (m : α → Row) (h : Src wi σ F r as) (hg : Tgt g r S) (hn : as.length < 100000)
    (hw : ∀ a ∈ as, ∀ G σ2, Ex F G → S G a (wipe σ vs) σ2 → wipe σ2 vs = wipe σ vs ∧ EvT tt σ2 G true ∧ En rInt te σ2 G (m a)) :
    ∀ H1, Ex F H1 → ∀ Q : VK, (∀ p xs H2, Ex H1 H2 → H1 p = none → H2 p = some (.lst xs) → xs.Nodup → Al (Fr H1 H2 p) xs (as.map m) → Q (.ref p) H2) → tLc wi g tt te vs σ H1 Q := fun H1 e Q q => h H1 e _ fun J H2 e2 w D hD => by
  have mem : ∀ i a, as[i]? = some a → a ∈ as := fun i a h => List.mem_of_getElem? h
  have tk : ∀ i a, as[i]? = some a → as.take (i + 1) = as.take i ++ [a] := fun i a h => by
    rw [List.take_add_one, h]
    rfl
  refine lc_it w (fun i H' => ∃ acc, H' D = some (.lst acc) ∧ Ex H2 (mns H' D) ∧ acc.Nodup ∧ Al (Fr H1 H' D) acc ((as.take i).map m)) ?_ ?_ ?_ ?_
  · refine ⟨[], upd_same, ?_, List.nodup_nil, .nil⟩
    rw [mns_upd]
    exact ex_mns (Ex.refl _) hD
  · rintro i H' _ ⟨acc, h1, h2, _⟩
    exact (part_sub (e.trans e2)).trans (h2.trans mns_sub)
  · rintro i x H' H'' hi ⟨acc, h1, h2, hnd, h3⟩ ⟨y1, a, y2, y3⟩
    have hlen : acc.length < 100000 := by
      have l1 := h3.len
      rw [List.length_map, List.length_take] at l1
      omega
    have eG : Ex (part F H1 H2) H' := (part_sub (e.trans e2)).trans (h2.trans mns_sub)
    refine hg _ H'' x a _ _ (part_sub (eG.trans y1)) y3 fun σ2 hS => ?_
    obtain ⟨hwp, ht, he⟩ := hw a (mem _ _ y2) _ σ2 (part_ex.trans part_ex) hS
    refine ⟨hwp, ht H'' (part_sub (eG.trans y1)) _ fun H3 e3 => ?_⟩
    have e12 : Ex H2 H3 := (h2.trans mns_sub).trans (y1.trans e3)
    show te σ2 H3 _
    refine he H3 ((part_sub (eG.trans y1)).trans e3) _ fun c H4 e4 ⟨n1, ys, n2, n3⟩ => ?_
    have hc : ys = (m a).map V.int := rel_ints n3
    subst hc
    have hD4 : H4 D = some (.lst acc) := e4 D _ (e3 D _ (y1 D _ h1))
    have hcD : c ≠ D := fun z => by
      rw [z, e3 D _ (y1 D _ h1)] at n1
      cases n1
    refine ⟨acc, hD4, sz_lt hlen, acc ++ [.ref c], upd_same, ?_, ?_, ?_⟩
    · rw [mns_upd]
      exact ex_mns (e12.trans e4) hD
    · rw [List.nodup_append]
      refine ⟨hnd, List.nodup_cons.mpr ⟨List.not_mem_nil, List.nodup_nil⟩, fun x hx y hy e => ?_⟩
      cases List.mem_singleton.mp hy
      obtain ⟨k, hk, hxe⟩ := List.mem_iff_getElem.mp hx
      obtain ⟨z, hz, c', hc1, hc2, hc3, hc4⟩ := h3.get (show acc[k]? = some (.ref c) by rw [List.getElem?_eq_getElem hk, hxe, e])
      cases hc1
      rw [e3 _ _ (y1 _ _ hc4)] at n1
      cases n1
    · rw [tk i a y2, List.map_append]
      refine Al.snoc (Fr.up h3 ?_) ⟨c, rfl, back_none (e2.trans e12) n1, hcD, by rw [upd_ne hcD]; exact n2⟩
      rw [mns_upd]
      exact mns_up (y1.trans (e3.trans e4))
  · rintro H' ⟨acc, h1, h2, hnd, h3⟩
    rw [List.take_of_length_le (Nat.le_refl _)] at h3
    exact q D acc H' (e2.trans (h2.trans mns_sub)) (back_none e2 hD) h1 hnd h3
/-- the list and, in the next statement, a change of the item at j -/
theorem w_lcF {wi : TI} {g : TG} {S : Hp → Row → L2.St → L2.St → Prop} {vs : List Nat} {rows : List Row} {j : Nat} (w : Wd F0 H0 G H) (h : Src wi σ G (rLst rInt) rows) (hg : Tgt g (rLst rInt) S) (hn : rows.length < 100000)
    (hw : ∀ a ∈ rows, ∀ G2 σ2, Ex G G2 → S G2 a (wipe σ vs) σ2 → wipe σ2 vs = wipe σ vs ∧ EvT tt σ2 G2 true ∧ En rInt te σ2 G2 a) (hj : j < rows.length)
    (k : ∀ p xs q H2, H2 p = some (.lst xs) → atI xs (j : Int) = some (.ref q) → H2 q = some (.lst (rows[j].map V.int)) →
      (∀ r' : Row, Wd F0 H0 (part G H (upd H2 q (.lst (r'.map V.int)))) (upd H2 q (.lst (r'.map V.int))) ∧ Stp none G H (part G H (upd H2 q (.lst (r'.map V.int)))) (upd H2 q (.lst (r'.map V.int))) ∧ rRows.rel (part G H (upd H2 q (.lst (r'.map V.int)))) (.ref p) (rows.set j r')) →
      tz D (σ.set i (some (.ref p))) H2) : tSeq (tAsg (tLc wi g tt te vs) (gName i)) tz D σ H :=
  en_lcF (fun r => r) h hg hn hw H w.sub (fun v H' => tz D (σ.set i (some v)) H') fun p xs H2 e hp h1 hnd h2 => by
    rw [List.map_id'] at h2
    obtain ⟨q, k1, k2, k3, k4, k5⟩ := Fr.set j hj h2 hnd
    refine k p xs q H2 h1 (atI_nat k1) k4 fun r' => ?_
    have e' : Ex H (upd H2 q (.lst (r'.map V.int))) := Ex.mut e k2
    exact ⟨w.ev e', stp_ev e', p, xs, rfl, by
      rw [part_new (back_none w.sub hp) hp, upd_ne (Ne.symm k3)]
      exact h1, Fr.rel (k5 r') w.sub⟩
theorem w_appIx {p q : Addr} {xs : List V} {r : Row} {a b j : Nat} {z : Int} (ha : σ[a]? = some (some (.ref p))) (hb : σ[b]? = some (some (.int (j : Int)))) (h1 : H p = some (.lst xs)) (h2 : atI xs (j : Int) = some (.ref q)) (h3 : H q = some (.lst (r.map V.int))) (hl : r.length < 100000)
    (k : tz D σ (upd H q (.lst ((r ++ [z]).map V.int)))) : tSeq (tDrop (tBM K "list" rAppend (tOp (rIxL K) (tVar a) (tVar b)) (tCons (tC (.int z)) tNil))) tz D σ H :=
  ⟨_, ha, _, hb, p, xs, j, _, rfl, rfl, SqL.of h1, h2, Or.inl ⟨rfl, _, SqL.of h3⟩, q, _, _, rfl, rfl, h3, by rw [List.length_map]; exact sz_lt hl, by
    rw [List.map_append] at k
    exact k⟩
theorem w_popIx {p q : Addr} {xs : List V} {r : Row} {a b j : Nat} (ha : σ[a]? = some (some (.ref p))) (hb : σ[b]? = some (some (.int (j : Int)))) (h1 : H p = some (.lst xs)) (h2 : atI xs (j : Int) = some (.ref q)) (h3 : H q = some (.lst (r.map V.int))) (hl : r ≠ [])
    (k : tz D σ (upd H q (.lst (r.dropLast.map V.int)))) : tSeq (tDrop (tBM0 K "list" rPop (tOp (rIxL K) (tVar a) (tVar b)))) tz D σ H :=
  ⟨_, ha, _, hb, p, xs, j, _, rfl, rfl, SqL.of h1, h2, Or.inl ⟨rfl, _, SqL.of h3⟩, q, _, V.int (r.getLast hl), rfl, rfl, h3, by
    rw [List.length_map, List.getElem?_map, List.getLast_eq_getElem, List.getElem?_eq_getElem (by have := List.length_pos_iff.mpr hl; omega)]
    rfl, by
    rw [← List.map_dropLast]
    exact k⟩
theorem cut_toA {r : List α} {k : Nat} (h : k ≤ r.length) : cutA r none (some (k : Int)) = r.take k := by
  unfold cutA
  rw [HT.sIx_nat, HT.sIx_none, Nat.sub_zero, List.drop_zero, Nat.min_eq_left h]
theorem cut_fromA {r : List α} {k : Nat} (h : k ≤ r.length) : cutA r (some (k : Int)) none = r.drop k := by
  unfold cutA
  rw [HT.sIx_nat, HT.sIx_none, Nat.min_eq_left h]
  exact List.take_of_length_le (by rw [List.length_drop]; exact Nat.le_refl _)
end
end K03
set_option Elab.async false
set_option linter.all false
set_option maxRecDepth 100000
set_option maxHeartbeats 8000000
namespace K03
open PySem PySem.Spec PyProof.Rows L2 Evl DL K00
abbrev s_law_all_refused : Stmt := topS 29
theorem sc_law_all_refused : FnScope ["rows", "at", "twice", "wrong", "longer", "shorter", "few", "row"] ["rows", "at", "twice"] (defScope s_law_all_refused) := ⟨rfl, rfl, rfl, by decide +kernel, rfl, by decide +kernel, by decide +kernel⟩
/- 0 rows, 1 at, 2 twice, 3 wrong, 4 longer, 5 shorter, 6 few, 7 row -/
def wAR : (Hp → List V → Prop) → Bool → Prop := fun P b => ∃ (rows : List Row) (n i : Nat) (tw : Bool), P = A3 rRows rInt rBl rows (i : Int) tw ∧ n ≤ 100 ∧ Sq rows n ∧ (0 < n → i < n) ∧ b = true
theorem mem_setI {α : Type} {l : List α} {i : Nat} {a : α} (h : i < l.length) : a ∈ l.set i a := List.mem_iff_getElem.mpr ⟨i, by rw [List.length_set]; exact h, by rw [List.getElem_set_self]⟩
theorem fives_len (n : Nat) : ((List.replicate ((n : Int)).toNat [(5 : Int)]).flatten).length = n := by
  rw [Int.toNat_natCast]
  induction n with
  | zero => rfl
  | succ n ih =>
    rw [List.replicate_succ, List.flatten_cons, List.length_append, ih]
    show 1 + n = n + 1
    omega
section
variable {P : Program} {w : World} {K : PySem.W.Frag} {mg : Str → Option Value} {base : Heap} {t : Tok} {B S Z : Addr}
theorem ok_law_all_refused {f fR fQ fM fO : Addr} {fd fdR fdQ fdM fdO : FuncData} (D : DefAt K mg "_law_all_refused" s_law_all_refused ["rows", "at", "twice"] f fd) (D_law_refused : DefAt K mg "_law_refused" s_law_refused ["rows", "twice"] fR fdR) (D_check_square : DefAt K mg "check_square" s_check_square ["rows"] fQ fdQ)
    (D_determinant : DefAt K mg "determinant" s_determinant ["rows"] fM fdM) (D_det_by_orders : DefAt K mg "det_by_orders" s_det_by_orders ["rows"] fO fdO) (EB : ErrB K mg B S Z)
    (mB_any : mg "any" = none) (mB_len : mg "len" = none) (mB_range : mg "range" = none) (mB_int : mg "int" = none) (mB_list : mg "list" = none) (mB_isinstance : mg "isinstance" = none) (mB_ValueError : mg "ValueError" = none) : FnOk P w K mg base CX0 5 f fd ["rows", "at", "twice"] (spV rBl wAR) := by
  have G_law_refused : FnOk P w K mg base CX0 4 fR fdR ["rows", "twice"] (spV rBl wRef) := ok_law_refused D_law_refused D_check_square D_determinant D_det_by_orders EB mB_any mB_len mB_range mB_int mB_list mB_isinstance mB_ValueError
  refine D.F.ok sc_law_all_refused (fun vs H Q E h => ?_) (fun cdv A outer s H vs Q E hr h => ?_)
  · obtain ⟨F, Pp, b, _, _, ⟨rows, n, i, tw, rfl, _⟩, ⟨v, v1, v2, rfl, _⟩, _⟩ := h
    rfl
  · obtain ⟨F, Pp, b, eF, _, ⟨rows, n, i, tw, rfl, hn, ⟨hl, hw⟩, hi, rfl⟩, ⟨v, v1, v2, rfl, hv, hv1, hv2⟩, q⟩ := h
    cases (show v1 = V.int (i : Int) from hv1)
    cases (show v2 = V.bl tw from hv2)
    refine ⟨_, (pss_cons (ps_set (i := 3) sc_law_all_refused.nd rfl (by first | exact Or.inl rfl | exact Or.inr rfl) (pe_lst (pa_cons (pe_op (r := rCat) op_cat (pv 0) (pe_lst (pa_cons (pe_op op_rep (pe_lst (pa_cons pe_int pa_nil)) (pe_callB (r := rLenQ K) call_len_seq (by rfl) mB_len (by decide +kernel) (pa_cons (pv 0) pa_nil))) pa_nil))) pa_nil)))
  (pss_cut (ps_if (pt_cmpR op_gt (pe_callB (r := rLenQ K) call_len_seq (by rfl) mB_len (by decide +kernel) (pa_cons (pv 0) pa_nil)) pe_int (nomark _))
    (pss_cons (ps_setLc (i := 4) (own := [("row", 7)]) (g := gName 7) rfl sc_law_all_refused.nd rfl rfl (sw_true rfl rfl rfl (by decide +kernel)) (pi_listK (K := K) (pv 0)) (blkOk_by (own := [("row", 7)]) (N := ["rows", "at", "twice", "wrong", "longer", "shorter", "few", "row"]) (sc := defScope s_law_all_refused) (by decide +kernel)) (fun _ _ _ _ _ => (pg_name (i := 7) sc_law_all_refused.nd rfl (by first | exact Or.inl rfl | exact Or.inr rfl))) (fun _ _ _ _ _ => pts_nil) (fun _ _ _ _ _ => (pe_callTy (r := rLstQ K) call_list_of (by rfl) mB_list (by decide +kernel) (pa_cons (pv 7) pa_nil))))
  (pss_cons (ps_expr (pe_bm PySem.F.plainAttrs_list PySem.F.slot_list_append PySem.F.type_list_append mt_append (pe_ix (r := rIxL K) ix_list (pv 4) (pv 1) (fun _ _ => rfl)) (pa_cons pe_int pa_nil)))
  (pss_cons (ps_setLc (i := 5) (own := [("row", 7)]) (g := gName 7) rfl sc_law_all_refused.nd rfl rfl (sw_true rfl rfl rfl (by decide +kernel)) (pi_listK (K := K) (pv 0)) (blkOk_by (own := [("row", 7)]) (N := ["rows", "at", "twice", "wrong", "longer", "shorter", "few", "row"]) (sc := defScope s_law_all_refused) (by decide +kernel)) (fun _ _ _ _ _ => (pg_name (i := 7) sc_law_all_refused.nd rfl (by first | exact Or.inl rfl | exact Or.inr rfl))) (fun _ _ _ _ _ => pts_nil) (fun _ _ _ _ _ => (pe_callTy (r := rLstQ K) call_list_of (by rfl) mB_list (by decide +kernel) (pa_cons (pv 7) pa_nil))))
  (pss_cons (ps_expr (pe_bm0 PySem.F.plainAttrs_list PySem.F.slot_list_pop PySem.F.type_list_pop mt_pop (pe_ix (r := rIxL K) ix_list (pv 5) (pv 1) (fun _ _ => rfl))))
  (pss_one (ps_set (i := 3) sc_law_all_refused.nd rfl (by first | exact Or.inl rfl | exact Or.inr rfl) (pe_op (r := rCat) op_cat (pv 3) (pe_lst (pa_cons (pv 4) (pa_cons (pv 5) pa_nil))))))))))
    pss_nil)
  (pss_cut (ps_if (pt_cmpR op_gt (pe_callB (r := rLenQ K) call_len_seq (by rfl) mB_len (by decide +kernel) (pa_cons (pv 0) pa_nil)) pe_int (nomark _))
    (pss_one (ps_expr (pe_bm PySem.F.plainAttrs_list PySem.F.slot_list_append PySem.F.type_list_append mt_append (pv 3) (pa_cons (pe_op (r := rCat) op_cat (pe_slice (r := rSlL K) sl_list (pv 0) po_none (po_some (pv 1))) (pe_slice (r := rSlL K) sl_list (pv 0) (po_some (pe_op op_add (pv 1) pe_int)) po_none)) pa_nil))))
    pss_nil)
  (pss_cons (ps_for PassesOwn.never rfl (pi_listK (K := K) (pv 3)) (pg_name (i := 6) sc_law_all_refused.nd rfl (by first | exact Or.inl rfl | exact Or.inr rfl))
    (pss_one (ps_if (pt_not (pt_val (pe_call G_law_refused (hr.mono (by decide)) (by rfl) D_law_refused.g D_law_refused.F.kp D_law_refused.b .nil pass0 (pa_cons (pv 6) (pa_cons (pv 2) pa_nil)))))
    (pss_one (ps_ret pe_bl))
    pss_nil)))
  (pss_one (ps_ret pe_bl)))))), ?_⟩
    refine w_asgN (r := rRows) (as := [rows ++ [(List.replicate ((rows.length : Int)).toNat [(5 : Int)]).flatten]]) (Wd.start eF) (en_lst (eal_cons (En.er (en_catL (er_var rfl hv) (En.er (en_lst (eal_cons (En.er (en_rep (En.er (en_lst (eal_cons er_int eal_nil) (by decide))) (er_lenL (er_var rfl hv)) (by omega) (by show 1 * _ ≤ _; omega))) eal_nil) (by show 1 ≤ 100000; decide))) (by show _ + 1 ≤ _; omega))) eal_nil) (by show 1 ≤ 100000; decide)) fun p1 G1 H1 w1 s1 m1 n1 => ?_
    have c5 := fives_len rows.length
    have g1 : ∀ x ∈ [rows ++ [(List.replicate ((rows.length : Int)).toNat [(5 : Int)]).flatten]], NoSq x := fun x hx => by
      cases List.mem_singleton.mp hx
      refine ⟨by rw [List.length_append]; show rows.length + 1 ≤ _; omega, _, List.mem_append_right _ (List.mem_singleton.mpr rfl), ?_⟩
      rw [c5, List.length_append]
      show rows.length ≠ rows.length + 1
      omega
    have hv1 := rRows.mono s1.fr hv
    refine w_cut (F0 := F) (H0 := H) (G := G1) (fun σ' G' H' => ∃ (p : Addr) (ws : List (List Row)) (x4 x5 : Option V), σ' = [some v, some (.int (i : Int)), some (.bl tw), some (.ref p), x4, x5, none, none] ∧ Mu rRows ws G' H' p ∧ H p = none ∧ ws.length ≤ 3 ∧ ∀ x ∈ ws, NoSq x) (v_when w1 (et_test (er_cmp0 (er_lenL (er_var rfl hv1)) er_int)) (fun hb H2 w2 s2 => ?_) (fun hb H2 w2 s2 => ?_)) fun σ2 G2 H2 w2 e2 hP => ?_
    · have hb := of_decide_eq_true hb
      have hi2 : i < rows.length := by have := hi (by omega); omega
      have hri := hw _ (List.getElem_mem hi2)
      obtain ⟨G3, w3, e3, rt, _⟩ := (m1.go s2).froz w2 n1
      have hv3 := rRows.mono e3 hv1
      refine w_lcF (j := i) w3 (src_list (er_var rfl hv3)) tgt_n (by omega) (fun r hr2 G σ2 eG hS => ?_) hi2 fun p4 xs4 q4 H4 a1 a2 a3 a4 => ?_
      · obtain ⟨y, hy, rfl⟩ := hS
        exact ⟨rfl, fun H1 _ Q q => q H1 (Ex.refl _), en_listL (er_var rfl hy)⟩
      refine w_appIx rfl rfl a1 a2 a3 (by omega) ?_
      obtain ⟨w5, s5, r5⟩ := a4 (rows[i] ++ [0])
      have hv5 := rRows.mono s5.fr hv3
      refine w_lcF (j := i) w5 (src_list (er_var rfl hv5)) tgt_n (by omega) (fun r hr2 G σ2 eG hS => ?_) hi2 fun p6 xs6 q6 H6 b1 b2 b3 b4 => ?_
      · obtain ⟨y, hy, rfl⟩ := hS
        exact ⟨rfl, fun H1 _ Q q => q H1 (Ex.refl _), en_listL (er_var rfl hy)⟩
      refine w_popIx rfl rfl b1 b2 b3 (fun z => by rw [z] at hri; simp at hri; omega) ?_
      obtain ⟨w7, s7, r7⟩ := b4 rows[i].dropLast
      refine v_asgN (r := rRows) w7 (en_catL (er_var rfl ((rLst rRows).mono (s5.fr.trans s7.fr) rt)) (En.er (en_lst (eal_cons (er_var rfl (rRows.mono s7.fr r5)) (eal_cons (er_var rfl r7) eal_nil)) (by show 2 ≤ 100000; decide))) (by show 1 + 2 ≤ 100000; decide)) fun p8 G8 H8 w8 s8 m8 n8 => ?_
      refine ⟨G8, w8, e3.trans (s5.fr.trans (s7.fr.trans s8.fr)), p8, _, _, _, rfl, m8, back_none w7.up n8, by show 3 ≤ 3; decide, fun x hx => ?_⟩
      rcases List.mem_append.mp hx with hx | hx
      · exact g1 x hx
      rcases List.mem_cons.mp hx with rfl | hx
      · refine ⟨by rw [List.length_set]; omega, _, mem_setI hi2, ?_⟩
        rw [List.length_set, List.length_append, hri, hl]
        show n + 1 ≠ n
        omega
      · cases List.mem_singleton.mp hx
        refine ⟨by rw [List.length_set]; omega, _, mem_setI hi2, ?_⟩
        rw [List.length_set, List.length_dropLast, hri, hl]
        omega
    · exact ⟨G1, w2, Ex.refl _, p1, _, none, none, rfl, m1.go s2, n1, by show 1 ≤ 3; decide, g1⟩
    obtain ⟨p, ws, x4, x5, rfl, m2, n2, hw3, g2⟩ := hP
    have hv2 := rRows.mono e2 hv1
    refine w_cut (F0 := F) (H0 := H) (G := G2) (fun σ' G' H' => ∃ (ws : List (List Row)), σ' = [some v, some (.int (i : Int)), some (.bl tw), some (.ref p), x4, x5, none, none] ∧ Mu rRows ws G' H' p ∧ ws.length ≤ 4 ∧ ∀ x ∈ ws, NoSq x) (v_when w2 (et_test (er_cmp0 (er_lenL (er_var rfl hv2)) er_int)) (fun hb H3 w3 s3 => ?_) (fun hb H3 w3 s3 => ?_)) fun σ3 G3 H3 w3 e3 hP => ?_
    · have hb := of_decide_eq_true hb
      have hi2 : i < rows.length := by have := hi (by omega); omega
      refine v_app w3 rfl (m2.go s3) n2 (by omega) (En.er (en_catL (En.er (en_sl (er_var rfl hv2) eo_none (eo_part (er_vi rfl)))) (En.er (en_sl (er_var rfl hv2) (eo_part (er_I0 (er_vi rfl) er_int)) eo_none)) ?_)) fun G4 H4 w4 s4 m4 => ?_
      · rw [cut_toA (by omega), show ((i : Int) + 1) = ((i + 1 : Nat) : Int) by omega, cut_fromA (by omega), List.length_take, List.length_drop]
        omega
      · refine ⟨G4, w4, s4.fr, _, rfl, m4, by rw [List.length_append]; show _ + 1 ≤ 4; omega, fun x hx => ?_⟩
        rcases List.mem_append.mp hx with hx | hx
        · exact g2 x hx
        · cases List.mem_singleton.mp hx
          rw [cut_toA (by omega), show ((i : Int) + 1) = ((i + 1 : Nat) : Int) by omega, cut_fromA (by omega)]
          have hlen : (rows.take i ++ rows.drop (i + 1)).length + 1 = rows.length := by
            rw [List.length_append, List.length_take, List.length_drop]
            omega
          have h0 : 0 < (rows.take i ++ rows.drop (i + 1)).length := by omega
          refine ⟨by omega, _, List.getElem_mem h0, ?_⟩
          rw [hw _ ((List.mem_append.mp (List.getElem_mem h0)).elim List.mem_of_mem_take List.mem_of_mem_drop)]
          omega
    · exact ⟨G2, w3, Ex.refl _, ws, rfl, m2.go s3, by omega, g2⟩
    obtain ⟨ws, rfl, m3, hw4, g3⟩ := hP
    obtain ⟨G4, w4, e4, rt, _⟩ := m3.froz w3 n2
    refine w_for w4 (src_list (er_var rfl rt)) tgt_n mono_sn (fun pre σ' G' H' => ∃ x6 : Option V, σ' = [some v, some (.int (i : Int)), some (.bl tw), some (.ref p), x4, x5, x6, none])
      (fun G2 H2 w2 s2 => ⟨none, rfl⟩) (fun Gs pre a post σ' σ2 G' H' G2 H2 has hP s2 w2 eGs hS => ?_) (fun σ' G' H' w2 hP => ?_)
    · obtain ⟨x6, rfl⟩ := hP
      obtain ⟨z, hz, rfl⟩ := hS
      refine v_no w2 (et_not (a := true) (DL.et_B (er_call (s := rBl) (b := true) (ea2 (er_var rfl hz) (er_var (r := rBl) (a := tw) rfl rfl)) mono2 ⟨a, tw, rfl, g3 a (by rw [has]; exact List.mem_append_right _ List.mem_cons_self), rfl⟩))) rfl fun H5 w5 s5 => ?_
      exact ⟨_, w5, eGs, some z, rfl⟩
    · obtain ⟨x6, rfl⟩ := hP
      exact v_retB w2 er_bl fun H5 e5 => q _ H5 e5 rfl
end
end K03
set_option Elab.async false
set_option linter.all false
set_option maxRecDepth 100000
set_option maxHeartbeats 8000000
namespace K03
open PySem PySem.Spec PyProof.Rows L2 Evl DL K00
abbrev s_law : Stmt := topS 33
theorem sc_law : FnScope ["script", "drawn", "count", "rows", "due", "told", "one", "other"] ["script"] (defScope s_law) := ⟨rfl, rfl, rfl, by decide +kernel, rfl, by decide +kernel, by decide +kernel⟩
/- 0 script, 1 drawn, 2 count, 3 rows, 4 due, 5 told, 6 one, 7 other -/
def spLaw (K : PySem.W.Frag) : Sp := fun vs H Q _ => ∃ (a : Addr) (ns : List Int), vs = [.ref a] ∧ SqL K H a (ns.map V.int) ∧ ns.length ≤ 63 ∧ ∀ H', Q (.bl true) H'
def rMax2 : List V → Hp → VK → Prop := fun xs H Q => ∃ i j, xs = [.int i, .int j] ∧ Q (.int (if j > i then j else i)) H
def CNs : List Int := [0, 1, 1, 2, 2, 2, 3, 3, 3, 3, 3, 3, 4, 4, 4, 4, 4, 4, 4, 5, 5, 5, 5, 6]
theorem cn_get : ∀ k, k < 24 → ∃ n, n < 7 ∧ CNs[k]? = some ((n : Nat) : Int) := by decide
theorem sgs_pos : ∀ n, n < 6 → 0 < (sgs n).length := by decide +kernel
theorem nums_nil : Nums [] := ⟨Nat.zero_le _, fun x hx => absurd hx List.not_mem_nil⟩
def Ls : List Int := [24, 6, 6, 2000000000001, 3]
section
variable {α β γ : Type} {K : PySem.W.Frag} {σ : L2.St} {F F0 H0 G H : Hp} {ta tb : TA} {u : Rep γ} {s : Rep β} {c : γ} {D : Ends} {tz : TS} {i : Nat} {p : Addr}
theorem er_callA {W : (Hp → List V → Prop) → List β → Prop} {W2 : (Hp → List V → Prop) → γ → Prop} {P : Hp → List V → Prop} {E E2 : XK} (h : Ea P ta σ F) (hP : MonoP P) (ex : ∃ b, W P b) (hv : ∀ b, W P b → W2 (A1 (rLst s) b) c) :
    Er u (tCall (spV u W2) [] E2 (tCons (tCall (spNA s W) [] E ta) tNil)) σ F c := fun H1 e Q q => h H1 e _ fun vs H2 e2 hk =>
  ⟨part F H1 H2, P, part_sub (e.trans e2), hP, ex, by rw [List.append_nil]; exact hk, fun b p H3 wb e3 n =>
    ⟨part (part F H1 H2) H2 H3, A1 (rLst s) b, c, part_sub ((part_sub (e.trans e2)).trans e3), mono1, hv b wb, ⟨.ref p, rfl, New.rel n (part_sub (e.trans e2))⟩, fun v H4 e4 k4 =>
      q v H4 (e2.trans (e3.trans e4)) (u.mono ((part_part e3 (Ex.refl H3) e4).trans (part_part e2 (Ex.refl H2) (e3.trans e4))) k4)⟩⟩
theorem er_max2 {ta tb : TE} {x y : Int} (h1 : Er rInt ta σ F x) (h2 : Er rInt tb σ F y) : Er rInt (tCB rMax2 (tCons ta (tCons tb tNil))) σ F (if y > x then y else x) := fun H1 e Q q =>
  er_two h1 h2 e fun v w H3 e3 hv hw => ⟨x, y, by rw [show v = V.int x from hv, show w = V.int y from hw], q _ H3 e3 rfl⟩
/-- told[0] = told[0] + (2,); told.append(3) -/
theorem w_spoil {as : List (List Int × Int)} (w : Wd F0 H0 G H) (m : Mu rOS as G H p) (h0 : H0 p = none) (hi : σ[i]? = some (some (.ref p))) (hl : 0 < as.length) (hs : as.length < 100000) (k : ∀ H2, Wd F0 H0 G H2 → tz D σ H2) :
    tSeq (tAsg (tOp (rCatA K) (tOp (rIxL K) (tVar i) (tC (.int 0))) (tTup (tCons (tC (.int 2)) tNil))) (gSub (tVar i) (tC (.int 0)) rSetL)) (tSeq (tDrop (tBM K "list" rAppend (tVar i) (tCons (tC (.int 3)) tNil))) tz) D σ H := by
  obtain ⟨h1, xs, h2, h3⟩ := m
  have hx : 0 < xs.length := by rw [h3.len]; exact hl
  obtain ⟨a, ha, T, y, z, hT, hTt, _⟩ := h3.get (List.getElem?_eq_getElem hx)
  have hx0 : xs[0]? = some (.ref T) := by rw [List.getElem?_eq_getElem hx, hT]
  have hTH : H T = some (.tup [y, z]) := w.sub T _ hTt
  refine ⟨_, hi, p, xs, 0, .ref T, rfl, rfl, SqL.of h2, atI_nat (j := 0) hx0, sz_of (by show 1 ≤ 100000; decide), fun c hc => ?_⟩
  have hcT : T ≠ c := fun e => by
    rw [← e, hTH] at hc
    cases hc
  refine ⟨T, c, [y, z], [.int 2], rfl, rfl, SqT.of ((upd_ne hcT).trans hTH), SqT.of upd_same, sz_of (by show 3 ≤ 100000; decide), (fun e => by cases e), (fun _ e => by cases e), fun _ _ d hd => ?_⟩
  have e1 : Ex H (upd (upd H c (.tup [.int 2])) d (.tup ([y, z] ++ [.int 2]))) := (Ex.new hc).trans (Ex.new hd)
  have hp1 := e1 p _ h2
  refine ⟨_, hi, p, xs, 0, 0, rfl, rfl, hp1, ixN_nat (j := 0) hx, ?_⟩
  refine ⟨_, hi, Or.inl ⟨rfl, _, SqL.of upd_same⟩, p, _, _, rfl, rfl, upd_same, by rw [List.length_set, h3.len]; exact sz_lt hs, ?_⟩
  exact k _ (((w.same e1).put h1 h0).put h1 h0)
end
section
variable {P : Program} {w : World} {K : PySem.W.Frag} {mg : Str → Option Value} {base : Heap} {t : Tok} {B S Z : Addr}
theorem ok_law {f f1 f2 f3 f4 f5 f6 f7 f8 f9 f10 f11 f12 f13 f14 f15 f16 f17 f18 f19 f20 f21 f22 f23 f24 : Addr} {fd d1 d2 d3 d4 d5 d6 d7 d8 d9 d10 d11 d12 d13 d14 d15 d16 d17 d18 d19 d20 d21 d22 d23 d24 : FuncData} (D : DefAt K mg "law" s_law ["script"] f fd)
    (D_inverse : DefAt K mg "inverse" s_inverse ["number"] f1 d1)
    (D_order_sign : DefAt K mg "order_sign" s_order_sign ["order"] f2 d2)
    (D_signed_orders : DefAt K mg "signed_orders" s_signed_orders ["count"] f3 d3)
    (D_check_square : DefAt K mg "check_square" s_check_square ["rows"] f4 d4)
    (D_det_by_orders : DefAt K mg "det_by_orders" s_det_by_orders ["rows"] f5 d5)
    (D_term : DefAt K mg "term" s_term ["rows", "order"] f6 d6)
    (D_determinant : DefAt K mg "determinant" s_determinant ["rows"] f7 d7)
    (D_cleared : DefAt K mg "cleared" s_cleared ["rows", "pivot"] f8 d8)
    (D_difference_product : DefAt K mg "difference_product" s_difference_product ["numbers"] f9 d9)
    (D_law_cell : DefAt K mg "_law_cell" s_law_cell ["script", "k"] f10 d10)
    (D_law_draws : DefAt K mg "_law_draws" s_law_draws ["cell", "limits"] f11 d11)
    (D_law_rows : DefAt K mg "_law_rows" s_law_rows ["script", "count"] f12 d12)
    (D_law_numbers : DefAt K mg "_law_numbers" s_law_numbers ["cell"] f13 d13)
    (D_law_orders : DefAt K mg "_law_orders" s_law_orders ["count"] f14 d14)
    (D_law_sign : DefAt K mg "_law_sign" s_law_sign ["order"] f15 d15)
    (D_law_sum : DefAt K mg "_law_sum" s_law_sum ["rows"] f16 d16)
    (D_law_is : DefAt K mg "_law_is" s_law_is ["told", "due"] f17 d17)
    (D_law_asked : DefAt K mg "_law_asked" s_law_asked ["rows", "due", "twice"] f18 d18)
    (D_law_right_orders : DefAt K mg "_law_right_orders" s_law_right_orders ["told", "count"] f19 d19)
    (D_law_refused : DefAt K mg "_law_refused" s_law_refused ["rows", "twice"] f20 d20)
    (D_law_all_refused : DefAt K mg "_law_all_refused" s_law_all_refused ["rows", "at", "twice"] f21 d21)
    (D_law_powers : DefAt K mg "_law_powers" s_law_powers ["numbers"] f22 d22)
    (D_law_right_differences : DefAt K mg "_law_right_differences" s_law_right_differences ["numbers"] f23 d23)
    (D_law_changed_right : DefAt K mg "_law_changed_right" s_law_changed_right ["rows", "due", "one", "other", "factor"] f24 d24)
    (EB : ErrB K mg B S Z) (c_PRIME : mg "PRIME" = some (.int 97 t)) (mB_any : mg "any" = none) (mB_len : mg "len" = none) (mB_range : mg "range" = none) (mB_int : mg "int" = none) (mB_list : mg "list" = none) (mB_isinstance : mg "isinstance" = none) (mB_ValueError : mg "ValueError" = none) (mB_bool : mg "bool" = none) (mB_zip : mg "zip" = none) (mB_enumerate : mg "enumerate" = none) (mB_sum : mg "sum" = none) (mB_tuple : mg "tuple" = none) (mB_max : mg "max" = none) :
    FnOk P w K mg base CX0 6 f fd ["script"] (spLaw K) := by
  have G_law_cell : FnOk P w K mg base CX0 1 f10 d10 ["script", "k"] (spV rInt (wCell K)) := ok_law_cell D_law_cell mB_len
  have G_law_draws : FnOk P w K mg base CX0 1 f11 d11 ["cell", "limits"] (spN rInt wDraws) := ok_law_draws D_law_draws mB_int
  have G_law_rows : FnOk P w K mg base CX0 2 f12 d12 ["script", "count"] (spNA (rLst rInt) (wRows K)) := ok_law_rows D_law_rows D_law_cell D_law_draws mB_len mB_int mB_range mB_list
  have G_law_numbers : FnOk P w K mg base CX0 2 f13 d13 ["cell"] (spNA rInt wNums) := ok_law_numbers D_law_numbers D_law_draws mB_len mB_int
  have G_law_sum : FnOk P w K mg base CX0 2 f16 d16 ["rows"] (spV rInt wDet) := ok_law_sum D_law_sum D_law_orders D_law_sign mB_range mB_len mB_list mB_int
  have G_signed_orders : FnOk P w K mg base CX0 2 f3 d3 ["count"] (spN rOS wSOrd) := ok_signed_orders D_signed_orders D_order_sign mB_enumerate mB_len mB_range
  have G_determinant : FnOk P w K mg base CX0 3 f7 d7 ["rows"] (spV rInt wDet) := ok_determinant D_determinant D_check_square D_cleared D_inverse c_PRIME mB_zip mB_any mB_len mB_enumerate mB_range
  have G_det_by_orders : FnOk P w K mg base CX0 3 f5 d5 ["rows"] (spV rInt wDet) := ok_det_by_orders D_det_by_orders D_check_square D_signed_orders D_order_sign D_term c_PRIME mB_zip mB_any mB_len mB_enumerate mB_range mB_sum
  have G_law_asked : FnOk P w K mg base CX0 4 f18 d18 ["rows", "due", "twice"] (spV rBl wAsked) := ok_law_asked D_law_asked D_law_is D_determinant D_det_by_orders G_determinant G_det_by_orders mB_list mB_isinstance mB_int mB_bool
  have G_law_right_orders : FnOk P w K mg base CX0 2 f19 d19 ["told", "count"] (spV rBl wRO) := ok_law_right_orders D_law_right_orders D_law_orders D_law_sign D_law_is mB_range mB_len mB_list mB_int mB_isinstance mB_bool mB_tuple
  have G_law_right_differences : FnOk P w K mg base CX0 5 f23 d23 ["numbers"] (spV rBl wRD) := ok_law_right_differences D_law_right_differences D_law_is D_difference_product D_law_asked G_law_asked D_law_powers c_PRIME mB_range mB_len mB_list mB_int mB_isinstance mB_bool mB_enumerate
  have G_law_all_refused : FnOk P w K mg base CX0 5 f21 d21 ["rows", "at", "twice"] (spV rBl wAR) := ok_law_all_refused D_law_all_refused D_law_refused D_check_square D_determinant D_det_by_orders EB mB_any mB_len mB_range mB_int mB_list mB_isinstance mB_ValueError
  have G_law_changed_right : FnOk P w K mg base CX0 5 f24 d24 ["rows", "due", "one", "other", "factor"] (spV rBl wCR) := ok_law_changed_right D_law_changed_right D_law_asked G_law_asked mB_range mB_len mB_list mB_int
  refine D.F.ok sc_law (fun vs H Q E h => ?_) (fun cdv A outer s H vs Q E hr h => ?_)
  · obtain ⟨a, ns, rfl, _⟩ := h
    rfl
  · obtain ⟨adr, ns, rfl, hS, hlen, q⟩ := h
    refine ⟨_, (pss_cons (ps_set (i := 1) sc_law.nd rfl (by first | exact Or.inl rfl | exact Or.inr rfl) (pe_call G_law_draws (hr.mono (by decide)) (by rfl) D_law_draws.g D_law_draws.F.kp D_law_draws.b .nil pass0 (pa_cons (pe_call G_law_cell (hr.mono (by decide)) (by rfl) D_law_cell.g D_law_cell.F.kp D_law_cell.b .nil pass0 (pa_cons (pv 0) (pa_cons pe_int pa_nil))) (pa_cons (pe_lst (pa_cons pe_int (pa_cons pe_int (pa_cons pe_int (pa_cons (pe_op op_add (pe_op op_mul pe_int (pe_op op_pow pe_int pe_int)) pe_int) (pa_cons pe_int pa_nil)))))) pa_nil))))
  (pss_cons (ps_set (i := 2) sc_law.nd rfl (by first | exact Or.inl rfl | exact Or.inr rfl) (pe_ix (r := rIxL K) ix_list (pe_lst (pa_cons pe_int (pa_cons pe_int (pa_cons pe_int (pa_cons pe_int (pa_cons pe_int (pa_cons pe_int (pa_cons pe_int (pa_cons pe_int (pa_cons pe_int (pa_cons pe_int (pa_cons pe_int (pa_cons pe_int (pa_cons pe_int (pa_cons pe_int (pa_cons pe_int (pa_cons pe_int (pa_cons pe_int (pa_cons pe_int (pa_cons pe_int (pa_cons pe_int (pa_cons pe_int (pa_cons pe_int (pa_cons pe_int (pa_cons pe_int pa_nil))))))))))))))))))))))))) (pe_ix (r := rIxL K) ix_list (pv 1) pe_int (fun _ _ => rfl)) (fun _ _ => rfl)))
  (pss_cons (ps_set (i := 3) sc_law.nd rfl (by first | exact Or.inl rfl | exact Or.inr rfl) (pe_call G_law_rows (hr.mono (by decide)) (by rfl) D_law_rows.g D_law_rows.F.kp D_law_rows.b .nil pass0 (pa_cons (pv 0) (pa_cons (pv 2) pa_nil))))
  (pss_cons (ps_set (i := 4) sc_law.nd rfl (by first | exact Or.inl rfl | exact Or.inr rfl) (pe_call G_law_sum (hr.mono (by decide)) (by rfl) D_law_sum.g D_law_sum.F.kp D_law_sum.b .nil pass0 (pa_cons (pv 3) pa_nil)))
  (pss_cons (ps_if (PW.pt (pw_or (pt_not (pt_val (pe_call G_law_asked (hr.mono (by decide)) (by rfl) D_law_asked.g D_law_asked.F.kp D_law_asked.b .nil pass0 (pa_cons (pv 3) (pa_cons (pv 4) (pa_cons (pe_cmpR op_lt (pv 2) pe_int (nomark _)) pa_nil)))))) (pw_or1 (pt_not (pt_val (pe_call G_law_right_differences (hr.mono (by decide)) (by rfl) D_law_right_differences.g D_law_right_differences.F.kp D_law_right_differences.b .nil pass0 (pa_cons (pe_call G_law_numbers (hr.mono (by decide)) (by rfl) D_law_numbers.g D_law_numbers.F.kp D_law_numbers.b .nil pass0 (pa_cons (pe_call G_law_cell (hr.mono (by decide)) (by rfl) D_law_cell.g D_law_cell.F.kp D_law_cell.b .nil pass0 (pa_cons (pv 0) (pa_cons pe_int pa_nil))) pa_nil)) pa_nil)))))))
    (pss_one (ps_ret pe_bl))
    pss_nil)
  (pss_cut (ps_if (pt_cmpR op_lt (pv 2) pe_int (nomark _))
    (pss_cons (ps_set (i := 5) sc_law.nd rfl (by first | exact Or.inl rfl | exact Or.inr rfl) (pe_call G_signed_orders (hr.mono (by decide)) (by rfl) D_signed_orders.g D_signed_orders.F.kp D_signed_orders.b .nil pass0 (pa_cons (pv 2) pa_nil)))
  (pss_cons (ps_if (pt_not (pt_val (pe_call G_law_right_orders (hr.mono (by decide)) (by rfl) D_law_right_orders.g D_law_right_orders.F.kp D_law_right_orders.b .nil pass0 (pa_cons (pv 5) (pa_cons (pv 2) pa_nil)))))
    (pss_one (ps_ret pe_bl))
    pss_nil)
  (pss_cons (ps_asg (pe_op (r := rCatA K) op_catA (pe_ix (r := rIxL K) ix_list (pv 5) pe_int (fun _ _ => rfl)) (pe_tup (pa_cons pe_int pa_nil))) (pg_sub (pv 5) pe_int set_list))
  (pss_cons (ps_expr (pe_bm PySem.F.plainAttrs_list PySem.F.slot_list_append PySem.F.type_list_append mt_append (pv 5) (pa_cons pe_int pa_nil)))
  (pss_one (ps_if (pt_not (pt_val (pe_call G_law_right_orders (hr.mono (by decide)) (by rfl) D_law_right_orders.g D_law_right_orders.F.kp D_law_right_orders.b .nil pass0 (pa_cons (pe_call G_signed_orders (hr.mono (by decide)) (by rfl) D_signed_orders.g D_signed_orders.F.kp D_signed_orders.b .nil pass0 (pa_cons (pv 2) pa_nil)) (pa_cons (pv 2) pa_nil)))))
    (pss_one (ps_ret pe_bl))
    pss_nil))))))
    pss_nil)
  (pss_cons (ps_set (i := 6) sc_law.nd rfl (by first | exact Or.inl rfl | exact Or.inr rfl) (pe_op op_mod (pe_ix (r := rIxL K) ix_list (pv 1) pe_int (fun _ _ => rfl)) (pe_callB (r := rMax2) (call_max2 rfl) (by rfl) mB_max (by decide +kernel) (pa_cons pe_int (pa_cons (pv 2) pa_nil)))))
  (pss_cons (ps_set (i := 7) sc_law.nd rfl (by first | exact Or.inl rfl | exact Or.inr rfl) (pe_op op_mod (pe_ix (r := rIxL K) ix_list (pv 1) pe_int (fun _ _ => rfl)) (pe_callB (r := rMax2) (call_max2 rfl) (by rfl) mB_max (by decide +kernel) (pa_cons pe_int (pa_cons (pv 2) pa_nil)))))
  (pss_cons (ps_if (pt_not (pt_val (pe_call G_law_all_refused (hr.mono (by decide)) (by rfl) D_law_all_refused.g D_law_all_refused.F.kp D_law_all_refused.b .nil pass0 (pa_cons (pv 3) (pa_cons (pv 6) (pa_cons (pe_cmpR op_lt (pv 2) pe_int (nomark _)) pa_nil))))))
    (pss_one (ps_ret pe_bl))
    pss_nil)
  (pss_one (ps_ret (pe_or (pe_cmpR op_eq (pv 2) pe_int (nomark _)) (pe_one (pe_call G_law_changed_right (hr.mono (by decide)) (by rfl) D_law_changed_right.g D_law_changed_right.F.kp D_law_changed_right.b .nil pass0 (pa_cons (pv 3) (pa_cons (pv 4) (pa_cons (pv 6) (pa_cons (pv 7) (pa_cons (pe_op op_sub (pe_ix (r := rIxL K) ix_list (pv 1) pe_int (fun _ _ => rfl)) (pe_op op_pow pe_int pe_int)) pa_nil))))))))))))))))))), ?_⟩
    have eS : ∀ {σ3 : L2.St} {G3 : Hp}, Ex H G3 → σ3[0]? = some (some (.ref adr)) → Er (rFro K) (tVar 0) σ3 G3 ns := fun e h0 => er_var h0 ⟨adr, rfl, ex_l e hS⟩
    obtain ⟨x0, hx0, a0, b0⟩ : ∃ x, (drawn (cell ns 0) Ls)[0]? = some x ∧ 0 ≤ x ∧ x < 24 := draws_get Ls _ _ 0 24 (by decide) rfl
    obtain ⟨x1, hx1, a1, b1⟩ : ∃ x, (drawn (cell ns 0) Ls)[1]? = some x ∧ 0 ≤ x ∧ x < 6 := draws_get Ls _ _ 1 6 (by decide) rfl
    obtain ⟨x2, hx2, a2, b2⟩ : ∃ x, (drawn (cell ns 0) Ls)[2]? = some x ∧ 0 ≤ x ∧ x < 6 := draws_get Ls _ _ 2 6 (by decide) rfl
    obtain ⟨x3, hx3, a3, b3⟩ : ∃ x, (drawn (cell ns 0) Ls)[3]? = some x ∧ 0 ≤ x ∧ x < 2000000000001 := draws_get Ls _ _ 3 2000000000001 (by decide) rfl
    obtain ⟨k0, rfl⟩ := Int.eq_ofNat_of_zero_le a0
    obtain ⟨n, hn7, hcn⟩ := cn_get k0 (by omega)
    have hn : n ≤ 6 := by omega
    have e12 : ∀ {σ3 : L2.St} {G3 : Hp}, Er rInt (tOp (rI CPow fun i j => V.int (i ^ j.toNat)) (tC (.int 10)) (tC (.int 12))) σ3 G3 1000000000000 := er_is (er_I (C := CPow) er_int er_int ⟨by decide, by decide, by decide⟩) (by decide)
    -- drawn
    refine w_asg (r := rLst rInt) (a := drawn (cell ns 0) Ls) (Wd.start (Ex.refl H)) (En.er (en_call (s := rInt) (ea2 (er_call (s := rInt) (ea2 (eS (Ex.refl H) rfl) er_int) mono2 ⟨ns, 0, rfl, hlen, by omega, rfl⟩) (En.er (en_lst (as := Ls) (eal_cons er_int (eal_cons er_int (eal_cons er_int (eal_cons (er_is (er_I0 (er_I er_int e12 (Or.inl ⟨by decide, by decide⟩)) er_int) (by decide)) (eal_cons er_int eal_nil))))) (by show 5 ≤ 100000; decide)))) mono2 ⟨cell ns 0, Ls, rfl, by decide, by decide, rfl⟩)) fun vd G1 H1 w1 s1 hvd => ?_
    -- count
    refine w_asgI (n := (n : Int)) w1 (er_ixL (En.er (en_lst (as := CNs) (eal_cons er_int (eal_cons er_int (eal_cons er_int (eal_cons er_int (eal_cons er_int (eal_cons er_int (eal_cons er_int (eal_cons er_int (eal_cons er_int (eal_cons er_int (eal_cons er_int (eal_cons er_int (eal_cons er_int (eal_cons er_int (eal_cons er_int (eal_cons er_int (eal_cons er_int (eal_cons er_int (eal_cons er_int (eal_cons er_int (eal_cons er_int (eal_cons er_int (eal_cons er_int (eal_cons er_int eal_nil)))))))))))))))))))))))) (by show 24 ≤ 100000; decide))) (er_ixL (er_var rfl hvd) er_int (atI_nat (j := 0) hx0)) (atI_nat hcn)) fun H2 w2 s2 => ?_
    -- rows
    refine w_callA w2 (ea2 (eS w2.old rfl) (er_vi rfl)) mono2 ⟨List.replicate n (List.replicate n 0), ns, n, rfl, hlen, hn, List.length_replicate, fun r hr => by rw [List.eq_of_mem_replicate hr, List.length_replicate]⟩ fun rows pr G3 H3 wx w3 s3 mr nr => ?_
    obtain ⟨_, n2, eP, _, _, gr⟩ := wx
    have hsq : Sq rows n := by
      have e1 := congrFun (congrFun eP H) [.ref adr, .int (n : Int)]
      have e2 : A2 (rFro K) rInt ns (n : Int) H [.ref adr, .int (n : Int)] := ⟨_, _, rfl, ⟨adr, rfl, hS⟩, rfl⟩
      rw [e1] at e2
      obtain ⟨_, _, hl, _, hr2⟩ := e2
      have hl := List.cons.inj (List.cons.inj hl).2
      have : V.int (n : Int) = V.int (n2 : Int) := hl.1.trans hr2
      have : n = n2 := by
        have := V.int.inj this
        omega
      subst this
      exact gr
    obtain ⟨G4, w4, e4, rr, _⟩ := mr.froz w3 (back_none w2.up nr)
    have hvd := (rLst rInt).mono (s3.fr.trans e4) hvd
    have hold := w4.old
    -- due
    refine w_asgI (n := Dt n rows % 97) w4 (er_call (s := rInt) (ea1 (er_var rfl rr)) mono1 ⟨rows, n, rfl, hn, hsq, rfl⟩) fun H5 w5 s5 => ?_
    refine w_no w5 (et_or (a := false) (b := false) (et_not (a := true) (DL.et_B (er_call (s := rBl) (b := true) (ea3 (er_var rfl rr) (er_vi rfl) (er_cmp0 (er_vi rfl) er_int)) mono3 ⟨rows, n, _, rfl, hn, hsq, rfl⟩))) fun _ => et_not (a := true) (DL.et_B (er_callA (u := rBl) (c := true) (s := rInt) (W := wNums) (ea1 (er_call (s := rInt) (b := cell ns 8) (ea2 (eS hold rfl) er_int) mono2 ⟨ns, 8, rfl, hlen, by omega, rfl⟩)) mono1 ⟨[], cell ns 8, rfl, nums_nil⟩ fun b ⟨c, _, hb⟩ => ⟨b, rfl, hb, rfl⟩))) rfl fun H6 w6 s6 => ?_
    -- the orders
    refine w_cut (F0 := H) (H0 := H) (G := G4) (fun σ' G' H' => ∃ x5 : Option V, σ' = [some (.ref adr), some vd, some (.int (n : Int)), some (.ref pr), some (.int (Dt n rows % 97)), x5, none, none]) (v_when w6 (et_test (er_cmp0 (er_vi rfl) er_int)) (fun hb H7 w7 s7 => ?_) (fun hb H7 w7 s7 => ?_)) fun σ7 G7 H7 w7 e7 hP => ?_
    · have hb := of_decide_eq_true hb
      refine w_asgN (r := rOS) (as := sgs n) w7 (en_call (s := rOS) (ea1 (er_vi rfl)) mono1 ⟨n, rfl, hn, rfl⟩) fun p8 G8 H8 w8 s8 m8 n8 => ?_
      have n80 : H p8 = none := back_none w7.up n8
      obtain ⟨Gf, wf, ef, rf, _⟩ := m8.froz w8 n80
      refine w_noF w8 wf.sub (et_not (a := true) (DL.et_B (er_call (s := rBl) (b := true) (ea2 (er_var rfl rf) (er_vi rfl)) mono2 ⟨n, rfl, hn, rfl⟩))) rfl fun H9 w9 s9 => ?_
      refine w_spoil w9 (m8.go s9) n80 rfl (sgs_pos n (by omega)) ?_ fun H10 w10 => ?_
      · show ((ords n).map _).length < _
        rw [List.length_map]
        exact Nat.lt_of_le_of_lt (ord_small hn hn) (by decide)
      refine v_no w10 (et_not (a := true) (DL.et_B (er_call (s := rBl) (b := true) (ea2 (En.er (en_call (s := rOS) (ea1 (er_vi rfl)) mono1 ⟨n, rfl, hn, rfl⟩)) (er_vi rfl)) mono2 ⟨n, rfl, hn, rfl⟩))) rfl fun H11 w11 s11 => ?_
      exact ⟨G8, w11, s8.fr, some (.ref p8), rfl⟩
    · exact ⟨G4, w7, Ex.refl _, none, rfl⟩
    obtain ⟨x5, rfl⟩ := hP
    have hvd := (rLst rInt).mono e7 hvd
    have rr := rRows.mono e7 rr
    have hm : ∃ m : Int, (if (n : Int) > 1 then (n : Int) else 1) = m ∧ 0 < m ∧ (0 < n → m = n) := ⟨_, rfl, by split <;> omega, fun h => by split <;> omega⟩
    obtain ⟨m, hm0, hm1, hm2⟩ := hm
    have em : ∀ {σ3 : L2.St} {G3 : Hp}, σ3[2]? = some (some (.int (n : Int))) → Er rInt (tCB rMax2 (tCons (tC (.int 1)) (tCons (tVar 2) tNil))) σ3 G3 m := fun h => er_is (er_max2 er_int (er_vi h)) hm0
    have one_of : ∀ x : Int, ∃ i : Nat, x % m = (i : Int) ∧ (0 < n → i < n) := fun x => by
      have h1 := Int.emod_nonneg x (show m ≠ 0 by omega)
      have h2 := Int.emod_lt_of_pos x hm1
      obtain ⟨i, hi⟩ := Int.eq_ofNat_of_zero_le h1
      exact ⟨i, hi, fun h => by have := hm2 h; omega⟩
    obtain ⟨i, hi, hin⟩ := one_of x1
    obtain ⟨j, hj, hjn⟩ := one_of x2
    refine w_asgI (n := (i : Int)) w7 (er_is (er_I (er_ixL (er_var rfl hvd) er_int (atI_nat (j := 1) hx1)) (em rfl) hm1) hi) fun H8 w8 s8 => ?_
    refine w_asgI (n := (j : Int)) w8 (er_is (er_I (er_ixL (er_var rfl hvd) er_int (atI_nat (j := 2) hx2)) (em rfl) hm1) hj) fun H9 w9 s9 => ?_
    refine w_no w9 (et_not (a := true) (DL.et_B (er_call (s := rBl) (b := true) (ea3 (er_var rfl rr) (er_vi rfl) (er_cmp0 (er_vi rfl) er_int)) mono3 ⟨rows, n, i, _, rfl, by omega, hsq, hin, rfl⟩))) rfl fun H10 w10 s10 => ?_
    refine v_retB (n := true) w10 (er_is (er_orV (a := decide ((n : Int) = 0)) (b := true) (er_eqI (er_vi rfl) er_int) fun hne => er_call (s := rBl) (b := true) (ea5 (er_var rfl rr) (er_vi rfl) (er_vi rfl) (er_vi rfl) (er_I0 (er_ixL (er_var rfl hvd) er_int (atI_nat (j := 3) hx3)) e12)) mono5 ⟨rows, n, i, j, _, rfl, hn, hsq, hin ?_, hjn ?_, ⟨by omega, by omega⟩, rfl⟩) (Bool.or_true _)) fun H11 e11 => q H11
    · have := of_decide_eq_false hne
      omega
    · have := of_decide_eq_false hne
      omega
end
end K03
set_option Elab.async false
set_option linter.all false
set_option maxRecDepth 100000
set_option maxHeartbeats 8000000
namespace K03
open PySem PySem.Spec PyProof.Rows L2 Evl DL
theorem kit_subB {K : PySem.W.Frag} {C S : Addr} {b : Bool} (hcl : PySem.W.isClsIn K S = true) (ht : PySem.W.typeIn K (.ref S) = some (.type "type")) (hs : PySem.W.subIn K (.ref C) (.ref S) = some b) (hC : PySem.W.subIn K (.ref C) (.ref C) = some true) : PySem.W.kitOne K (.ref C) (.ref S) = some b := by
  unfold PySem.W.kitOne
  by_cases e : C = S
  · subst e
    rw [hC] at hs
    rw [if_pos (beq_self_eq_true _)]
    exact hs
  · rw [if_neg (fun z => e (Value.ref.inj (eq_of_beq z)))]
    have hcl : (PySem.W.clsIn K S).isSome = true := hcl
    show (if ((PySem.W.clsIn K S).isSome && PySem.W.typeIn K (.ref S) == some (.type "type")) = true then PySem.W.subIn K (.ref C) (.ref S) else none) = some b
    rw [if_pos (by rw [hcl, ht]; rfl)]
    exact hs
theorem kit_val {K : PySem.W.Frag} {C : Addr} {b : Bool} (hs : PySem.W.subIn K (.ref C) (.type "ValueError") = some b) : PySem.W.kitOne K (.ref C) (.type "ValueError") = some b := by
  unfold PySem.W.kitOne
  rw [if_neg (show ¬ ((Value.ref C == Value.type "ValueError") = true) from fun z => by have h := eq_of_beq z; cases h)]
  show (if PySem.W.kitMeta "ValueError" = true then PySem.W.subIn K (.ref C) (.type "ValueError") else none) = some b
  rw [if_pos (by decide +kernel)]
  exact hs
theorem all_mk {l : PySem.W.OpenLaw} {w : World} {K : PySem.W.Frag} {h : Heap} {mg : Str → Option Value} {fa : Addr} (X : K.In h) (G : h.Ns mainGlobals mg) (hfa : mg "law" = some (.ref fa))
    {f_inverse : Addr} {od_inverse an_inverse : Option Addr} {sl_inverse : Array (Option Value)} {oc_inverse kV_inverse dc_inverse pm_inverse cd_inverse ct_inverse : Value}
    (a_inverse : PySem.W.nsIn K mainGlobals "inverse" = some (some (.ref f_inverse)))
    (l_inverse : K.lookup f_inverse = some ⟨oc_inverse, od_inverse, .func (PySem.W.fnOf "inverse" "inverse" (defArgs s_inverse) (defBody s_inverse) (defScope s_inverse) .none kV_inverse dc_inverse pm_inverse an_inverse cd_inverse ct_inverse), sl_inverse⟩)
    (c_inverse : PySem.W.codeIn K cd_inverse "inverse" = true) (k_inverse : PySem.W.keepIn K (.ref f_inverse) = true)
    {f_order_sign : Addr} {od_order_sign an_order_sign : Option Addr} {sl_order_sign : Array (Option Value)} {oc_order_sign kV_order_sign dc_order_sign pm_order_sign cd_order_sign ct_order_sign : Value}
    (a_order_sign : PySem.W.nsIn K mainGlobals "order_sign" = some (some (.ref f_order_sign)))
    (l_order_sign : K.lookup f_order_sign = some ⟨oc_order_sign, od_order_sign, .func (PySem.W.fnOf "order_sign" "order_sign" (defArgs s_order_sign) (defBody s_order_sign) (defScope s_order_sign) .none kV_order_sign dc_order_sign pm_order_sign an_order_sign cd_order_sign ct_order_sign), sl_order_sign⟩)
    (c_order_sign : PySem.W.codeIn K cd_order_sign "order_sign" = true) (k_order_sign : PySem.W.keepIn K (.ref f_order_sign) = true)
    {f_signed_orders : Addr} {od_signed_orders an_signed_orders : Option Addr} {sl_signed_orders : Array (Option Value)} {oc_signed_orders kV_signed_orders dc_signed_orders pm_signed_orders cd_signed_orders ct_signed_orders : Value}
    (a_signed_orders : PySem.W.nsIn K mainGlobals "signed_orders" = some (some (.ref f_signed_orders)))
    (l_signed_orders : K.lookup f_signed_orders = some ⟨oc_signed_orders, od_signed_orders, .func (PySem.W.fnOf "signed_orders" "signed_orders" (defArgs s_signed_orders) (defBody s_signed_orders) (defScope s_signed_orders) .none kV_signed_orders dc_signed_orders pm_signed_orders an_signed_orders cd_signed_orders ct_signed_orders), sl_signed_orders⟩)
    (c_signed_orders : PySem.W.codeIn K cd_signed_orders "signed_orders" = true) (k_signed_orders : PySem.W.keepIn K (.ref f_signed_orders) = true)
    {f_check_square : Addr} {od_check_square an_check_square : Option Addr} {sl_check_square : Array (Option Value)} {oc_check_square kV_check_square dc_check_square pm_check_square cd_check_square ct_check_square : Value}
    (a_check_square : PySem.W.nsIn K mainGlobals "check_square" = some (some (.ref f_check_square)))
    (l_check_square : K.lookup f_check_square = some ⟨oc_check_square, od_check_square, .func (PySem.W.fnOf "check_square" "check_square" (defArgs s_check_square) (defBody s_check_square) (defScope s_check_square) .none kV_check_square dc_check_square pm_check_square an_check_square cd_check_square ct_check_square), sl_check_square⟩)
    (c_check_square : PySem.W.codeIn K cd_check_square "check_square" = true) (k_check_square : PySem.W.keepIn K (.ref f_check_square) = true)
    {f_det_by_orders : Addr} {od_det_by_orders an_det_by_orders : Option Addr} {sl_det_by_orders : Array (Option Value)} {oc_det_by_orders kV_det_by_orders dc_det_by_orders pm_det_by_orders cd_det_by_orders ct_det_by_orders : Value}
    (a_det_by_orders : PySem.W.nsIn K mainGlobals "det_by_orders" = some (some (.ref f_det_by_orders)))
    (l_det_by_orders : K.lookup f_det_by_orders = some ⟨oc_det_by_orders, od_det_by_orders, .func (PySem.W.fnOf "det_by_orders" "det_by_orders" (defArgs s_det_by_orders) (defBody s_det_by_orders) (defScope s_det_by_orders) .none kV_det_by_orders dc_det_by_orders pm_det_by_orders an_det_by_orders cd_det_by_orders ct_det_by_orders), sl_det_by_orders⟩)
    (c_det_by_orders : PySem.W.codeIn K cd_det_by_orders "det_by_orders" = true) (k_det_by_orders : PySem.W.keepIn K (.ref f_det_by_orders) = true)
    {f_term : Addr} {od_term an_term : Option Addr} {sl_term : Array (Option Value)} {oc_term kV_term dc_term pm_term cd_term ct_term : Value}
    (a_term : PySem.W.nsIn K mainGlobals "term" = some (some (.ref f_term)))
    (l_term : K.lookup f_term = some ⟨oc_term, od_term, .func (PySem.W.fnOf "term" "term" (defArgs s_term) (defBody s_term) (defScope s_term) .none kV_term dc_term pm_term an_term cd_term ct_term), sl_term⟩)
    (c_term : PySem.W.codeIn K cd_term "term" = true) (k_term : PySem.W.keepIn K (.ref f_term) = true)
    {f_determinant : Addr} {od_determinant an_determinant : Option Addr} {sl_determinant : Array (Option Value)} {oc_determinant kV_determinant dc_determinant pm_determinant cd_determinant ct_determinant : Value}
    (a_determinant : PySem.W.nsIn K mainGlobals "determinant" = some (some (.ref f_determinant)))
    (l_determinant : K.lookup f_determinant = some ⟨oc_determinant, od_determinant, .func (PySem.W.fnOf "determinant" "determinant" (defArgs s_determinant) (defBody s_determinant) (defScope s_determinant) .none kV_determinant dc_determinant pm_determinant an_determinant cd_determinant ct_determinant), sl_determinant⟩)
    (c_determinant : PySem.W.codeIn K cd_determinant "determinant" = true) (k_determinant : PySem.W.keepIn K (.ref f_determinant) = true)
    {f_cleared : Addr} {od_cleared an_cleared : Option Addr} {sl_cleared : Array (Option Value)} {oc_cleared kV_cleared dc_cleared pm_cleared cd_cleared ct_cleared : Value}
    (a_cleared : PySem.W.nsIn K mainGlobals "cleared" = some (some (.ref f_cleared)))
    (l_cleared : K.lookup f_cleared = some ⟨oc_cleared, od_cleared, .func (PySem.W.fnOf "cleared" "cleared" (defArgs s_cleared) (defBody s_cleared) (defScope s_cleared) .none kV_cleared dc_cleared pm_cleared an_cleared cd_cleared ct_cleared), sl_cleared⟩)
    (c_cleared : PySem.W.codeIn K cd_cleared "cleared" = true) (k_cleared : PySem.W.keepIn K (.ref f_cleared) = true)
    {f_difference_product : Addr} {od_difference_product an_difference_product : Option Addr} {sl_difference_product : Array (Option Value)} {oc_difference_product kV_difference_product dc_difference_product pm_difference_product cd_difference_product ct_difference_product : Value}
    (a_difference_product : PySem.W.nsIn K mainGlobals "difference_product" = some (some (.ref f_difference_product)))
    (l_difference_product : K.lookup f_difference_product = some ⟨oc_difference_product, od_difference_product, .func (PySem.W.fnOf "difference_product" "difference_product" (defArgs s_difference_product) (defBody s_difference_product) (defScope s_difference_product) .none kV_difference_product dc_difference_product pm_difference_product an_difference_product cd_difference_product ct_difference_product), sl_difference_product⟩)
    (c_difference_product : PySem.W.codeIn K cd_difference_product "difference_product" = true) (k_difference_product : PySem.W.keepIn K (.ref f_difference_product) = true)
    {f_law_cell : Addr} {od_law_cell an_law_cell : Option Addr} {sl_law_cell : Array (Option Value)} {oc_law_cell kV_law_cell dc_law_cell pm_law_cell cd_law_cell ct_law_cell : Value}
    (a_law_cell : PySem.W.nsIn K mainGlobals "_law_cell" = some (some (.ref f_law_cell)))
    (l_law_cell : K.lookup f_law_cell = some ⟨oc_law_cell, od_law_cell, .func (PySem.W.fnOf "_law_cell" "_law_cell" (defArgs s_law_cell) (defBody s_law_cell) (defScope s_law_cell) .none kV_law_cell dc_law_cell pm_law_cell an_law_cell cd_law_cell ct_law_cell), sl_law_cell⟩)
    (c_law_cell : PySem.W.codeIn K cd_law_cell "_law_cell" = true) (k_law_cell : PySem.W.keepIn K (.ref f_law_cell) = true)
    {f_law_draws : Addr} {od_law_draws an_law_draws : Option Addr} {sl_law_draws : Array (Option Value)} {oc_law_draws kV_law_draws dc_law_draws pm_law_draws cd_law_draws ct_law_draws : Value}
    (a_law_draws : PySem.W.nsIn K mainGlobals "_law_draws" = some (some (.ref f_law_draws)))
    (l_law_draws : K.lookup f_law_draws = some ⟨oc_law_draws, od_law_draws, .func (PySem.W.fnOf "_law_draws" "_law_draws" (defArgs s_law_draws) (defBody s_law_draws) (defScope s_law_draws) .none kV_law_draws dc_law_draws pm_law_draws an_law_draws cd_law_draws ct_law_draws), sl_law_draws⟩)
    (c_law_draws : PySem.W.codeIn K cd_law_draws "_law_draws" = true) (k_law_draws : PySem.W.keepIn K (.ref f_law_draws) = true)
    {f_law_rows : Addr} {od_law_rows an_law_rows : Option Addr} {sl_law_rows : Array (Option Value)} {oc_law_rows kV_law_rows dc_law_rows pm_law_rows cd_law_rows ct_law_rows : Value}
    (a_law_rows : PySem.W.nsIn K mainGlobals "_law_rows" = some (some (.ref f_law_rows)))
    (l_law_rows : K.lookup f_law_rows = some ⟨oc_law_rows, od_law_rows, .func (PySem.W.fnOf "_law_rows" "_law_rows" (defArgs s_law_rows) (defBody s_law_rows) (defScope s_law_rows) .none kV_law_rows dc_law_rows pm_law_rows an_law_rows cd_law_rows ct_law_rows), sl_law_rows⟩)
    (c_law_rows : PySem.W.codeIn K cd_law_rows "_law_rows" = true) (k_law_rows : PySem.W.keepIn K (.ref f_law_rows) = true)
    {f_law_numbers : Addr} {od_law_numbers an_law_numbers : Option Addr} {sl_law_numbers : Array (Option Value)} {oc_law_numbers kV_law_numbers dc_law_numbers pm_law_numbers cd_law_numbers ct_law_numbers : Value}
    (a_law_numbers : PySem.W.nsIn K mainGlobals "_law_numbers" = some (some (.ref f_law_numbers)))
    (l_law_numbers : K.lookup f_law_numbers = some ⟨oc_law_numbers, od_law_numbers, .func (PySem.W.fnOf "_law_numbers" "_law_numbers" (defArgs s_law_numbers) (defBody s_law_numbers) (defScope s_law_numbers) .none kV_law_numbers dc_law_numbers pm_law_numbers an_law_numbers cd_law_numbers ct_law_numbers), sl_law_numbers⟩)
    (c_law_numbers : PySem.W.codeIn K cd_law_numbers "_law_numbers" = true) (k_law_numbers : PySem.W.keepIn K (.ref f_law_numbers) = true)
    {f_law_orders : Addr} {od_law_orders an_law_orders : Option Addr} {sl_law_orders : Array (Option Value)} {oc_law_orders kV_law_orders dc_law_orders pm_law_orders cd_law_orders ct_law_orders : Value}
    (a_law_orders : PySem.W.nsIn K mainGlobals "_law_orders" = some (some (.ref f_law_orders)))
    (l_law_orders : K.lookup f_law_orders = some ⟨oc_law_orders, od_law_orders, .func (PySem.W.fnOf "_law_orders" "_law_orders" (defArgs s_law_orders) (defBody s_law_orders) (defScope s_law_orders) .none kV_law_orders dc_law_orders pm_law_orders an_law_orders cd_law_orders ct_law_orders), sl_law_orders⟩)
    (c_law_orders : PySem.W.codeIn K cd_law_orders "_law_orders" = true) (k_law_orders : PySem.W.keepIn K (.ref f_law_orders) = true)
    {f_law_sign : Addr} {od_law_sign an_law_sign : Option Addr} {sl_law_sign : Array (Option Value)} {oc_law_sign kV_law_sign dc_law_sign pm_law_sign cd_law_sign ct_law_sign : Value}
    (a_law_sign : PySem.W.nsIn K mainGlobals "_law_sign" = some (some (.ref f_law_sign)))
    (l_law_sign : K.lookup f_law_sign = some ⟨oc_law_sign, od_law_sign, .func (PySem.W.fnOf "_law_sign" "_law_sign" (defArgs s_law_sign) (defBody s_law_sign) (defScope s_law_sign) .none kV_law_sign dc_law_sign pm_law_sign an_law_sign cd_law_sign ct_law_sign), sl_law_sign⟩)
    (c_law_sign : PySem.W.codeIn K cd_law_sign "_law_sign" = true) (k_law_sign : PySem.W.keepIn K (.ref f_law_sign) = true)
    {f_law_sum : Addr} {od_law_sum an_law_sum : Option Addr} {sl_law_sum : Array (Option Value)} {oc_law_sum kV_law_sum dc_law_sum pm_law_sum cd_law_sum ct_law_sum : Value}
    (a_law_sum : PySem.W.nsIn K mainGlobals "_law_sum" = some (some (.ref f_law_sum)))
    (l_law_sum : K.lookup f_law_sum = some ⟨oc_law_sum, od_law_sum, .func (PySem.W.fnOf "_law_sum" "_law_sum" (defArgs s_law_sum) (defBody s_law_sum) (defScope s_law_sum) .none kV_law_sum dc_law_sum pm_law_sum an_law_sum cd_law_sum ct_law_sum), sl_law_sum⟩)
    (c_law_sum : PySem.W.codeIn K cd_law_sum "_law_sum" = true) (k_law_sum : PySem.W.keepIn K (.ref f_law_sum) = true)
    {f_law_is : Addr} {od_law_is an_law_is : Option Addr} {sl_law_is : Array (Option Value)} {oc_law_is kV_law_is dc_law_is pm_law_is cd_law_is ct_law_is : Value}
    (a_law_is : PySem.W.nsIn K mainGlobals "_law_is" = some (some (.ref f_law_is)))
    (l_law_is : K.lookup f_law_is = some ⟨oc_law_is, od_law_is, .func (PySem.W.fnOf "_law_is" "_law_is" (defArgs s_law_is) (defBody s_law_is) (defScope s_law_is) .none kV_law_is dc_law_is pm_law_is an_law_is cd_law_is ct_law_is), sl_law_is⟩)
    (c_law_is : PySem.W.codeIn K cd_law_is "_law_is" = true) (k_law_is : PySem.W.keepIn K (.ref f_law_is) = true)
    {f_law_asked : Addr} {od_law_asked an_law_asked : Option Addr} {sl_law_asked : Array (Option Value)} {oc_law_asked kV_law_asked dc_law_asked pm_law_asked cd_law_asked ct_law_asked : Value}
    (a_law_asked : PySem.W.nsIn K mainGlobals "_law_asked" = some (some (.ref f_law_asked)))
    (l_law_asked : K.lookup f_law_asked = some ⟨oc_law_asked, od_law_asked, .func (PySem.W.fnOf "_law_asked" "_law_asked" (defArgs s_law_asked) (defBody s_law_asked) (defScope s_law_asked) .none kV_law_asked dc_law_asked pm_law_asked an_law_asked cd_law_asked ct_law_asked), sl_law_asked⟩)
    (c_law_asked : PySem.W.codeIn K cd_law_asked "_law_asked" = true) (k_law_asked : PySem.W.keepIn K (.ref f_law_asked) = true)
    {f_law_right_orders : Addr} {od_law_right_orders an_law_right_orders : Option Addr} {sl_law_right_orders : Array (Option Value)} {oc_law_right_orders kV_law_right_orders dc_law_right_orders pm_law_right_orders cd_law_right_orders ct_law_right_orders : Value}
    (a_law_right_orders : PySem.W.nsIn K mainGlobals "_law_right_orders" = some (some (.ref f_law_right_orders)))
    (l_law_right_orders : K.lookup f_law_right_orders = some ⟨oc_law_right_orders, od_law_right_orders, .func (PySem.W.fnOf "_law_right_orders" "_law_right_orders" (defArgs s_law_right_orders) (defBody s_law_right_orders) (defScope s_law_right_orders) .none kV_law_right_orders dc_law_right_orders pm_law_right_orders an_law_right_orders cd_law_right_orders ct_law_right_orders), sl_law_right_orders⟩)
    (c_law_right_orders : PySem.W.codeIn K cd_law_right_orders "_law_right_orders" = true) (k_law_right_orders : PySem.W.keepIn K (.ref f_law_right_orders) = true)
    {f_law_refused : Addr} {od_law_refused an_law_refused : Option Addr} {sl_law_refused : Array (Option Value)} {oc_law_refused kV_law_refused dc_law_refused pm_law_refused cd_law_refused ct_law_refused : Value}
    (a_law_refused : PySem.W.nsIn K mainGlobals "_law_refused" = some (some (.ref f_law_refused)))
    (l_law_refused : K.lookup f_law_refused = some ⟨oc_law_refused, od_law_refused, .func (PySem.W.fnOf "_law_refused" "_law_refused" (defArgs s_law_refused) (defBody s_law_refused) (defScope s_law_refused) .none kV_law_refused dc_law_refused pm_law_refused an_law_refused cd_law_refused ct_law_refused), sl_law_refused⟩)
    (c_law_refused : PySem.W.codeIn K cd_law_refused "_law_refused" = true) (k_law_refused : PySem.W.keepIn K (.ref f_law_refused) = true)
    {f_law_all_refused : Addr} {od_law_all_refused an_law_all_refused : Option Addr} {sl_law_all_refused : Array (Option Value)} {oc_law_all_refused kV_law_all_refused dc_law_all_refused pm_law_all_refused cd_law_all_refused ct_law_all_refused : Value}
    (a_law_all_refused : PySem.W.nsIn K mainGlobals "_law_all_refused" = some (some (.ref f_law_all_refused)))
    (l_law_all_refused : K.lookup f_law_all_refused = some ⟨oc_law_all_refused, od_law_all_refused, .func (PySem.W.fnOf "_law_all_refused" "_law_all_refused" (defArgs s_law_all_refused) (defBody s_law_all_refused) (defScope s_law_all_refused) .none kV_law_all_refused dc_law_all_refused pm_law_all_refused an_law_all_refused cd_law_all_refused ct_law_all_refused), sl_law_all_refused⟩)
    (c_law_all_refused : PySem.W.codeIn K cd_law_all_refused "_law_all_refused" = true) (k_law_all_refused : PySem.W.keepIn K (.ref f_law_all_refused) = true)
    {f_law_powers : Addr} {od_law_powers an_law_powers : Option Addr} {sl_law_powers : Array (Option Value)} {oc_law_powers kV_law_powers dc_law_powers pm_law_powers cd_law_powers ct_law_powers : Value}
    (a_law_powers : PySem.W.nsIn K mainGlobals "_law_powers" = some (some (.ref f_law_powers)))
    (l_law_powers : K.lookup f_law_powers = some ⟨oc_law_powers, od_law_powers, .func (PySem.W.fnOf "_law_powers" "_law_powers" (defArgs s_law_powers) (defBody s_law_powers) (defScope s_law_powers) .none kV_law_powers dc_law_powers pm_law_powers an_law_powers cd_law_powers ct_law_powers), sl_law_powers⟩)
    (c_law_powers : PySem.W.codeIn K cd_law_powers "_law_powers" = true) (k_law_powers : PySem.W.keepIn K (.ref f_law_powers) = true)
    {f_law_right_differences : Addr} {od_law_right_differences an_law_right_differences : Option Addr} {sl_law_right_differences : Array (Option Value)} {oc_law_right_differences kV_law_right_differences dc_law_right_differences pm_law_right_differences cd_law_right_differences ct_law_right_differences : Value}
    (a_law_right_differences : PySem.W.nsIn K mainGlobals "_law_right_differences" = some (some (.ref f_law_right_differences)))
    (l_law_right_differences : K.lookup f_law_right_differences = some ⟨oc_law_right_differences, od_law_right_differences, .func (PySem.W.fnOf "_law_right_differences" "_law_right_differences" (defArgs s_law_right_differences) (defBody s_law_right_differences) (defScope s_law_right_differences) .none kV_law_right_differences dc_law_right_differences pm_law_right_differences an_law_right_differences cd_law_right_differences ct_law_right_differences), sl_law_right_differences⟩)
    (c_law_right_differences : PySem.W.codeIn K cd_law_right_differences "_law_right_differences" = true) (k_law_right_differences : PySem.W.keepIn K (.ref f_law_right_differences) = true)
    {f_law_changed_right : Addr} {od_law_changed_right an_law_changed_right : Option Addr} {sl_law_changed_right : Array (Option Value)} {oc_law_changed_right kV_law_changed_right dc_law_changed_right pm_law_changed_right cd_law_changed_right ct_law_changed_right : Value}
    (a_law_changed_right : PySem.W.nsIn K mainGlobals "_law_changed_right" = some (some (.ref f_law_changed_right)))
    (l_law_changed_right : K.lookup f_law_changed_right = some ⟨oc_law_changed_right, od_law_changed_right, .func (PySem.W.fnOf "_law_changed_right" "_law_changed_right" (defArgs s_law_changed_right) (defBody s_law_changed_right) (defScope s_law_changed_right) .none kV_law_changed_right dc_law_changed_right pm_law_changed_right an_law_changed_right cd_law_changed_right ct_law_changed_right), sl_law_changed_right⟩)
    (c_law_changed_right : PySem.W.codeIn K cd_law_changed_right "_law_changed_right" = true) (k_law_changed_right : PySem.W.keepIn K (.ref f_law_changed_right) = true)
    {f_law : Addr} {od_law an_law : Option Addr} {sl_law : Array (Option Value)} {oc_law kV_law dc_law pm_law cd_law ct_law : Value}
    (a_law : PySem.W.nsIn K mainGlobals "law" = some (some (.ref f_law)))
    (l_law : K.lookup f_law = some ⟨oc_law, od_law, .func (PySem.W.fnOf "law" "law" (defArgs s_law) (defBody s_law) (defScope s_law) .none kV_law dc_law pm_law an_law cd_law ct_law), sl_law⟩)
    (c_law : PySem.W.codeIn K cd_law "law" = true) (k_law : PySem.W.keepIn K (.ref f_law) = true)
    {t_PRIME : Tok} (g_PRIME : PySem.W.nsIn K mainGlobals "PRIME" = some (some (.int 97 t_PRIME)))
    (z_any : PySem.W.nsIn K mainGlobals "any" = some none)
    (z_len : PySem.W.nsIn K mainGlobals "len" = some none)
    (z_range : PySem.W.nsIn K mainGlobals "range" = some none)
    (z_int : PySem.W.nsIn K mainGlobals "int" = some none)
    (z_list : PySem.W.nsIn K mainGlobals "list" = some none)
    (z_isinstance : PySem.W.nsIn K mainGlobals "isinstance" = some none)
    (z_ValueError : PySem.W.nsIn K mainGlobals "ValueError" = some none)
    (z_bool : PySem.W.nsIn K mainGlobals "bool" = some none)
    (z_zip : PySem.W.nsIn K mainGlobals "zip" = some none)
    (z_enumerate : PySem.W.nsIn K mainGlobals "enumerate" = some none)
    (z_sum : PySem.W.nsIn K mainGlobals "sum" = some none)
    (z_tuple : PySem.W.nsIn K mainGlobals "tuple" = some none)
    (z_max : PySem.W.nsIn K mainGlobals "max" = some none)
    {B S Z : Addr} (aB : PySem.W.nsIn K mainGlobals "BadTable" = some (some (.ref B))) (aS : PySem.W.nsIn K mainGlobals "ServeError" = some (some (.ref S))) (aZ : PySem.W.nsIn K mainGlobals "BadSize" = some (some (.ref Z)))
    (eg : PySem.W.findIn K (.ref B) "__getattribute__" = some (some (.builtin "BaseException.__getattribute__"))) (ek : PySem.W.findIn K (.ref B) "__getattr__" = some none)
    (es : PySem.W.subIn K (.ref B) (.type "BaseException") = some true) (ed : PySem.W.hasDictIn K B = true) (ea : PySem.W.findIn K (.ref B) "__class__" = some (some (.builtin "object.__class__")))
    (en : PySem.W.specialIn K (.builtin "object.__class__") "__get__" = some (some (.builtin "getset_descriptor.__get__"))) (et : PySem.W.takesIn K (.builtin "object.__class__") = some true) (em : PySem.W.mroIn K B (.type "object") = some true)
    (xi : PySem.W.excIn K B [.type "ValueError", .type "Exception", .type "BaseException", .type "object"] "ValueError.__new__" = true) (kp : PySem.W.keepIn K (.ref B) = true) (ty : PySem.W.typeIn K (.ref B) = some (.type "type"))
    (sBB : PySem.W.subIn K (.ref B) (.ref B) = some true) (sBV : PySem.W.subIn K (.ref B) (.type "ValueError") = some true)
    (iclS : PySem.W.isClsIn K S = true) (tyS : PySem.W.typeIn K (.ref S) = some (.type "type")) (sBS : PySem.W.subIn K (.ref B) (.ref S) = some true)
    (iclZ : PySem.W.isClsIn K Z = true) (tyZ : PySem.W.typeIn K (.ref Z) = some (.type "type")) (sBZ : PySem.W.subIn K (.ref B) (.ref Z) = some false)
    : ∃ fd : FuncData, (∀ (s : Shared) (v : Value), BindsTo s fd ⟨[v], []⟩ [("script", v)]) ∧ ∀ base : Heap, K.In base → base.Ns mainGlobals mg → FnOk l.prog w K mg base CX0 6 fa fd ["script"] (spLaw K) := by
  have e := hfa.symm.trans (PySem.W.mg_of X G a_law)
  cases e
  have F_inverse := fun_mk (st := s_inverse) l_inverse c_inverse k_inverse
  have D_inverse : DefAt K mg "inverse" s_inverse ["number"] _ _ := ⟨F_inverse, PySem.W.mg_of X G a_inverse, F_inverse.binds (ps := ["number"]) fun _ _ _ _ _ _ us hl => match us, hl with | [_], _ => rfl⟩
  have F_order_sign := fun_mk (st := s_order_sign) l_order_sign c_order_sign k_order_sign
  have D_order_sign : DefAt K mg "order_sign" s_order_sign ["order"] _ _ := ⟨F_order_sign, PySem.W.mg_of X G a_order_sign, F_order_sign.binds (ps := ["order"]) fun _ _ _ _ _ _ us hl => match us, hl with | [_], _ => rfl⟩
  have F_signed_orders := fun_mk (st := s_signed_orders) l_signed_orders c_signed_orders k_signed_orders
  have D_signed_orders : DefAt K mg "signed_orders" s_signed_orders ["count"] _ _ := ⟨F_signed_orders, PySem.W.mg_of X G a_signed_orders, F_signed_orders.binds (ps := ["count"]) fun _ _ _ _ _ _ us hl => match us, hl with | [_], _ => rfl⟩
  have F_check_square := fun_mk (st := s_check_square) l_check_square c_check_square k_check_square
  have D_check_square : DefAt K mg "check_square" s_check_square ["rows"] _ _ := ⟨F_check_square, PySem.W.mg_of X G a_check_square, F_check_square.binds (ps := ["rows"]) fun _ _ _ _ _ _ us hl => match us, hl with | [_], _ => rfl⟩
  have F_det_by_orders := fun_mk (st := s_det_by_orders) l_det_by_orders c_det_by_orders k_det_by_orders
  have D_det_by_orders : DefAt K mg "det_by_orders" s_det_by_orders ["rows"] _ _ := ⟨F_det_by_orders, PySem.W.mg_of X G a_det_by_orders, F_det_by_orders.binds (ps := ["rows"]) fun _ _ _ _ _ _ us hl => match us, hl with | [_], _ => rfl⟩
  have F_term := fun_mk (st := s_term) l_term c_term k_term
  have D_term : DefAt K mg "term" s_term ["rows", "order"] _ _ := ⟨F_term, PySem.W.mg_of X G a_term, F_term.binds (ps := ["rows", "order"]) fun _ _ _ _ _ _ us hl => match us, hl with | [_, _], _ => rfl⟩
  have F_determinant := fun_mk (st := s_determinant) l_determinant c_determinant k_determinant
  have D_determinant : DefAt K mg "determinant" s_determinant ["rows"] _ _ := ⟨F_determinant, PySem.W.mg_of X G a_determinant, F_determinant.binds (ps := ["rows"]) fun _ _ _ _ _ _ us hl => match us, hl with | [_], _ => rfl⟩
  have F_cleared := fun_mk (st := s_cleared) l_cleared c_cleared k_cleared
  have D_cleared : DefAt K mg "cleared" s_cleared ["rows", "pivot"] _ _ := ⟨F_cleared, PySem.W.mg_of X G a_cleared, F_cleared.binds (ps := ["rows", "pivot"]) fun _ _ _ _ _ _ us hl => match us, hl with | [_, _], _ => rfl⟩
  have F_difference_product := fun_mk (st := s_difference_product) l_difference_product c_difference_product k_difference_product
  have D_difference_product : DefAt K mg "difference_product" s_difference_product ["numbers"] _ _ := ⟨F_difference_product, PySem.W.mg_of X G a_difference_product, F_difference_product.binds (ps := ["numbers"]) fun _ _ _ _ _ _ us hl => match us, hl with | [_], _ => rfl⟩
  have F_law_cell := fun_mk (st := s_law_cell) l_law_cell c_law_cell k_law_cell
  have D_law_cell : DefAt K mg "_law_cell" s_law_cell ["script", "k"] _ _ := ⟨F_law_cell, PySem.W.mg_of X G a_law_cell, F_law_cell.binds (ps := ["script", "k"]) fun _ _ _ _ _ _ us hl => match us, hl with | [_, _], _ => rfl⟩
  have F_law_draws := fun_mk (st := s_law_draws) l_law_draws c_law_draws k_law_draws
  have D_law_draws : DefAt K mg "_law_draws" s_law_draws ["cell", "limits"] _ _ := ⟨F_law_draws, PySem.W.mg_of X G a_law_draws, F_law_draws.binds (ps := ["cell", "limits"]) fun _ _ _ _ _ _ us hl => match us, hl with | [_, _], _ => rfl⟩
  have F_law_rows := fun_mk (st := s_law_rows) l_law_rows c_law_rows k_law_rows
  have D_law_rows : DefAt K mg "_law_rows" s_law_rows ["script", "count"] _ _ := ⟨F_law_rows, PySem.W.mg_of X G a_law_rows, F_law_rows.binds (ps := ["script", "count"]) fun _ _ _ _ _ _ us hl => match us, hl with | [_, _], _ => rfl⟩
  have F_law_numbers := fun_mk (st := s_law_numbers) l_law_numbers c_law_numbers k_law_numbers
  have D_law_numbers : DefAt K mg "_law_numbers" s_law_numbers ["cell"] _ _ := ⟨F_law_numbers, PySem.W.mg_of X G a_law_numbers, F_law_numbers.binds (ps := ["cell"]) fun _ _ _ _ _ _ us hl => match us, hl with | [_], _ => rfl⟩
  have F_law_orders := fun_mk (st := s_law_orders) l_law_orders c_law_orders k_law_orders
  have D_law_orders : DefAt K mg "_law_orders" s_law_orders ["count"] _ _ := ⟨F_law_orders, PySem.W.mg_of X G a_law_orders, F_law_orders.binds (ps := ["count"]) fun _ _ _ _ _ _ us hl => match us, hl with | [_], _ => rfl⟩
  have F_law_sign := fun_mk (st := s_law_sign) l_law_sign c_law_sign k_law_sign
  have D_law_sign : DefAt K mg "_law_sign" s_law_sign ["order"] _ _ := ⟨F_law_sign, PySem.W.mg_of X G a_law_sign, F_law_sign.binds (ps := ["order"]) fun _ _ _ _ _ _ us hl => match us, hl with | [_], _ => rfl⟩
  have F_law_sum := fun_mk (st := s_law_sum) l_law_sum c_law_sum k_law_sum
  have D_law_sum : DefAt K mg "_law_sum" s_law_sum ["rows"] _ _ := ⟨F_law_sum, PySem.W.mg_of X G a_law_sum, F_law_sum.binds (ps := ["rows"]) fun _ _ _ _ _ _ us hl => match us, hl with | [_], _ => rfl⟩
  have F_law_is := fun_mk (st := s_law_is) l_law_is c_law_is k_law_is
  have D_law_is : DefAt K mg "_law_is" s_law_is ["told", "due"] _ _ := ⟨F_law_is, PySem.W.mg_of X G a_law_is, F_law_is.binds (ps := ["told", "due"]) fun _ _ _ _ _ _ us hl => match us, hl with | [_, _], _ => rfl⟩
  have F_law_asked := fun_mk (st := s_law_asked) l_law_asked c_law_asked k_law_asked
  have D_law_asked : DefAt K mg "_law_asked" s_law_asked ["rows", "due", "twice"] _ _ := ⟨F_law_asked, PySem.W.mg_of X G a_law_asked, F_law_asked.binds (ps := ["rows", "due", "twice"]) fun _ _ _ _ _ _ us hl => match us, hl with | [_, _, _], _ => rfl⟩
  have F_law_right_orders := fun_mk (st := s_law_right_orders) l_law_right_orders c_law_right_orders k_law_right_orders
  have D_law_right_orders : DefAt K mg "_law_right_orders" s_law_right_orders ["told", "count"] _ _ := ⟨F_law_right_orders, PySem.W.mg_of X G a_law_right_orders, F_law_right_orders.binds (ps := ["told", "count"]) fun _ _ _ _ _ _ us hl => match us, hl with | [_, _], _ => rfl⟩
  have F_law_refused := fun_mk (st := s_law_refused) l_law_refused c_law_refused k_law_refused
  have D_law_refused : DefAt K mg "_law_refused" s_law_refused ["rows", "twice"] _ _ := ⟨F_law_refused, PySem.W.mg_of X G a_law_refused, F_law_refused.binds (ps := ["rows", "twice"]) fun _ _ _ _ _ _ us hl => match us, hl with | [_, _], _ => rfl⟩
  have F_law_all_refused := fun_mk (st := s_law_all_refused) l_law_all_refused c_law_all_refused k_law_all_refused
  have D_law_all_refused : DefAt K mg "_law_all_refused" s_law_all_refused ["rows", "at", "twice"] _ _ := ⟨F_law_all_refused, PySem.W.mg_of X G a_law_all_refused, F_law_all_refused.binds (ps := ["rows", "at", "twice"]) fun _ _ _ _ _ _ us hl => match us, hl with | [_, _, _], _ => rfl⟩
  have F_law_powers := fun_mk (st := s_law_powers) l_law_powers c_law_powers k_law_powers
  have D_law_powers : DefAt K mg "_law_powers" s_law_powers ["numbers"] _ _ := ⟨F_law_powers, PySem.W.mg_of X G a_law_powers, F_law_powers.binds (ps := ["numbers"]) fun _ _ _ _ _ _ us hl => match us, hl with | [_], _ => rfl⟩
  have F_law_right_differences := fun_mk (st := s_law_right_differences) l_law_right_differences c_law_right_differences k_law_right_differences
  have D_law_right_differences : DefAt K mg "_law_right_differences" s_law_right_differences ["numbers"] _ _ := ⟨F_law_right_differences, PySem.W.mg_of X G a_law_right_differences, F_law_right_differences.binds (ps := ["numbers"]) fun _ _ _ _ _ _ us hl => match us, hl with | [_], _ => rfl⟩
  have F_law_changed_right := fun_mk (st := s_law_changed_right) l_law_changed_right c_law_changed_right k_law_changed_right
  have D_law_changed_right : DefAt K mg "_law_changed_right" s_law_changed_right ["rows", "due", "one", "other", "factor"] _ _ := ⟨F_law_changed_right, PySem.W.mg_of X G a_law_changed_right, F_law_changed_right.binds (ps := ["rows", "due", "one", "other", "factor"]) fun _ _ _ _ _ _ us hl => match us, hl with | [_, _, _, _, _], _ => rfl⟩
  have F_law := fun_mk (st := s_law) l_law c_law k_law
  have D_law : DefAt K mg "law" s_law ["script"] _ _ := ⟨F_law, PySem.W.mg_of X G a_law, F_law.binds (ps := ["script"]) fun _ _ _ _ _ _ us hl => match us, hl with | [_], _ => rfl⟩
  have EB : ErrB K mg B S Z := ⟨⟨eg, ek, es, ed, ea, en, et, em⟩, PySem.W.exm_ref es ed ty sBB, xi, kp, ty, PySem.W.mg_of X G aB, PySem.W.mg_of X G aS, PySem.W.mg_of X G aZ, kit_subB iclS tyS sBS sBB, kit_val sBV, kit_subB iclZ tyZ sBZ sBB⟩
  exact ⟨PySem.W.fnOf "law" "law" (defArgs s_law) (defBody s_law) (defScope s_law) .none kV_law dc_law pm_law an_law cd_law ct_law, fun s v => .of_eq rfl, fun base _ _ => ok_law D_law D_inverse D_order_sign D_signed_orders D_check_square D_det_by_orders D_term D_determinant D_cleared D_difference_product D_law_cell D_law_draws D_law_rows D_law_numbers D_law_orders D_law_sign D_law_sum D_law_is D_law_asked D_law_right_orders D_law_refused D_law_all_refused D_law_powers D_law_right_differences D_law_changed_right EB (PySem.W.mg_of X G g_PRIME) (PySem.W.mg_none_of X G z_any) (PySem.W.mg_none_of X G z_len) (PySem.W.mg_none_of X G z_range) (PySem.W.mg_none_of X G z_int) (PySem.W.mg_none_of X G z_list) (PySem.W.mg_none_of X G z_isinstance) (PySem.W.mg_none_of X G z_ValueError) (PySem.W.mg_none_of X G z_bool) (PySem.W.mg_none_of X G z_zip) (PySem.W.mg_none_of X G z_enumerate) (PySem.W.mg_none_of X G z_sum) (PySem.W.mg_none_of X G z_tuple) (PySem.W.mg_none_of X G z_max)⟩
end K03
open PySem PySem.W PyProof.Rows
set_option maxHeartbeats 0 in
theorem PySem.Challenge.cw_fewserve_k03_determinant_holds : PySem.Challenge.rw_fewserve_k03_determinant.Holds := by
  w_on; o_law; k_head; (case hw => w_witness2)
  k_fill
  refine L2.walk_of (l := PySem.Challenge.rw_fewserve_k03_determinant) (n := 63) (k := 6) (x := "script") (CX := fun _ => L2.CX0) (sp := fun w => K03.spLaw _) rfl (by decide) rfl ⟨rfl, by decide, by decide⟩ (fun w h Y => PySem.W.kIn_of Y) ?F (fun _ _ a ns hl _ hS => ⟨a, ns, rfl, hS, hl, fun _ => rfl⟩) (fun _ _ _ _ _ h => h)
  case F =>
    intro w mg fa h KX G hmg
    refine' K03.all_mk KX G hmg ?a_inverse ?l_inverse ?c_inverse ?k_inverse ?a_order_sign ?l_order_sign ?c_order_sign ?k_order_sign ?a_signed_orders ?l_signed_orders ?c_signed_orders ?k_signed_orders ?a_check_square ?l_check_square ?c_check_square ?k_check_square ?a_det_by_orders ?l_det_by_orders ?c_det_by_orders ?k_det_by_orders ?a_term ?l_term ?c_term ?k_term ?a_determinant ?l_determinant ?c_determinant ?k_determinant ?a_cleared ?l_cleared ?c_cleared ?k_cleared ?a_difference_product ?l_difference_product ?c_difference_product ?k_difference_product ?a_law_cell ?l_law_cell ?c_law_cell ?k_law_cell ?a_law_draws ?l_law_draws ?c_law_draws ?k_law_draws ?a_law_rows ?l_law_rows ?c_law_rows ?k_law_rows ?a_law_numbers ?l_law_numbers ?c_law_numbers ?k_law_numbers ?a_law_orders ?l_law_orders ?c_law_orders ?k_law_orders ?a_law_sign ?l_law_sign ?c_law_sign ?k_law_sign ?a_law_sum ?l_law_sum ?c_law_sum ?k_law_sum ?a_law_is ?l_law_is ?c_law_is ?k_law_is ?a_law_asked ?l_law_asked ?c_law_asked ?k_law_asked ?a_law_right_orders ?l_law_right_orders ?c_law_right_orders ?k_law_right_orders ?a_law_refused ?l_law_refused ?c_law_refused ?k_law_refused ?a_law_all_refused ?l_law_all_refused ?c_law_all_refused ?k_law_all_refused ?a_law_powers ?l_law_powers ?c_law_powers ?k_law_powers ?a_law_right_differences ?l_law_right_differences ?c_law_right_differences ?k_law_right_differences ?a_law_changed_right ?l_law_changed_right ?c_law_changed_right ?k_law_changed_right ?a_law ?l_law ?c_law ?k_law ?g_PRIME ?z_any ?z_len ?z_range ?z_int ?z_list ?z_isinstance ?z_ValueError ?z_bool ?z_zip ?z_enumerate ?z_sum ?z_tuple ?z_max ?aB ?aS ?aZ ?eg ?ek ?es ?ed ?ea ?en ?et ?em ?xi ?kp ?ty ?sBB ?sBV ?iclS ?tyS ?sBS ?iclZ ?tyZ ?sBZ
    (case a_inverse => k_is)
    (case l_inverse => k_is)
    (case c_inverse => k_is)
    (case k_inverse => k_is)
    (case a_order_sign => k_is)
    (case l_order_sign => k_is)
    (case c_order_sign => k_is)
    (case k_order_sign => k_is)
    (case a_signed_orders => k_is)
    (case l_signed_orders => k_is)
    (case c_signed_orders => k_is)
    (case k_signed_orders => k_is)
    (case a_check_square => k_is)
    (case l_check_square => k_is)
    (case c_check_square => k_is)
    (case k_check_square => k_is)
    (case a_det_by_orders => k_is)
    (case l_det_by_orders => k_is)
    (case c_det_by_orders => k_is)
    (case k_det_by_orders => k_is)
    (case a_term => k_is)
    (case l_term => k_is)
    (case c_term => k_is)
    (case k_term => k_is)
    (case a_determinant => k_is)
    (case l_determinant => k_is)
    (case c_determinant => k_is)
    (case k_determinant => k_is)
    (case a_cleared => k_is)
    (case l_cleared => k_is)
    (case c_cleared => k_is)
    (case k_cleared => k_is)
    (case a_difference_product => k_is)
    (case l_difference_product => k_is)
    (case c_difference_product => k_is)
    (case k_difference_product => k_is)
    (case a_law_cell => k_is)
    (case l_law_cell => k_is)
    (case c_law_cell => k_is)
    (case k_law_cell => k_is)
    (case a_law_draws => k_is)
    (case l_law_draws => k_is)
    (case c_law_draws => k_is)
    (case k_law_draws => k_is)
    (case a_law_rows => k_is)
    (case l_law_rows => k_is)
    (case c_law_rows => k_is)
    (case k_law_rows => k_is)
    (case a_law_numbers => k_is)
    (case l_law_numbers => k_is)
    (case c_law_numbers => k_is)
    (case k_law_numbers => k_is)
    (case a_law_orders => k_is)
    (case l_law_orders => k_is)
    (case c_law_orders => k_is)
    (case k_law_orders => k_is)
    (case a_law_sign => k_is)
    (case l_law_sign => k_is)
    (case c_law_sign => k_is)
    (case k_law_sign => k_is)
    (case a_law_sum => k_is)
    (case l_law_sum => k_is)
    (case c_law_sum => k_is)
    (case k_law_sum => k_is)
    (case a_law_is => k_is)
    (case l_law_is => k_is)
    (case c_law_is => k_is)
    (case k_law_is => k_is)
    (case a_law_asked => k_is)
    (case l_law_asked => k_is)
    (case c_law_asked => k_is)
    (case k_law_asked => k_is)
    (case a_law_right_orders => k_is)
    (case l_law_right_orders => k_is)
    (case c_law_right_orders => k_is)
    (case k_law_right_orders => k_is)
    (case a_law_refused => k_is)
    (case l_law_refused => k_is)
    (case c_law_refused => k_is)
    (case k_law_refused => k_is)
    (case a_law_all_refused => k_is)
    (case l_law_all_refused => k_is)
    (case c_law_all_refused => k_is)
    (case k_law_all_refused => k_is)
    (case a_law_powers => k_is)
    (case l_law_powers => k_is)
    (case c_law_powers => k_is)
    (case k_law_powers => k_is)
    (case a_law_right_differences => k_is)
    (case l_law_right_differences => k_is)
    (case c_law_right_differences => k_is)
    (case k_law_right_differences => k_is)
    (case a_law_changed_right => k_is)
    (case l_law_changed_right => k_is)
    (case c_law_changed_right => k_is)
    (case k_law_changed_right => k_is)
    (case a_law => k_is)
    (case l_law => k_is)
    (case c_law => k_is)
    (case k_law => k_is)
    (case g_PRIME => k_is)
    (case z_any => k_is)
    (case z_len => k_is)
    (case z_range => k_is)
    (case z_int => k_is)
    (case z_list => k_is)
    (case z_isinstance => k_is)
    (case z_ValueError => k_is)
    (case z_bool => k_is)
    (case z_zip => k_is)
    (case z_enumerate => k_is)
    (case z_sum => k_is)
    (case z_tuple => k_is)
    (case z_max => k_is)
    (case aB => k_is)
    (case aS => k_is)
    (case aZ => k_is)
    (case eg => k_is)
    (case ek => k_is)
    (case es => first | rfl | k_is)
    (case ed => k_is)
    (case ea => k_is)
    (case en => first | rfl | decide | k_is)
    (case et => first | rfl | decide | k_is)
    (case em => first | rfl | k_is)
    (case xi => k_exc)
    (case kp => k_is)
    (case ty => k_is)
    (case sBB => first | rfl | k_is)
    (case sBV => first | rfl | k_is)
    (case iclS => k_is)
    (case tyS => k_is)
    (case sBS => first | rfl | k_is)
    (case iclZ => k_is)
    (case tyZ => k_is)
    (case sBZ => first | rfl | k_is)
