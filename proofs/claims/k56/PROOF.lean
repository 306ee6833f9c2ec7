import PyProof.Rows.All
import Wide.All
import OpenK.AllK
import Wide.FinOn
import HandS.ForMost
import HandS.Evl
import HandS.TupAny
import HandS.Walk
import HandS.Wide
import HandS.SortInts
import HandS.GenYield
import HandS.GenList
import HandS.IsInst
import PyProof.Rows.SortShell
import PyProof.Rows.SortWalk
import PyProof.EqAt
import PyProof.EqKinds
import PyProof.TupleCall
import HandS.SortKw
import HandS.Ends
import KE.SortKeyHeap
import KE.SortData
import HandS.More
import HandS.Zip
import KE.GoesEnum
import KE.GoesZip
import KE.GoesMore
import HandS.Deep
import HandS.DictComp
import HandS.DictSubView
import KE.KDictList
import KE.KDictWalk
import PyProof.Rows.TupDisplay
import KE.GoesEnumKw
import HandS.SetBool
import HandS.Strs
import HandS.RevRange
import HandS.ClsMeth
import HandS.Style
import KE.KExcSuper
import KE.KSuper
import HandS.Exc
import HandS.ExcOwn
import KE.KExcIs
import HandS.WordsExc
import HandS.ExcIs
import HandS.SortRule
import KE.DatumOrd
import HandS.Rev
import KE.KDictKeyed
import KE.KDictZip
import HandS.DictTup
import HandS.TupLen
import HandS.Small
import HandS.Defaults
import HandS.MakeKwOnly
import HandS.Property
import HandS.OwnIter
import HandS.IterNext
import PyProof.DictWalks
import HandS.IterVal
import HandS.CallSlots
import HandS.TupMul
import HandS.TryOnly
import HandS.HotCalls
import HandS.MapSum
import HandS.RevTup
import HandS.SetFor
import HandS.GenCall
import KE.KItemsList
import PySem.Challenge.RW_fewserve_k56_webs
set_option Elab.async false
set_option linter.all false
set_option maxRecDepth 100000
set_option maxHeartbeats 2000000
namespace DL
open PySem L2 Evl
def part (F H1 H2 : Hp) : Hp := fun q => match F q with
  | some o => some o
  | none => match H1 q with
    | some _ => none
    | none => H2 q
section
variable {F G H H1 H2 H3 H4 : Hp} {p q : Addr} {o : HO}
theorem part_in (h : F q = some o) : part F H1 H2 q = some o := by
  unfold part
  rw [h]
theorem part_old (h : F q = none) (h1 : H1 q = some o) : part F H1 H2 q = none := by
  unfold part
  rw [h, h1]
theorem part_new (h : F q = none) (h1 : H1 q = none) : part F H1 H2 q = H2 q := by
  unfold part
  rw [h, h1]
theorem part_ex : Ex F (part F H1 H2) := fun q o h => part_in h
theorem back_none (e : Ex H H1) (h : H1 p = none) : H p = none := by
  cases h1 : H p with
  | none => rfl
  | some o =>
    rw [e p o h1] at h
    cases h
theorem part_sub (e : Ex F H2) : Ex (part F H1 H2) H2 := fun q o h => by
  cases hf : F q with
  | some u =>
    rw [part_in hf] at h
    rw [← h]
    exact e q u hf
  | none =>
    cases h1 : H1 q with
    | some u =>
      rw [part_old hf h1] at h
      cases h
    | none =>
      rw [part_new hf h1] at h
      exact h
theorem part_up (e : Ex H2 H3) : Ex (part F H1 H2) (part F H1 H3) := fun q o h => by
  cases hf : F q with
  | some u =>
    rw [part_in hf] at h ⊢
    exact h
  | none =>
    cases h1 : H1 q with
    | some u =>
      rw [part_old hf h1] at h
      cases h
    | none =>
      rw [part_new hf h1] at h ⊢
      exact e q o h
theorem part_back (e : Ex H1 H2) : Ex (part F H2 H3) (part F H1 H3) := fun q o h => by
  cases hf : F q with
  | some u =>
    rw [part_in hf] at h ⊢
    exact h
  | none =>
    cases h2 : H2 q with
    | some u =>
      rw [part_old hf h2] at h
      cases h
    | none =>
      rw [part_new hf h2] at h
      rw [part_new hf (back_none e h2)]
      exact h
theorem part_part (e1 : Ex H1 H2) (e2 : Ex H2 H3) (e3 : Ex H3 H4) : Ex (part (part F H1 H2) H3 H4) (part F H1 H4) := fun q o h => by
  cases hp : part F H1 H2 q with
  | some u =>
    rw [part_in hp] at h
    rw [← h]
    exact part_up (e2.trans e3) q u hp
  | none =>
    cases h3 : H3 q with
    | some u =>
      rw [part_old hp h3] at h
      cases h
    | none =>
      rw [part_new hp h3] at h
      have n1 : H1 q = none := back_none (e1.trans e2) h3
      cases hf : F q with
      | some u =>
        rw [part_in hf] at hp
        cases hp
      | none =>
        rw [part_new hf n1]
        exact h
theorem part_frame (e : Ex F G) (e1 : Ex G H1) : Ex (part F H1 H2) (part G H1 H2) := fun q o h => by
  cases hf : F q with
  | some u =>
    rw [part_in hf] at h
    rw [part_in (e q u hf)]
    exact h
  | none =>
    cases h1 : H1 q with
    | some u =>
      rw [part_old hf h1] at h
      cases h
    | none =>
      rw [part_new hf h1] at h
      rw [part_new (back_none e1 h1) h1]
      exact h
def mns (H : Hp) (D : Addr) : Hp := fun q => if q = D then none else H q
theorem mns_at {D : Addr} : mns H D D = none := by
  unfold mns
  rw [if_pos rfl]
theorem mns_ne {D : Addr} (h : q ≠ D) : mns H D q = H q := by
  unfold mns
  rw [if_neg h]
theorem mns_sub {D : Addr} : Ex (mns H D) H := fun q o h => by
  by_cases e : q = D
  · rw [e, mns_at] at h
    cases h
  · rw [mns_ne e] at h
    exact h
theorem ex_mns {D : Addr} (e : Ex F H) (h : F D = none) : Ex F (mns H D) := fun q o hq => by
  rw [mns_ne (ne_of_none hq h)]
  exact e q o hq
theorem mns_up {D : Addr} (e : Ex H H1) : Ex (mns H D) (mns H1 D) := ex_mns (mns_sub.trans e) mns_at
theorem mns_upd {D : Addr} {u : HO} : mns (upd H D u) D = mns H D := by
  funext q
  by_cases e : q = D
  · rw [e, mns_at, mns_at]
  · rw [mns_ne e, mns_ne e, upd_ne e]
end
inductive Al {α : Type} (R : V → α → Prop) : List V → List α → Prop
  | nil : Al R [] []
  | cons {v : V} {a : α} {vs : List V} {as : List α} : R v a → Al R vs as → Al R (v :: vs) (a :: as)
section
variable {α : Type} {R R' : V → α → Prop} {vs ws : List V} {as bs : List α}
theorem Al.imp (f : ∀ v a, R v a → R' v a) : ∀ {vs : List V} {as : List α}, Al R vs as → Al R' vs as
  | _, _, .nil => .nil
  | _, _, .cons h t => .cons (f _ _ h) (Al.imp f t)
theorem Al.len : ∀ {vs : List V} {as : List α}, Al R vs as → vs.length = as.length
  | _, _, .nil => rfl
  | _, _, .cons _ t => by rw [List.length_cons, List.length_cons, Al.len t]
theorem Al.app : ∀ {vs : List V} {as : List α}, Al R vs as → Al R ws bs → Al R (vs ++ ws) (as ++ bs)
  | _, _, .nil, h => h
  | _, _, .cons h t, k => .cons h (Al.app t k)
theorem Al.snoc {v : V} {a : α} (h : Al R vs as) (k : R v a) : Al R (vs ++ [v]) (as ++ [a]) := h.app (.cons k .nil)
theorem Al.get : ∀ {vs : List V} {as : List α} {i : Nat} {v : V}, Al R vs as → vs[i]? = some v → ∃ a, as[i]? = some a ∧ R v a
  | _, _, i, v, .nil, h => by simp at h
  | _, _, 0, v, .cons h t, e => by
    cases e
    exact ⟨_, rfl, h⟩
  | _, _, i + 1, v, .cons h t, e => by
    obtain ⟨a, e1, e2⟩ := Al.get t (show _ = some v from e)
    exact ⟨a, e1, e2⟩
theorem Al.at : ∀ {vs : List V} {as : List α} {i : Nat} {a : α}, Al R vs as → as[i]? = some a → ∃ v, vs[i]? = some v ∧ R v a
  | _, _, i, v, .nil, h => by simp at h
  | _, _, 0, v, .cons h t, e => by
    cases e
    exact ⟨_, rfl, h⟩
  | _, _, i + 1, v, .cons h t, e => by
    obtain ⟨a, e1, e2⟩ := Al.at t (show _ = some v from e)
    exact ⟨a, e1, e2⟩
theorem Al.take : ∀ {vs : List V} {as : List α} (n : Nat), Al R vs as → Al R (vs.take n) (as.take n)
  | _, _, 0, _ => .nil
  | _, _, n + 1, .nil => .nil
  | _, _, n + 1, .cons h t => .cons h (Al.take n t)
theorem Al.drop : ∀ {vs : List V} {as : List α} (n : Nat), Al R vs as → Al R (vs.drop n) (as.drop n)
  | _, _, 0, h => h
  | _, _, n + 1, .nil => .nil
  | _, _, n + 1, .cons h t => Al.drop n t
theorem Al.set {v : V} {a : α} (k : R v a) : ∀ {vs : List V} {as : List α} (i : Nat), Al R vs as → Al R (vs.set i v) (as.set i a)
  | _, _, _, .nil => .nil
  | _, _, 0, .cons _ t => .cons k t
  | _, _, i + 1, .cons h t => .cons h (Al.set k i t)
theorem Al.map {β : Type} {S : V → β → Prop} {f : α → β} (h : ∀ v a, R v a → S v (f a)) : ∀ {vs : List V} {as : List α}, Al R vs as → Al S vs (as.map f)
  | _, _, .nil => .nil
  | _, _, .cons x t => .cons (h _ _ x) (Al.map h t)
end
structure Rep (α : Type) where
  rel : Hp → V → α → Prop
  mono : ∀ {H H' : Hp} {v : V} {a : α}, Ex H H' → rel H v a → rel H' v a
def rInt : Rep Int := ⟨fun _ v i => v = .int i, fun _ h => h⟩
def rBl : Rep Bool := ⟨fun _ v i => v = .bl i, fun _ h => h⟩
def rStr : Rep Str := ⟨fun _ v i => v = .str i, fun _ h => h⟩
section
variable {α β γ : Type} (K : PySem.W.Frag)
def rLst (r : Rep α) : Rep (List α) := ⟨fun H v as => ∃ p xs, v = .ref p ∧ H p = some (.lst xs) ∧ Al (r.rel H) xs as, fun e ⟨p, xs, h, s, a⟩ => ⟨p, xs, h, e p _ s, a.imp fun _ _ k => r.mono e k⟩⟩
def rTup (r : Rep α) : Rep (List α) := ⟨fun H v as => ∃ p xs, v = .ref p ∧ H p = some (.tup xs) ∧ Al (r.rel H) xs as, fun e ⟨p, xs, h, s, a⟩ => ⟨p, xs, h, e p _ s, a.imp fun _ _ k => r.mono e k⟩⟩
def rPair (r : Rep α) (s : Rep β) : Rep (α × β) := ⟨fun H v c => ∃ p x y, v = .ref p ∧ H p = some (.tup [x, y]) ∧ r.rel H x c.1 ∧ s.rel H y c.2, fun e ⟨p, x, y, h, t, a, b⟩ => ⟨p, x, y, h, e p _ t, r.mono e a, s.mono e b⟩⟩
def rFro : Rep (List Int) := ⟨fun H v ns => ∃ p, v = .ref p ∧ SqL K H p (ns.map V.int), fun e ⟨p, h, s⟩ => ⟨p, h, ex_l e s⟩⟩
end
def rOpt {α : Type} (r : Rep α) : Rep (Option α) := ⟨fun H v o => match o with | none => v = .non | some a => r.rel H v a, fun {H H' v o} e h => by
  cases o with
  | none => exact h
  | some a => exact r.mono e h⟩
theorem rel_ints {H : Hp} : ∀ {xs : List V} {ns : List Int}, Al (rInt.rel H) xs ns → xs = ns.map V.int
  | _, _, .nil => rfl
  | _, _, .cons h t => by
    rw [show _ = V.int _ from h, rel_ints t]
    rfl
theorem ints_rel {H : Hp} : ∀ (ns : List Int), Al (rInt.rel H) (ns.map V.int) ns
  | [] => .nil
  | n :: ns => .cons rfl (ints_rel ns)
section
variable {α β γ δ : Type} {K : PySem.W.Frag}
def Er (r : Rep α) (te : TE) (σ : L2.St) (F : Hp) (a : α) : Prop := ∀ H1, Ex F H1 → ∀ Q : VK, (∀ v H2, Ex H1 H2 → r.rel (part F H1 H2) v a → Q v H2) → te σ H1 Q
def New (r : Rep α) (as : List α) (F H1 H2 : Hp) (p : Addr) : Prop := H1 p = none ∧ ∃ xs, H2 p = some (.lst xs) ∧ Al (r.rel (mns (part F H1 H2) p)) xs as
def En (r : Rep α) (te : TE) (σ : L2.St) (F : Hp) (as : List α) : Prop := ∀ H1, Ex F H1 → ∀ Q : VK, (∀ p H2, Ex H1 H2 → New r as F H1 H2 p → Q (.ref p) H2) → te σ H1 Q
def Ea (P : Hp → List V → Prop) (ta : TA) (σ : L2.St) (F : Hp) : Prop := ∀ H1, Ex F H1 → ∀ Q : List V → Hp → Prop, (∀ vs H2, Ex H1 H2 → P (part F H1 H2) vs → Q vs H2) → ta σ H1 Q
variable {σ : L2.St} {F G H H1 H2 H3 : Hp} {ta tb te tx : TE} {t u : TT} {v : V} {r : Rep α} {s : Rep β} {a : α} {b : β} {as : List α}
theorem New.rel {p : Addr} (h : New r as F H1 H2 p) (e0 : Ex F H1) : (rLst r).rel (part F H1 H2) (.ref p) as := by
  obtain ⟨h1, xs, h2, h3⟩ := h
  refine ⟨p, xs, rfl, ?_, h3.imp fun _ _ k => r.mono mns_sub k⟩
  rw [part_new (back_none e0 h1) h1]
  exact h2
theorem En.er (h : En r te σ F as) : Er (rLst r) te σ F as := fun H1 e Q q => h H1 e Q fun p H2 e2 n => q _ H2 e2 (n.rel e)
theorem Er.mono (e : Ex F G) (h : Er r te σ F a) : Er r te σ G a := fun H1 e1 Q q => h H1 (e.trans e1) Q fun v H2 e2 k => q v H2 e2 (r.mono (part_frame e e1) k)
theorem En.mono (e : Ex F G) (h : En r te σ F as) : En r te σ G as := fun H1 e1 Q q => h H1 (e.trans e1) Q fun p H2 e2 ⟨k1, xs, k2, k3⟩ => q p H2 e2 ⟨k1, xs, k2, k3.imp fun _ _ k => r.mono (mns_up (part_frame e e1)) k⟩
theorem er_to (h : Er r te σ F a) (f : ∀ H v, r.rel H v a → s.rel H v b) : Er s te σ F b := fun H1 e Q q => h H1 e Q fun v H2 e2 k => q v H2 e2 (f _ _ k)
theorem er_int {i : Int} : Er rInt (tC (.int i)) σ F i := fun H1 _ _ q => q _ H1 (Ex.refl H1) rfl
theorem er_bl {i : Bool} : Er rBl (tC (.bl i)) σ F i := fun H1 _ _ q => q _ H1 (Ex.refl H1) rfl
theorem er_str {i : Str} : Er rStr (tC (.str i)) σ F i := fun H1 _ _ q => q _ H1 (Ex.refl H1) rfl
theorem er_nonO : Er (rOpt r) (tC .non) σ F none := fun H1 _ _ q => q _ H1 (Ex.refl H1) rfl
theorem er_some (h : Er r te σ F a) : Er (rOpt r) te σ F (some a) := er_to h fun _ _ k => k
theorem er_two {R : V → V → Hp → Prop} (ha : Er r ta σ F a) (hb : Er s tb σ F b) (e : Ex F H1) (q : ∀ x y H3, Ex H1 H3 → r.rel (part F H1 H3) x a → s.rel (part F H1 H3) y b → R x y H3) : ta σ H1 fun x H2 => tb σ H2 fun y H3 => R x y H3 :=
  ha H1 e _ fun x H2 e2 k1 => hb H2 (e.trans e2) _ fun y H3 e3 k2 => q x y H3 (e2.trans e3) (r.mono (part_up e3) k1) (s.mono (part_back e2) k2)
theorem er_I0 {f : Int → Int → Int} {i j : Int} (ha : Er rInt ta σ F i) (hb : Er rInt tb σ F j) : Er rInt (tOp (rI0 fun i j => .int (f i j)) ta tb) σ F (f i j) := fun H1 e Q q =>
  er_two ha hb e fun x y H3 e3 k1 k2 => ⟨i, j, k1, k2, q _ H3 e3 rfl⟩
theorem er_I {C : Int → Int → Prop} {f : Int → Int → Int} {i j : Int} (ha : Er rInt ta σ F i) (hb : Er rInt tb σ F j) (hc : C i j) : Er rInt (tOp (rI C fun i j => .int (f i j)) ta tb) σ F (f i j) := fun H1 e Q q =>
  er_two ha hb e fun x y H3 e3 k1 k2 => ⟨i, j, k1, k2, hc, q _ H3 e3 rfl⟩
theorem er_neg {i : Int} (ha : Er rInt ta σ F i) : Er rInt (tUn (rU fun i => .int (-i)) ta) σ F (-i) := fun H1 e Q q => ha H1 e _ fun x H2 e2 k => ⟨i, k, q _ H2 e2 rfl⟩
theorem er_eqI {i j : Int} (ha : Er rInt ta σ F i) (hb : Er rInt tb σ F j) : Er rBl (tOp rEq ta tb) σ F (decide (i = j)) := fun H1 e Q q =>
  er_two ha hb e fun x y H3 e3 k1 k2 => by
    cases (show x = V.int i from k1)
    cases (show y = V.int j from k2)
    refine ⟨rfl, ?_⟩
    rw [show decide (V.int i = V.int j) = decide (i = j) from decide_eq_decide.mpr ⟨fun z => V.int.inj z, fun z => congrArg V.int z⟩]
    exact q _ H3 e3 rfl
theorem er_neI {i j : Int} (ha : Er rInt ta σ F i) (hb : Er rInt tb σ F j) : Er rBl (tOp rNe ta tb) σ F (!decide (i = j)) := fun H1 e Q q =>
  er_two ha hb e fun x y H3 e3 k1 k2 => by
    cases (show x = V.int i from k1)
    cases (show y = V.int j from k2)
    refine ⟨rfl, ?_⟩
    rw [show decide (V.int i = V.int j) = decide (i = j) from decide_eq_decide.mpr ⟨fun z => V.int.inj z, fun z => congrArg V.int z⟩]
    exact q _ H3 e3 rfl
theorem er_eqB {i j : Bool} (ha : Er rBl ta σ F i) (hb : Er rBl tb σ F j) : Er rBl (tOp rEq ta tb) σ F (decide (i = j)) := fun H1 e Q q =>
  er_two ha hb e fun x y H3 e3 k1 k2 => by
    cases (show x = V.bl i from k1)
    cases (show y = V.bl j from k2)
    refine ⟨rfl, ?_⟩
    rw [show decide (V.bl i = V.bl j) = decide (i = j) from decide_eq_decide.mpr ⟨fun z => V.bl.inj z, fun z => congrArg V.bl z⟩]
    exact q _ H3 e3 rfl
theorem er_neB {i j : Bool} (ha : Er rBl ta σ F i) (hb : Er rBl tb σ F j) : Er rBl (tOp rNe ta tb) σ F (!decide (i = j)) := fun H1 e Q q =>
  er_two ha hb e fun x y H3 e3 k1 k2 => by
    cases (show x = V.bl i from k1)
    cases (show y = V.bl j from k2)
    refine ⟨rfl, ?_⟩
    rw [show decide (V.bl i = V.bl j) = decide (i = j) from decide_eq_decide.mpr ⟨fun z => V.bl.inj z, fun z => congrArg V.bl z⟩]
    exact q _ H3 e3 rfl
theorem et_test {b : Bool} (h : Er rBl te σ F b) : EvT (tTest te) σ F b := fun H1 e _ q => h H1 e _ fun v H2 e2 k => ⟨b, k, q H2 e2⟩
theorem et_B {b : Bool} (h : Er rBl te σ F b) : EvT (tB te) σ F b := fun H1 e _ q => h H1 e _ fun v H2 e2 k => ⟨b, k, q H2 e2⟩
theorem er_if {b : Bool} (h : EvT t σ F b) (h1 : b = true → Er r ta σ F a) (h2 : b = false → Er r tb σ F a) : Er r (tIf t ta tb) σ F a := fun H1 e Q q => h H1 e _ fun H2 e2 => by
  cases b with
  | true =>
    show ta σ H2 Q
    exact h1 rfl H2 (e.trans e2) Q fun v H3 e3 k => q v H3 (e2.trans e3) (r.mono (part_back e2) k)
  | false =>
    show tb σ H2 Q
    exact h2 rfl H2 (e.trans e2) Q fun v H3 e3 k => q v H3 (e2.trans e3) (r.mono (part_back e2) k)
theorem er_andV {a b : Bool} (h1 : Er rBl ta σ F a) (h2 : a = true → Er rBl tb σ F b) : Er rBl (tAndV ta tb) σ F (a && b) := fun H1 e Q q => h1 H1 e _ fun v H2 e2 k => ⟨a, k, by
  cases a with
  | true =>
    show tb σ H2 Q
    exact h2 rfl H2 (e.trans e2) Q fun v H3 e3 k => q v H3 (e2.trans e3) k
  | false =>
    show Q (.bl false) H2
    exact q _ H2 e2 rfl⟩
theorem er_orV {a b : Bool} (h1 : Er rBl ta σ F a) (h2 : a = false → Er rBl tb σ F b) : Er rBl (tOrV ta tb) σ F (a || b) := fun H1 e Q q => h1 H1 e _ fun v H2 e2 k => ⟨a, k, by
  cases a with
  | true =>
    show Q (.bl true) H2
    exact q _ H2 e2 rfl
  | false =>
    show tb σ H2 Q
    exact h2 rfl H2 (e.trans e2) Q fun v H3 e3 k => q v H3 (e2.trans e3) k⟩
theorem er_notV {a : Bool} (h1 : Er rBl ta σ F a) : Er rBl (tNotV ta) σ F (!a) := fun H1 e Q q => h1 H1 e _ fun v H2 e2 k => ⟨a, k, q _ H2 e2 rfl⟩
theorem ea_nil : Ea (fun _ vs => vs = []) tNil σ F := fun H1 _ _ q => q [] H1 (Ex.refl H1) rfl
def HCons (r : Rep α) (a : α) (P : Hp → List V → Prop) : Hp → List V → Prop := fun G vs => ∃ v ws, vs = v :: ws ∧ r.rel G v a ∧ P G ws
def MonoP (P : Hp → List V → Prop) : Prop := ∀ {G G' : Hp} {vs : List V}, Ex G G' → P G vs → P G' vs
theorem ea_cons {tr : TA} {P : Hp → List V → Prop} (h : Er r ta σ F a) (hr : Ea P tr σ F) (hP : MonoP P) : Ea (HCons r a P) (tCons ta tr) σ F := fun H1 e _ q =>
  h H1 e _ fun v H2 e2 k => hr H2 (e.trans e2) _ fun ws H3 e3 k3 => q _ H3 (e2.trans e3) ⟨v, ws, rfl, r.mono (part_up e3) k, hP (part_back e2) k3⟩
theorem mono_nil : MonoP (fun _ vs => vs = []) := fun _ h => h
theorem mono_cons {P : Hp → List V → Prop} (hP : MonoP P) : MonoP (HCons r a P) := fun e ⟨v, ws, h, k, p⟩ => ⟨v, ws, h, r.mono e k, hP e p⟩
def A1 (r : Rep α) (a : α) : Hp → List V → Prop := fun G vs => ∃ v, vs = [v] ∧ r.rel G v a
def A2 (r : Rep α) (s : Rep β) (a : α) (b : β) : Hp → List V → Prop := fun G vs => ∃ v w, vs = [v, w] ∧ r.rel G v a ∧ s.rel G w b
def spV (s : Rep β) (W : (Hp → List V → Prop) → β → Prop) : Sp := fun vs H Q _ => ∃ F P b, Ex F H ∧ MonoP P ∧ W P b ∧ P F vs ∧ ∀ v H2, Ex H H2 → s.rel (part F H H2) v b → Q v H2
theorem er_call {W : (Hp → List V → Prop) → β → Prop} {P : Hp → List V → Prop} {E : XK} {tr : TA} (h : Ea P tr σ F) (hP : MonoP P) (w : W P b) : Er s (tCall (spV s W) [] E tr) σ F b := fun H1 e Q q =>
  h H1 e _ fun vs H2 e2 k => ⟨part F H1 H2, P, b, part_sub (e.trans e2), hP, w, by rw [List.append_nil]; exact k, fun v H3 e3 k3 => q v H3 (e2.trans e3) (s.mono (part_part e2 (Ex.refl H2) e3) k3)⟩
end
end DL
set_option Elab.async false
set_option linter.all false
set_option maxRecDepth 100000
set_option maxHeartbeats 2000000
namespace DL
open PySem L2 Evl
section
variable {α β γ δ : Type} {K : PySem.W.Frag} {σ σ2 : L2.St} {F G H H1 H2 H3 : Hp} {ta tb te tl tx : TE} {t u : TT} {v : V} {r : Rep α} {s : Rep β} {a : α} {b : β} {as : List α} {bs : List β}
def YD (G : Hp) (r : Rep α) (as : List α) : Nat → Hp → V → Hp → Prop := fun i H x H' => Ex H H' ∧ ∃ a, as[i]? = some a ∧ r.rel (part G H H') x a
def Src (wi : TI) (σ : L2.St) (F : Hp) (r : Rep α) (as : List α) : Prop :=
  ∀ H1, Ex F H1 → ∀ R : It → Hp → Prop, (∀ J H2, Ex H1 H2 → Walk J as.length (fun H => Ex (part F H1 H2) H) (YD (part F H1 H2) r as) → R J H2) → wi σ H1 R
theorem Src.mono {wi : TI} (e : Ex F G) (h : Src wi σ F r as) : Src wi σ G r as := fun H1 e1 R k => h H1 (e.trans e1) R fun J H2 e2 w => k J H2 e2 (w.mono (fun H hh => (part_frame e e1).trans hh) fun i H x H' hi hG ⟨y1, a, y2, y3⟩ => ⟨y1, a, y2, r.mono (part_frame (part_frame e e1) hG) y3⟩)
theorem walkL {p : Addr} {xs : List V} (hp : G p = some (.lst xs)) (ha : Al (r.rel G) xs as) : Walk (Itl K p) as.length (fun H => Ex G H) (YD G r as) := by
  have w := walk_list (K := K) (a := p) (xs := xs)
  rw [ha.len] at w
  refine w.mono (fun H e => SqL.of (e p _ hp)) fun i H x H' hi e ⟨y1, y2⟩ => ?_
  subst y1
  obtain ⟨a, h1, h2⟩ := ha.get y2
  exact ⟨Ex.refl _, a, h1, r.mono part_ex h2⟩
theorem src_list (h : Er (rLst r) tl σ F as) : Src (iList K tl) σ F r as := fun H1 e R k => h H1 e _ fun v H2 e2 ⟨p, xs, hv, hp, ha⟩ =>
  ⟨p, hv, ⟨xs, SqL.of (part_sub (e.trans e2) p _ hp)⟩, k _ H2 e2 (walkL hp ha)⟩
theorem src_tup (h : Er (rTup r) tl σ F as) : Src (iTup K tl) σ F r as := fun H1 e R k => h H1 e _ fun v H2 e2 ⟨p, xs, hv, hp, ha⟩ => by
  refine ⟨p, hv, ⟨xs, SqT.of (part_sub (e.trans e2) p _ hp)⟩, k _ H2 e2 ?_⟩
  have w := walk_tup (K := K) (a := p) (xs := xs)
  rw [ha.len] at w
  refine w.mono (fun H e => SqT.of (e p _ hp)) fun i H x H' hi e ⟨y1, y2⟩ => ?_
  subst y1
  obtain ⟨a, h1, h2⟩ := ha.get y2
  exact ⟨Ex.refl _, a, h1, r.mono part_ex h2⟩
def rng (lo : Int) (n : Nat) : List Int := (List.range n).map fun (i : Nat) => lo + (i : Int)
theorem rng_len {lo : Int} {n : Nat} : (rng lo n).length = n := by
  unfold rng
  rw [List.length_map, List.length_range]
theorem rng_get {lo : Int} {n i : Nat} (h : i < n) : (rng lo n)[i]? = some (lo + (i : Int)) := by
  unfold rng
  rw [List.getElem?_map, List.getElem?_range h]
  rfl
theorem mem_rng {lo x : Int} {n : Nat} : x ∈ rng lo n ↔ lo ≤ x ∧ x < lo + (n : Int) := by
  unfold rng
  rw [List.mem_map]
  constructor
  · rintro ⟨i, hi, rfl⟩
    have := List.mem_range.mp hi
    omega
  · rintro ⟨h1, h2⟩
    exact ⟨(x - lo).toNat, List.mem_range.mpr (by omega), by omega⟩
theorem walkR {lo : Int} {n : Nat} : Walk (Itr lo n) (rng lo n).length (fun H => Ex G H) (YD G rInt (rng lo n)) := by
  rw [rng_len]
  refine walk_range.mono (fun _ _ => trivial) fun i H x H' hi e ⟨y1, y2⟩ => ?_
  subst y1
  exact ⟨Ex.refl _, _, rng_get hi, y2⟩
theorem src_rng1 {ta : TA} {n : Int} (h : Ea (A1 rInt n) ta σ F) (hn : -1000000 ≤ n ∧ n ≤ 1000000) : Src (iRng1 ta) σ F rInt (rng 0 n.toNat) := fun H1 e R k => h H1 e _ fun vs H2 e2 ⟨v, hv, hr⟩ => by
  cases (show v = V.int n from hr)
  exact ⟨n, hv, by omega, by omega, k _ H2 e2 walkR⟩
theorem src_rng2 {ta : TA} {lo n : Int} (h : Ea (A2 rInt rInt lo n) ta σ F) (hn : -1000000 ≤ lo ∧ lo ≤ 1000000 ∧ -1000000 ≤ n ∧ n ≤ 1000000) : Src (iRng2 ta) σ F rInt (rng lo (n - lo).toNat) := fun H1 e R k => h H1 e _ fun vs H2 e2 ⟨v, w, hv, hr, hw⟩ => by
  cases (show v = V.int lo from hr)
  cases (show w = V.int n from hw)
  exact ⟨lo, n, hv, by omega, k _ H2 e2 walkR⟩
theorem pair_new {T : Addr} {x y : V} {a : α} {b : β} (eG : Ex G H) (hT : H T = none) (hx : r.rel G x a) (hy : s.rel G y b) : (rPair r s).rel (part G H (upd H T (.tup [x, y]))) (.ref T) (a, b) := by
  refine ⟨T, x, y, rfl, ?_, r.mono part_ex hx, s.mono part_ex hy⟩
  rw [part_new (back_none eG hT) hT]
  exact upd_same
theorem src_enum {ta : TA} (h : Ea (A1 (rLst r) as) ta σ F) : Src (iEnum K ta) σ F (rPair rInt r) (List.zip (rng 0 as.length) as) := fun H1 e R k => h H1 e _ fun vs H2 e2 ⟨v, hv, p, xs, hv2, hp, ha⟩ => by
  subst hv2
  refine ⟨p, xs, hv, SqL.of (part_sub (e.trans e2) p _ hp), k _ H2 e2 ?_⟩
  have w := walk_enum (K := K) (a := p) (xs := xs)
  rw [ha.len] at w
  rw [List.length_zip, rng_len, Nat.min_self]
  refine w.mono (fun H e => SqL.of (e p _ hp)) fun i H x H' hi e ⟨T, y, z, y1, y2, y3, y4, y5⟩ => ?_
  subst y1
  subst y3
  obtain ⟨a, h1, h2⟩ := ha.get y5
  refine ⟨Ex.new y2, ((0 : Int) + (i : Int), a), ?_, pair_new e y2 ?_ h2⟩
  · rw [List.getElem?_zip_eq_some]
    exact ⟨rng_get hi, h1⟩
  · show y = V.int ((0 : Int) + (i : Int))
    rw [Int.zero_add]
    exact (Option.some.inj y4).symm
theorem src_zip {ta : TA} (h : Ea (A2 (rLst r) (rLst s) as bs) ta σ F) : Src (iZip K ta) σ F (rPair r s) (List.zip as bs) := fun H1 e R k => h H1 e _ fun vs H2 e2 ⟨v, w, hv, ⟨p, xs, hv2, hp, ha⟩, ⟨q, ys, hw2, hq, hb⟩⟩ => by
  subst hv2 hw2
  refine ⟨p, q, xs, ys, hv, SqL.of (part_sub (e.trans e2) p _ hp), SqL.of (part_sub (e.trans e2) q _ hq), k _ H2 e2 ?_⟩
  have w := walk_zip (K := K) (a := p) (b := q) (xs := xs) (ys := ys) (n := (List.zip as bs).length) (by rw [List.length_zip, ha.len, hb.len])
  refine w.mono (fun H e => ⟨SqL.of (e p _ hp), SqL.of (e q _ hq)⟩) fun i H x H' hi e ⟨T, y, z, y1, y2, y3, y4, y5⟩ => ?_
  subst y1
  subst y3
  obtain ⟨a, h1, h2⟩ := ha.get y4
  obtain ⟨b, h3, h4⟩ := hb.get y5
  refine ⟨Ex.new y2, (a, b), ?_, pair_new e y2 h2 h4⟩
  rw [List.getElem?_zip_eq_some]
  exact ⟨h1, h3⟩
def Tgt (g : TG) (r : Rep α) (S : Hp → α → L2.St → L2.St → Prop) : Prop := ∀ G H x a σ (Q : L2.St → Hp → Prop), Ex G H → r.rel G x a → (∀ σ2, S G a σ σ2 → Q σ2 H) → g x σ H Q
theorem d_for {wi : TI} {g : TG} {tb : TS} {D : Ends} {S : Hp → α → L2.St → L2.St → Prop} (h : Src wi σ F r as) (hg : Tgt g r S) (e : Ex F H) (Pv : Hp → List α → L2.St → Hp → Prop)
    (hG : ∀ G pre σ' H', Pv G pre σ' H' → Ex G H') (h0 : ∀ H1, Ex H H1 → Pv (part F H H1) [] σ H1)
    (hs : ∀ G pre a post σ' H' H'' σ2, as = pre ++ a :: post → Pv G pre σ' H' → Ex H' H'' → S (part G H' H'') a σ' σ2 → tb { D with nx := Pv G (pre ++ [a]), ct := Pv G (pre ++ [a]), bk := D.nx } σ2 H'')
    (hd : ∀ G σ' H', Pv G as σ' H' → D.nx σ' H') : tFor wi g tb D σ H := h H e _ fun J H1 e1 w => by
  refine for_it w (fun i σ' H' => Pv (part F H H1) (as.take i) σ' H') (h0 H1 e1) (fun i σ' H' _ p => hG _ _ _ _ p) (fun i x σ' H' H'' hi p ⟨y1, a, y2, y3⟩ => ?_) (fun σ' H' p => ?_)
  · refine hg _ H'' x a σ' _ (part_sub ((hG _ _ _ _ p).trans y1)) y3 fun σ2 hS => ?_
    have hl : i < as.length := hi
    have et : as.take (i + 1) = as.take i ++ [a] := by
      rw [List.take_add_one, y2]
      rfl
    have q := hs (part F H H1) (as.take i) a (as.drop (i + 1)) σ' H' H'' σ2 (by
      rw [List.getElem?_eq_getElem hl] at y2
      cases y2
      rw [← List.drop_eq_getElem_cons hl, List.take_append_drop]) p y1 hS
    rw [← et] at q
    exact q
  · rw [List.take_length] at p
    exact hd _ _ _ p
end
end DL
set_option Elab.async false
set_option linter.all false
set_option maxRecDepth 100000
set_option maxHeartbeats 2000000
namespace DL
open PySem L2 Evl
section
variable {α β γ δ : Type} {K : PySem.W.Frag} {σ σ2 : L2.St} {F G H H1 H2 H3 : Hp} {ta tb te tl tx : TE} {t u : TT} {v : V} {r : Rep α} {s : Rep β} {a : α} {b : β} {as as' : List α} {bs : List β} {p q : Addr}
def Mu (r : Rep α) (as : List α) (F H : Hp) (p : Addr) : Prop := F p = none ∧ ∃ xs, H p = some (.lst xs) ∧ Al (r.rel F) xs as
theorem New.ex (h : New r as F H1 H2 p) (e : Ex F H1) : Ex F (mns (part F H1 H2) p) := ex_mns part_ex (back_none e h.1)
theorem New.sub (h : New r as F H1 H2 p) (e : Ex F H1) (e2 : Ex H1 H2) : Ex (mns (part F H1 H2) p) H2 := mns_sub.trans (part_sub (e.trans e2))
theorem Mu.up (h : Mu r as F H p) (e : Ex F G) (hG : G p = none) (e2 : Ex H H2) : Mu r as G H2 p := by
  obtain ⟨h1, xs, h2, h3⟩ := h
  exact ⟨hG, xs, e2 p _ h2, h3.imp fun _ _ k => r.mono e k⟩
theorem Mu.part (h : Mu r as F H p) (e2 : Ex H H2) : Mu r as (part F H H2) H2 p := by
  obtain ⟨h1, xs, h2, h3⟩ := id h
  exact h.up part_ex (part_old h1 h2) e2
theorem Mu.freeze (h : Mu r as F H p) (e : Ex F H) : ∃ G, Ex F G ∧ Ex G H ∧ (rLst r).rel G (.ref p) as := by
  obtain ⟨h1, xs, h2, h3⟩ := h
  refine ⟨upd F p (.lst xs), Ex.new h1, fun q o hq => ?_, p, xs, rfl, upd_same, h3.imp fun _ _ k => r.mono (Ex.new h1) k⟩
  by_cases hqp : q = p
  · subst hqp
    rw [upd_same] at hq
    rw [← hq]
    exact h2
  · rw [upd_ne hqp] at hq
    exact e q o hq
theorem Al.atI {R : V → α → Prop} {xs : List V} {i : Int} (h : Al R xs as) (ha : L2.atI as i = some a) : ∃ v, L2.atI xs i = some v ∧ R v a := by
  unfold L2.atI at ha ⊢
  rw [h.len]
  cases hx : ixN as.length i with
  | none => rw [hx] at ha; cases ha
  | some j =>
    rw [hx] at ha
    obtain ⟨v, h1, h2⟩ := h.at (show as[j]? = some a from ha)
    exact ⟨v, h1, h2⟩
theorem er_ixL {i : Int} (ha : Er (rLst r) ta σ F as) (hb : Er rInt tb σ F i) (h : L2.atI as i = some a) : Er r (tOp (rIxL K) ta tb) σ F a := fun H1 e Q q =>
  er_two ha hb e fun x y H3 e3 ⟨p, xs, hx, hp, hal⟩ k2 => by
    obtain ⟨v, h1, h2⟩ := hal.atI h
    exact ⟨p, xs, i, v, hx, k2, SqL.of (part_sub (e.trans e3) p _ hp), h1, q v H3 e3 h2⟩
theorem er_ixT {i : Int} (ha : Er (rTup r) ta σ F as) (hb : Er rInt tb σ F i) (h : L2.atI as i = some a) : Er r (tOp (rIxT K) ta tb) σ F a := fun H1 e Q q =>
  er_two ha hb e fun x y H3 e3 ⟨p, xs, hx, hp, hal⟩ k2 => by
    obtain ⟨v, h1, h2⟩ := hal.atI h
    exact ⟨p, xs, i, v, hx, k2, SqT.of (part_sub (e.trans e3) p _ hp), h1, q v H3 e3 h2⟩
theorem er_ixF {i n : Int} {ns : List Int} (ha : Er (rFro K) ta σ F ns) (hb : Er rInt tb σ F i) (h : L2.atI ns i = some n) : Er rInt (tOp (rIxL K) ta tb) σ F n := fun H1 e Q q =>
  er_two ha hb e fun x y H3 e3 ⟨p, hx, hp⟩ k2 => by
    obtain ⟨v, h1, h2⟩ := (ints_rel (H := F) ns).atI h
    exact ⟨p, _, i, v, hx, k2, ex_l (part_sub (e.trans e3)) hp, h1, q v H3 e3 h2⟩
theorem er_fst {c : α × β} (ha : Er (rPair r s) ta σ F c) (hb : Er rInt tb σ F 0) : Er r (tOp (rIxT K) ta tb) σ F c.1 := fun H1 e Q q =>
  er_two ha hb e fun x y H3 e3 ⟨p, x1, y1, hx, hp, h1, h2⟩ k2 => ⟨p, [x1, y1], 0, x1, hx, k2, SqT.of (part_sub (e.trans e3) p _ hp), rfl, q _ H3 e3 h1⟩
theorem er_snd {c : α × β} (ha : Er (rPair r s) ta σ F c) (hb : Er rInt tb σ F 1) : Er s (tOp (rIxT K) ta tb) σ F c.2 := fun H1 e Q q =>
  er_two ha hb e fun x y H3 e3 ⟨p, x1, y1, hx, hp, h1, h2⟩ k2 => ⟨p, [x1, y1], 1, y1, hx, k2, SqT.of (part_sub (e.trans e3) p _ hp), rfl, q _ H3 e3 h2⟩
def EaL (r : Rep α) (ta : TA) (σ : L2.St) (F : Hp) (as : List α) : Prop := Ea (fun G vs => Al (r.rel G) vs as) ta σ F
theorem eal_nil : EaL r tNil σ F [] := fun H1 _ _ q => q [] H1 (Ex.refl H1) .nil
theorem eal_cons {tr : TA} (h : Er r ta σ F a) (hr : EaL r tr σ F as) : EaL r (tCons ta tr) σ F (a :: as) := fun H1 e _ q =>
  h H1 e _ fun v H2 e2 k => hr H2 (e.trans e2) _ fun ws H3 e3 k3 => q _ H3 (e2.trans e3) (.cons (r.mono (part_up e3) k) (k3.imp fun _ _ k => r.mono (part_back e2) k))
theorem part_upd {o : HO} (e0 : Ex F H1) (e : Ex H1 H2) (hp : H2 p = none) : part F H1 (upd H2 p o) p = some o := by
  rw [part_new (back_none (e0.trans e) hp) (back_none e hp)]
  exact upd_same
theorem er_tup {ta : TA} (h : EaL r ta σ F as) (hl : as.length ≤ 100000) : Er (rTup r) (tTup ta) σ F as := fun H1 e _ q => h H1 e _ fun vs H2 e2 k =>
  ⟨by rw [k.len]; exact sz_of hl, fun p hp => q _ _ (e2.trans (Ex.new hp)) ⟨p, vs, rfl, part_upd e e2 hp, k.imp fun _ _ k => r.mono (part_up (Ex.new hp)) k⟩⟩
theorem er_pair {ta : TA} (h : Ea (A2 r s a b) ta σ F) : Er (rPair r s) (tTup ta) σ F (a, b) := fun H1 e _ q => h H1 e _ fun vs H2 e2 ⟨x, y, hv, hx, hy⟩ => by
  subst hv
  exact ⟨by show 2 ≤ sizeLine; decide, fun p hp => q _ _ (e2.trans (Ex.new hp)) ⟨p, x, y, rfl, part_upd e e2 hp, r.mono (part_up (Ex.new hp)) hx, s.mono (part_up (Ex.new hp)) hy⟩⟩
theorem Al.nil_iff {R : V → α → Prop} {xs : List V} (h : Al R xs as) : xs = [] ↔ as = [] := by
  cases h with
  | nil => exact ⟨fun _ => rfl, fun _ => rfl⟩
  | cons _ _ => exact ⟨fun z => (nomatch z), fun z => (nomatch z)⟩
theorem er_catT (ha : Er (rTup r) ta σ F as) (hb : Er (rTup r) tb σ F as') (hl : as.length + as'.length ≤ 100000) : Er (rTup r) (tOp (rCatA K) ta tb) σ F (as ++ as') := fun H1 e Q q =>
  er_two ha hb e fun x y H3 e3 ⟨p, xs, hx, hp, h1⟩ ⟨p', ys, hy, hp', h2⟩ => by
    refine ⟨p, p', xs, ys, hx, hy, SqT.of (part_sub (e.trans e3) p _ hp), SqT.of (part_sub (e.trans e3) p' _ hp'), by rw [h1.len, h2.len]; exact sz_of hl, fun z => ?_, fun z z2 => ?_, fun _ _ c hc => ?_⟩
    · refine q _ H3 e3 ?_
      rw [h1.nil_iff.mp z]
      exact ⟨p', ys, rfl, hp', h2⟩
    · refine q _ H3 e3 ?_
      rw [h2.nil_iff.mp z2, List.append_nil]
      exact ⟨p, xs, rfl, hp, h1⟩
    · exact q _ _ (e3.trans (Ex.new hc)) ⟨c, _, rfl, part_upd e e3 hc, (h1.app h2).imp fun _ _ k => r.mono (part_up (Ex.new hc)) k⟩
theorem Al.rep {R : V → α → Prop} {xs : List V} (h : Al R xs as) : ∀ n : Nat, Al R (List.replicate n xs).flatten (List.replicate n as).flatten
  | 0 => .nil
  | n + 1 => by
    rw [List.replicate_succ, List.replicate_succ, List.flatten_cons, List.flatten_cons]
    exact h.app (Al.rep h n)
def cutA (as : List α) (lo hi : Option Int) : List α := (as.drop (HT.sIx as.length 0 lo)).take (HT.sIx as.length as.length hi - HT.sIx as.length 0 lo)
theorem er_slT {tl th : TO} {lo hi : Option Int} (h : Er (rTup r) te σ F as) (h1 : EvO tl σ F lo) (h2 : EvO th σ F hi) : Er (rTup r) (tSl (rSlA K) te tl th) σ F (cutA as lo hi) := fun H1 e _ q =>
  h H1 e _ fun v H2 e2 ⟨p, xs, hx, hp, hal⟩ => h1 H2 (e.trans e2) _ fun H3 e3 => h2 H3 ((e.trans e2).trans e3) _ fun H4 e4 => by
    have ee := e2.trans (e3.trans e4)
    refine ⟨p, xs, hx, SqT.of (part_sub (e.trans ee) p _ (part_up (e3.trans e4) p _ hp)), fun hw => ?_, fun hw c hc => ?_⟩
    · have ec : cutA as lo hi = as := by
        unfold cutA
        rw [hal.len] at hw
        rw [hw.1, hw.2, List.drop_zero, Nat.sub_zero, List.take_length]
      refine q _ H4 ee ?_
      rw [ec]
      exact ⟨p, xs, rfl, part_up (e3.trans e4) p _ hp, hal.imp fun _ _ k => r.mono (part_up (e3.trans e4)) k⟩
    · refine q _ _ (ee.trans (Ex.new hc)) ⟨c, _, rfl, part_upd e ee hc, ?_⟩
      unfold cutV cutA
      rw [hal.len]
      exact ((hal.drop _).take _).imp fun _ _ k => r.mono ((part_up (e3.trans e4)).trans (part_up (Ex.new hc))) k
def rLenQ (K : PySem.W.Frag) : List V → Hp → VK → Prop := fun xs H Q => ∃ p ys, xs = [.ref p] ∧ (SqL K H p ys ∨ SqT K H p ys) ∧ Q (.int ys.length) H
theorem er_lenL (h : Er (rLst r) ta σ F as) : Er rInt (tCB (rLenQ K) (tCons ta tNil)) σ F (as.length : Int) := fun H1 e Q q => h H1 e _ fun v H2 e2 ⟨p, xs, hx, hp, hal⟩ =>
  ⟨p, xs, congrArg (· :: []) hx, .inl (SqL.of (part_sub (e.trans e2) p _ hp)), by rw [hal.len]; exact q _ H2 e2 rfl⟩
theorem er_lenT (h : Er (rTup r) ta σ F as) : Er rInt (tCB (rLenQ K) (tCons ta tNil)) σ F (as.length : Int) := fun H1 e Q q => h H1 e _ fun v H2 e2 ⟨p, xs, hx, hp, hal⟩ =>
  ⟨p, xs, congrArg (· :: []) hx, .inr (SqT.of (part_sub (e.trans e2) p _ hp)), by rw [hal.len]; exact q _ H2 e2 rfl⟩
theorem er_lenF {ns : List Int} (h : Er (rFro K) ta σ F ns) : Er rInt (tCB (rLenQ K) (tCons ta tNil)) σ F (ns.length : Int) := fun H1 e Q q => h H1 e _ fun v H2 e2 ⟨p, hx, hp⟩ => by
  refine ⟨p, _, congrArg (· :: []) hx, .inl (ex_l (part_sub (e.trans e2)) hp), ?_⟩
  rw [List.length_map]
  exact q _ H2 e2 rfl
def rTupQ (K : PySem.W.Frag) : List V → Hp → VK → Prop := fun xs H Q => ∃ p ys, xs = [.ref p] ∧ ((SqL K H p ys ∧ ∀ l, H l = none → Q (.ref l) (upd H l (.tup ys))) ∨ (SqT K H p ys ∧ Q (.ref p) H))
theorem er_tupOf (h : Er (rLst r) ta σ F as) : Er (rTup r) (tCB (rTupQ K) (tCons ta tNil)) σ F as := fun H1 e Q q => h H1 e _ fun v H2 e2 ⟨p, xs, hx, hp, hal⟩ =>
  ⟨p, xs, congrArg (· :: []) hx, .inl ⟨SqL.of (part_sub (e.trans e2) p _ hp), fun l hl => q _ _ (e2.trans (Ex.new hl)) ⟨l, xs, rfl, part_upd e e2 hl, hal.imp fun _ _ k => r.mono (part_up (Ex.new hl)) k⟩⟩⟩
def rLstQ (K : PySem.W.Frag) : List V → Hp → VK → Prop := fun xs H Q => ∃ p ys, xs = [.ref p] ∧ (SqL K H p ys ∨ SqT K H p ys) ∧ ∀ l, H l = none → Q (.ref l) (upd H l (.lst ys))
def rInt1 : List V → Hp → VK → Prop := fun xs H Q => (∃ i, xs = [.int i] ∧ Q (.int i) H) ∨ ∃ k, xs = [.bl k] ∧ Q (.int (if k then 1 else 0)) H
theorem er_int1 {i : Int} (h : Er rInt ta σ F i) : Er rInt (tCB rInt1 (tCons ta tNil)) σ F i := fun H1 e Q q => h H1 e _ fun v H2 e2 hv => .inl ⟨i, congrArg (· :: []) hv, q _ H2 e2 rfl⟩
theorem er_int1B {k : Bool} (h : Er rBl ta σ F k) : Er rInt (tCB rInt1 (tCons ta tNil)) σ F (if k then 1 else 0) := fun H1 e Q q => h H1 e _ fun v H2 e2 hv => .inr ⟨k, congrArg (· :: []) hv, q _ H2 e2 rfl⟩
theorem rel_bls {H : Hp} : ∀ {xs : List V} {ns : List Bool}, Al (rBl.rel H) xs ns → xs = ns.map V.bl
  | _, _, .nil => rfl
  | _, _, .cons h t => by
    rw [show _ = V.bl _ from h, rel_bls t]
    rfl
theorem er_any {ks : List Bool} (h : Er (rLst rBl) ta σ F ks) : Er rBl (tCB (rAny K) (tCons ta tNil)) σ F (ks.any id) := fun H1 e Q q => h H1 e _ fun v H2 e2 ⟨p, xs, hx, hp, hal⟩ => by
  rw [rel_bls hal] at hp
  exact ⟨p, ks, congrArg (· :: []) hx, SqL.of (part_sub (e.trans e2) p _ hp), q _ H2 e2 rfl⟩
theorem er_all {ks : List Bool} (h : Er (rLst rBl) ta σ F ks) : Er rBl (tCB (rAll K) (tCons ta tNil)) σ F (ks.all id) := fun H1 e Q q => h H1 e _ fun v H2 e2 ⟨p, xs, hx, hp, hal⟩ => by
  rw [rel_bls hal] at hp
  exact ⟨p, ks, congrArg (· :: []) hx, SqL.of (part_sub (e.trans e2) p _ hp), q _ H2 e2 rfl⟩
theorem inV_ints {n : Int} : ∀ {ns : List Int}, inV (.int n) (ns.map V.int) = decide (n ∈ ns)
  | [] => rfl
  | m :: ns => by
    show (m == n || inV (.int n) (ns.map V.int)) = _
    rw [inV_ints]
    by_cases h : m = n
    · subst h; simp
    · have h2 : ¬ n = m := fun z => h z.symm
      simp [h, h2]
theorem flat_ints : ∀ {ns : List Int}, (ns.map V.int).all flatV = true
  | [] => rfl
  | _ :: ns => by
    show (true && (ns.map V.int).all flatV) = true
    rw [flat_ints]
    rfl
end
end DL
set_option Elab.async false
set_option linter.all false
set_option maxRecDepth 100000
set_option maxHeartbeats 2000000
namespace DL
open PySem L2 Evl
section
variable {α β γ δ : Type} {K : PySem.W.Frag} {σ σ2 : L2.St} {F G H H1 H2 H3 : Hp} {ta tb te tl tx : TE} {t u : TT} {v : V} {r : Rep α} {s : Rep β} {a : α} {b : β} {as as' : List α} {bs : List β} {p q : Addr}
theorem er_inT {n : Int} {ns : List Int} (ha : Er rInt ta σ F n) (hb : Er (rTup rInt) tb σ F ns) : Er rBl (tOp (rIn K false) ta tb) σ F (decide (n ∈ ns)) := fun H1 e Q q =>
  er_two ha hb e fun x y H3 e3 hx ⟨p, xs, hy, hp, hal⟩ => by
    cases (show x = V.int n from hx)
    rw [rel_ints hal] at hp
    refine ⟨p, _, hy, .inr (SqT.of (part_sub (e.trans e3) p _ hp)), rfl, flat_ints, ?_⟩
    rw [inV_ints]
    exact q _ H3 e3 rfl
theorem er_niT {n : Int} {ns : List Int} (ha : Er rInt ta σ F n) (hb : Er (rTup rInt) tb σ F ns) : Er rBl (tOp (rIn K true) ta tb) σ F (!decide (n ∈ ns)) := fun H1 e Q q =>
  er_two ha hb e fun x y H3 e3 hx ⟨p, xs, hy, hp, hal⟩ => by
    cases (show x = V.int n from hx)
    rw [rel_ints hal] at hp
    refine ⟨p, _, hy, .inr (SqT.of (part_sub (e.trans e3) p _ hp)), rfl, flat_ints, ?_⟩
    rw [inV_ints]
    exact q _ H3 e3 rfl
theorem er_inL {n : Int} {ns : List Int} (ha : Er rInt ta σ F n) (hb : Er (rLst rInt) tb σ F ns) : Er rBl (tOp (rIn K false) ta tb) σ F (decide (n ∈ ns)) := fun H1 e Q q =>
  er_two ha hb e fun x y H3 e3 hx ⟨p, xs, hy, hp, hal⟩ => by
    cases (show x = V.int n from hx)
    rw [rel_ints hal] at hp
    refine ⟨p, _, hy, .inl (SqL.of (part_sub (e.trans e3) p _ hp)), rfl, flat_ints, ?_⟩
    rw [inV_ints]
    exact q _ H3 e3 rfl
theorem er_niL {n : Int} {ns : List Int} (ha : Er rInt ta σ F n) (hb : Er (rLst rInt) tb σ F ns) : Er rBl (tOp (rIn K true) ta tb) σ F (!decide (n ∈ ns)) := fun H1 e Q q =>
  er_two ha hb e fun x y H3 e3 hx ⟨p, xs, hy, hp, hal⟩ => by
    cases (show x = V.int n from hx)
    rw [rel_ints hal] at hp
    refine ⟨p, _, hy, .inl (SqL.of (part_sub (e.trans e3) p _ hp)), rfl, flat_ints, ?_⟩
    rw [inV_ints]
    exact q _ H3 e3 rfl
def rIsNq : R2 := fun x y H Q => y = .non ∧ Q (.bl (decide (x = .non))) H
def rNotNq : R2 := fun x y H Q => y = .non ∧ Q (.bl (!decide (x = .non))) H
def Sol (r : Rep α) : Prop := ∀ H a, ¬ r.rel H .non a
theorem sol_int : Sol rInt := fun _ _ h => by cases (show V.non = V.int _ from h)
theorem opt_non {o : Option α} (hs : Sol r) (h : (rOpt r).rel F v o) : decide (v = V.non) = o.isNone := by
  cases o with
  | none =>
    rw [show v = V.non from h]
    rfl
  | some a =>
    refine decide_eq_false fun z => ?_
    rw [z] at h
    exact hs _ _ h
theorem er_isN {o : Option α} (hs : Sol r) (ha : Er (rOpt r) ta σ F o) : Er rBl (tOp rIsNq ta (tC .non)) σ F o.isNone := fun H1 e Q q => ha H1 e _ fun v H2 e2 k => ⟨rfl, by rw [opt_non hs k]; exact q _ H2 e2 rfl⟩
theorem er_notN {o : Option α} (hs : Sol r) (ha : Er (rOpt r) ta σ F o) : Er rBl (tOp rNotNq ta (tC .non)) σ F (!o.isNone) := fun H1 e Q q => ha H1 e _ fun v H2 e2 k => ⟨rfl, by rw [opt_non hs k]; exact q _ H2 e2 rfl⟩
def tTru (K : PySem.W.Frag) (te : TE) : TT := fun σ H R => te σ H fun v H2 => ∃ b, TruV K v H2 b ∧ R b H2
theorem et_lst (h : Er (rLst r) ta σ F as) : EvT (tTru K ta) σ F (!as.isEmpty) := fun H1 e Q q => h H1 e _ fun v H2 e2 ⟨p, xs, hx, hp, hal⟩ => by
  subst hx
  refine ⟨!as.isEmpty, .inl ⟨xs, SqL.of (part_sub (e.trans e2) p _ hp), ?_⟩, q H2 e2⟩
  cases hal <;> rfl
theorem et_tup (h : Er (rTup r) ta σ F as) : EvT (tTru K ta) σ F (!as.isEmpty) := fun H1 e Q q => h H1 e _ fun v H2 e2 ⟨p, xs, hx, hp, hal⟩ => by
  subst hx
  refine ⟨!as.isEmpty, .inr (.inl ⟨xs, SqT.of (part_sub (e.trans e2) p _ hp), ?_⟩), q H2 e2⟩
  cases hal <;> rfl
structure Enc (K : PySem.W.Frag) (r : Rep α) [DecidableEq α] where
  enc : α → PyData
  d : Nat
  dp : ∀ {H : Hp} {v : V} {a : α}, r.rel H v a → Dp K H v (enc a)
  eqv : ∀ a b, PyData.eqv (enc a) (enc b) = decide (a = b)
  can : ∀ a, (enc a).canLay0 = true
  dep : ∀ a, (enc a).depth ≤ d
theorem Enc.shaped [DecidableEq α] (E : Enc K r) (h : E.d ≤ 64) (a : α) : SeqAt.shaped (E.enc a) = true := by
  unfold SeqAt.shaped
  rw [E.can, decide_eq_true (Nat.le_trans (E.dep a) h)]
  rfl
def eInt : Enc K rInt where
  enc := .int
  d := 0
  dp := fun h => by
    cases h
    exact .int _
  eqv := fun a b => by
    show (a == b) = _
    by_cases h : a = b
    · subst h; simp
    · simp [h]
  can := fun _ => rfl
  dep := fun _ => Nat.zero_le _
section
variable [DecidableEq α] [DecidableEq β] (E : Enc K r) (E' : Enc K s)
theorem Enc.all {H : Hp} : ∀ {xs : List V} {as : List α}, Al (r.rel H) xs as → DpAll K H xs (as.map E.enc)
  | _, _, .nil => .nil
  | _, _, .cons h t => .cons (E.dp h) (Enc.all t)
theorem Enc.eqvAll : ∀ as bs : List α, PyData.eqvAll (as.map E.enc) (bs.map E.enc) = decide (as = bs)
  | [], [] => rfl
  | [], _ :: _ => rfl
  | _ :: _, [] => rfl
  | a :: as, b :: bs => by
    show (PyData.eqv (E.enc a) (E.enc b) && PyData.eqvAll (as.map E.enc) (bs.map E.enc)) = _
    rw [E.eqv, Enc.eqvAll as bs]
    by_cases h : a = b <;> by_cases h2 : as = bs <;> simp [h, h2]
theorem Enc.canAll : ∀ as : List α, PyData.canLayAll0 (as.map E.enc) = true
  | [] => rfl
  | a :: as => by
    show ((E.enc a).canLay0 && PyData.canLayAll0 (as.map E.enc)) = true
    rw [E.can, Enc.canAll as]
    rfl
theorem Enc.depAll : ∀ as : List α, PyData.depthAll (as.map E.enc) ≤ E.d
  | [] => Nat.zero_le _
  | a :: as => Nat.max_le.mpr ⟨E.dep a, Enc.depAll as⟩
def eLst : Enc K (rLst r) where
  enc := fun as => .list (as.map E.enc)
  d := E.d + 1
  dp := fun ⟨p, xs, h, hp, hal⟩ => by
    subst h
    exact .lst (SqL.of hp) (E.all hal)
  eqv := fun a b => E.eqvAll a b
  can := fun a => E.canAll a
  dep := fun a => Nat.succ_le_succ (E.depAll a)
def eTup : Enc K (rTup r) where
  enc := fun as => .tuple (as.map E.enc)
  d := E.d + 1
  dp := fun ⟨p, xs, h, hp, hal⟩ => by
    subst h
    exact .tup (SqT.of hp) (E.all hal)
  eqv := fun a b => E.eqvAll a b
  can := fun a => E.canAll a
  dep := fun a => Nat.succ_le_succ (E.depAll a)
def ePair : Enc K (rPair r s) where
  enc := fun c => .tuple [E.enc c.1, E'.enc c.2]
  d := max E.d E'.d + 1
  dp := fun ⟨p, x, y, h, hp, h1, h2⟩ => by
    subst h
    exact .tup (SqT.of hp) (.cons (E.dp h1) (.cons (E'.dp h2) .nil))
  eqv := fun a b => by
    show (PyData.eqv (E.enc a.1) (E.enc b.1) && (PyData.eqv (E'.enc a.2) (E'.enc b.2) && true)) = _
    rw [E.eqv, E'.eqv]
    obtain ⟨a1, a2⟩ := a
    obtain ⟨b1, b2⟩ := b
    by_cases h : a1 = b1 <;> by_cases h2 : a2 = b2 <;> simp [h, h2]
  can := fun a => by
    show ((E.enc a.1).canLay0 && ((E'.enc a.2).canLay0 && true)) = true
    rw [E.can, E'.can]
    rfl
  dep := fun a => by
    show max (E.enc a.1).depth (max (E'.enc a.2).depth 0) + 1 ≤ _
    have h1 := E.dep a.1
    have h2 := E'.dep a.2
    omega
end
theorem er_eqD [DecidableEq α] {a a' : α} (E : Enc K r) (hd : E.d ≤ 64) (ha : Er r ta σ F a) (hb : Er r tb σ F a') : Er rBl (tOp (rEqD K) ta tb) σ F (decide (a = a')) := fun H1 e Q q =>
  er_two ha hb e fun x y H3 e3 hx hy => by
    refine ⟨E.enc a, E.enc a', E.dp (r.mono (part_sub (e.trans e3)) hx), E.dp (r.mono (part_sub (e.trans e3)) hy), E.shaped hd a, E.shaped hd a', ?_⟩
    rw [E.eqv]
    exact q _ H3 e3 rfl
theorem er_neD [DecidableEq α] {a a' : α} (E : Enc K r) (hd : E.d ≤ 64) (ha : Er r ta σ F a) (hb : Er r tb σ F a') : Er rBl (tOp (rNeD K) ta tb) σ F (!decide (a = a')) := fun H1 e Q q =>
  er_two ha hb e fun x y H3 e3 hx hy => by
    refine ⟨E.enc a, E.enc a', E.dp (r.mono (part_sub (e.trans e3)) hx), E.dp (r.mono (part_sub (e.trans e3)) hy), E.shaped hd a, E.shaped hd a', ?_⟩
    rw [E.eqv]
    exact q _ H3 e3 rfl
variable {D : Ends} {tu tw tz : TS} {g : TG} {i : Nat}
theorem q_asg (h : Er r te σ F a) (e : Ex F H) (k : ∀ v H2, Ex H H2 → r.rel (part F H H2) v a → tz D (σ.set i (some v)) H2) : tSeq (tAsg te (gName i)) tz D σ H := h H e _ k
theorem s_if {b : Bool} (h : EvT t σ F b) (e : Ex F H) (h1 : b = true → ∀ H2, Ex H H2 → tu D σ H2) (h2 : b = false → ∀ H2, Ex H H2 → tw D σ H2) : tIfS t tu tw D σ H := h H e _ fun H2 e2 => by
  cases b with
  | true =>
    show tu D σ H2
    exact h1 rfl H2 e2
  | false =>
    show tw D σ H2
    exact h2 rfl H2 e2
theorem q_if {b : Bool} (h : EvT t σ F b) (e : Ex F H) (h1 : b = true → ∀ H2, Ex H H2 → tu { D with nx := tz D } σ H2) (h2 : b = false → ∀ H2, Ex H H2 → tw { D with nx := tz D } σ H2) : tSeq (tIfS t tu tw) tz D σ H := s_if (D := { D with nx := tz D }) h e h1 h2
theorem s_app (hi : σ[i]? = some (some (.ref p))) (hm : Mu r as F H p) (hl : as.length < 100000) (h : Er r te σ F a) (e : Ex F H)
    (k : ∀ o H2 G, Ex H H2 → Ex F G → Ex G (upd H2 p o) → Mu r (as ++ [a]) G (upd H2 p o) p → (∀ c u, H c = some u → F c = none → G c = none) → D.nx σ (upd H2 p o)) : tDrop (tBM K "list" rAppend (tVar i) (tCons te tNil)) D σ H := by
  obtain ⟨h1, xs, h2, h3⟩ := hm
  refine ⟨_, hi, Or.inl ⟨rfl, xs, SqL.of h2⟩, h H e _ fun v H2 e2 hv => ⟨p, xs, v, rfl, rfl, e2 p _ h2, by rw [h3.len]; exact sz_lt hl, ?_⟩⟩
  have hG : part F H H2 p = none := part_old h1 h2
  exact k (.lst (xs ++ [v])) H2 (part F H H2) e2 part_ex (Ex.mut (part_sub (e.trans e2)) hG) ⟨hG, _, upd_same, Al.snoc (h3.imp fun _ _ k => r.mono part_ex k) hv⟩ fun c o hc hF => part_old hF hc
theorem q_app (hi : σ[i]? = some (some (.ref p))) (hm : Mu r as F H p) (hl : as.length < 100000) (h : Er r te σ F a) (e : Ex F H)
    (k : ∀ o H2 G, Ex H H2 → Ex F G → Ex G (upd H2 p o) → Mu r (as ++ [a]) G (upd H2 p o) p → (∀ c u, H c = some u → F c = none → G c = none) → tz D σ (upd H2 p o)) : tSeq (tDrop (tBM K "list" rAppend (tVar i) (tCons te tNil))) tz D σ H := s_app (D := { D with nx := tz D }) hi hm hl h e k
end
end DL
set_option Elab.async false
set_option linter.all false
set_option maxRecDepth 100000
set_option maxHeartbeats 4000000
namespace DL
open PySem PySem.Spec PyProof.Rows L2 GenW
section
variable {X : Cx}
def tGFor (wi : TI) (g : TG) (tb : TGn) : TGn := fun D ys σ H => wi σ H fun J H1 => ∃ W : Nat → Nat → List V → L2.St → Hp → Prop, (∃ m, W 0 m ys σ H1) ∧ ∀ i m ys σ H, W i m ys σ H →
  (J.stop i H ∧ D.nx ys σ H) ∨ (J.go i H ∧ ∃ N : List V → L2.St → Hp → Prop, (∀ ys' σ' H', N ys' σ' H' → ∃ m', m' < m ∧ W (i + 1) m' ys' σ' H') ∧ ∀ x H', J.yld i H x H' → g x σ H' fun σ2 H2 => tb { D with nx := N, ct := N, bk := D.nx } ys σ2 H2)
theorem seg_runOwn {M : Model} {A : Around} {R : GenEnd} {Y : Protocol} {n : Nat} {s₀ : Shared} {c c' : Code} {fs : List Frame} {s : Shared} {env : Env} {K : Flow → Sem PySem.Fin} {H : Value → Sem PySem.Fin} {gd : Bool → Bool} {lv : List Value → List Value}
    (h : ∀ p, Seg M A R Y n s₀ c' (M.den c') (.ret (fun r => ((match r with | .ok f => (.pure f : Sem Flow) | .error e => .raise e).onRaise (cameBack env)).wrap K H gd lv) none (gd false) (lv []) c p [] :: fs) s) :
    Seg M A R Y n s₀ c ((runOwn c' env).wrap K H gd lv) fs s := seg_call h
theorem gs_for {tg iter : Expr} {body : List Stmt} {wi : TI} {g : TG} {tb : TGn} {pos : Pos} (hp : PassesOwn (model X.prog X.w) X.A X.env X.xe) (hc : X.calm = true) (hi : PI X tg iter wi) (hg : PG X tg g) (hb : GSs X body tb)
    (hs : ∀ x, foldedSetIterable iter X.env x = pure x := by intro _; rfl) : GS X (.For tg iter body [] pos) (tGFor wi g tb) := by
  refine ⟨fun A S ip R n ys s₀ c fs K Jx gd lv s σ H D gc hn k hI ht => ?_⟩
  rw [exec_For]
  refine seg_bind_wrap (wpAny_standAt ?_)
  obtain ⟨acc, cc, r, I⟩ := hI
  refine seg_bind_wrap ?_
  rw [gc.over]
  refine wpAny_mono (hi.run _ s σ H _ I ht) (fun v s1 h1 => ?_) fun x s' hx => k.exc n s₀ x s' hx
  refine seg_bind_wrap (wpAny_of_eq (hs v) ?_)
  refine seg_bind_wrap (wpAny_standAt ?_)
  refine seg_bind_wrap ?_
  rw [gc.over]
  refine wpAny_holding (wpAny_mono h1 (fun itv s2 h2 => ?_) fun x s' hx => k.exc n s₀ x s' hx)
  obtain ⟨it, fp, tn, J, H2, eit, I2, T, st2, f2, W, ⟨m0, w0⟩, turn⟩ := h2
  subst eit
  refine seg_runOwn fun p => ?_
  have gl := fun (ip' : List (Addr × Obj)) (hip : ∀ p ∈ ip', p.1 ≠ S) (kk : Result → Sem PySem.Fin) => gc_loop (k := kk) (c' := .forLoop tg (.ref it) body [] X.env) (l := lv []) (kp := []) (p := p) (ip := ip') ⟨gc.pn, hip, gc.apart, gc.over, gc.split, gc.guard, gc.gd⟩ rfl rfl
  have stat : ∀ {H' : Hp} {acc' : Array Value} {c' : Nat}, (∀ b ∈ fp, H' b = none) → ∀ b ∈ fp, FpOk X ((S, lstObj acc' c') :: ip) H' b := fun hn b hb => by
    obtain ⟨_, q2, q3, q4, q5, q6⟩ := f2 b hb
    refine ⟨hn b hb, q2, q3, q4, q5, fun p hp => ?_⟩
    rcases List.mem_append.mp hp with hp | hp
    · exact q6 p (List.mem_append_left _ hp)
    · rcases List.mem_cons.mp hp with hp | hp
      · rw [hp]
        exact q6 (S, lstObj acc cc) (List.mem_append_right _ List.mem_cons_self)
      · exact q6 p (List.mem_append_right _ (List.mem_cons_of_mem _ hp))
  have hfS : ∀ b ∈ fp, b ≠ S := fun b hb z => by
    obtain ⟨_, _, _, _, _, q6⟩ := f2 b hb
    exact q6 (S, lstObj acc cc) (List.mem_append_right _ List.mem_cons_self) z.symm
  have loop : ∀ (m i n : Nat) (ys : List V) (s₀ s : Shared) (σ : L2.St) (H : Hp), n + ys.length = sizeLine → W i m ys σ H → GI X S ip ys σ H s → tn i s.heap → (∀ b ∈ fp, H b = none) →
      Seg (model X.prog X.w) A R (GY X S) n s₀ (.forLoop tg (.ref it) body [] X.env) ((model X.prog X.w).den (.forLoop tg (.ref it) body [] X.env))
        (.ret (fun r => ((match r with | .ok f => (.pure f : Sem Flow) | .error e => .raise e).onRaise (cameBack X.env)).wrap K Jx gd lv) none (gd false) (lv []) c p [] :: fs) s := by
    intro m
    induction m using Nat.strongRecOn with
    | ind m ih =>
      intro i n ys s₀ s σ H hn w hI st fr
      have ee : ∀ (n : Nat) (s₀ : Shared) (x : Value) (s' : Shared), X.xe x s' → Seg (model X.prog X.w) A R (GY X S) n s₀ (.forLoop tg (.ref it) body [] X.env)
          ((do noteFrame x X.env; theTreesLotGoes x : Sem Unit).wrap (fun _ => .raise x) .raise id id)
          (.ret (fun r => ((match r with | .ok f => (.pure f : Sem Flow) | .error e => .raise e).onRaise (cameBack X.env)).wrap K Jx gd lv) none (gd false) (lv []) c p [] :: fs) s' := fun n s₀ x s' hx => by
        refine seg_wrap ?_
        rw [(gl ip gc.ip _).over]
        refine wpAny_bind (wpAny_mono (hp x s' hx) (fun _ sb back => wpAny_theTreesLotGoes ?_) fun y sb back => ?_)
        · exact seg_leaf (.error x) (seg_cameBack gc k back)
        · exact seg_leaf (.error y) (seg_cameBack gc k back)
      have ee2 : ∀ (n : Nat) (s₀ : Shared) (x : Value) (s' : Shared), X.xe x s' → Seg (model X.prog X.w) A R (GY X S) n s₀ (.forLoop tg (.ref it) body [] X.env)
          ((do noteFrame x X.env; theTreesLotGoes x : Sem Unit).bind (fun _ => .raise x))
          (.ret (fun r => ((match r with | .ok f => (.pure f : Sem Flow) | .error e => .raise e).onRaise (cameBack X.env)).wrap K Jx gd lv) none (gd false) (lv []) c p [] :: fs) s' := fun n s₀ x s' hx => by
        rw [Sem.bind_eq_wrap]
        exact ee n s₀ x s' hx
      obtain ⟨acc, cc, r, I⟩ := hI
      show Seg _ A R (GY X S) n s₀ _ ((forTurn tg (.ref it) body [] X.env).onRaise (fun x => do noteFrame x X.env; theTreesLotGoes x)) _ s
      unfold forTurn
      rw [Sem.onRaise_eq_wrap]
      refine seg_bind_wrap (wpAny_standAt ?_)
      refine seg_bind_wrap ?_
      rw [(gl ip gc.ip _).over]
      refine wpAny_onRaise ?_
      rcases turn i m ys σ H w with ⟨stop, qn⟩ | ⟨go, N, hN, step⟩
      · refine wpAny_mono (T.done X rfl rfl rfl hc i _ s σ H X.xe I (stat fr) st stop) (fun r' s4 ⟨hr, I4⟩ => ?_) fun x s' hx => wpAny_standAt (ee2 n s₀ x s' hx)
        subst hr
        refine seg_again rfl ?_
        exact seg_leaf (.ok .next) (k.ok n ys s₀ s4 .next hn ⟨σ, H, ⟨acc, cc, r, I4⟩, qn⟩)
      · refine wpAny_mono (T.item X rfl rfl rfl hc i _ s σ H X.xe I (stat fr) st go) (fun r' s4 ⟨u, hr, h4⟩ => ?_) fun x s' hx => wpAny_standAt (ee2 n s₀ x s' hx)
        subst hr
        refine seg_bind_wrap ?_
        rw [(gl ip gc.ip _).over]
        refine wpAny_mono h4 (fun _ s5 ⟨x, H5, I5, r5, y5, st5, fr5⟩ => ?_) fun x s' hx => ee2 n s₀ x s' hx
        have J5 := I5.pinned (stat fr5) (T.obj _ _ st5)
        refine seg_bind_wrap ?_
        rw [(gl ip gc.ip _).over]
        refine wpAny_mono (hg.run _ s5 σ H5 x u _ J5 r5 (step x H5 y5)) (fun _ s6 ⟨σ6, H6, I6, q6⟩ => ?_) fun x s' hx => ee2 n s₀ x s' hx
        rw [Sem.bind_eq_wrap', Sem.wrap_wrap]
        have hip : ∀ p ∈ ip ++ pinsAt fp s5.heap, p.1 ≠ S := fun p hp => by
          rcases List.mem_append.mp hp with hp | hp
          · exact gc.ip p hp
          · exact hfS _ (of_pinsAt hp).1
        have back : ∀ {ys7 : List V} {σ7 : L2.St} {H7 : Hp} {s7 : Shared}, GI X S (ip ++ pinsAt fp s5.heap) ys7 σ7 H7 s7 → GI X S ip ys7 σ7 H7 s7 ∧ tn (i + 1) s7.heap ∧ ∀ b ∈ fp, H7 b = none := fun {ys7 σ7 H7 s7} hI7 => by
          obtain ⟨acc7, cc7, r7, I7⟩ := hI7
          have mem : ∀ {b : Addr} {o : Obj}, b ∈ fp → s5.heap.get? b = some o → (b, o) ∈ X.pn ++ (S, lstObj acc7 cc7) :: (ip ++ pinsAt fp s5.heap) := fun hb e => List.mem_append_right _ (List.mem_cons_of_mem _ (List.mem_append_right _ (mem_pinsAt hb e)))
          refine ⟨⟨acc7, cc7, r7, I7.pins_of fun p hp => I7.pin p ?_⟩, T.keep _ _ _ st5 fun b hb o e => (I7.pin (b, o) (mem hb e)).1, fun b hb => ?_⟩
          · rcases List.mem_cons.mp hp with hp | hp
            · rw [hp]
              exact List.mem_append_right _ List.mem_cons_self
            · exact List.mem_append_right _ (List.mem_cons_of_mem _ (List.mem_append_left _ hp))
          · obtain ⟨o, e, d⟩ := T.obj _ _ st5 b hb
            exact (I7.pin (b, o) (mem hb e)).2.1
        refine hb.run A S (ip ++ pinsAt fp s5.heap) R n ys s₀ _ _ _ _ id id s6 σ6 H6 { D with nx := N, ct := N, bk := D.nx } (gl _ hip _) hn ⟨fun n' ys' s₀' s3 f hn' hs => ?_, fun n' s₀' x s3 hx => ee2 n' s₀' x s3 hx⟩ ⟨acc, cc, r, I6⟩ q6
        cases f with
        | next =>
          obtain ⟨σ3, H3, I3, n3⟩ := hs
          obtain ⟨m', less, w3⟩ := hN ys' σ3 H3 n3
          obtain ⟨b1, b2, b3⟩ := back I3
          exact seg_again rfl (ih m' less (i + 1) n' ys' s₀' s3 σ3 H3 hn' w3 b1 b2 b3)
        | cont =>
          obtain ⟨σ3, H3, I3, n3⟩ := hs
          obtain ⟨m', less, w3⟩ := hN ys' σ3 H3 n3
          obtain ⟨b1, b2, b3⟩ := back I3
          exact seg_again rfl (ih m' less (i + 1) n' ys' s₀' s3 σ3 H3 hn' w3 b1 b2 b3)
        | brk =>
          obtain ⟨σ3, H3, I3, n3⟩ := hs
          exact seg_leaf (.ok .next) (k.ok n' ys' s₀' s3 .next hn' ⟨σ3, H3, (back I3).1, n3⟩)
        | ret v =>
          obtain ⟨v3, σ3, H3, I3, r3, n3⟩ := hs
          exact seg_leaf (.ok (.ret v)) (k.ok n' ys' s₀' s3 (.ret v) hn' ⟨v3, σ3, H3, (back I3).1, r3, n3⟩)
  exact loop m0 0 n ys s₀ s2 σ H2 hn w0 ⟨acc, cc, r, I2⟩ st2 fun b hb => (f2 b hb).1
end
end DL
set_option Elab.async false
set_option linter.all false
set_option maxRecDepth 100000
set_option maxHeartbeats 4000000
namespace DL
open PySem L2 Evl
section
variable {α β γ δ : Type} {K : PySem.W.Frag} {σ σ2 : L2.St} {F G H H1 H2 H3 H4 Hc : Hp} {ta tb te tl tx : TE} {t u : TT} {v : V} {r : Rep α} {s : Rep β} {r1 : Rep γ} {a : α} {b : β} {as as' : List α} {bs : List β} {p q D : Addr}
theorem part_elem {o : HO} (eG : Ex G (part F H1 Hc)) (e0 : Ex F H1) (e1 : Ex H1 Hc) (e : Ex Hc H4) (hD : Hc D = some o) (hG : G D = none) : Ex (part G Hc H4) (mns (part F H1 H4) D) := fun q u hq => by
  cases hg : G q with
  | some x =>
    rw [part_in hg] at hq
    have nq : q ≠ D := ne_of_none hg hG
    rw [mns_ne nq, ← hq]
    exact part_up e q x (eG q x hg)
  | none =>
    cases hc : Hc q with
    | some x => rw [part_old hg hc] at hq; cases hq
    | none =>
      rw [part_new hg hc] at hq
      have nq : q ≠ D := fun z => by
        rw [z, hD] at hc
        cases hc
      have n1 : H1 q = none := back_none e1 hc
      rw [mns_ne nq, part_new (back_none e0 n1) n1]
      exact hq
theorem part_put {o : HO} : Ex (mns (part F H1 H4) D) (mns (part F H1 (upd H4 D o)) D) := fun q u hq => by
  have nq : q ≠ D := fun e => by
    rw [e, mns_at] at hq
    cases hq
  rw [mns_ne nq] at hq ⊢
  cases hF : F q with
  | some x => rw [part_in hF] at hq ⊢; exact hq
  | none =>
    cases hH : H1 q with
    | some x => rw [part_old hF hH] at hq; cases hq
    | none =>
      rw [part_new hF hH] at hq ⊢
      rw [upd_ne nq]
      exact hq
variable {D0 : GEnds} {tu tw tz : TGn} {ys : List V}
theorem passG {X : Cx} : Passes (CX X.prog X.w) X E0 := by
  intro pins σ H s e s' I hc
  obtain ⟨_, _, _, _, _, _, _, _, _, _, _, _, hE⟩ := hc
  exact hE.elim
theorem ty_tup {H : Hp} (h : (rTup r).rel H v as) : TyX K H v (.type "tuple") := by
  obtain ⟨p, xs, rfl, hp, _⟩ := h
  exact .base (.tup hp)
theorem ty_int {H : Hp} {n : Int} (h : rInt.rel H v n) : TyX K H v (.type "int") := by
  cases (show v = V.int n from h)
  exact .base (.int n)
theorem ty_bl {H : Hp} {n : Bool} (h : rBl.rel H v n) : TyX K H v (.type "bool") := by
  cases (show v = V.bl n from h)
  exact .base (.bl n)
variable {Dn : Ends} {zz : TS}
end
section
variable {X : Cx} {K : PySem.W.Frag} {tg l : Expr} {tl ta : TE}
theorem pi_listK (hl : PE X l tl) (hK : X.K = K := by rfl) : PI X tg l (iList K tl) := hK ▸ pi_list hl
theorem pt_tru {a : Expr} (ha : PE X a ta) (he : ∀ whole, isTrue a X.env whole = (do let v ← whole; standAt a.pos; holding [v] (truthy v))) (hK : X.K = K := by rfl) : PT X a (tTru K ta) := hK ▸ pt_truth ha he
theorem pg_tupK {es : List Expr} {k : Nat} {t : TGs} {n : Nat} {pos : Pos} (hc : X.calm = true) (h : PGs X es t) (hn : (assignEach es X.env).length = n := by rfl) (hst : (assignEach es X.env).findIdx? (·.1) = none := by rfl) (hK : X.K = K := by rfl) : PG X (.Tuple es k pos) (gTup K n t) := by
  subst hK
  exact pg_tup hc h hn hst
end
end DL
set_option Elab.async false
set_option linter.all false
set_option maxRecDepth 100000
set_option maxHeartbeats 4000000
namespace DL
open PySem PySem.Spec PyProof.Rows L2 Evl
section
variable {prog : Program} {w : World} {A : Around} {E : Value → Shared → Prop} {s : Shared}
end
section
variable {X : Cx}
end
section
variable {K : PySem.W.Frag} {σ : L2.St} {F : Hp} {ta : TE}
end
end DL
set_option Elab.async false
set_option linter.all false
set_option maxRecDepth 100000
set_option maxHeartbeats 4000000
namespace DL
open PySem L2 Evl
structure Wd (F0 H0 G H : Hp) : Prop where
  old : Ex F0 G
  sub : Ex G H
  up : Ex H0 H
  nw : ∀ q u, G q = some u → F0 q = none → H0 q = none
structure Stp (x : Option Addr) (G H G2 H2 : Hp) : Prop where
  fr : Ex G G2
  hp : ∀ c u, H c = some u → ∃ u2, H2 c = some u2 ∧ (some c ≠ x → u2 = u)
  nw : ∀ c u, H c = some u → G c = none → G2 c = none
section
variable {α β γ δ : Type} {K : PySem.W.Frag} {σ σ2 : L2.St} {F0 H0 F G G2 G3 H H1 H2 H3 : Hp} {ta tb te tl : TE} {t : TT} {v : V} {r : Rep α} {s : Rep β} {a : α} {b : β} {as : List α} {bs : List β} {p q : Addr} {x y : Option Addr}
theorem Stp.at (s : Stp x G H G2 H2) {c : Addr} {u : HO} (n : some c ≠ x) (h : H c = some u) : H2 c = some u := by
  obtain ⟨u2, h1, h2⟩ := s.hp c u h
  rw [h1, h2 n]
theorem Stp.ex (s : Stp none G H G2 H2) : Ex H H2 := fun c u h => s.at (fun z => nomatch z) h
theorem Stp.refl : Stp x G H G H := ⟨Ex.refl _, fun _ u h => ⟨u, h, fun _ => rfl⟩, fun _ _ _ h => h⟩
theorem Stp.trans (a : Stp x G H G2 H2) (b : Stp x G2 H2 G3 H3) : Stp x G H G3 H3 := ⟨a.fr.trans b.fr, fun c u h => by
  obtain ⟨u2, h1, h2⟩ := a.hp c u h
  obtain ⟨u3, h3, h4⟩ := b.hp c u2 h1
  exact ⟨u3, h3, fun n => (h4 n).trans (h2 n)⟩, fun c u h n => by
  obtain ⟨u2, h1, _⟩ := a.hp c u h
  exact b.nw c u2 h1 (a.nw c u h n)⟩
theorem Stp.any (a : Stp none G H G2 H2) : Stp x G H G2 H2 := ⟨a.fr, fun c u h => by
  obtain ⟨u2, h1, h2⟩ := a.hp c u h
  exact ⟨u2, h1, fun _ => h2 fun z => nomatch z⟩, a.nw⟩
theorem stp_ev (e : Ex H H2) : Stp none G H (part G H H2) H2 := ⟨part_ex, fun c u h => ⟨u, e c u h, fun _ => rfl⟩, fun c u h n => part_old n h⟩
theorem stp_same (e : Ex H H2) : Stp none G H G H2 := ⟨Ex.refl _, fun c u h => ⟨u, e c u h, fun _ => rfl⟩, fun _ _ _ n => n⟩
theorem stp_new (n : New r as G H H2 p) (e0 : Ex G H) (e : Ex H H2) : Stp none G H (mns (part G H H2) p) H2 := ⟨n.ex e0, fun c u h => ⟨u, e c u h, fun _ => rfl⟩, fun c u h g => by
  by_cases hc : c = p
  · rw [hc, mns_at]
  · rw [mns_ne hc, part_old g h]⟩
theorem Wd.start (e : Ex F H) : Wd F H F H := ⟨Ex.refl _, e, Ex.refl _, fun q u h n => by
  rw [h] at n
  cases n⟩
theorem Wd.step (w : Wd F0 H0 G H) (s : Stp none G H G2 H2) (sub : Ex G2 H2) : Wd F0 H0 G2 H2 := ⟨w.old.trans s.fr, sub, w.up.trans s.ex, fun q u h n => by
  cases h0 : H0 q with
  | none => rfl
  | some z =>
    have hq := w.up q z h0
    cases g : G q with
    | none =>
      rw [s.nw q z hq g] at h
      cases h
    | some y =>
      rw [w.nw q y g n] at h0
      cases h0⟩
theorem Wd.ev (w : Wd F0 H0 G H) (e : Ex H H2) : Wd F0 H0 (part G H H2) H2 := w.step (stp_ev e) (part_sub (w.sub.trans e))
theorem Wd.same (w : Wd F0 H0 G H) (e : Ex H H2) : Wd F0 H0 G H2 := w.step (stp_same e) (w.sub.trans e)
theorem Wd.new (w : Wd F0 H0 G H) (n : New r as G H H2 p) (e : Ex H H2) : Wd F0 H0 (mns (part G H H2) p) H2 := w.step (stp_new n w.sub e) (n.sub w.sub e)
theorem Wd.put (w : Wd F0 H0 G H) {o : HO} (hG : G p = none) (h0 : H0 p = none) : Wd F0 H0 G (upd H p o) := ⟨w.old, Ex.mut w.sub hG, Ex.mut w.up h0, w.nw⟩
theorem Wd.into (w : Wd F0 H0 G H) : Ex G (part F0 H0 H) := fun q u h => by
  cases f : F0 q with
  | some z =>
    rw [part_in f, ← h]
    exact (w.old q z f).symm
  | none =>
    rw [part_new f (w.nw q u h f)]
    exact w.sub q u h
theorem Wd.out (w : Wd F0 H0 G H) (h : r.rel (part G H H2) v a) (e : Ex H H2) : r.rel (part F0 H0 H2) v a := r.mono ((w.ev e).into) h
theorem Mu.step (h : Mu r as G H p) (s : Stp x G H G2 H2) (n : some p ≠ x) : Mu r as G2 H2 p := by
  obtain ⟨h1, xs, h2, h3⟩ := h
  exact ⟨s.nw p _ h2 h1, xs, s.at n h2, h3.imp fun _ _ k => r.mono s.fr k⟩
theorem Mu.go (h : Mu r as G H p) (s : Stp none G H G2 H2) : Mu r as G2 H2 p := h.step s fun z => nomatch z
variable {D : Ends} {tu tw tz : TS} {g : TG} {i : Nat}
end
end DL
set_option Elab.async false
set_option linter.all false
set_option maxRecDepth 100000
set_option maxHeartbeats 4000000
namespace DL
open PySem PySem.Spec PySem.W PySem.Calls PyProof.Rows L2 Evl
def rkA (p : Pos) : Arguments := { posonlyargs := [], args := [{ arg := "item", annotation := none, pos := p }], vararg := none, kwonlyargs := [], kw_defaults := [], kwarg := none, defaults := [] }
def rkB (k1 k2 : Nat) (p1 p2 p3 p4 p5 p6 p7 p8 p9 p10 : Pos) : List Stmt :=
  [.Assign [.Tuple [.Name "worth" p1, .Name "lot" p2] k1 p3] (.Name "item" p4) p5,
   .Return (some (.Tuple [.UnaryOp .USub (.Name "worth" p6) p7, .Name "lot" p8] k2 p9)) p10]
def rkS : Scope := { kind := .function, names := [(PySem.Str.ofString "item", .local), (PySem.Str.ofString "worth", .local), (PySem.Str.ofString "lot", .local)], isGenerator := false, isCoroutine := false, more := [] }
def keyOf (w : Int) (ls : List Int) : PyData := .tuple [.int (-w), .tuple (ls.map .int)]
section
variable {prog : Program} {wo : World} {A : Around} {s : Shared} {K : Frag} {f : Addr} {fd : FuncData} {st : Stmt}
end
abbrev Itm := Int × List Int
def rkLt (x y : Itm) : Prop := y.1 < x.1 ∨ (x.1 = y.1 ∧ x.2 < y.2)
instance (x y : Itm) : Decidable (rkLt x y) := inferInstanceAs (Decidable (_ ∨ _))
section
variable {X : Cx} {f : Addr} {fd : FuncData} {st : Stmt}
structure IsRank (K : Frag) (f : Addr) : Prop where
  ex : ∃ (st : Stmt) (fd : FuncData) (pa : Pos) (k1 k2 : Nat) (p1 p2 p3 p4 p5 p6 p7 p8 p9 p10 : Pos), Fun K "rank" "rank" st f fd ∧ defArgs st = rkA pa ∧ defBody st = rkB k1 k2 p1 p2 p3 p4 p5 p6 p7 p8 p9 p10 ∧ defScope st = rkS
end
section
variable {K : Frag} {σ : L2.St} {F : Hp} {ta : TE} {f : Addr}
end
end DL
set_option Elab.async false
set_option linter.all false
set_option maxRecDepth 100000
set_option maxHeartbeats 4000000
namespace DL
open PySem L2 Evl
section
variable {α β γ δ : Type} {K : PySem.W.Frag} {σ σ2 : L2.St} {F0 H0 F G G2 G3 H H1 H2 H3 : Hp} {ta tb te tl : TE} {t c : TT} {v : V} {r : Rep α} {s : Rep β} {a : α} {b : β} {as : List α} {bs : List β} {p q : Addr} {x y : Option Addr} {D : Ends} {tu tw tz : TS} {g : TG} {i : Nat}
theorem Wd.back (w : Wd F0 H0 G H) (w2 : Wd F0 H0 G2 H2) (e : Ex G G2) : Wd F0 H0 G H2 := ⟨w.old, e.trans w2.sub, w2.up, w.nw⟩
def rIns : V → List V → Hp → VK → Prop := fun x vs H Q => ∃ (l : Addr) (xs : List V) (i : Int) (y : V), x = .ref l ∧ vs = [.int i, y] ∧ H l = some (.lst xs) ∧ xs.length < sizeLine ∧ 0 ≤ i ∧ i < 2 ^ 63 ∧
    Q .non (upd H l (.lst (xs.take i.toNat ++ [y] ++ xs.drop i.toNat)))
theorem Al.re {R : V → α → Prop} {S : V → β → Prop} {f : β → α} (h : ∀ v c, R v (f c) → S v c) : ∀ {xs : List V} {cs : List β}, Al R xs (cs.map f) → Al S xs cs
  | _, [], h1 => by
    cases h1
    exact .nil
  | _, c :: cs, h1 => by
    rw [List.map_cons] at h1
    cases h1 with
    | cons h2 t => exact .cons (h _ _ h2) (Al.re h t)
theorem lexLt_dec : ∀ xs ys : List Int, HT.lexLt xs ys = decide (xs < ys)
  | [], [] => by simp [HT.lexLt]
  | [], y :: ys => by simp [HT.lexLt]
  | x :: xs, [] => by simp [HT.lexLt]
  | x :: xs, y :: ys => by
    rw [HT.lexLt_cons, lexLt_dec xs ys]
    by_cases h : x = y
    · subst h
      simp [List.cons_lt_cons_iff]
    · by_cases h2 : x < y
      · simp [List.cons_lt_cons_iff, h, h2]
      · simp [List.cons_lt_cons_iff, h, h2]
theorem er_ltT {xs ys : List Int} (ha : Er (rTup rInt) ta σ F xs) (hb : Er (rTup rInt) tb σ F ys) : Er rBl (tOp (rLtT K) ta tb) σ F (decide (xs < ys)) := fun H1 e Q q =>
  ha H1 e _ fun v H2 e2 ⟨p, zs, hx, hp, hal⟩ => hb H2 (e.trans e2) _ fun u H3 e3 ⟨p2, zs2, hx2, hp2, hal2⟩ => by
    rw [rel_ints hal] at hp
    rw [rel_ints hal2] at hp2
    have h1 := (part_sub (e.trans e2)) p _ hp
    have h2 := (part_sub (e.trans (e2.trans e3))) p2 _ hp2
    refine ⟨p, p2, xs, ys, hx, hx2, SqT.of (e3 _ _ h1), SqT.of h2, ?_⟩
    rw [lexLt_dec]
    exact q _ H3 (e2.trans e3) rfl
end
end DL
set_option Elab.async false
set_option linter.all false
set_option maxRecDepth 100000
set_option maxHeartbeats 4000000
namespace DLT
open PySem PySem.Spec PyProof.Rows L2
def IteT (K : PySem.W.Frag) (a : Addr) : It where
  go := fun i H => ∃ xs x, SqT K H a xs ∧ xs[i]? = some x
  yld := fun i H v H' => ∃ (T : Addr) (x : V), v = .ref T ∧ H T = none ∧ H' = upd H T (.tup [.int (i : Nat), x]) ∧ ∀ xs, SqT K H a xs → xs[i]? = some x
  stop := fun i H => ∃ xs, SqT K H a xs ∧ xs.length = i
def iEnumT (K : PySem.W.Frag) (ta : TA) : TI := fun σ H R => ta σ H fun vs H1 => ∃ a xs, vs = [.ref a] ∧ SqT K H1 a xs ∧ R (IteT K a) H1
def ItzM (K : PySem.W.Frag) (a b : Addr) : It where
  go := fun i H => ∃ xs ys x y, SqL K H a xs ∧ SqT K H b ys ∧ xs[i]? = some x ∧ ys[i]? = some y
  yld := fun i H v H' => ∃ (T : Addr) (x y : V), v = .ref T ∧ H T = none ∧ H' = upd H T (.tup [x, y]) ∧ (∀ xs, SqL K H a xs → xs[i]? = some x) ∧ ∀ ys, SqT K H b ys → ys[i]? = some y
  stop := fun i H => ∃ xs ys, SqL K H a xs ∧ SqT K H b ys ∧ i = min xs.length ys.length
def iZipM (K : PySem.W.Frag) (ta : TA) : TI := fun σ H R => ta σ H fun vs H1 => ∃ a b xs ys, vs = [.ref a, .ref b] ∧ SqL K H1 a xs ∧ SqT K H1 b ys ∧ R (ItzM K a b) H1
end DLT
namespace DL
open PySem L2 Evl DLT
section
variable {α β : Type} {K : PySem.W.Frag} {σ : L2.St} {F : Hp} {ta : TA} {r : Rep α} {s : Rep β} {as : List α} {bs : List β}
theorem src_enumT (h : Ea (A1 (rTup r) as) ta σ F) : Src (iEnumT K ta) σ F (rPair rInt r) (List.zip (rng 0 as.length) as) := fun H1 e R k => h H1 e _ fun vs H2 e2 ⟨v, hv, p, xs, hv2, hp, ha⟩ => by
  subst hv2
  refine ⟨p, xs, hv, SqT.of (part_sub (e.trans e2) p _ hp), k _ H2 e2 ?_⟩
  have hl : (List.zip (rng 0 as.length) as).length = xs.length := by rw [List.length_zip, rng_len, Nat.min_self, ha.len]
  rw [hl]
  refine ⟨fun i H hi eG => ⟨xs, xs[i], SqT.of (eG p _ hp), List.getElem?_eq_getElem hi⟩, fun H eG => ⟨xs, SqT.of (eG p _ hp), rfl⟩, fun i H x H' hi eG ⟨T, y, y1, y2, y3, y4⟩ => ?_⟩
  subst y1
  subst y3
  obtain ⟨a, h1, h2⟩ := ha.get (y4 xs (SqT.of (eG p _ hp)))
  refine ⟨Ex.new y2, ((0 : Int) + (i : Int), a), ?_, pair_new eG y2 ?_ h2⟩
  · rw [List.getElem?_zip_eq_some]
    exact ⟨rng_get (by rw [← ha.len]; exact hi), h1⟩
  · show V.int _ = V.int ((0 : Int) + (i : Int))
    rw [Int.zero_add]
theorem src_zipM (h : Ea (A2 (rLst r) (rTup s) as bs) ta σ F) : Src (iZipM K ta) σ F (rPair r s) (List.zip as bs) := fun H1 e R k => h H1 e _ fun vs H2 e2 ⟨v, w, hv, ⟨p, xs, hv2, hp, ha⟩, ⟨q, ys, hw2, hq, hb⟩⟩ => by
  subst hv2 hw2
  refine ⟨p, q, xs, ys, hv, SqL.of (part_sub (e.trans e2) p _ hp), SqT.of (part_sub (e.trans e2) q _ hq), k _ H2 e2 ?_⟩
  have hl : (List.zip as bs).length = min xs.length ys.length := by rw [List.length_zip, ha.len, hb.len]
  rw [hl]
  refine ⟨fun i H hi eG => ⟨xs, ys, xs[i]'(by omega), ys[i]'(by omega), SqL.of (eG p _ hp), SqT.of (eG q _ hq), List.getElem?_eq_getElem _, List.getElem?_eq_getElem _⟩, fun H eG => ⟨xs, ys, SqL.of (eG p _ hp), SqT.of (eG q _ hq), rfl⟩, fun i H x H' hi eG ⟨T, y, z, y1, y2, y3, y4, y5⟩ => ?_⟩
  subst y1
  subst y3
  obtain ⟨a, h1, h2⟩ := ha.get (y4 xs (SqL.of (eG p _ hp)))
  obtain ⟨b, h3, h4⟩ := hb.get (y5 ys (SqT.of (eG q _ hq)))
  refine ⟨Ex.new y2, (a, b), ?_, pair_new eG y2 h2 h4⟩
  rw [List.getElem?_zip_eq_some]
  exact ⟨h1, h3⟩
end
section
open DLT
variable {X : Cx} {K : PySem.W.Frag}
end
end DL
set_option Elab.async false
set_option linter.all false
set_option maxRecDepth 100000
set_option maxHeartbeats 2000000
namespace Q
open PySem L2 Evl DL
structure Fm where
  F : Hp
  B : Hp
def Fm.le (φ ψ : Fm) : Prop := Ex φ.F ψ.F ∧ Ex φ.B ψ.B
def Fm.In (φ : Fm) (H : Hp) : Prop := Ex φ.F H ∧ Ex φ.B H
def Fm.go (φ : Fm) (H1 H2 : Hp) : Fm := ⟨part φ.F H1 H2, φ.B⟩
section
variable {φ ψ χ : Fm} {H H' H1 H2 H3 H4 : Hp}
theorem Fm.le.refl (φ : Fm) : φ.le φ := ⟨Ex.refl _, Ex.refl _⟩
theorem Fm.le.trans (a : φ.le ψ) (b : ψ.le χ) : φ.le χ := ⟨a.1.trans b.1, a.2.trans b.2⟩
theorem Fm.In.trans (h : φ.In H) (e : Ex H H') : φ.In H' := ⟨h.1.trans e, h.2.trans e⟩
theorem Fm.le.In (l : φ.le ψ) (h : ψ.In H) : φ.In H := ⟨l.1.trans h.1, l.2.trans h.2⟩
theorem Fm.go_le : φ.le (φ.go H1 H2) := ⟨part_ex, Ex.refl _⟩
theorem Fm.go_in (h : φ.In H1) (e : Ex H1 H2) : (φ.go H1 H2).In H2 := ⟨part_sub (h.1.trans e), h.2.trans e⟩
theorem Fm.up (e : Ex H2 H3) : (φ.go H1 H2).le (φ.go H1 H3) := ⟨part_up e, Ex.refl _⟩
theorem Fm.back (e : Ex H1 H2) : (φ.go H2 H3).le (φ.go H1 H3) := ⟨part_back e, Ex.refl _⟩
theorem Fm.frame (l : φ.le ψ) (h : ψ.In H1) : (φ.go H1 H2).le (ψ.go H1 H2) := ⟨part_frame l.1 h.1, l.2⟩
end
structure AR (α : Type) where
  rel : Fm → V → α → Prop
  mono : ∀ {φ ψ : Fm} {v : V} {a : α}, φ.le ψ → rel φ v a → rel ψ v a
def pr {α : Type} (r : Rep α) : AR α := ⟨fun φ => r.rel φ.F, fun l h => r.mono l.1 h⟩
section
variable {α β γ δ : Type}
def rB (r : AR α) : AR (List α) := ⟨fun φ v as => ∃ p xs, v = .ref p ∧ (φ.B p = some (.lst xs) ∨ φ.F p = some (.lst xs)) ∧ Al (r.rel φ) xs as, fun l ⟨p, xs, h, hq, ha⟩ => ⟨p, xs, h, hq.imp (l.2 _ _) (l.1 _ _), ha.imp fun _ _ k => r.mono l k⟩⟩
end
def cut (H : Hp) (fp : List Addr) : Hp := fun q => if q ∈ fp then none else H q
section
variable {F G G2 H H1 H2 H3 : Hp} {fp fp' : List Addr} {q : Addr} {o : HO}
theorem cut_nil : cut H [] = H := by
  funext q
  unfold cut
  rw [if_neg (by simp)]
theorem cut_in (h : q ∈ fp) : cut H fp q = none := by
  unfold cut
  rw [if_pos h]
theorem cut_out (h : q ∉ fp) : cut H fp q = H q := by
  unfold cut
  rw [if_neg h]
theorem cut_sub : Ex (cut H fp) H := fun q o h => by
  by_cases hq : q ∈ fp
  · rw [cut_in hq] at h
    cases h
  · rw [cut_out hq] at h
    exact h
theorem ex_cut (e : Ex F H) (h : ∀ p ∈ fp, F p = none) : Ex F (cut H fp) := fun q o hq => by
  by_cases hm : q ∈ fp
  · rw [h q hm] at hq
    cases hq
  · rw [cut_out hm]
    exact e q o hq
theorem cut_up (e : Ex H H1) : Ex (cut H fp) (cut H1 fp) := ex_cut (cut_sub.trans e) fun p hp => cut_in hp
end
structure OR (α : Type) where
  rel : Hp → Hp → List Addr → V → α → Prop
  mono : ∀ {G G' H H' : Hp} {fp : List Addr} {v : V} {a : α}, Ex G G' → (∀ p ∈ fp, ∀ o, H p = some o → H' p = some o) → rel G H fp v a → rel G' H' fp v a
  ins : ∀ {G H : Hp} {fp : List Addr} {v : V} {a : α}, rel G H fp v a → ∀ p ∈ fp, ∃ o, H p = some o
  nd : ∀ {G H : Hp} {fp : List Addr} {v : V} {a : α}, rel G H fp v a → fp.Nodup
  view : AR α
  look : ∀ {G H : Hp} {fp : List Addr} {v : V} {a : α}, rel G H fp v a → view.rel ⟨G, H⟩ v a
  frz : Rep α
  frzs : ∀ {G G' H : Hp} {fp : List Addr} {v : V} {a : α}, rel G H fp v a → Ex G G' → (∀ p ∈ fp, ∀ o, H p = some o → G' p = some o) → frz.rel G' v a
section
variable {α β γ δ : Type}
def oPr (r : Rep α) : OR α where
  rel := fun G _ fp v a => fp = [] ∧ r.rel G v a
  mono := fun e _ h => ⟨h.1, r.mono e h.2⟩
  ins := fun h p hp => by
    rw [h.1] at hp
    cases hp
  nd := fun h => by
    rw [h.1]
    exact .nil
  view := pr r
  look := fun h => h.2
  frz := r
  frzs := fun h e _ => r.mono e h.2
def oV (r : Rep α) : OR (List α) where
  rel := fun G H fp v as => ∃ p xs, v = .ref p ∧ fp = [p] ∧ H p = some (.lst xs) ∧ Al (r.rel G) xs as
  mono := fun e h ⟨p, xs, h1, h2, h3, h4⟩ => ⟨p, xs, h1, h2, h p (by rw [h2]; exact List.mem_singleton.mpr rfl) _ h3, h4.imp fun _ _ k => r.mono e k⟩
  ins := fun ⟨p, xs, h1, h2, h3, h4⟩ q hq => by
    rw [h2] at hq
    rw [List.mem_singleton.mp hq]
    exact ⟨_, h3⟩
  nd := fun ⟨p, xs, h1, h2, h3, h4⟩ => by
    rw [h2]
    exact List.nodup_cons.mpr ⟨by simp, .nil⟩
  view := rB (pr r)
  look := fun ⟨p, xs, h1, h2, h3, h4⟩ => ⟨p, xs, h1, .inl h3, h4⟩
  frz := rLst r
  frzs := fun ⟨p, xs, h1, h2, h3, h4⟩ e k => ⟨p, xs, h1, k p (by rw [h2]; exact List.mem_singleton.mpr rfl) _ h3, h4.imp fun _ _ z => r.mono e z⟩
inductive Al3 {α : Type} (R : V → List Addr → α → Prop) : List V → List (List Addr) → List α → Prop
  | nil : Al3 R [] [] []
  | cons {v : V} {f : List Addr} {a : α} {vs : List V} {fs : List (List Addr)} {as : List α} : R v f a → Al3 R vs fs as → Al3 R (v :: vs) (f :: fs) (a :: as)
theorem Al3.imp {R R' : V → List Addr → α → Prop} : ∀ {vs : List V} {fs : List (List Addr)} {as : List α}, (∀ v f a, f ∈ fs → R v f a → R' v f a) → Al3 R vs fs as → Al3 R' vs fs as
  | _, _, _, _, .nil => .nil
  | _, _, _, h, .cons k t => .cons (h _ _ _ List.mem_cons_self k) (Al3.imp (fun v f a hf => h v f a (List.mem_cons_of_mem _ hf)) t)
theorem Al3.al {R : V → List Addr → α → Prop} {R' : V → α → Prop} : ∀ {vs : List V} {fs : List (List Addr)} {as : List α}, (∀ v f a, f ∈ fs → R v f a → R' v a) → Al3 R vs fs as → Al R' vs as
  | _, _, _, _, .nil => .nil
  | _, _, _, h, .cons k t => .cons (h _ _ _ List.mem_cons_self k) (Al3.al (fun v f a hf => h v f a (List.mem_cons_of_mem _ hf)) t)
theorem Al3.len : ∀ {R : V → List Addr → α → Prop} {vs : List V} {fs : List (List Addr)} {as : List α}, Al3 R vs fs as → vs.length = as.length
  | _, _, _, _, .nil => rfl
  | _, _, _, _, .cons _ t => by rw [List.length_cons, List.length_cons, Al3.len t]
theorem Al3.app {R : V → List Addr → α → Prop} : ∀ {vs ws : List V} {fs gs : List (List Addr)} {as bs : List α}, Al3 R vs fs as → Al3 R ws gs bs → Al3 R (vs ++ ws) (fs ++ gs) (as ++ bs)
  | _, _, _, _, _, _, .nil, h => h
  | _, _, _, _, _, _, .cons h t, k => .cons h (Al3.app t k)
theorem Al3.ins {R : V → List Addr → α → Prop} {H : Hp} (hi : ∀ v f a, R v f a → ∀ p ∈ f, ∃ o, H p = some o) : ∀ {vs : List V} {fs : List (List Addr)} {as : List α}, Al3 R vs fs as → ∀ q ∈ fs.flatten, ∃ o, H q = some o
  | _, _, _, .nil, q, hq => by cases hq
  | _, _, _, .cons k t, q, hq => by
    rw [List.flatten_cons] at hq
    rcases List.mem_append.mp hq with hq | hq
    · exact hi _ _ _ k q hq
    · exact Al3.ins hi t q hq
end
def Er {α : Type} (r : AR α) (te : TE) (σ : L2.St) (φ : Fm) (a : α) : Prop := ∀ H1, φ.In H1 → ∀ Q : VK, (∀ v H2, Ex H1 H2 → r.rel (φ.go H1 H2) v a → Q v H2) → te σ H1 Q
def Eo {α : Type} (o : OR α) (te : TE) (σ : L2.St) (φ : Fm) (a : α) : Prop := ∀ H1, φ.In H1 → ∀ Q : VK, (∀ v H2 fp, Ex H1 H2 → (∀ p ∈ fp, H1 p = none) → o.rel (cut (part φ.F H1 H2) fp) H2 fp v a → Q v H2) → te σ H1 Q
def Et (tt : TT) (σ : L2.St) (φ : Fm) (b : Bool) : Prop := ∀ H1, φ.In H1 → ∀ Q : Bool → Hp → Prop, (∀ H2, Ex H1 H2 → Q b H2) → tt σ H1 Q
def Ea (P : Fm → List V → Prop) (ta : TA) (σ : L2.St) (φ : Fm) : Prop := ∀ H1, φ.In H1 → ∀ Q : List V → Hp → Prop, (∀ vs H2, Ex H1 H2 → P (φ.go H1 H2) vs → Q vs H2) → ta σ H1 Q
def EvOp (to : TO) (σ : L2.St) (φ : Fm) (o : Option Int) : Prop := ∀ H1, φ.In H1 → ∀ Q : Option Int → Hp → Prop, (∀ H2, Ex H1 H2 → Q o H2) → to σ H1 Q
section
variable {α β γ δ : Type} {K : PySem.W.Frag} {σ : L2.St} {φ ψ : Fm} {H H1 H2 H3 : Hp} {ta tb te tx : TE} {t u : TT} {v : V} {r : AR α} {s : AR β} {rr : Rep α} {a : α} {b : β} {as : List α} {o : OR α}
theorem Er.mono (l : φ.le ψ) (h : Er r te σ φ a) : Er r te σ ψ a := fun H1 e Q q => h H1 (l.In e) Q fun v H2 e2 k => q v H2 e2 (r.mono (Fm.frame l e) k)
theorem Et.mono {b : Bool} (l : φ.le ψ) (h : Et t σ φ b) : Et t σ ψ b := fun H1 e Q q => h H1 (l.In e) Q q
theorem Er.is {a' : α} (h : Er r te σ φ a) (e : a = a') : Er r te σ φ a' := e ▸ h
theorem Er.to (h : Er r te σ φ a) (f : ∀ ψ v, r.rel ψ v a → s.rel ψ v b) : Er s te σ φ b := fun H1 e Q q => h H1 e Q fun v H2 e2 k => q v H2 e2 (f _ _ k)
theorem part_fr {F : Hp} {fp : List Addr} {p : Addr} {o : HO} (e : Ex F H1) (hf : ∀ p ∈ fp, H1 p = none) (hp : p ∈ fp) (h : H2 p = some o) : part F H1 H2 p = some o := by
  rw [part_new (back_none e (hf p hp)) (hf p hp)]
  exact h
theorem Eo.er (h : Eo o te σ φ a) : Er (pr o.frz) te σ φ a := fun H1 e Q q => h H1 e Q fun v H2 fp e2 hf k => q v H2 e2 (o.frzs k cut_sub fun p hp u hu => part_fr e.1 hf hp hu)
theorem Er.eo (h : Er (pr rr) te σ φ a) : Eo (oPr rr) te σ φ a := fun H1 e Q q => h H1 e Q fun v H2 e2 k => q v H2 [] e2 (fun p hp => by cases hp) ⟨rfl, by rw [cut_nil]; exact k⟩
theorem er_bor (h : Er (pr (rLst rr)) te σ φ as) : Er (rB (pr rr)) te σ φ as := h.to fun ψ v ⟨p, xs, h1, h2, h3⟩ => ⟨p, xs, h1, .inr h2, h3⟩
theorem er_int {i : Int} : Er (pr rInt) (tC (.int i)) σ φ i := fun H1 _ _ q => q _ H1 (Ex.refl H1) rfl
theorem er_bl {i : Bool} : Er (pr rBl) (tC (.bl i)) σ φ i := fun H1 _ _ q => q _ H1 (Ex.refl H1) rfl
theorem er_str {i : Str} : Er (pr rStr) (tC (.str i)) σ φ i := fun H1 _ _ q => q _ H1 (Ex.refl H1) rfl
theorem er_nonO : Er (pr (rOpt rr)) (tC .non) σ φ none := fun H1 _ _ q => q _ H1 (Ex.refl H1) rfl
theorem er_some (h : Er (pr rr) te σ φ a) : Er (pr (rOpt rr)) te σ φ (some a) := h.to fun _ _ k => k
theorem er_two {R : V → V → Hp → Prop} (ha : Er r ta σ φ a) (hb : Er s tb σ φ b) (h : φ.In H1) (q : ∀ x y H3, Ex H1 H3 → r.rel (φ.go H1 H3) x a → s.rel (φ.go H1 H3) y b → R x y H3) : ta σ H1 fun x H2 => tb σ H2 fun y H3 => R x y H3 :=
  ha H1 h _ fun x H2 e2 k1 => hb H2 (h.trans e2) _ fun y H3 e3 k2 => q x y H3 (e2.trans e3) (r.mono (Fm.up e3) k1) (s.mono (Fm.back e2) k2)
section
variable {i j : Int}
theorem er_I0 {f : Int → Int → Int} (ha : Er (pr rInt) ta σ φ i) (hb : Er (pr rInt) tb σ φ j) : Er (pr rInt) (tOp (rI0 fun i j => .int (f i j)) ta tb) σ φ (f i j) := fun H1 e Q q =>
  er_two ha hb e fun x y H3 e3 k1 k2 => ⟨i, j, k1, k2, q _ H3 e3 rfl⟩
theorem er_I {C : Int → Int → Prop} {f : Int → Int → Int} (ha : Er (pr rInt) ta σ φ i) (hb : Er (pr rInt) tb σ φ j) (hc : C i j) : Er (pr rInt) (tOp (rI C fun i j => .int (f i j)) ta tb) σ φ (f i j) := fun H1 e Q q =>
  er_two ha hb e fun x y H3 e3 k1 k2 => ⟨i, j, k1, k2, hc, q _ H3 e3 rfl⟩
theorem er_cmp {f : Int → Int → Bool} (ha : Er (pr rInt) ta σ φ i) (hb : Er (pr rInt) tb σ φ j) : Er (pr rBl) (tOp (rI0 fun i j => .bl (f i j)) ta tb) σ φ (f i j) := fun H1 e Q q =>
  er_two ha hb e fun x y H3 e3 k1 k2 => ⟨i, j, k1, k2, q _ H3 e3 rfl⟩
theorem er_neg (ha : Er (pr rInt) ta σ φ i) : Er (pr rInt) (tUn (rU fun i => .int (-i)) ta) σ φ (-i) := fun H1 e Q q => ha H1 e _ fun x H2 e2 k => ⟨i, k, q _ H2 e2 rfl⟩
theorem er_eqI (ha : Er (pr rInt) ta σ φ i) (hb : Er (pr rInt) tb σ φ j) : Er (pr rBl) (tOp rEq ta tb) σ φ (decide (i = j)) := fun H1 e Q q =>
  er_two ha hb e fun x y H3 e3 k1 k2 => by
    cases (show x = V.int i from k1)
    cases (show y = V.int j from k2)
    refine ⟨rfl, ?_⟩
    rw [show decide (V.int i = V.int j) = decide (i = j) from decide_eq_decide.mpr ⟨fun z => V.int.inj z, fun z => congrArg V.int z⟩]
    exact q _ H3 e3 rfl
theorem er_neI (ha : Er (pr rInt) ta σ φ i) (hb : Er (pr rInt) tb σ φ j) : Er (pr rBl) (tOp rNe ta tb) σ φ (!decide (i = j)) := fun H1 e Q q =>
  er_two ha hb e fun x y H3 e3 k1 k2 => by
    cases (show x = V.int i from k1)
    cases (show y = V.int j from k2)
    refine ⟨rfl, ?_⟩
    rw [show decide (V.int i = V.int j) = decide (i = j) from decide_eq_decide.mpr ⟨fun z => V.int.inj z, fun z => congrArg V.int z⟩]
    exact q _ H3 e3 rfl
end
theorem er_eqB {i j : Bool} (ha : Er (pr rBl) ta σ φ i) (hb : Er (pr rBl) tb σ φ j) : Er (pr rBl) (tOp rEq ta tb) σ φ (decide (i = j)) := fun H1 e Q q =>
  er_two ha hb e fun x y H3 e3 k1 k2 => by
    cases (show x = V.bl i from k1)
    cases (show y = V.bl j from k2)
    refine ⟨rfl, ?_⟩
    rw [show decide (V.bl i = V.bl j) = decide (i = j) from decide_eq_decide.mpr ⟨fun z => V.bl.inj z, fun z => congrArg V.bl z⟩]
    exact q _ H3 e3 rfl
theorem er_neB {i j : Bool} (ha : Er (pr rBl) ta σ φ i) (hb : Er (pr rBl) tb σ φ j) : Er (pr rBl) (tOp rNe ta tb) σ φ (!decide (i = j)) := fun H1 e Q q =>
  er_two ha hb e fun x y H3 e3 k1 k2 => by
    cases (show x = V.bl i from k1)
    cases (show y = V.bl j from k2)
    refine ⟨rfl, ?_⟩
    rw [show decide (V.bl i = V.bl j) = decide (i = j) from decide_eq_decide.mpr ⟨fun z => V.bl.inj z, fun z => congrArg V.bl z⟩]
    exact q _ H3 e3 rfl
theorem et_test {b : Bool} (h : Er (pr rBl) te σ φ b) : Et (tTest te) σ φ b := fun H1 e _ q => h H1 e _ fun v H2 e2 k => ⟨b, k, q H2 e2⟩
theorem et_B {b : Bool} (h : Er (pr rBl) te σ φ b) : Et (tB te) σ φ b := fun H1 e _ q => h H1 e _ fun v H2 e2 k => ⟨b, k, q H2 e2⟩
theorem et_yes : Et tYes σ φ true := fun H1 _ _ q => q H1 (Ex.refl H1)
theorem et_not {a : Bool} (h1 : Et t σ φ a) : Et (tNot t) σ φ (!a) := fun H1 e _ q => h1 H1 e _ fun H2 e2 => q H2 e2
theorem et_and {a : Bool} {ob : Option Bool} {x : Bool} (h1 : Et t σ φ a) (h2 : ∀ b, ob = some b → Et u σ φ b) (hx : (if a = true then ob else some false) = some x) : Et (tAnd t u) σ φ x := fun H1 e Q q => h1 H1 e _ fun H2 e2 => by
  cases a with
  | true =>
    show u σ H2 Q
    exact h2 x hx H2 (e.trans e2) Q fun H3 e3 => q H3 (e2.trans e3)
  | false =>
    cases hx
    show Q false H2
    exact q H2 e2
theorem et_or {a : Bool} {ob : Option Bool} {x : Bool} (h1 : Et t σ φ a) (h2 : ∀ b, ob = some b → Et u σ φ b) (hx : (if a = true then some true else ob) = some x) : Et (tOr t u) σ φ x := fun H1 e Q q => h1 H1 e _ fun H2 e2 => by
  cases a with
  | true =>
    cases hx
    show Q true H2
    exact q H2 e2
  | false =>
    show u σ H2 Q
    exact h2 x hx H2 (e.trans e2) Q fun H3 e3 => q H3 (e2.trans e3)
theorem er_andV {a : Bool} {ob : Option Bool} {x : Bool} (h1 : Er (pr rBl) ta σ φ a) (h2 : ∀ b, ob = some b → Er (pr rBl) tb σ φ b) (hx : (if a = true then ob else some false) = some x) : Er (pr rBl) (tAndV ta tb) σ φ x := fun H1 e Q q => h1 H1 e _ fun v H2 e2 k => ⟨a, k, by
  cases a with
  | true =>
    show tb σ H2 Q
    exact h2 x hx H2 (e.trans e2) Q fun v H3 e3 k => q v H3 (e2.trans e3) k
  | false =>
    cases hx
    show Q (.bl false) H2
    exact q _ H2 e2 rfl⟩
theorem er_orV {a : Bool} {ob : Option Bool} {x : Bool} (h1 : Er (pr rBl) ta σ φ a) (h2 : ∀ b, ob = some b → Er (pr rBl) tb σ φ b) (hx : (if a = true then some true else ob) = some x) : Er (pr rBl) (tOrV ta tb) σ φ x := fun H1 e Q q => h1 H1 e _ fun v H2 e2 k => ⟨a, k, by
  cases a with
  | true =>
    cases hx
    show Q (.bl true) H2
    exact q _ H2 e2 rfl
  | false =>
    show tb σ H2 Q
    exact h2 x hx H2 (e.trans e2) Q fun v H3 e3 k => q v H3 (e2.trans e3) k⟩
theorem er_notV {a : Bool} (h1 : Er (pr rBl) ta σ φ a) : Er (pr rBl) (tNotV ta) σ φ (!a) := fun H1 e Q q => h1 H1 e _ fun v H2 e2 k => ⟨a, k, q _ H2 e2 rfl⟩
theorem er_if {b : Bool} {oa oc : Option α} {x : α} (h : Et t σ φ b) (h1 : ∀ a, oa = some a → Er r ta σ φ a) (h2 : ∀ a, oc = some a → Er r tb σ φ a) (hx : (if b = true then oa else oc) = some x) : Er r (tIf t ta tb) σ φ x := fun H1 e Q q => h H1 e _ fun H2 e2 => by
  cases b with
  | true =>
    show ta σ H2 Q
    exact h1 x hx H2 (e.trans e2) Q fun v H3 e3 k => q v H3 (e2.trans e3) (r.mono (Fm.back e2) k)
  | false =>
    show tb σ H2 Q
    exact h2 x hx H2 (e.trans e2) Q fun v H3 e3 k => q v H3 (e2.trans e3) (r.mono (Fm.back e2) k)
theorem cut_back {F : Hp} {fp : List Addr} (e : Ex H1 H2) : Ex (cut (part F H2 H3) fp) (cut (part F H1 H3) fp) := cut_up (part_back e)
theorem Eo.back {o : OR α} (e0 : φ.In H1) (e : Ex H1 H2) (h : Eo o te σ φ a) (Q : VK) (q : ∀ v H3 fp, Ex H1 H3 → (∀ p ∈ fp, H1 p = none) → o.rel (cut (part φ.F H1 H3) fp) H3 fp v a → Q v H3) : te σ H2 Q :=
  h H2 (e0.trans e) Q fun v H3 fp e3 hf k => q v H3 fp (e.trans e3) (fun p hp => back_none e (hf p hp)) (o.mono (cut_back e) (fun _ _ _ z => z) k)
def HN : Fm → List V → Prop := fun _ vs => vs = []
def HC (r : AR α) (a : α) (P : Fm → List V → Prop) : Fm → List V → Prop := fun φ vs => ∃ v ws, vs = v :: ws ∧ r.rel φ v a ∧ P φ ws
def MonoP (P : Fm → List V → Prop) : Prop := ∀ (φ ψ : Fm) (vs : List V), φ.le ψ → P φ vs → P ψ vs
theorem mono_nil : MonoP HN := fun _ _ _ _ h => h
theorem mono_cons {P : Fm → List V → Prop} (hP : MonoP P) : MonoP (HC r a P) := fun _ _ _ e ⟨v, ws, h, k, p⟩ => ⟨v, ws, h, r.mono e k, hP _ _ _ e p⟩
theorem ea_nil : Ea HN tNil σ φ := fun H1 _ _ q => q [] H1 (Ex.refl H1) rfl
theorem ea_cons {tr : TA} {P : Fm → List V → Prop} (h : Er r ta σ φ a) (hr : Ea P tr σ φ ∧ MonoP P) : Ea (HC r a P) (tCons ta tr) σ φ ∧ MonoP (HC r a P) := ⟨fun H1 e _ q =>
  h H1 e _ fun v H2 e2 k => hr.1 H2 (e.trans e2) _ fun ws H3 e3 k3 => q _ H3 (e2.trans e3) ⟨v, ws, rfl, r.mono (Fm.up e3) k, hr.2 _ _ _ (Fm.back e2) k3⟩, mono_cons hr.2⟩
theorem ea0 : Ea HN tNil σ φ ∧ MonoP HN := ⟨ea_nil, mono_nil⟩
def rvO (o : OR α) (F0 H0 : Hp) (b : α) (v : V) (H2 : Hp) : Prop := ∃ fp, Ex H0 H2 ∧ (∀ p ∈ fp, H0 p = none) ∧ o.rel (cut (part F0 H0 H2) fp) H2 fp v b
def spO (o : OR α) (W : (Fm → List V → Prop) → α → Prop) : Sp := fun vs H Q _ => ∃ (φ : Fm) (P : Fm → List V → Prop) (b : α), φ.In H ∧ MonoP P ∧ W P b ∧ P φ vs ∧ ∀ v H2, rvO o φ.F H b v H2 → Q v H2
theorem eo_call {W : (Fm → List V → Prop) → α → Prop} {P : Fm → List V → Prop} {E : XK} {tr : TA} (h : Ea P tr σ φ ∧ MonoP P) (w : W P a) : Eo o (tCall (spO o W) [] E tr) σ φ a := fun H1 e Q q =>
  h.1 H1 e _ fun vs H2 e2 k => ⟨φ.go H1 H2, P, a, Fm.go_in e e2, h.2, w, by rw [List.append_nil]; exact k, fun v H3 ⟨fp, e3, hf, k3⟩ =>
    q v H3 fp (e2.trans e3) (fun p hp => back_none e2 (hf p hp)) (o.mono (cut_up (part_part e2 (Ex.refl H2) e3)) (fun _ _ _ z => z) k3)⟩
theorem er_call {W : (Fm → List V → Prop) → α → Prop} {P : Fm → List V → Prop} {E : XK} {tr : TA} (h : Ea P tr σ φ ∧ MonoP P) (w : W P a) : Er (pr o.frz) (tCall (spO o W) [] E tr) σ φ a := (eo_call h w).er
end
end Q
set_option Elab.async false
set_option linter.all false
set_option maxRecDepth 100000
set_option maxHeartbeats 2000000
namespace Q
open PySem L2 Evl DL
section
variable {α β γ δ : Type} {K : PySem.W.Frag} {σ : L2.St} {φ ψ : Fm} {F H H1 H2 H3 : Hp} {ta tb te tx : TE} {t u : TT} {v : V} {r : AR α} {s : AR β} {rr : Rep α} {ss : Rep β} {a : α} {b : β} {as as' : List α} {o : OR α} {p : Addr} {xs : List V} {i : Int}
theorem hB (h : φ.In H1) (e : Ex H1 H3) (hq : (φ.go H1 H3).B p = some (.lst xs) ∨ (φ.go H1 H3).F p = some (.lst xs)) : H3 p = some (.lst xs) := hq.elim ((h.2.trans e) _ _) ((part_sub (h.1.trans e)) _ _)
theorem sqB (h : φ.In H1) (e : Ex H1 H3) (hq : (φ.go H1 H3).B p = some (.lst xs) ∨ (φ.go H1 H3).F p = some (.lst xs)) : SqL K H3 p xs := SqL.of (hB h e hq)
theorem ai {ns : List Int} (h : Al ((pr rInt).rel φ) xs ns) : xs = ns.map V.int := rel_ints (H := φ.F) h
theorem ab {ns : List Bool} (h : Al ((pr rBl).rel φ) xs ns) : xs = ns.map V.bl := rel_bls (H := φ.F) h
theorem er_ixL (ha : Er (rB r) ta σ φ as) (hb : Er (pr rInt) tb σ φ i) (h : L2.atI as i = some a) : Er r (tOp (rIxL K) ta tb) σ φ a := fun H1 e Q q =>
  er_two ha hb e fun x y H3 e3 ⟨p, xs, hx, hp, hal⟩ k2 => by
    obtain ⟨v, h1, h2⟩ := hal.atI h
    exact ⟨p, xs, i, v, hx, k2, sqB e e3 hp, h1, q v H3 e3 h2⟩
theorem er_ixT (ha : Er (pr (rTup rr)) ta σ φ as) (hb : Er (pr rInt) tb σ φ i) (h : L2.atI as i = some a) : Er (pr rr) (tOp (rIxT K) ta tb) σ φ a := fun H1 e Q q =>
  er_two ha hb e fun x y H3 e3 ⟨p, xs, hx, hp, hal⟩ k2 => by
    obtain ⟨v, h1, h2⟩ := hal.atI h
    exact ⟨p, xs, i, v, hx, k2, SqT.of (part_sub (e.1.trans e3) p _ hp), h1, q v H3 e3 h2⟩
theorem er_fst {c : α × β} (ha : Er (pr (rPair rr ss)) ta σ φ c) : Er (pr rr) (tOp (rIxT K) ta (tC (.int 0))) σ φ c.1 := fun H1 e Q q =>
  er_two ha er_int e fun x y H3 e3 ⟨p, x1, y1, hx, hp, h1, h2⟩ k2 => ⟨p, [x1, y1], 0, x1, hx, k2, SqT.of (part_sub (e.1.trans e3) p _ hp), rfl, q _ H3 e3 h1⟩
theorem er_snd {c : α × β} (ha : Er (pr (rPair rr ss)) ta σ φ c) : Er (pr ss) (tOp (rIxT K) ta (tC (.int 1))) σ φ c.2 := fun H1 e Q q =>
  er_two ha er_int e fun x y H3 e3 ⟨p, x1, y1, hx, hp, h1, h2⟩ k2 => ⟨p, [x1, y1], 1, y1, hx, k2, SqT.of (part_sub (e.1.trans e3) p _ hp), rfl, q _ H3 e3 h2⟩
def _root_.DL.rTri (r : Rep α) (s : Rep β) (z : Rep γ) : Rep (α × β × γ) := ⟨fun H v c => ∃ p x y w, v = .ref p ∧ H p = some (.tup [x, y, w]) ∧ r.rel H x c.1 ∧ s.rel H y c.2.1 ∧ z.rel H w c.2.2, fun e ⟨p, x, y, w, h, t, a, b, d⟩ => ⟨p, x, y, w, h, e p _ t, r.mono e a, s.mono e b, z.mono e d⟩⟩
section
variable {zz : Rep γ} {c : α × β × γ}
theorem er_t0 (ha : Er (pr (rTri rr ss zz)) ta σ φ c) : Er (pr rr) (tOp (rIxT K) ta (tC (.int 0))) σ φ c.1 := fun H1 e Q q =>
  er_two ha er_int e fun x y H3 e3 ⟨p, x1, y1, w1, hx, hp, h1, h2, h3⟩ k2 => ⟨p, [x1, y1, w1], 0, x1, hx, k2, SqT.of (part_sub (e.1.trans e3) p _ hp), rfl, q _ H3 e3 h1⟩
theorem er_t1 (ha : Er (pr (rTri rr ss zz)) ta σ φ c) : Er (pr ss) (tOp (rIxT K) ta (tC (.int 1))) σ φ c.2.1 := fun H1 e Q q =>
  er_two ha er_int e fun x y H3 e3 ⟨p, x1, y1, w1, hx, hp, h1, h2, h3⟩ k2 => ⟨p, [x1, y1, w1], 1, y1, hx, k2, SqT.of (part_sub (e.1.trans e3) p _ hp), rfl, q _ H3 e3 h2⟩
theorem er_t2 (ha : Er (pr (rTri rr ss zz)) ta σ φ c) : Er (pr zz) (tOp (rIxT K) ta (tC (.int 2))) σ φ c.2.2 := fun H1 e Q q =>
  er_two ha er_int e fun x y H3 e3 ⟨p, x1, y1, w1, hx, hp, h1, h2, h3⟩ k2 => ⟨p, [x1, y1, w1], 2, w1, hx, k2, SqT.of (part_sub (e.1.trans e3) p _ hp), rfl, q _ H3 e3 h3⟩
end
theorem new_oV (e : Ex F H1) (e2 : Ex H1 H2) (hp : H2 p = none) (h : Al (rr.rel (part F H1 H2)) xs as) : (oV rr).rel (cut (part F H1 (upd H2 p (.lst xs))) [p]) (upd H2 p (.lst xs)) [p] (.ref p) as :=
  ⟨p, xs, rfl, rfl, upd_same, h.imp fun _ _ k => rr.mono (ex_cut (part_up (Ex.new hp)) fun q hq => by
    rw [List.mem_singleton.mp hq, part_new (back_none (e.trans e2) hp) (back_none e2 hp)]
    exact hp) k⟩
theorem q_newV {Q : VK} (e : Ex F H1) (e2 : Ex H1 H2) (hp : H2 p = none) (h : Al (rr.rel (part F H1 H2)) xs as) (q : ∀ v H2 fp, Ex H1 H2 → (∀ p ∈ fp, H1 p = none) → (oV rr).rel (cut (part F H1 H2) fp) H2 fp v as → Q v H2) : Q (.ref p) (upd H2 p (.lst xs)) :=
  q _ _ [p] (e2.trans (Ex.new hp)) (fun q hq => by rw [List.mem_singleton.mp hq]; exact back_none e2 hp) (new_oV e e2 hp h)
theorem part_updn {o : HO} (e0 : Ex F H1) (e : Ex H1 H2) (hp : H2 p = none) : part F H1 (upd H2 p o) p = some o := by
  rw [part_new (back_none (e0.trans e) hp) (back_none e hp)]
  exact upd_same
def EaL (rr : Rep α) (ta : TA) (σ : L2.St) (φ : Fm) (as : List α) : Prop := Ea (fun ψ vs => Al (rr.rel ψ.F) vs as) ta σ φ
theorem eal_nil : EaL rr tNil σ φ [] := fun H1 _ _ q => q [] H1 (Ex.refl H1) .nil
theorem eal_cons {tr : TA} (h : Er (pr rr) ta σ φ a) (hr : EaL rr tr σ φ as) : EaL rr (tCons ta tr) σ φ (a :: as) := fun H1 e _ q =>
  h H1 e _ fun v H2 e2 k => hr H2 (e.trans e2) _ fun ws H3 e3 k3 => q _ H3 (e2.trans e3) (.cons (rr.mono (part_up e3) k) (k3.imp fun _ _ k => rr.mono (part_back e2) k))
theorem eo_lst {ta : TA} (h : EaL rr ta σ φ as) (hl : as.length ≤ 100000) : Eo (oV rr) (tLst ta) σ φ as := fun H1 e _ q => h H1 e _ fun vs H2 e2 k =>
  ⟨by rw [k.len]; exact sz_of hl, fun p hp => q_newV e.1 e2 hp k q⟩
theorem er_tup {ta : TA} (h : EaL rr ta σ φ as) (hl : as.length ≤ 100000) : Er (pr (rTup rr)) (tTup ta) σ φ as := fun H1 e _ q => h H1 e _ fun vs H2 e2 k =>
  ⟨by rw [k.len]; exact sz_of hl, fun p hp => q _ _ (e2.trans (Ex.new hp)) ⟨p, vs, rfl, part_updn e.1 e2 hp, k.imp fun _ _ k => rr.mono (part_up (Ex.new hp)) k⟩⟩
theorem er_pair (ha : Er (pr rr) ta σ φ a) (hb : Er (pr ss) tb σ φ b) : Er (pr (rPair rr ss)) (tTup (tCons ta (tCons tb tNil))) σ φ (a, b) := fun H1 e _ q =>
  er_two ha hb e fun x y H2 e2 hx hy =>
    ⟨by show 2 ≤ sizeLine; decide, fun p hp => q _ _ (e2.trans (Ex.new hp)) ⟨p, x, y, rfl, part_updn e.1 e2 hp, rr.mono (part_up (Ex.new hp)) hx, ss.mono (part_up (Ex.new hp)) hy⟩⟩
theorem er_tri {zz : Rep γ} {c : γ} {tc : TE} (ha : Er (pr rr) ta σ φ a) (hb : Er (pr ss) tb σ φ b) (hc : Er (pr zz) tc σ φ c) : Er (pr (rTri rr ss zz)) (tTup (tCons ta (tCons tb (tCons tc tNil)))) σ φ (a, b, c) := fun H1 e _ q =>
  ha H1 e _ fun x Hx ex kx => hb Hx (e.trans ex) _ fun y Hy ey ky => hc Hy (e.trans (ex.trans ey)) _ fun w H2 ew kw => by
    have e2 := ex.trans (ey.trans ew)
    refine ⟨by show 3 ≤ sizeLine; decide, fun p hp => q _ _ (e2.trans (Ex.new hp)) ⟨p, x, y, w, rfl, part_updn e.1 e2 hp, rr.mono ?_ kx, ss.mono ?_ ky, zz.mono ?_ kw⟩⟩
    · exact (part_up (ey.trans ew)).trans (part_up (Ex.new hp))
    · exact ((part_back ex).trans (part_up ew)).trans (part_up (Ex.new hp))
    · exact (part_back (ex.trans ey)).trans (part_up (Ex.new hp))
theorem er_catT (ha : Er (pr (rTup rr)) ta σ φ as) (hb : Er (pr (rTup rr)) tb σ φ as') (hl : as.length + as'.length ≤ 100000) : Er (pr (rTup rr)) (tOp (rCatA K) ta tb) σ φ (as ++ as') := fun H1 e Q q =>
  er_two ha hb e fun x y H3 e3 ⟨p, xs, hx, hp, h1⟩ ⟨p', ys, hy, hp', h2⟩ => by
    refine ⟨p, p', xs, ys, hx, hy, SqT.of (part_sub (e.1.trans e3) p _ hp), SqT.of (part_sub (e.1.trans e3) p' _ hp'), by rw [h1.len, h2.len]; exact sz_of hl, fun z => ?_, fun z z2 => ?_, fun _ _ c hc => ?_⟩
    · refine q _ H3 e3 ?_
      rw [h1.nil_iff.mp z]
      exact ⟨p', ys, rfl, hp', h2⟩
    · refine q _ H3 e3 ?_
      rw [h2.nil_iff.mp z2, List.append_nil]
      exact ⟨p, xs, rfl, hp, h1⟩
    · exact q _ _ (e3.trans (Ex.new hc)) ⟨c, _, rfl, part_updn e.1 e3 hc, (h1.app h2).imp fun _ _ k => rr.mono (part_up (Ex.new hc)) k⟩
theorem eo_catL (ha : Er (rB (pr rr)) ta σ φ as) (hb : Er (rB (pr rr)) tb σ φ as') (hl : as.length + as'.length ≤ 100000) : Eo (oV rr) (tOp rCat ta tb) σ φ (as ++ as') := fun H1 e Q q =>
  er_two ha hb e fun x y H3 e3 ⟨p, xs, hx, hp, h1⟩ ⟨p', ys, hy, hp', h2⟩ =>
    ⟨p, p', xs, ys, hx, hy, hB e e3 hp, hB e e3 hp', by rw [h1.len, h2.len]; exact sz_of hl, fun c hc => q_newV e.1 e3 hc (h1.app h2) q⟩
theorem eo_rep {k : Int} (ha : Er (rB (pr rr)) ta σ φ as) (hb : Er (pr rInt) tb σ φ k) (h1 : -100000 ≤ k ∧ k ≤ 100000) (hl : as.length * k.toNat ≤ 100000) : Eo (oV rr) (tOp rRep ta tb) σ φ (List.replicate k.toNat as).flatten := fun H1 e Q q =>
  er_two ha hb e fun x y H3 e3 ⟨p, xs, hx, hp, h2⟩ hy =>
    ⟨p, k, xs, hx, hy, hB e e3 hp, by omega, by omega, by rw [h2.len]; exact sz_of hl, fun c hc => q_newV e.1 e3 hc (h2.rep _) q⟩
theorem eop_none : EvOp tNoPart σ φ none := fun H1 _ _ q => q H1 (Ex.refl H1)
theorem eop_part (h : Er (pr rInt) te σ φ i) : EvOp (tPart te) σ φ (some i) := fun H1 e _ q => h H1 e _ fun v H2 e2 k => ⟨i, k, q H2 e2⟩
theorem eo_sl {tl th : TO} {lo hi : Option Int} (h : Er (rB (pr rr)) te σ φ as) (h1 : EvOp tl σ φ lo) (h2 : EvOp th σ φ hi) : Eo (oV rr) (tSl (rSlL K) te tl th) σ φ (cutA as lo hi) := fun H1 e _ q =>
  h H1 e _ fun v H2 e2 ⟨p, xs, hx, hp, hal⟩ => h1 H2 (e.trans e2) _ fun H3 e3 => h2 H3 ((e.trans e2).trans e3) _ fun H4 e4 => by
    refine ⟨p, xs, hx, ex_l (e3.trans e4) (sqB e e2 hp), fun c hc => q_newV e.1 (e2.trans (e3.trans e4)) hc ?_ q⟩
    unfold cutV cutA
    rw [hal.len]
    exact ((hal.drop _).take _).imp fun _ _ k => rr.mono (part_up (e3.trans e4)) k
theorem er_slT {tl th : TO} {lo hi : Option Int} (h : Er (pr (rTup rr)) te σ φ as) (h1 : EvOp tl σ φ lo) (h2 : EvOp th σ φ hi) : Er (pr (rTup rr)) (tSl (rSlA K) te tl th) σ φ (cutA as lo hi) := fun H1 e _ q =>
  h H1 e _ fun v H2 e2 ⟨p, xs, hx, hp, hal⟩ => h1 H2 (e.trans e2) _ fun H3 e3 => h2 H3 ((e.trans e2).trans e3) _ fun H4 e4 => by
    have ee := e2.trans (e3.trans e4)
    refine ⟨p, xs, hx, SqT.of (part_sub (e.1.trans ee) p _ (part_up (e3.trans e4) p _ hp)), fun hw => ?_, fun hw c hc => ?_⟩
    · have ec : cutA as lo hi = as := by
        unfold cutA
        rw [hal.len] at hw
        rw [hw.1, hw.2, List.drop_zero, Nat.sub_zero, List.take_length]
      refine q _ H4 ee ?_
      rw [ec]
      exact ⟨p, xs, rfl, part_up (e3.trans e4) p _ hp, hal.imp fun _ _ k => rr.mono (part_up (e3.trans e4)) k⟩
    · refine q _ _ (ee.trans (Ex.new hc)) ⟨c, _, rfl, part_updn e.1 ee hc, ?_⟩
      unfold cutV cutA
      rw [hal.len]
      exact ((hal.drop _).take _).imp fun _ _ k => rr.mono ((part_up (e3.trans e4)).trans (part_up (Ex.new hc))) k
theorem er_lenL (h : Er (rB r) ta σ φ as) : Er (pr rInt) (tCB (rLenQ K) (tCons ta tNil)) σ φ (as.length : Int) := fun H1 e Q q => h H1 e _ fun v H2 e2 ⟨p, xs, hx, hp, hal⟩ =>
  ⟨p, xs, congrArg (· :: []) hx, .inl (sqB e e2 hp), by rw [hal.len]; exact q _ H2 e2 rfl⟩
theorem er_lenT (h : Er (pr (rTup rr)) ta σ φ as) : Er (pr rInt) (tCB (rLenQ K) (tCons ta tNil)) σ φ (as.length : Int) := fun H1 e Q q => h H1 e _ fun v H2 e2 ⟨p, xs, hx, hp, hal⟩ =>
  ⟨p, xs, congrArg (· :: []) hx, .inr (SqT.of (part_sub (e.1.trans e2) p _ hp)), by rw [hal.len]; exact q _ H2 e2 rfl⟩
theorem er_tupOf (h : Er (rB (pr rr)) ta σ φ as) : Er (pr (rTup rr)) (tCB (rTupQ K) (tCons ta tNil)) σ φ as := fun H1 e Q q => h H1 e _ fun v H2 e2 ⟨p, xs, hx, hp, hal⟩ =>
  ⟨p, xs, congrArg (· :: []) hx, .inl ⟨sqB e e2 hp, fun l hl => q _ _ (e2.trans (Ex.new hl)) ⟨l, xs, rfl, part_updn e.1 e2 hl, hal.imp fun _ _ k => rr.mono (part_up (Ex.new hl)) k⟩⟩⟩
theorem eo_listL (h : Er (rB (pr rr)) ta σ φ as) : Eo (oV rr) (tCB (rLstQ K) (tCons ta tNil)) σ φ as := fun H1 e Q q => h H1 e _ fun v H2 e2 ⟨p, xs, hx, hp, hal⟩ =>
  ⟨p, xs, congrArg (· :: []) hx, .inl (sqB e e2 hp), fun l hl => q_newV e.1 e2 hl hal q⟩
theorem er_int1 (h : Er (pr rInt) ta σ φ i) : Er (pr rInt) (tCB rInt1 (tCons ta tNil)) σ φ i := fun H1 e Q q => h H1 e _ fun v H2 e2 hv => .inl ⟨i, congrArg (· :: []) hv, q _ H2 e2 rfl⟩
theorem er_int1B {k : Bool} (h : Er (pr rBl) ta σ φ k) : Er (pr rInt) (tCB rInt1 (tCons ta tNil)) σ φ (if k then 1 else 0) := fun H1 e Q q => h H1 e _ fun v H2 e2 hv => .inr ⟨k, congrArg (· :: []) hv, q _ H2 e2 rfl⟩
theorem er_any {ks : List Bool} (h : Er (rB (pr rBl)) ta σ φ ks) : Er (pr rBl) (tCB (rAny K) (tCons ta tNil)) σ φ (ks.any id) := fun H1 e Q q => h H1 e _ fun v H2 e2 ⟨p, xs, hx, hp, hal⟩ => by
  rw [ab hal] at hp
  exact ⟨p, ks, congrArg (· :: []) hx, sqB e e2 hp, q _ H2 e2 rfl⟩
theorem er_all {ks : List Bool} (h : Er (rB (pr rBl)) ta σ φ ks) : Er (pr rBl) (tCB (rAll K) (tCons ta tNil)) σ φ (ks.all id) := fun H1 e Q q => h H1 e _ fun v H2 e2 ⟨p, xs, hx, hp, hal⟩ => by
  rw [ab hal] at hp
  exact ⟨p, ks, congrArg (· :: []) hx, sqB e e2 hp, q _ H2 e2 rfl⟩
theorem er_sum {ns : List Int} (h : Er (rB (pr rInt)) ta σ φ ns) : Er (pr rInt) (tCB (rSum K) (tCons ta tNil)) σ φ ns.sum := fun H1 e Q q => h H1 e _ fun v H2 e2 ⟨p, xs, hx, hp, hal⟩ => by
  rw [ai hal] at hp
  exact ⟨p, ns, congrArg (· :: []) hx, sqB e e2 hp, q _ H2 e2 rfl⟩
def rMax2 : List V → Hp → VK → Prop := fun xs H Q => ∃ i j, xs = [.int i, .int j] ∧ Q (.int (if j > i then j else i)) H
theorem er_max2 {x y : Int} (h1 : Er (pr rInt) ta σ φ x) (h2 : Er (pr rInt) tb σ φ y) : Er (pr rInt) (tCB rMax2 (tCons ta (tCons tb tNil))) σ φ (if y > x then y else x) := fun H1 e Q q =>
  er_two h1 h2 e fun u w H3 e3 k1 k2 => ⟨x, y, by rw [show u = V.int x from k1, show w = V.int y from k2], q _ H3 e3 rfl⟩
theorem er_inT {n : Int} {ns : List Int} (ha : Er (pr rInt) ta σ φ n) (hb : Er (pr (rTup rInt)) tb σ φ ns) : Er (pr rBl) (tOp (rIn K false) ta tb) σ φ (decide (n ∈ ns)) := fun H1 e Q q =>
  er_two ha hb e fun x y H3 e3 hx ⟨p, xs, hy, hp, hal⟩ => by
    cases (show x = V.int n from hx)
    rw [rel_ints hal] at hp
    refine ⟨p, _, hy, .inr (SqT.of (part_sub (e.1.trans e3) p _ hp)), rfl, flat_ints, ?_⟩
    rw [inV_ints]
    exact q _ H3 e3 rfl
theorem er_niT {n : Int} {ns : List Int} (ha : Er (pr rInt) ta σ φ n) (hb : Er (pr (rTup rInt)) tb σ φ ns) : Er (pr rBl) (tOp (rIn K true) ta tb) σ φ (!decide (n ∈ ns)) := fun H1 e Q q =>
  er_two ha hb e fun x y H3 e3 hx ⟨p, xs, hy, hp, hal⟩ => by
    cases (show x = V.int n from hx)
    rw [rel_ints hal] at hp
    refine ⟨p, _, hy, .inr (SqT.of (part_sub (e.1.trans e3) p _ hp)), rfl, flat_ints, ?_⟩
    rw [inV_ints]
    exact q _ H3 e3 rfl
theorem er_inL {n : Int} {ns : List Int} (ha : Er (pr rInt) ta σ φ n) (hb : Er (rB (pr rInt)) tb σ φ ns) : Er (pr rBl) (tOp (rIn K false) ta tb) σ φ (decide (n ∈ ns)) := fun H1 e Q q =>
  er_two ha hb e fun x y H3 e3 hx ⟨p, xs, hy, hp, hal⟩ => by
    cases (show x = V.int n from hx)
    rw [ai hal] at hp
    refine ⟨p, _, hy, .inl (sqB e e3 hp), rfl, flat_ints, ?_⟩
    rw [inV_ints]
    exact q _ H3 e3 rfl
theorem er_niL {n : Int} {ns : List Int} (ha : Er (pr rInt) ta σ φ n) (hb : Er (rB (pr rInt)) tb σ φ ns) : Er (pr rBl) (tOp (rIn K true) ta tb) σ φ (!decide (n ∈ ns)) := fun H1 e Q q =>
  er_two ha hb e fun x y H3 e3 hx ⟨p, xs, hy, hp, hal⟩ => by
    cases (show x = V.int n from hx)
    rw [ai hal] at hp
    refine ⟨p, _, hy, .inl (sqB e e3 hp), rfl, flat_ints, ?_⟩
    rw [inV_ints]
    exact q _ H3 e3 rfl
theorem inV_bls {n : Bool} : ∀ {ns : List Bool}, inV (.bl n) (ns.map V.bl) = decide (n ∈ ns)
  | [] => rfl
  | m :: ns => by
    show (eqV (.bl m) (.bl n) || inV (.bl n) (ns.map V.bl)) = _
    rw [inV_bls]
    cases m <;> cases n <;> simp [eqV]
theorem flat_bls : ∀ {ns : List Bool}, (ns.map V.bl).all flatV = true
  | [] => rfl
  | _ :: ns => by
    show (true && (ns.map V.bl).all flatV) = true
    rw [flat_bls]
    rfl
theorem er_inLB {n : Bool} {ns : List Bool} (ha : Er (pr rBl) ta σ φ n) (hb : Er (rB (pr rBl)) tb σ φ ns) : Er (pr rBl) (tOp (rIn K false) ta tb) σ φ (decide (n ∈ ns)) := fun H1 e Q q =>
  er_two ha hb e fun x y H3 e3 hx ⟨p, xs, hy, hp, hal⟩ => by
    cases (show x = V.bl n from hx)
    rw [ab hal] at hp
    refine ⟨p, _, hy, .inl (sqB e e3 hp), rfl, flat_bls, ?_⟩
    rw [inV_bls]
    exact q _ H3 e3 rfl
theorem er_isN {o : Option α} (hs : Sol rr) (ha : Er (pr (rOpt rr)) ta σ φ o) : Er (pr rBl) (tOp rIsNq ta (tC .non)) σ φ o.isNone := fun H1 e Q q => ha H1 e _ fun v H2 e2 k => ⟨rfl, by rw [opt_non hs k]; exact q _ H2 e2 rfl⟩
theorem er_notN {o : Option α} (hs : Sol rr) (ha : Er (pr (rOpt rr)) ta σ φ o) : Er (pr rBl) (tOp rNotNq ta (tC .non)) σ φ (!o.isNone) := fun H1 e Q q => ha H1 e _ fun v H2 e2 k => ⟨rfl, by rw [opt_non hs k]; exact q _ H2 e2 rfl⟩
theorem et_lst (h : Er (rB r) ta σ φ as) : Et (tTru K ta) σ φ (!as.isEmpty) := fun H1 e Q q => h H1 e _ fun v H2 e2 ⟨p, xs, hx, hp, hal⟩ => by
  subst hx
  refine ⟨!as.isEmpty, .inl ⟨xs, sqB e e2 hp, ?_⟩, q H2 e2⟩
  cases hal <;> rfl
theorem et_tup (h : Er (pr (rTup rr)) ta σ φ as) : Et (tTru K ta) σ φ (!as.isEmpty) := fun H1 e Q q => h H1 e _ fun v H2 e2 ⟨p, xs, hx, hp, hal⟩ => by
  subst hx
  refine ⟨!as.isEmpty, .inr (.inl ⟨xs, SqT.of (part_sub (e.1.trans e2) p _ hp), ?_⟩), q H2 e2⟩
  cases hal <;> rfl
structure EA (K : PySem.W.Frag) {α : Type} (r : AR α) (enc : α → PyData) [DecidableEq α] where
  d : Nat
  dp : ∀ {φ : Fm} {H : Hp} {v : V} {a : α}, φ.In H → r.rel φ v a → Dp K H v (enc a)
  eqv : ∀ a b, PyData.eqv (enc a) (enc b) = decide (a = b)
  can : ∀ a, (enc a).canLay0 = true
  dep : ∀ a, (enc a).depth ≤ d
def eaP [DecidableEq α] (E : Enc K rr) : EA K (pr rr) E.enc := ⟨E.d, fun h k => E.dp (rr.mono h.1 k), E.eqv, E.can, E.dep⟩
theorem al_dp {enc : α → PyData} [DecidableEq α] (E : EA K r enc) (h : φ.In H) : ∀ {xs : List V} {as : List α}, Al (r.rel φ) xs as → DpAll K H xs (as.map enc)
  | _, _, .nil => .nil
  | _, _, .cons k t => .cons (E.dp h k) (al_dp E h t)
theorem ea_eqvAll {enc : α → PyData} [DecidableEq α] (E : EA K r enc) : ∀ as bs : List α, PyData.eqvAll (as.map enc) (bs.map enc) = decide (as = bs)
  | [], [] => rfl
  | [], _ :: _ => rfl
  | _ :: _, [] => rfl
  | a :: as, b :: bs => by
    show (PyData.eqv (enc a) (enc b) && PyData.eqvAll (as.map enc) (bs.map enc)) = _
    rw [E.eqv, ea_eqvAll E as bs]
    by_cases h : a = b <;> by_cases h2 : as = bs <;> simp [h, h2]
theorem ea_canAll {enc : α → PyData} [DecidableEq α] (E : EA K r enc) : ∀ as : List α, PyData.canLayAll0 (as.map enc) = true
  | [] => rfl
  | a :: as => by
    show ((enc a).canLay0 && PyData.canLayAll0 (as.map enc)) = true
    rw [E.can, ea_canAll E as]
    rfl
theorem ea_depAll {enc : α → PyData} [DecidableEq α] (E : EA K r enc) : ∀ as : List α, PyData.depthAll (as.map enc) ≤ E.d
  | [] => Nat.zero_le _
  | a :: as => Nat.max_le.mpr ⟨E.dep a, ea_depAll E as⟩
def eaB {enc : α → PyData} [DecidableEq α] (E : EA K r enc) : EA K (rB r) (fun as => .list (as.map enc)) where
  d := E.d + 1
  dp := fun h ⟨p, xs, h1, hp, hal⟩ => by
    subst h1
    exact .lst (SqL.of (hp.elim (h.2 _ _) (h.1 _ _))) (al_dp E h hal)
  eqv := fun a b => ea_eqvAll E a b
  can := fun a => ea_canAll E a
  dep := fun a => Nat.succ_le_succ (ea_depAll E a)
theorem EA.shaped {enc : α → PyData} [DecidableEq α] (E : EA K r enc) (h : E.d ≤ 64) (a : α) : SeqAt.shaped (enc a) = true := by
  unfold SeqAt.shaped
  rw [E.can, decide_eq_true (Nat.le_trans (E.dep a) h)]
  rfl
theorem er_eqD {enc : α → PyData} [DecidableEq α] {r' : AR α} {a a' : α} (E : EA K r enc) (E' : EA K r' enc) (hd : E.d ≤ 64) (hd' : E'.d ≤ 64) (ha : Er r ta σ φ a) (hb : Er r' tb σ φ a') : Er (pr rBl) (tOp (rEqD K) ta tb) σ φ (decide (a = a')) := fun H1 e Q q =>
  er_two ha hb e fun x y H3 e3 hx hy => by
    refine ⟨enc a, enc a', E.dp (Fm.go_in e e3) hx, E'.dp (Fm.go_in e e3) hy, E.shaped hd a, E'.shaped hd' a', ?_⟩
    rw [E.eqv]
    exact q _ H3 e3 rfl
theorem er_neD {enc : α → PyData} [DecidableEq α] {r' : AR α} {a a' : α} (E : EA K r enc) (E' : EA K r' enc) (hd : E.d ≤ 64) (hd' : E'.d ≤ 64) (ha : Er r ta σ φ a) (hb : Er r' tb σ φ a') : Er (pr rBl) (tOp (rNeD K) ta tb) σ φ (!decide (a = a')) := fun H1 e Q q =>
  er_two ha hb e fun x y H3 e3 hx hy => by
    refine ⟨enc a, enc a', E.dp (Fm.go_in e e3) hx, E'.dp (Fm.go_in e e3) hy, E.shaped hd a, E'.shaped hd' a', ?_⟩
    rw [E.eqv]
    exact q _ H3 e3 rfl
theorem any_eqv {enc : α → PyData} [DecidableEq α] (E : EA K r enc) (a : α) : ∀ as : List α, ((as.map enc).any fun z => PyData.eqv z (enc a)) = decide (a ∈ as)
  | [] => rfl
  | b :: as => by
    rw [List.map_cons, List.any_cons, any_eqv E a as, E.eqv]
    by_cases h : b = a
    · subst h; simp
    · have h2 : ¬ a = b := fun z => h z.symm
      simp [h, h2]
theorem er_niD {enc : α → PyData} [DecidableEq α] {r' : AR α} (E : EA K r enc) (E' : EA K r' enc) (hd : E.d < 64) (hd' : E'.d < 64) (ha : Er r ta σ φ a) (hb : Er (rB r') tb σ φ as) : Er (pr rBl) (tOp (rNotInD K) ta tb) σ φ (!decide (a ∈ as)) := fun H1 e Q q =>
  er_two ha hb e fun x y H3 e3 hx hy => by
    refine ⟨enc a, as.map enc, E.dp (Fm.go_in e e3) hx, (eaB (K := K) E').dp (Fm.go_in e e3) hy, E.shaped (Nat.le_of_lt hd) a, (eaB (K := K) E').shaped hd' as, ?_⟩
    rw [any_eqv E]
    exact q _ H3 e3 rfl
theorem er_ltT {xs ys : List Int} (ha : Er (pr (rTup rInt)) ta σ φ xs) (hb : Er (pr (rTup rInt)) tb σ φ ys) : Er (pr rBl) (tOp (rLtT K) ta tb) σ φ (decide (xs < ys)) := fun H1 e Q q =>
  er_two ha hb e fun v u H3 e3 ⟨p, zs, hx, hp, hal⟩ ⟨p2, zs2, hx2, hp2, hal2⟩ => by
    rw [rel_ints hal] at hp
    rw [rel_ints hal2] at hp2
    refine ⟨p, p2, xs, ys, hx, hx2, SqT.of (part_sub (e.1.trans e3) p _ hp), SqT.of (part_sub (e.1.trans e3) p2 _ hp2), ?_⟩
    rw [lexLt_dec]
    exact q _ H3 e3 rfl
theorem er_ixF {n : Int} {ns : List Int} (ha : Er (pr (rFro K)) ta σ φ ns) (hb : Er (pr rInt) tb σ φ i) (h : L2.atI ns i = some n) : Er (pr rInt) (tOp (rIxL K) ta tb) σ φ n := fun H1 e Q q =>
  er_two ha hb e fun x y H3 e3 ⟨p, hx, hp⟩ k2 => by
    obtain ⟨v, h1, h2⟩ := (ints_rel (H := φ.F) ns).atI h
    exact ⟨p, _, i, v, hx, k2, ex_l (part_sub (e.1.trans e3)) hp, h1, q v H3 e3 h2⟩
theorem er_lenF {ns : List Int} (h : Er (pr (rFro K)) ta σ φ ns) : Er (pr rInt) (tCB (rLenQ K) (tCons ta tNil)) σ φ (ns.length : Int) := fun H1 e Q q => h H1 e _ fun v H2 e2 ⟨p, hx, hp⟩ => by
  refine ⟨p, _, congrArg (· :: []) hx, .inl (ex_l (part_sub (e.1.trans e2)) hp), ?_⟩
  rw [List.length_map]
  exact q _ H2 e2 rfl
theorem er_isi {n : String} {ty : String} {k : Bool} (ha : Er r ta σ φ a) (ht : ∀ (φ : Fm) (H : Hp) (v : V), φ.In H → r.rel φ v a → TyX K H v (.type ty)) (hk : PySem.W.kitOne K (.type ty) (.type n) = some k) : Er (pr rBl) (tCB (rIsi K) (tCons ta (tCons (tC (.ty n)) tNil))) σ φ k := fun H1 e Q q =>
  ha H1 e _ fun v H2 e2 hv => ⟨v, .ty n, .type ty, .type n, k, rfl, .ty n, ht _ _ _ (Fm.go_in e e2) hv, hk, q _ H2 e2 rfl⟩
theorem tyP {ty : String} (h : ∀ (H : Hp) (v : V), rr.rel H v a → TyX K H v (.type ty)) : ∀ (φ : Fm) (H : Hp) (v : V), φ.In H → (pr rr).rel φ v a → TyX K H v (.type ty) := fun φ H v hi k => h H v (rr.mono hi.1 k)
end
end Q
set_option Elab.async false
set_option linter.all false
set_option maxRecDepth 100000
set_option maxHeartbeats 2000000
namespace Q
open PySem L2 Evl DL
inductive Slot : Type 1
  | un : Slot
  | va {α : Type} (r : Rep α) (a : α) : Slot
  | bo {α : Type} (r : AR α) (a : α) : Slot
  | ow {α : Type} (o : OR α) (a : α) : Slot
def Slot.rd (φ : Fm) : Slot → Option V → Prop
  | .un, _ => True
  | .va r a, x => ∃ v, x = some v ∧ r.rel φ.F v a
  | .bo r a, x => ∃ v, x = some v ∧ r.rel φ v a
  | .ow o a, x => ∃ v, x = some v ∧ o.view.rel φ v a
def Slot.ft (H0 G H : Hp) (fp : List Addr) : Slot → Option V → Prop
  | .un, _ => fp = []
  | .va r a, x => fp = [] ∧ ∃ v, x = some v ∧ r.rel G v a
  | .bo r a, x => fp = [] ∧ ∃ v, x = some v ∧ r.rel ⟨G, H0⟩ v a
  | .ow o a, x => ∃ v, x = some v ∧ o.rel G H fp v a
def Slot.hid : Slot → Slot
  | .ow _ _ => .un
  | s => s
def Rd (φ : Fm) (sl : List Slot) (σ : L2.St) : Prop := ∀ (i : Nat) (s : Slot), sl[i]? = some s → ∃ x, σ[i]? = some x ∧ s.rd φ x
structure FitsW (H0 G H : Hp) (sl : List Slot) (σ : L2.St) (fps : Nat → List Addr) : Prop where
  at_ : ∀ (i : Nat) (s : Slot), sl[i]? = some s → ∃ x, σ[i]? = some x ∧ s.ft H0 G H (fps i) x
  sep : ∀ (i j : Nat) (p : Addr), i ≠ j → p ∈ fps i → p ∉ fps j
  own : ∀ (i : Nat) (p : Addr), p ∈ fps i → (∃ o, H p = some o) ∧ G p = none ∧ H0 p = none
def Fits (H0 G H : Hp) (sl : List Slot) (σ : L2.St) : Prop := ∃ fps, FitsW H0 G H sl σ fps
def hide (sl : List Slot) : List Slot := sl.map Slot.hid
def wipeS (sl : List Slot) : List Nat → List Slot
  | [] => sl
  | v :: vs => (wipeS sl vs).set v .un
section
variable {α β γ δ : Type} {K : PySem.W.Frag} {σ σ2 : L2.St} {φ ψ : Fm} {F F0 H0 G G2 H H1 H2 H3 : Hp} {ta tb te tx : TE} {t u : TT} {v : V} {r : AR α} {s : AR β} {rr : Rep α} {ss : Rep β} {a : α} {b : β} {as : List α} {bs : List β} {o : OR α} {p : Addr} {xs : List V} {i : Nat} {sl : List Slot} {x y : Option Addr}
theorem Slot.rd_mono {φ ψ : Fm} (l : φ.le ψ) : ∀ {s : Slot} {x : Option V}, s.rd φ x → s.rd ψ x
  | .un, _, _ => trivial
  | .va r a, _, ⟨v, h, k⟩ => ⟨v, h, r.mono l.1 k⟩
  | .bo r a, _, ⟨v, h, k⟩ => ⟨v, h, r.mono l k⟩
  | .ow o a, _, ⟨v, h, k⟩ => ⟨v, h, o.view.mono l k⟩
theorem Rd.mono (l : φ.le ψ) (h : Rd φ sl σ) : Rd ψ sl σ := fun i s hs => by
  obtain ⟨x, h1, h2⟩ := h i s hs
  exact ⟨x, h1, Slot.rd_mono l h2⟩
theorem Fits.rd (h : Fits H0 G H sl σ) (e : Ex H0 H) : Rd ⟨G, H⟩ sl σ := fun i s hs => by
  obtain ⟨fps, f⟩ := h
  obtain ⟨x, h1, h2⟩ := f.at_ i s hs
  refine ⟨x, h1, ?_⟩
  cases s with
  | un => trivial
  | va r a => exact h2.2
  | bo r a =>
    obtain ⟨v, h3, h4⟩ := h2.2
    exact ⟨v, h3, r.mono (φ := ⟨G, H0⟩) (ψ := ⟨G, H⟩) ⟨Ex.refl _, e⟩ h4⟩
  | ow o a =>
    obtain ⟨v, h3, h4⟩ := h2
    exact ⟨v, h3, o.look h4⟩
theorem Fits.rd0 (h : Fits H0 G H sl σ) : Rd ⟨G, H0⟩ (hide sl) σ := fun i s hs => by
  obtain ⟨fps, f⟩ := h
  unfold hide at hs
  rw [List.getElem?_map] at hs
  cases h0 : sl[i]? with
  | none => rw [h0] at hs; cases hs
  | some s0 =>
    rw [h0] at hs
    cases hs
    obtain ⟨x, h1, h2⟩ := f.at_ i s0 h0
    refine ⟨x, h1, ?_⟩
    cases s0 with
    | un => trivial
    | va r a => exact h2.2
    | bo r a => exact h2.2
    | ow o a => trivial
theorem er_v (h : Rd φ sl σ) (i : Nat) (hs : sl[i]? = some (.va rr a)) : Er (pr rr) (tVar i) σ φ a := fun H1 _ _ q => by
  obtain ⟨x, h1, v, h2, h3⟩ := h i _ hs
  subst h2
  exact ⟨v, h1, q v H1 (Ex.refl H1) (rr.mono part_ex h3)⟩
theorem er_b (h : Rd φ sl σ) (i : Nat) (hs : sl[i]? = some (.bo r a)) : Er r (tVar i) σ φ a := fun H1 _ _ q => by
  obtain ⟨x, h1, v, h2, h3⟩ := h i _ hs
  subst h2
  exact ⟨v, h1, q v H1 (Ex.refl H1) (r.mono Fm.go_le h3)⟩
theorem er_o (h : Rd φ sl σ) (i : Nat) (hs : sl[i]? = some (.ow o a)) : Er o.view (tVar i) σ φ a := fun H1 _ _ q => by
  obtain ⟨x, h1, v, h2, h3⟩ := h i _ hs
  subst h2
  exact ⟨v, h1, q v H1 (Ex.refl H1) (o.view.mono Fm.go_le h3)⟩
theorem Fits.go (h : Fits H0 G H sl σ) (st : Stp none G H G2 H2) : Fits H0 G2 H2 sl σ := by
  obtain ⟨fps, f⟩ := h
  refine ⟨fps, fun i s hs => ?_, f.sep, fun i p hp => ?_⟩
  · obtain ⟨x, h1, h2⟩ := f.at_ i s hs
    refine ⟨x, h1, ?_⟩
    cases s with
    | un => exact h2
    | va r a =>
      obtain ⟨h3, v, h4, h5⟩ := h2
      exact ⟨h3, v, h4, r.mono st.fr h5⟩
    | bo r a =>
      obtain ⟨h3, v, h4, h5⟩ := h2
      exact ⟨h3, v, h4, r.mono (φ := ⟨G, H0⟩) (ψ := ⟨G2, H0⟩) ⟨st.fr, Ex.refl _⟩ h5⟩
    | ow o a =>
      obtain ⟨v, h4, h5⟩ := h2
      exact ⟨v, h4, o.mono st.fr (fun p _ u hu => st.ex p u hu) h5⟩
  · obtain ⟨⟨u, h1⟩, h2, h3⟩ := f.own i p hp
    exact ⟨⟨u, st.ex p u h1⟩, st.nw p u h1 h2, h3⟩
theorem get_set.{u} {α : Type u} {l : List α} {i j : Nat} {x y : α} (h : (l.set i x)[j]? = some y) : (i = j ∧ x = y ∧ i < l.length) ∨ (i ≠ j ∧ l[j]? = some y) := by
  rw [List.getElem?_set] at h
  by_cases hij : i = j
  · rw [if_pos hij] at h
    by_cases hl : i < l.length
    · rw [if_pos hl] at h
      exact .inl ⟨hij, Option.some.inj h, hl⟩
    · rw [if_neg hl] at h
      cases h
  · rw [if_neg hij] at h
    exact .inr ⟨hij, h⟩
theorem set_get.{u} {α : Type u} {l : List α} {i : Nat} {x : α} (h : i < l.length) : (l.set i x)[i]? = some x := by
  rw [List.getElem?_set, if_pos rfl, if_pos h]
theorem Rd.lt (h : Rd φ sl σ) (hi : i < sl.length) : i < σ.length := by
  obtain ⟨x, h1, _⟩ := h i _ (List.getElem?_eq_getElem hi)
  exact (List.getElem?_eq_some_iff.mp h1).1
theorem Rd.set {s' : Slot} {x' : Option V} (h : Rd φ sl σ) (k : s'.rd φ x') : Rd φ (sl.set i s') (σ.set i x') := fun j s hs => by
  rcases get_set hs with ⟨rfl, rfl, hl⟩ | ⟨hn, hs⟩
  · exact ⟨x', set_get (h.lt hl), k⟩
  · obtain ⟨x, h1, h2⟩ := h j s hs
    exact ⟨x, by rw [List.getElem?_set, if_neg hn]; exact h1, h2⟩
theorem Rd.wipe (h : Rd φ sl σ) : ∀ vs : List Nat, Rd φ (wipeS sl vs) (L2.wipe σ vs)
  | [] => h
  | v :: vs => by
    unfold L2.wipe wipeS
    exact (Rd.wipe h vs).set trivial
theorem FitsW.lt {fps : Nat → List Addr} (f : FitsW H0 G H sl σ fps) (hi : i < sl.length) : i < σ.length := by
  obtain ⟨x, h1, _⟩ := f.at_ i _ (List.getElem?_eq_getElem hi)
  exact (List.getElem?_eq_some_iff.mp h1).1
theorem FitsW.put {fps : Nat → List Addr} {s' : Slot} {x' : Option V} {fp : List Addr} (f : FitsW H0 G H sl σ fps) (k : s'.ft H0 G H fp x') (hn : ∀ p ∈ fp, (p ∈ fps i ∨ ∀ j, p ∉ fps j) ∧ (∃ o, H p = some o) ∧ G p = none ∧ H0 p = none) :
    FitsW H0 G H (sl.set i s') (σ.set i x') (fun j => if j = i then fp else fps j) where
  at_ := fun j s hs => by
    rcases get_set hs with ⟨rfl, rfl, hl⟩ | ⟨hne, hs⟩
    · exact ⟨x', set_get (f.lt hl), by rw [if_pos rfl]; exact k⟩
    · obtain ⟨x, h1, h2⟩ := f.at_ j s hs
      exact ⟨x, by rw [List.getElem?_set, if_neg hne]; exact h1, by rw [if_neg (Ne.symm hne)]; exact h2⟩
  sep := fun j j' p hj hp hp' => by
    by_cases h1 : j = i
    · rw [if_pos h1] at hp
      have h2 : j' ≠ i := fun z => hj (h1.trans z.symm)
      rw [if_neg h2] at hp'
      rcases (hn p hp).1 with h3 | h3
      · exact f.sep i j' p (Ne.symm h2) h3 hp'
      · exact h3 j' hp'
    · rw [if_neg h1] at hp
      by_cases h2 : j' = i
      · rw [if_pos h2] at hp'
        rcases (hn p hp').1 with h3 | h3
        · exact f.sep i j p (Ne.symm h1) h3 hp
        · exact h3 j hp
      · rw [if_neg h2] at hp'
        exact f.sep j j' p hj hp hp'
  own := fun j p hp => by
    by_cases h1 : j = i
    · rw [if_pos h1] at hp
      exact (hn p hp).2
    · rw [if_neg h1] at hp
      exact f.own j p hp
theorem Fits.setV (h : Fits H0 G H sl σ) (k : rr.rel G v a) : Fits H0 G H (sl.set i (.va rr a)) (σ.set i (some v)) := by
  obtain ⟨fps, f⟩ := h
  exact ⟨_, f.put (s' := .va rr a) (fp := []) ⟨rfl, v, rfl, k⟩ fun p hp => by cases hp⟩
theorem Fits.setO {fp : List Addr} (h : Fits H0 G H sl σ) (st : Stp none G H G2 H2) (hf : ∀ p ∈ fp, H p = none ∧ G2 p = none ∧ H0 p = none) (k : o.rel G2 H2 fp v a) : Fits H0 G2 H2 (sl.set i (.ow o a)) (σ.set i (some v)) := by
  obtain ⟨fps, f0⟩ := h
  obtain ⟨fps2, f⟩ : ∃ f2, FitsW H0 G2 H2 sl σ f2 ∧ f2 = fps := by
    have : FitsW H0 G2 H2 sl σ fps := by
      refine ⟨fun i s hs => ?_, f0.sep, fun i p hp => ?_⟩
      · obtain ⟨x, h1, h2⟩ := f0.at_ i s hs
        refine ⟨x, h1, ?_⟩
        cases s with
        | un => exact h2
        | va r a =>
          obtain ⟨h3, v, h4, h5⟩ := h2
          exact ⟨h3, v, h4, r.mono st.fr h5⟩
        | bo r a =>
          obtain ⟨h3, v, h4, h5⟩ := h2
          exact ⟨h3, v, h4, r.mono (φ := ⟨G, H0⟩) (ψ := ⟨G2, H0⟩) ⟨st.fr, Ex.refl _⟩ h5⟩
        | ow o a =>
          obtain ⟨v, h4, h5⟩ := h2
          exact ⟨v, h4, o.mono st.fr (fun p _ u hu => st.ex p u hu) h5⟩
      · obtain ⟨⟨u, h1⟩, h2, h3⟩ := f0.own i p hp
        exact ⟨⟨u, st.ex p u h1⟩, st.nw p u h1 h2, h3⟩
    exact ⟨fps, this, rfl⟩
  obtain ⟨f, rfl⟩ := f
  refine ⟨_, f.put (s' := .ow o a) (fp := fp) ⟨v, rfl, k⟩ fun p hp => ⟨.inr fun j hj => ?_, o.ins k p hp, (hf p hp).2⟩⟩
  obtain ⟨u, hu⟩ := (f0.own j p hj).1
  rw [(hf p hp).1] at hu
  cases hu
def Weak (sl sl' : List Slot) : Prop := ∀ (i : Nat) (s : Slot), sl'[i]? = some s → s = .un ∧ i < sl.length ∨ sl[i]? = some s
theorem Fits.weak {sl' : List Slot} (h : Fits H0 G H sl σ) (w : Weak sl sl') : Fits H0 G H sl' σ := by
  classical
  obtain ⟨fps, f⟩ := h
  refine ⟨fun i => if sl'[i]? = some Slot.un then [] else fps i, fun i s hs => ?_, fun i j p hij hp hq => ?_, fun i p hp => ?_⟩
  · rcases w i s hs with ⟨rfl, hl⟩ | h1
    · refine ⟨_, List.getElem?_eq_getElem (f.lt hl), ?_⟩
      show (if _ then _ else _) = _
      rw [if_pos hs]
    · obtain ⟨x, h2, h3⟩ := f.at_ i s h1
      refine ⟨x, h2, ?_⟩
      by_cases hu : sl'[i]? = some Slot.un
      · rw [if_pos hu]
        rw [hs] at hu
        cases hu
        rfl
      · rw [if_neg hu]
        exact h3
  · split at hp
    · cases hp
    · split at hq
      · cases hq
      · exact f.sep i j p hij hp hq
  · split at hp
    · cases hp
    · exact f.own i p hp
theorem weak_nil {sl : List Slot} : Weak sl [] := fun i s h => by simp at h
theorem weak_un {s0 : Slot} {sl sl' : List Slot} (h : Weak sl sl') : Weak (s0 :: sl) (.un :: sl') := fun i s hs => by
  cases i with
  | zero => exact .inl ⟨(Option.some.inj hs).symm, by simp⟩
  | succ i =>
    rcases h i s hs with ⟨h1, h2⟩ | h1
    · exact .inl ⟨h1, by simp; omega⟩
    · exact .inr h1
theorem weak_eq {s0 : Slot} {sl sl' : List Slot} (h : Weak sl sl') : Weak (s0 :: sl) (s0 :: sl') := fun i s hs => by
  cases i with
  | zero => exact .inr hs
  | succ i =>
    rcases h i s hs with ⟨h1, h2⟩ | h1
    · exact .inl ⟨h1, by simp; omega⟩
    · exact .inr h1
def Upd (js : List Nat) (σ σ2 : L2.St) : Prop := σ2.length = σ.length ∧ ∀ i, i ∉ js → σ2[i]? = σ[i]?
theorem wipe_get {σ : L2.St} : ∀ {vs : List Nat} {i : Nat}, (L2.wipe σ vs)[i]? = if i ∈ vs then (if i < σ.length then some none else none) else σ[i]?
  | [], i => by simp [L2.wipe]
  | v :: vs, i => by
    unfold L2.wipe
    rw [List.getElem?_set, L2.wipe_length, wipe_get (vs := vs)]
    by_cases h : v = i
    · subst h
      simp
    · have h2 : ¬ i = v := fun z => h z.symm
      simp [h, h2]
theorem wipe_upd {js vs : List Nat} (h : ∀ j ∈ js, j ∈ vs) (u : Upd js (L2.wipe σ vs) σ2) : L2.wipe σ2 vs = L2.wipe σ vs := by
  refine List.ext_getElem? fun i => ?_
  rw [wipe_get, wipe_get, u.1, L2.wipe_length]
  by_cases hi : i ∈ vs
  · rw [if_pos hi, if_pos hi]
  · rw [if_neg hi, if_neg hi, u.2 i fun z => hi (h i z), wipe_get, if_neg hi]
structure Tgt (g : TG) (r : AR α) (js : List Nat) (T : α → List Slot → List Slot) : Prop where
  run : ∀ (ψ : Fm) H x a σ (Q : L2.St → Hp → Prop), ψ.In H → r.rel ψ x a → (∀ σ2, Upd js σ σ2 → (∀ sl, Rd ψ sl σ → Rd ψ (T a sl) σ2) → (∀ sl, Fits ψ.B ψ.F H sl σ → Fits ψ.B ψ.F H (T a sl) σ2) → Q σ2 H) → g x σ H Q
theorem upd_set {j : Nat} {x : Option V} : Upd [j] σ (σ.set j x) := ⟨List.length_set, fun i hi => by
  rw [List.getElem?_set, if_neg fun z => hi (by rw [z]; exact List.mem_singleton.mpr rfl)]⟩
theorem tg_n {j : Nat} : Tgt (gName j) (pr rr) [j] (fun a sl => sl.set j (.va rr a)) := ⟨fun ψ H x a σ Q _ hx k =>
  k _ upd_set (fun sl h => h.set ⟨x, rfl, hx⟩) fun sl h => h.setV hx⟩
def rPA (r : AR α) (s : AR β) : AR (α × β) := ⟨fun φ v c => ∃ p x y, v = .ref p ∧ φ.F p = some (.tup [x, y]) ∧ r.rel φ x c.1 ∧ s.rel φ y c.2, fun l ⟨p, x, y, h, t, a, b⟩ => ⟨p, x, y, h, l.1 p _ t, r.mono l a, s.mono l b⟩⟩
theorem Upd.trans {σ3 : L2.St} {js ks : List Nat} (h : Upd js σ σ2) (k : Upd ks σ2 σ3) : Upd (js ++ ks) σ σ3 := ⟨k.1.trans h.1, fun i hi => by
  rw [k.2 i fun z => hi (List.mem_append_right _ z), h.2 i fun z => hi (List.mem_append_left _ z)]⟩
theorem tg_p {g1 g2 : TG} {js ks : List Nat} {T1 : α → List Slot → List Slot} {T2 : β → List Slot → List Slot} (h1 : Tgt g1 r js T1) (h2 : Tgt g2 s ks T2) : Tgt (gTup K 2 (gCons g1 (gCons g2 gNil))) (rPA r s) (js ++ ks) (fun c sl => T2 c.2 (T1 c.1 sl)) := ⟨fun ψ H x c σ Q e ⟨p, y, z, hx, ht, k1, k2⟩ k =>
  ⟨p, [y, z], hx, SqT.of (e.1 p _ ht), rfl, y, [z], rfl, h1.run ψ H y c.1 σ _ e k1 fun σ2 u2 a2 b2 => ⟨z, [], rfl, h2.run ψ H z c.2 σ2 _ e k2 fun σ3 u3 a3 b3 => ⟨rfl, k σ3 (u2.trans u3) (fun sl hh => a3 _ (a2 _ hh)) fun sl hh => b3 _ (b2 _ hh)⟩⟩⟩⟩
theorem tg_p' {g1 g2 : TG} {js ks : List Nat} {T1 : α → List Slot → List Slot} {T2 : β → List Slot → List Slot} (h1 : Tgt g1 (pr rr) js T1) (h2 : Tgt g2 (pr ss) ks T2) : Tgt (gTup K 2 (gCons g1 (gCons g2 gNil))) (pr (rPair rr ss)) (js ++ ks) (fun c sl => T2 c.2 (T1 c.1 sl)) := tg_p (K := K) h1 h2
theorem tg_t {zz : Rep γ} {g1 g2 g3 : TG} {js ks ls : List Nat} {T1 : α → List Slot → List Slot} {T2 : β → List Slot → List Slot} {T3 : γ → List Slot → List Slot} (h1 : Tgt g1 (pr rr) js T1) (h2 : Tgt g2 (pr ss) ks T2) (h3 : Tgt g3 (pr zz) ls T3) :
    Tgt (gTup K 3 (gCons g1 (gCons g2 (gCons g3 gNil)))) (pr (rTri rr ss zz)) (js ++ (ks ++ ls)) (fun c sl => T3 c.2.2 (T2 c.2.1 (T1 c.1 sl))) := ⟨fun ψ H x c σ Q e ⟨p, y, z, w, hx, ht, k1, k2, k3⟩ k =>
  ⟨p, [y, z, w], hx, SqT.of (e.1 p _ ht), rfl, y, [z, w], rfl, h1.run ψ H y c.1 σ _ e k1 fun σ2 u2 a2 b2 => ⟨z, [w], rfl, h2.run ψ H z c.2.1 σ2 _ e k2 fun σ3 u3 a3 b3 => ⟨w, [], rfl, h3.run ψ H w c.2.2 σ3 _ e k3 fun σ4 u4 a4 b4 => ⟨rfl, k σ4 (u2.trans (u3.trans u4)) (fun sl hh => a4 _ (a3 _ (a2 _ hh))) fun sl hh => b4 _ (b3 _ (b2 _ hh))⟩⟩⟩⟩⟩
def YD (ψ : Fm) (r : AR α) (as : List α) : Nat → Hp → V → Hp → Prop := fun i H x H' => Ex H H' ∧ ∃ a, as[i]? = some a ∧ r.rel (ψ.go H H') x a
def Src (wi : TI) (σ : L2.St) (φ : Fm) (r : AR α) (as : List α) : Prop :=
  ∀ H1, φ.In H1 → ∀ R : It → Hp → Prop, (∀ J H2, Ex H1 H2 → Walk J as.length (fun H => (φ.go H1 H2).In H) (YD (φ.go H1 H2) r as) → R J H2) → wi σ H1 R
theorem Src.to {wi : TI} {r' : AR α} (h : Src wi σ φ r as) (f : ∀ ψ v a, r.rel ψ v a → r'.rel ψ v a) : Src wi σ φ r' as := fun H1 e R k => h H1 e R fun J H2 e2 w => k J H2 e2 (w.mono (fun _ z => z) fun i H x H' _ _ ⟨y1, a, y2, y3⟩ => ⟨y1, a, y2, f _ _ _ y3⟩)
theorem src_list (h : Er (rB r) ta σ φ as) : Src (iList K ta) σ φ r as := fun H1 e R k => h H1 e _ fun v H2 e2 ⟨p, xs, hv, hp, ha⟩ => by
  refine ⟨p, hv, ⟨xs, sqB e e2 hp⟩, k _ H2 e2 ?_⟩
  have w := walk_list (K := K) (a := p) (xs := xs)
  rw [ha.len] at w
  refine w.mono (fun H e => SqL.of (hp.elim (e.2 _ _) (e.1 _ _))) fun i H x H' hi e ⟨y1, y2⟩ => ?_
  subst y1
  obtain ⟨a, h1, h2⟩ := ha.get y2
  exact ⟨Ex.refl _, a, h1, r.mono Fm.go_le h2⟩
theorem src_tup (h : Er (pr (rTup rr)) ta σ φ as) : Src (iTup K ta) σ φ (pr rr) as := fun H1 e R k => h H1 e _ fun v H2 e2 ⟨p, xs, hv, hp, ha⟩ => by
  refine ⟨p, hv, ⟨xs, SqT.of (part_sub (e.1.trans e2) p _ hp)⟩, k _ H2 e2 ?_⟩
  have w := walk_tup (K := K) (a := p) (xs := xs)
  rw [ha.len] at w
  refine w.mono (fun H e => SqT.of (e.1 p _ hp)) fun i H x H' hi e ⟨y1, y2⟩ => ?_
  subst y1
  obtain ⟨a, h1, h2⟩ := ha.get y2
  exact ⟨Ex.refl _, a, h1, rr.mono part_ex h2⟩
theorem walkR {lo : Int} {n : Nat} : Walk (Itr lo n) (rng lo n).length (fun H => ψ.In H) (YD ψ (pr rInt) (rng lo n)) := by
  rw [rng_len]
  refine walk_range.mono (fun _ _ => trivial) fun i H x H' hi e ⟨y1, y2⟩ => ?_
  subst y1
  exact ⟨Ex.refl _, _, rng_get hi, y2⟩
def small (n : Int) : Bool := decide (-1000000 ≤ n ∧ n ≤ 1000000)
theorem src_rng1 {n : Int} (h : Er (pr rInt) ta σ φ n) (hn : small n = true) : Src (iRng1 (tCons ta tNil)) σ φ (pr rInt) (rng 0 n.toNat) := fun H1 e R k => h H1 e _ fun v H2 e2 hr => by
  have hn := of_decide_eq_true hn
  cases (show v = V.int n from hr)
  exact ⟨n, rfl, by omega, by omega, k _ H2 e2 walkR⟩
theorem src_rng2 {lo n : Int} (h : Er (pr rInt) ta σ φ lo) (h2 : Er (pr rInt) tb σ φ n) (hl : small lo = true) (hn : small n = true) : Src (iRng2 (tCons ta (tCons tb tNil))) σ φ (pr rInt) (rng lo (n - lo).toNat) := fun H1 e R k => er_two h h2 e fun v w H2 e2 hr hw => by
  have hl := of_decide_eq_true hl
  have hn := of_decide_eq_true hn
  cases (show v = V.int lo from hr)
  cases (show w = V.int n from hw)
  exact ⟨lo, n, rfl, by omega, k _ H2 e2 walkR⟩
theorem pairA_new {T : Addr} {x y : V} (eG : ψ.In H) (hT : H T = none) (hx : r.rel ψ x a) (hy : s.rel ψ y b) : (rPA r s).rel (ψ.go H (upd H T (.tup [x, y]))) (.ref T) (a, b) := by
  refine ⟨T, x, y, rfl, ?_, r.mono Fm.go_le hx, s.mono Fm.go_le hy⟩
  show part ψ.F H _ T = _
  rw [part_new (back_none eG.1 hT) hT]
  exact upd_same
theorem src_enum (h : Er (rB r) ta σ φ as) : Src (iEnum K (tCons ta tNil)) σ φ (rPA (pr rInt) r) (List.zip (rng 0 as.length) as) := fun H1 e R k => h H1 e _ fun v H2 e2 ⟨p, xs, hv2, hp, ha⟩ => by
  subst hv2
  refine ⟨p, xs, rfl, sqB e e2 hp, k _ H2 e2 ?_⟩
  have w := walk_enum (K := K) (a := p) (xs := xs)
  rw [ha.len] at w
  rw [List.length_zip, rng_len, Nat.min_self]
  refine w.mono (fun H e => SqL.of (hp.elim (e.2 _ _) (e.1 _ _))) fun i H x H' hi e ⟨T, y, z, y1, y2, y3, y4, y5⟩ => ?_
  subst y1
  subst y3
  obtain ⟨a, h1, h2⟩ := ha.get y5
  refine ⟨Ex.new y2, ((0 : Int) + (i : Int), a), ?_, pairA_new e y2 ?_ h2⟩
  · rw [List.getElem?_zip_eq_some]
    exact ⟨rng_get hi, h1⟩
  · show y = V.int ((0 : Int) + (i : Int))
    rw [Int.zero_add]
    exact (Option.some.inj y4).symm
theorem src_enumT (h : Er (pr (rTup rr)) ta σ φ as) : Src (DLT.iEnumT K (tCons ta tNil)) σ φ (rPA (pr rInt) (pr rr)) (List.zip (rng 0 as.length) as) := fun H1 e R k => h H1 e _ fun v H2 e2 ⟨p, xs, hv2, hp, ha⟩ => by
  subst hv2
  refine ⟨p, xs, rfl, SqT.of (part_sub (e.1.trans e2) p _ hp), k _ H2 e2 ?_⟩
  have hl : (List.zip (rng 0 as.length) as).length = xs.length := by rw [List.length_zip, rng_len, Nat.min_self, ha.len]
  rw [hl]
  refine ⟨fun i H hi eG => ⟨xs, xs[i], SqT.of (eG.1 p _ hp), List.getElem?_eq_getElem hi⟩, fun H eG => ⟨xs, SqT.of (eG.1 p _ hp), rfl⟩, fun i H x H' hi eG ⟨T, y, y1, y2, y3, y4⟩ => ?_⟩
  subst y1
  subst y3
  obtain ⟨a, h1, h2⟩ := ha.get (y4 xs (SqT.of (eG.1 p _ hp)))
  refine ⟨Ex.new y2, ((0 : Int) + (i : Int), a), ?_, pairA_new eG y2 ?_ h2⟩
  · rw [List.getElem?_zip_eq_some]
    exact ⟨rng_get (by rw [← ha.len]; exact hi), h1⟩
  · show V.int _ = V.int ((0 : Int) + (i : Int))
    rw [Int.zero_add]
theorem src_zip (h : Er (rB r) ta σ φ as) (h2 : Er (rB s) tb σ φ bs) : Src (iZip K (tCons ta (tCons tb tNil))) σ φ (rPA r s) (List.zip as bs) := fun H1 e R k => er_two h h2 e fun v w H2 e2 ⟨p, xs, hv2, hp, ha⟩ ⟨q, ys, hw2, hq, hb⟩ => by
  subst hv2 hw2
  refine ⟨p, q, xs, ys, rfl, sqB e e2 hp, sqB e e2 hq, k _ H2 e2 ?_⟩
  have w := walk_zip (K := K) (a := p) (b := q) (xs := xs) (ys := ys) (n := (List.zip as bs).length) (by rw [List.length_zip, ha.len, hb.len])
  refine w.mono (fun H e => ⟨SqL.of (hp.elim (e.2 _ _) (e.1 _ _)), SqL.of (hq.elim (e.2 _ _) (e.1 _ _))⟩) fun i H x H' hi e ⟨T, y, z, y1, y2, y3, y4, y5⟩ => ?_
  subst y1
  subst y3
  obtain ⟨a, h1, h2⟩ := ha.get y4
  obtain ⟨b, h3, h4⟩ := hb.get y5
  refine ⟨Ex.new y2, (a, b), ?_, pairA_new e y2 h2 h4⟩
  rw [List.getElem?_zip_eq_some]
  exact ⟨h1, h3⟩
theorem src_zipM (h : Er (rB r) ta σ φ as) (h2 : Er (pr (rTup ss)) tb σ φ bs) : Src (DLT.iZipM K (tCons ta (tCons tb tNil))) σ φ (rPA r (pr ss)) (List.zip as bs) := fun H1 e R k => er_two h h2 e fun v w H2 e2 ⟨p, xs, hv2, hp, ha⟩ ⟨q, ys, hw2, hq, hb⟩ => by
  subst hv2 hw2
  refine ⟨p, q, xs, ys, rfl, sqB e e2 hp, SqT.of (part_sub (e.1.trans e2) q _ hq), k _ H2 e2 ?_⟩
  have hl : (List.zip as bs).length = min xs.length ys.length := by rw [List.length_zip, ha.len, hb.len]
  rw [hl]
  have hP : ∀ H, (φ.go H1 H2).In H → SqL K H p xs := fun H e => SqL.of (hp.elim (e.2 _ _) (e.1 _ _))
  refine ⟨fun i H hi eG => ⟨xs, ys, xs[i]'(by omega), ys[i]'(by omega), hP H eG, SqT.of (eG.1 q _ hq), List.getElem?_eq_getElem _, List.getElem?_eq_getElem _⟩, fun H eG => ⟨xs, ys, hP H eG, SqT.of (eG.1 q _ hq), rfl⟩, fun i H x H' hi eG ⟨T, y, z, y1, y2, y3, y4, y5⟩ => ?_⟩
  subst y1
  subst y3
  obtain ⟨a, h1, h2⟩ := ha.get (y4 xs (hP H eG))
  obtain ⟨b, h3, h4⟩ := hb.get (y5 ys (SqT.of (eG.1 q _ hq)))
  refine ⟨Ex.new y2, (a, b), ?_, pairA_new eG y2 h2 h4⟩
  rw [List.getElem?_zip_eq_some]
  exact ⟨h1, h3⟩
end
def compM {α β : Type} (f : α → Option Bool) (m : α → Option β) : List α → Option (List β)
  | [] => some []
  | a :: as => match f a with
    | none => none
    | some false => compM f m as
    | some true => match m a with
      | none => none
      | some y => (compM f m as).map (y :: ·)
def comp2 {α γ β : Type} (f : α → Option Bool) (cs : α → Option (List γ)) (f1 : α → γ → Option Bool) (m : α → γ → Option β) : List α → Option (List β)
  | [] => some []
  | a :: as => match f a with
    | none => none
    | some false => comp2 f cs f1 m as
    | some true => match cs a with
      | none => none
      | some l => match compM (f1 a) (m a) l with
        | none => none
        | some ys => (comp2 f cs f1 m as).map (ys ++ ·)
section
variable {α β γ : Type} {f : α → Option Bool} {m : α → Option β}
theorem compM_snoc {a : α} : ∀ {l : List α} {bs : List β}, compM f m (l ++ [a]) = some bs → ∃ b0, compM f m l = some b0 ∧ ((f a = some false ∧ bs = b0) ∨ ∃ y, f a = some true ∧ m a = some y ∧ bs = b0 ++ [y])
  | [], bs, h => by
    refine ⟨[], rfl, ?_⟩
    simp only [List.nil_append, compM] at h
    cases hf : f a with
    | none => rw [hf] at h; cases h
    | some k =>
      rw [hf] at h
      cases k with
      | false => cases h; exact .inl ⟨rfl, rfl⟩
      | true =>
        cases hm : m a with
        | none => rw [hm] at h; cases h
        | some y => rw [hm] at h; cases h; exact .inr ⟨y, rfl, rfl, rfl⟩
  | c :: l, bs, h => by
    simp only [List.cons_append, compM] at h ⊢
    cases hf : f c with
    | none => rw [hf] at h; cases h
    | some k =>
      rw [hf] at h
      cases k with
      | false => exact compM_snoc h
      | true =>
        cases hm : m c with
        | none => simp only [hm] at h; cases h
        | some y =>
          simp only [hm] at h
          cases hr : compM f m (l ++ [a]) with
          | none => rw [hr] at h; cases h
          | some bs' =>
            rw [hr] at h
            cases h
            obtain ⟨b0, h1, h2⟩ := compM_snoc hr
            refine ⟨y :: b0, by simp only [h1]; rfl, ?_⟩
            rcases h2 with ⟨h3, rfl⟩ | ⟨z, h3, h4, rfl⟩
            · exact .inl ⟨h3, rfl⟩
            · exact .inr ⟨z, h3, h4, rfl⟩
theorem compM_pre : ∀ {l k : List α} {bs : List β}, compM f m (l ++ k) = some bs → ∃ b0 b1, compM f m l = some b0 ∧ bs = b0 ++ b1
  | [], k, bs, h => ⟨[], bs, rfl, rfl⟩
  | c :: l, k, bs, h => by
    simp only [List.cons_append, compM] at h ⊢
    cases hf : f c with
    | none => rw [hf] at h; cases h
    | some q =>
      rw [hf] at h
      cases q with
      | false => exact compM_pre h
      | true =>
        cases hm : m c with
        | none => simp only [hm] at h; cases h
        | some y =>
          simp only [hm] at h
          cases hr : compM f m (l ++ k) with
          | none => rw [hr] at h; cases h
          | some bs' =>
            rw [hr] at h
            cases h
            obtain ⟨b0, b1, h1, h2⟩ := compM_pre hr
            exact ⟨y :: b0, b1, by simp only [h1]; rfl, by rw [h2]; rfl⟩
theorem compM_take {as : List α} {bs : List β} (h : compM f m as = some bs) (i : Nat) : ∃ b0, compM f m (as.take i) = some b0 := by
  rw [← List.take_append_drop i as] at h
  obtain ⟨b0, b1, h1, _⟩ := compM_pre h
  exact ⟨b0, h1⟩
theorem compM_len : ∀ {as : List α} {bs : List β}, compM f m as = some bs → bs.length ≤ as.length
  | [], bs, h => by cases h; exact Nat.le_refl _
  | c :: l, bs, h => by
    simp only [compM] at h
    cases hf : f c with
    | none => rw [hf] at h; cases h
    | some q =>
      rw [hf] at h
      cases q with
      | false => exact Nat.le_trans (compM_len h) (Nat.le_succ _)
      | true =>
        cases hm : m c with
        | none => simp only [hm] at h; cases h
        | some y =>
          simp only [hm] at h
          cases hr : compM f m l with
          | none => rw [hr] at h; cases h
          | some bs' =>
            rw [hr] at h
            cases h
            exact Nat.succ_le_succ (compM_len hr)
theorem compM_tot {f' : α → Bool} {m' : α → β} : ∀ as : List α, compM (fun a => some (f' a)) (fun a => some (m' a)) as = some ((as.filter f').map m')
  | [] => rfl
  | a :: as => by
    simp only [compM]
    rw [compM_tot as, List.filter_cons]
    cases f' a <;> rfl
end
section
variable {α β γ δ : Type} {K : PySem.W.Frag} {σ σ2 : L2.St} {φ ψ : Fm} {F F0 H0 G G2 H H1 H2 H3 : Hp} {ta tb te tx : TE} {t u : TT} {v : V} {r : AR α} {s : AR β} {rr : Rep α} {ss : Rep β} {a : α} {b : β} {as : List α} {bs : List β} {o : OR α} {p : Addr} {xs : List V} {i : Nat} {sl : List Slot}
theorem cut_one {D : Addr} : cut H [D] = mns H D := by
  funext q
  by_cases h : q = D
  · rw [cut_in (by rw [h]; exact List.mem_singleton.mpr rfl), h, mns_at]
  · rw [cut_out (fun z => h (List.mem_singleton.mp z)), mns_ne h]
theorem eo_lc {wi : TI} {g : TG} {tt : TT} {vs js : List Nat} {T : α → List Slot → List Slot} {f : α → Option Bool} {m : α → Option β} (rd : Rd φ sl σ) (h : Src wi σ φ r as) (hg : Tgt g r js T) (hj : ∀ j ∈ js, j ∈ vs) (hn : as.length < 100000) (hc : compM f m as = some bs)
    (hw : ∀ a ∈ as, ∀ ψ σ2, φ.le ψ → Rd ψ (T a (wipeS sl vs)) σ2 → (∀ b, f a = some b → Et tt σ2 ψ b) ∧ (∀ y, m a = some y → Er (pr ss) te σ2 ψ y)) :
    Eo (oV ss) (tLc wi g tt te vs) σ φ bs := fun H1 e Q q => h H1 e _ fun J H2 e2 w D hD => by
  have mem : ∀ i a, as[i]? = some a → a ∈ as := fun i a h => List.mem_of_getElem? h
  have tk : ∀ i a, as[i]? = some a → as.take (i + 1) = as.take i ++ [a] := fun i a h => by
    rw [List.take_add_one, h]
    rfl
  refine lc_it w (fun i H' => ∃ acc bi, H' D = some (.lst acc) ∧ Ex H2 (mns H' D) ∧ compM f m (as.take i) = some bi ∧ Al (ss.rel (mns (part φ.F H1 H') D)) acc bi) ?_ ?_ ?_ ?_
  · refine ⟨[], [], upd_same, ?_, rfl, .nil⟩
    rw [mns_upd]
    exact ex_mns (Ex.refl _) hD
  · rintro i H' _ ⟨acc, bi, h1, h2, _⟩
    exact (Fm.go_in e e2).trans (h2.trans mns_sub)
  · rintro i x H' H'' hi ⟨acc, bi, h1, h2, h3, h4⟩ ⟨y1, a, y2, y3⟩
    have hlen : acc.length < 100000 := by
      have l1 := h4.len
      have l2 := compM_len h3
      rw [List.length_take] at l2
      omega
    have eG : (φ.go H1 H2).In H' := (Fm.go_in e e2).trans (h2.trans mns_sub)
    refine hg.run _ H'' x a _ _ (Fm.go_in eG y1) y3 fun σ2 hu hrd _ => ?_
    have l2 : φ.le ((φ.go H1 H2).go H' H'') := Fm.go_le.trans Fm.go_le
    obtain ⟨ht, he⟩ := hw a (mem _ _ y2) _ σ2 l2 (hrd _ ((rd.mono l2).wipe vs))
    refine ⟨wipe_upd hj hu, ?_⟩
    obtain ⟨b1, hb1⟩ := compM_take hc (i + 1)
    rw [tk i a y2] at hb1
    obtain ⟨b0, hb0, hcase⟩ := compM_snoc hb1
    have hbb : b0 = bi := Option.some.inj (hb0.symm.trans h3)
    rw [hbb] at hcase
    have e12a : Ex H2 H'' := (h2.trans mns_sub).trans y1
    rcases hcase with ⟨hf, hbe⟩ | ⟨y, hf, hm, hbe⟩ <;> rw [hbe] at hb1
    · refine ht _ hf H'' (Fm.go_in eG y1) _ fun H3 e3 => ?_
      refine ⟨acc, bi, e3 D _ (y1 D _ h1), ex_mns (e12a.trans e3) hD, ?_, ?_⟩
      · rw [tk i a y2]
        exact hb1
      · exact h4.imp fun _ _ k => ss.mono (mns_up (part_up (y1.trans e3))) k
    · refine ht _ hf H'' (Fm.go_in eG y1) _ fun H3 e3 => ?_
      have e12 : Ex H2 H3 := e12a.trans e3
      refine he _ hm H3 ((Fm.go_in eG y1).trans e3) _ fun z H4 e4 rz => ?_
      refine ⟨acc, e4 D _ (e3 D _ (y1 D _ h1)), sz_lt hlen, acc ++ [z], bi ++ [y], upd_same, ?_, ?_, ?_⟩
      · rw [mns_upd]
        exact ex_mns (e12.trans e4) hD
      · rw [tk i a y2]
        exact hb1
      · refine Al.snoc (h4.imp fun _ _ k => ss.mono ((mns_up (part_up (y1.trans (e3.trans e4)))).trans part_put) k) (ss.mono (Ex.trans ?_ part_put) rz)
        have gsub : Ex (part (part φ.F H1 H2) H' H'') (part φ.F H1 H3) := (part_part e2 (h2.trans mns_sub) y1).trans (part_up e3)
        have d2 : part φ.F H1 H2 D = none := by
          have dF : φ.F D = none := back_none (e.1.trans e2) hD
          rw [part_new dF (back_none e2 hD)]
          exact hD
        exact part_elem gsub e.1 (e2.trans e12) e4 (e3 D _ (y1 D _ h1)) (part_old d2 h1)
  · rintro H' ⟨acc, bi, h1, h2, h3, h4⟩
    rw [List.take_length, hc] at h3
    cases h3
    refine q _ H' [D] (e2.trans (h2.trans mns_sub)) (fun p hp => by rw [List.mem_singleton.mp hp]; exact back_none e2 hD) ⟨D, acc, rfl, rfl, h1, ?_⟩
    rw [cut_one]
    exact h4
end
end Q
set_option Elab.async false
set_option linter.all false
set_option maxRecDepth 100000
set_option maxHeartbeats 2000000
namespace Q
open PySem L2 Evl DL
inductive Ctl (S R : Type)
  | nx (s : S)
  | ct (s : S)
  | bk (s : S)
  | rt (r : R)
def loop {α S R : Type} (step : α → S → Option (Ctl S R)) : List α → S → Option (Ctl S R)
  | [], s => some (.nx s)
  | a :: as, s => match step a s with
    | none => none
    | some (.nx s') => loop step as s'
    | some (.ct s') => loop step as s'
    | some (.bk s') => some (.nx s')
    | some (.rt r) => some (.rt r)
def wloop {S R : Type} (c : S → Option Bool) (step : S → Option (Ctl S R)) : Nat → S → Option (Ctl S R)
  | 0, _ => none
  | n + 1, s => match c s with
    | none => none
    | some false => some (.nx s)
    | some true => match step s with
      | none => none
      | some (.nx s') => wloop c step n s'
      | some (.ct s') => wloop c step n s'
      | some (.bk s') => some (.nx s')
      | some (.rt r) => some (.rt r)
theorem bS {α β : Type} {o : Option α} {k : α → Option β} {c : β} (h : o.bind k = some c) : ∃ x, o = some x ∧ k x = some c := Option.bind_eq_some_iff.mp h
def chk (b : Bool) : Option Unit := if b = true then some () else none
theorem ckS {β : Type} {b : Bool} {k : Unit → Option β} {c : β} (h : (chk b).bind k = some c) : b = true ∧ k () = some c := by
  unfold chk at h
  cases b with
  | true => exact ⟨rfl, h⟩
  | false => cases h
theorem ifT {α : Type} {b : Bool} {x y z : α} (h : (if b = true then x else y) = z) (hb : b = true) : x = z := by
  rw [if_pos hb] at h
  exact h
theorem ifF {α : Type} {b : Bool} {x y z : α} (h : (if b = true then x else y) = z) (hb : b = false) : y = z := by
  rw [if_neg (by rw [hb]; decide)] at h
  exact h
structure WB (Gb F0 H0 G H : Hp) : Prop extends Wd F0 H0 G H where
  bs : Ex Gb G
abbrev Nx (Gb F0 H0 : Hp) (P : L2.St → Hp → Prop) (sl : List Slot) : Prop := ∀ σ G H, WB Gb F0 H0 G H → Fits H0 G H sl σ → P σ H
def Lands {S R : Type} (D : Ends) (Gb F0 H0 : Hp) (sh : S → List Slot) (rv : R → V → Hp → Prop) : Ctl S R → Prop
  | .nx s => Nx Gb F0 H0 D.nx (sh s)
  | .ct s => Nx Gb F0 H0 D.ct (sh s)
  | .bk s => Nx Gb F0 H0 D.bk (sh s)
  | .rt r => ∀ v H2, rv r v H2 → D.rt v H2
section
variable {α β γ δ S R : Type} {K : PySem.W.Frag} {σ σ2 : L2.St} {φ ψ : Fm} {F Gb F0 H0 G G2 H H1 H2 H3 : Hp} {ta tb te tx : TE} {t u : TT} {v : V} {r : AR α} {s : AR β} {rr : Rep α} {ss : Rep β} {a : α} {b : β} {as : List α} {bs : List β} {o : OR α} {p : Addr} {xs : List V} {i j : Nat} {sl : List Slot} {D : Ends} {tu tw tz : TS} {g : TG} {rv : R → V → Hp → Prop} {sh : S → List Slot}
theorem FitsW.go {fps : Nat → List Addr} (f : FitsW H0 G H sl σ fps) (st : Stp none G H G2 H2) : FitsW H0 G2 H2 sl σ fps where
  at_ := fun i s hs => by
    obtain ⟨x, h1, h2⟩ := f.at_ i s hs
    refine ⟨x, h1, ?_⟩
    cases s with
    | un => exact h2
    | va r a =>
      obtain ⟨h3, v, h4, h5⟩ := h2
      exact ⟨h3, v, h4, r.mono st.fr h5⟩
    | bo r a =>
      obtain ⟨h3, v, h4, h5⟩ := h2
      exact ⟨h3, v, h4, r.mono (φ := ⟨G, H0⟩) (ψ := ⟨G2, H0⟩) ⟨st.fr, Ex.refl _⟩ h5⟩
    | ow o a =>
      obtain ⟨v, h4, h5⟩ := h2
      exact ⟨v, h4, o.mono st.fr (fun p _ u hu => st.ex p u hu) h5⟩
  sep := f.sep
  own := fun i p hp => by
    obtain ⟨⟨u, h1⟩, h2, h3⟩ := f.own i p hp
    exact ⟨⟨u, st.ex p u h1⟩, st.nw p u h1 h2, h3⟩
theorem FitsW.upd {fps : Nat → List Addr} {w : HO} (f : FitsW H0 G H sl σ fps) (hp : p ∈ fps i) (hi : σ[i]? = some (some v)) (k : o.rel G (upd H p w) (fps i) v a) : FitsW H0 G (upd H p w) (sl.set i (.ow o a)) σ fps where
  at_ := fun j s hs => by
    rcases get_set hs with ⟨rfl, rfl, hl⟩ | ⟨hne, hs⟩
    · exact ⟨_, hi, v, rfl, k⟩
    · obtain ⟨x, h1, h2⟩ := f.at_ j s hs
      refine ⟨x, h1, ?_⟩
      cases s with
      | un => exact h2
      | va r a => exact h2
      | bo r a => exact h2
      | ow o a =>
        obtain ⟨v, h4, h5⟩ := h2
        refine ⟨v, h4, o.mono (Ex.refl _) (fun q hq u hu => ?_) h5⟩
        have hqp : q ≠ p := fun z => f.sep i j p hne hp (by rw [← z]; exact hq)
        rw [upd_ne hqp]
        exact hu
  sep := f.sep
  own := fun j q hq => by
    obtain ⟨⟨u, h1⟩, h2, h3⟩ := f.own j q hq
    refine ⟨?_, h2, h3⟩
    by_cases hqp : q = p
    · subst hqp
      exact ⟨w, upd_same⟩
    · exact ⟨u, by rw [upd_ne hqp]; exact h1⟩
theorem Fits.re {s0 s' : Slot} (h : Fits H0 G H sl σ) (hi : sl[i]? = some s0) (hc : ∀ fp x, s0.ft H0 G H fp x → s'.ft H0 G H fp x) : Fits H0 G H (sl.set i s') σ := by
  obtain ⟨fps, f⟩ := h
  refine ⟨fps, fun j s hs => ?_, f.sep, f.own⟩
  rcases get_set hs with ⟨rfl, rfl, hl⟩ | ⟨hne, hs⟩
  · obtain ⟨x, h1, h2⟩ := f.at_ i s0 hi
    exact ⟨x, h1, hc _ _ h2⟩
  · exact f.at_ j s hs
theorem Fits.someV (h : Fits H0 G H sl σ) (i : Nat) (hi : sl[i]? = some (.va (rOpt rr) (some a))) : Fits H0 G H (sl.set i (.va rr a)) σ := h.re hi fun fp x k => k
theorem Fits.freeze (w : Wd F0 H0 G H) (h : Fits H0 G H sl σ) (i : Nat) (hi : sl[i]? = some (.ow o a)) : ∃ G2, Wd F0 H0 G2 H ∧ Ex G G2 ∧ Fits H0 G2 H (sl.set i (.va o.frz a)) σ := by
  classical
  obtain ⟨fps, f⟩ := h
  obtain ⟨x, hx, v, hv, k⟩ := f.at_ i _ hi
  let G2 : Hp := fun q => if q ∈ fps i then H q else G q
  have hin : ∀ q, q ∈ fps i → G2 q = H q := fun q hq => if_pos hq
  have hout : ∀ q, q ∉ fps i → G2 q = G q := fun q hq => if_neg hq
  have eG : Ex G G2 := fun q u hq => by
    have hn : q ∉ fps i := fun z => by
      rw [(f.own i q z).2.1] at hq
      cases hq
    rw [hout q hn]
    exact hq
  have wd : Wd F0 H0 G2 H := ⟨w.old.trans eG, fun q u hq => by
    by_cases hm : q ∈ fps i
    · rw [hin q hm] at hq
      exact hq
    · rw [hout q hm] at hq
      exact w.sub q u hq, w.up, fun q u hq hn => by
    by_cases hm : q ∈ fps i
    · exact (f.own i q hm).2.2
    · rw [hout q hm] at hq
      exact w.nw q u hq hn⟩
  refine ⟨G2, wd, eG, fun j => if j = i then [] else fps j, fun j s hs => ?_, fun j j' q hj hp hq => ?_, fun j q hq => ?_⟩
  · rcases get_set hs with ⟨rfl, rfl, hl⟩ | ⟨hne, hs⟩
    · refine ⟨x, hx, ?_⟩
      rw [if_pos rfl]
      exact ⟨rfl, v, hv, o.frzs k eG fun q hq u hu => by rw [hin q hq]; exact hu⟩
    · obtain ⟨y, h1, h2⟩ := f.at_ j s hs
      refine ⟨y, h1, ?_⟩
      rw [if_neg (Ne.symm hne)]
      cases s with
      | un => exact h2
      | va r a =>
        obtain ⟨h3, v, h4, h5⟩ := h2
        exact ⟨h3, v, h4, r.mono eG h5⟩
      | bo r a =>
        obtain ⟨h3, v, h4, h5⟩ := h2
        exact ⟨h3, v, h4, r.mono (φ := ⟨G, H0⟩) (ψ := ⟨G2, H0⟩) ⟨eG, Ex.refl _⟩ h5⟩
      | ow o a =>
        obtain ⟨v, h4, h5⟩ := h2
        exact ⟨v, h4, o.mono eG (fun _ _ _ z => z) h5⟩
  · by_cases h1 : j = i
    · rw [if_pos h1] at hp
      cases hp
    · rw [if_neg h1] at hp
      by_cases h2 : j' = i
      · rw [if_pos h2] at hq
        cases hq
      · rw [if_neg h2] at hq
        exact f.sep j j' q hj hp hq
  · by_cases h1 : j = i
    · rw [if_pos h1] at hq
      cases hq
    · rw [if_neg h1] at hq
      obtain ⟨h2, h3, h4⟩ := f.own j q hq
      refine ⟨h2, ?_, h4⟩
      rw [hout q fun z => f.sep j i q h1 hq z]
      exact h3
theorem stp_cut {fp : List Addr} (w : Ex G H) (e : Ex H H2) (hf : ∀ p ∈ fp, H p = none) : Stp none G H (cut (part G H H2) fp) H2 := ⟨ex_cut part_ex fun p hp => back_none w (hf p hp), fun c u h => ⟨u, e c u h, fun _ => rfl⟩, fun c u h n => by
  by_cases hc : c ∈ fp
  · exact cut_in hc
  · rw [cut_out hc, part_old n h]⟩
theorem d_asg (w : WB Gb F0 H0 G H) (f : Fits H0 G H sl σ) (h : Rd ⟨G, H⟩ sl σ → Er (pr rr) te σ ⟨G, H⟩ a) (k : Nx Gb F0 H0 D.nx (sl.set i (.va rr a))) : tAsg te (gName i) D σ H :=
  h (f.rd w.up) H ⟨w.sub, Ex.refl H⟩ _ fun v H2 e hv => k _ (part G H H2) H2 ⟨w.ev e, w.bs.trans part_ex⟩ ((f.go (stp_ev e)).setV hv)
theorem d_asgO (w : WB Gb F0 H0 G H) (f : Fits H0 G H sl σ) (h : Rd ⟨G, H⟩ sl σ → Eo o te σ ⟨G, H⟩ a) (k : Nx Gb F0 H0 D.nx (sl.set i (.ow o a))) : tAsg te (gName i) D σ H :=
  h (f.rd w.up) H ⟨w.sub, Ex.refl H⟩ _ fun v H2 fp e hf hv => by
    have st := stp_cut (G := G) (fp := fp) w.sub e hf
    refine k _ (cut (part G H H2) fp) H2 ⟨w.step st (cut_sub.trans (part_sub (w.sub.trans e))), w.bs.trans st.fr⟩ (f.setO st (fun p hp => ⟨hf p hp, cut_in hp, back_none w.up (hf p hp)⟩) hv)
theorem d_ret (w : WB Gb F0 H0 G H) (f : Fits H0 G H sl σ) (h : Rd ⟨G, H⟩ sl σ → Er (pr rr) te σ ⟨G, H⟩ a) (L : ∀ v H2, rvO (oPr rr) F0 H0 a v H2 → D.rt v H2) : tRet te D σ H :=
  h (f.rd w.up) H ⟨w.sub, Ex.refl H⟩ _ fun v H2 e hv => L v H2 ⟨[], w.up.trans e, (fun p hp => by cases hp), rfl, by rw [cut_nil]; exact w.out hv e⟩
theorem d_retO (w : WB Gb F0 H0 G H) (f : Fits H0 G H sl σ) (h : Rd ⟨G, H⟩ sl σ → Eo o te σ ⟨G, H⟩ a) (L : ∀ v H2, rvO o F0 H0 a v H2 → D.rt v H2) : tRet te D σ H :=
  h (f.rd w.up) H ⟨w.sub, Ex.refl H⟩ _ fun v H2 fp e hf hv => L v H2 ⟨fp, w.up.trans e, fun p hp => back_none w.up (hf p hp), o.mono (cut_up (w.ev e).into) (fun _ _ _ z => z) hv⟩
theorem d_retV (w : WB Gb F0 H0 G H) (f : Fits H0 G H sl σ) (hi : sl[i]? = some (.ow o a)) (L : ∀ v H2, rvO o F0 H0 a v H2 → D.rt v H2) : tRet (tVar i) D σ H := by
  obtain ⟨fps, f⟩ := f
  obtain ⟨x, hx, v, hv, k⟩ := f.at_ i _ hi
  subst hv
  exact ⟨v, hx, L v H ⟨fps i, w.up, fun p hp => (f.own i p hp).2.2, o.mono (ex_cut w.into fun p hp => (f.own i p hp).2.1) (fun _ _ _ z => z) k⟩⟩
theorem d_drop (w : WB Gb F0 H0 G H) (f : Fits H0 G H sl σ) (h : Rd ⟨G, H⟩ sl σ → Er r te σ ⟨G, H⟩ a) (k : Nx Gb F0 H0 D.nx sl) : tDrop te D σ H :=
  h (f.rd w.up) H ⟨w.sub, Ex.refl H⟩ _ fun v H2 e hv => k _ G H2 ⟨w.same e, w.bs⟩ (f.go (stp_same e))
theorem d_next (w : WB Gb F0 H0 G H) (f : Fits H0 G H sl σ) (k : Nx Gb F0 H0 D.nx sl) : tNext D σ H := k σ G H w f
theorem d_if {b : Bool} (w : WB Gb F0 H0 G H) (f : Fits H0 G H sl σ) (h : Rd ⟨G, H⟩ sl σ → Et t σ ⟨G, H⟩ b) (h1 : b = true → ∀ H, WB Gb F0 H0 G H → Fits H0 G H sl σ → tu D σ H) (h2 : b = false → ∀ H, WB Gb F0 H0 G H → Fits H0 G H sl σ → tw D σ H) : tIfS t tu tw D σ H :=
  h (f.rd w.up) H ⟨w.sub, Ex.refl H⟩ _ fun H2 e => by
    cases b with
    | true =>
      show tu D σ H2
      exact h1 rfl H2 ⟨w.same e, w.bs⟩ (f.go (stp_same e))
    | false =>
      show tw D σ H2
      exact h2 rfl H2 ⟨w.same e, w.bs⟩ (f.go (stp_same e))
theorem d_app (w : WB Gb F0 H0 G H) (f : Fits H0 G H sl σ) (hi : sl[i]? = some (.ow (oV rr) as)) (hl : as.length < 100000) (h : Rd ⟨G, H⟩ sl σ → Er (pr rr) te σ ⟨G, H⟩ a) {as' : List α} (he : as ++ [a] = as') (k : Nx Gb F0 H0 D.nx (sl.set i (.ow (oV rr) as'))) :
    tDrop (tBM K "list" rAppend (tVar i) (tCons te tNil)) D σ H := by
  subst he
  have hh := h (f.rd w.up) H ⟨w.sub, Ex.refl H⟩
  obtain ⟨fps, f⟩ := f
  obtain ⟨x, hx, v, hv, p, xs, h1, h2, h3, h4⟩ := f.at_ i _ hi
  subst hv h1
  refine ⟨_, hx, Or.inl ⟨rfl, xs, SqL.of h3⟩, hh _ fun y H2 e hy => ⟨p, xs, y, rfl, rfl, e p _ h3, by rw [h4.len]; exact sz_lt hl, ?_⟩⟩
  have f2 := f.go (stp_ev (G := G) e)
  have hp : p ∈ fps i := by rw [h2]; exact List.mem_singleton.mpr rfl
  refine k σ (part G H H2) _ ⟨(w.ev e).put (f2.own i p hp).2.1 (f2.own i p hp).2.2, w.bs.trans part_ex⟩ ⟨fps, f2.upd hp hx ⟨p, _, rfl, h2, upd_same, ?_⟩⟩
  exact Al.snoc (h4.imp fun _ _ k => rr.mono part_ex k) hy
def LandsJ {S O : Type} (D : Ends) (Gb F0 H0 : Hp) (sh : S → List Slot) (X : Ends → O → Prop) : S ⊕ O → Prop
  | .inl s => Nx Gb F0 H0 D.nx (sh s)
  | .inr o => X D o
def Out0 (rv : R → V → Hp → Prop) (D : Ends) (r : R) : Prop := ∀ v H2, rv r v H2 → D.rt v H2
def Out1 (Gb F0 H0 : Hp) (sh : S → List Slot) (rv : R → V → Hp → Prop) (D : Ends) : Ctl S R → Prop
  | .nx _ => True
  | .ct s => Nx Gb F0 H0 D.ct (sh s)
  | .bk s => Nx Gb F0 H0 D.bk (sh s)
  | .rt r => ∀ v H2, rv r v H2 → D.rt v H2
theorem lands_out {c : Ctl S R} (L : Lands D Gb F0 H0 sh rv c) : Out1 Gb F0 H0 sh rv D c := by
  cases c with
  | nx s => trivial
  | ct s => exact L
  | bk s => exact L
  | rt r => exact L
theorem loop_cons {step : α → S → Option (Ctl S R)} {l : List α} {s : S} {c : Ctl S R} (h : loop step (a :: l) s = some c) :
    ∃ c', step a s = some c' ∧ match c' with | .nx s' => loop step l s' = some c | .ct s' => loop step l s' = some c | .bk s' => c = .nx s' | .rt r => c = .rt r := by
  unfold loop at h
  cases hs : step a s with
  | none => rw [hs] at h; cases h
  | some c' =>
    rw [hs] at h
    refine ⟨c', rfl, ?_⟩
    cases c' with
    | nx s' => exact h
    | ct s' => exact h
    | bk s' => exact (Option.some.inj h).symm
    | rt r => exact (Option.some.inj h).symm
theorem d_for {wi : TI} {js : List Nat} {T : α → List Slot → List Slot} {step : α → S → Option (Ctl S R)} {s0 : S} {c : Ctl S R} (sh : S → List Slot) (w : WB Gb F0 H0 G H) (f : Fits H0 G H sl σ) (hs : Rd ⟨G, H0⟩ (hide sl) σ → Src wi σ ⟨G, H0⟩ r as) (hg : Tgt g r js T)
    (hc : loop step as s0 = some c) (hw : Weak sl (sh s0))
    (hb : ∀ a s c', a ∈ as → step a s = some c' → ∀ Gb D' σ G H, WB Gb F0 H0 G H → Fits H0 G H (T a (sh s)) σ → Lands D' Gb F0 H0 sh rv c' → tu D' σ H)
    (Lr : ∀ r, c = .rt r → ∀ v H2, rv r v H2 → D.rt v H2) (Ln : ∀ s, c = .nx s → Nx Gb F0 H0 D.nx (sh s)) : tFor wi g tu D σ H := by
  refine hs f.rd0 H ⟨w.sub, w.up⟩ _ fun J H1 e1 wk => ?_
  have mem : ∀ i a, as[i]? = some a → a ∈ as := fun i a h => List.mem_of_getElem? h
  refine for_it wk (fun i σ' H' => (∃ G' s, Wd F0 H0 G' H' ∧ Ex (part G H H1) G' ∧ Fits H0 G' H' (sh s) σ' ∧ loop step (as.drop i) s = some c)) ?_ ?_ ?_ ?_
  · refine ⟨part G H H1, s0, w.ev e1, Ex.refl _, (f.go (stp_ev e1)).weak hw, ?_⟩
    rw [List.drop_zero]
    exact hc
  · rintro i σ' H' _ ⟨G', s, w', eG, _⟩
    exact ⟨eG.trans w'.sub, w'.up⟩
  · rintro i x σ' H' H'' hi ⟨G', s, w', eG, f', hl⟩ ⟨y1, a, y2, y3⟩
    have hdr : as.drop i = a :: as.drop (i + 1) := by
      have hlt : i < as.length := hi
      rw [List.getElem?_eq_getElem hlt] at y2
      cases y2
      exact List.drop_eq_getElem_cons hlt
    rw [hdr] at hl
    obtain ⟨c', h1, h2⟩ := loop_cons hl
    have w2 := w'.ev y1
    have le : Fm.le ((Fm.go ⟨G, H0⟩ H H1).go H' H'') ⟨part G' H' H'', H0⟩ := ⟨part_frame eG w'.sub, Ex.refl _⟩
    refine hg.run ⟨part G' H' H'', H0⟩ H'' x a σ' _ ⟨w2.sub, w2.up⟩ (r.mono le y3) fun σ2 _ _ hf => ?_
    refine hb a s c' (mem _ _ y2) h1 (part G H H1) _ σ2 (part G' H' H'') H'' ⟨w2, eG.trans part_ex⟩ (hf _ (f'.go (stp_ev y1))) ?_
    cases c' with
    | nx s' => exact fun σ3 G3 H3 w3 f3 => ⟨G3, s', w3.toWd, w3.bs, f3, h2⟩
    | ct s' => exact fun σ3 G3 H3 w3 f3 => ⟨G3, s', w3.toWd, w3.bs, f3, h2⟩
    | bk s' =>
      subst h2
      exact fun σ3 G3 H3 w3 f3 => Ln s' rfl σ3 G3 H3 ⟨w3.toWd, w.bs.trans (part_ex.trans w3.bs)⟩ f3
    | rt r =>
      subst h2
      exact Lr r rfl
  · rintro σ' H' ⟨G', s, w', eG, f', hl⟩
    rw [show as.drop as.length = [] from List.drop_length] at hl
    cases hl
    exact Ln s rfl σ' G' H' ⟨w', w.bs.trans (part_ex.trans eG)⟩ f'
theorem wloop_succ {cn : S → Option Bool} {step : S → Option (Ctl S R)} {n : Nat} {s : S} {c : Ctl S R} (h : wloop cn step (n + 1) s = some c) :
    (cn s = some false ∧ c = .nx s) ∨ (cn s = some true ∧ ∃ c', step s = some c' ∧ match c' with | .nx s' => wloop cn step n s' = some c | .ct s' => wloop cn step n s' = some c | .bk s' => c = .nx s' | .rt r => c = .rt r) := by
  unfold wloop at h
  cases hn : cn s with
  | none => rw [hn] at h; cases h
  | some b =>
    rw [hn] at h
    cases b with
    | false =>
      cases h
      exact .inl ⟨rfl, rfl⟩
    | true =>
      refine .inr ⟨rfl, ?_⟩
      cases hs : step s with
      | none => simp only [hs] at h; cases h
      | some c' =>
        simp only [hs] at h
        refine ⟨c', rfl, ?_⟩
        cases c' with
        | nx s' => exact h
        | ct s' => exact h
        | bk s' => exact (Option.some.inj h).symm
        | rt r => exact (Option.some.inj h).symm
theorem d_while {cn : S → Option Bool} {step : S → Option (Ctl S R)} {n : Nat} {s0 : S} {c : Ctl S R} (sh : S → List Slot) (w : WB Gb F0 H0 G H) (f : Fits H0 G H sl σ)
    (hc : wloop cn step n s0 = some c) (hw : Weak sl (sh s0))
    (ht : ∀ s b, cn s = some b → ∀ σ φ, Rd φ (sh s) σ → Et t σ φ b)
    (hb : ∀ s c', step s = some c' → ∀ Gb D' σ G H, WB Gb F0 H0 G H → Fits H0 G H (sh s) σ → Lands D' Gb F0 H0 sh rv c' → tu D' σ H)
    (Lr : ∀ r, c = .rt r → ∀ v H2, rv r v H2 → D.rt v H2) (Ln : ∀ s, c = .nx s → Nx Gb F0 H0 D.nx (sh s)) : tWhile t tu D σ H := by
  refine ⟨fun m σ' H' => ∃ G' s, WB G F0 H0 G' H' ∧ Fits H0 G' H' (sh s) σ' ∧ wloop cn step m s = some c, ⟨n, G, s0, ⟨w.toWd, Ex.refl _⟩, f.weak hw, hc⟩, ?_⟩
  rintro m σ' H' ⟨G', s, w', f', hl⟩
  cases m with
  | zero => cases hl
  | succ m =>
    rcases wloop_succ hl with ⟨hn, rfl⟩ | ⟨hn, c', h1, h2⟩
    · refine ht s false hn σ' ⟨G', H'⟩ (f'.rd w'.up) H' ⟨w'.sub, Ex.refl _⟩ _ fun H2 e2 => ?_
      exact Ln s rfl σ' G' H2 ⟨w'.same e2, w.bs.trans w'.bs⟩ (f'.go (stp_same e2))
    · refine ht s true hn σ' ⟨G', H'⟩ (f'.rd w'.up) H' ⟨w'.sub, Ex.refl _⟩ _ fun H2 e2 => ?_
      refine ⟨fun σ3 H3 => ∃ m', m' < m + 1 ∧ ∃ G3 s3, WB G F0 H0 G3 H3 ∧ Fits H0 G3 H3 (sh s3) σ3 ∧ wloop cn step m' s3 = some c, fun σ3 H3 h => h, ?_⟩
      refine hb s c' h1 G _ σ' G' H2 ⟨w'.same e2, w'.bs⟩ (f'.go (stp_same e2)) ?_
      cases c' with
      | nx s' => exact fun σ3 G3 H3 w3 f3 => ⟨m, Nat.lt_succ_self m, G3, s', w3, f3, h2⟩
      | ct s' => exact fun σ3 G3 H3 w3 f3 => ⟨m, Nat.lt_succ_self m, G3, s', w3, f3, h2⟩
      | bk s' =>
        subst h2
        exact fun σ3 G3 H3 w3 f3 => Ln s' rfl σ3 G3 H3 ⟨w3.toWd, w.bs.trans w3.bs⟩ f3
      | rt r =>
        subst h2
        exact Lr r rfl
theorem Wd.begin {H : Hp} (h : φ.In H) : WB φ.F φ.F H φ.F H := ⟨Wd.start h.1, Ex.refl _⟩
inductive Args (φ : Fm) : List Slot → List V → Prop
  | nil : Args φ [] []
  | va {α : Type} {r : Rep α} {a : α} {v : V} {sl : List Slot} {vs : List V} : r.rel φ.F v a → Args φ sl vs → Args φ (.va r a :: sl) (v :: vs)
  | bo {α : Type} {r : AR α} {a : α} {v : V} {sl : List Slot} {vs : List V} : r.rel φ v a → Args φ sl vs → Args φ (.bo r a :: sl) (v :: vs)
theorem Args.fits {H : Hp} (h : φ.In H) {sl : List Slot} {vs : List V} (k : Args φ sl vs) (n : Nat) : Fits H φ.F H (sl ++ List.replicate n .un) (vs.map some ++ List.replicate n none) := by
  refine ⟨fun _ => [], fun i s hs => ?_, (fun _ _ p _ hp => by cases hp), fun _ p hp => by cases hp⟩
  induction k generalizing i with
  | nil =>
    rw [List.nil_append, List.getElem?_replicate] at hs
    split at hs
    · cases hs
      refine ⟨none, ?_, rfl⟩
      rw [List.map_nil, List.nil_append, List.getElem?_replicate, if_pos (by assumption)]
    · cases hs
  | va h1 t ih =>
    cases i with
    | zero =>
      cases hs
      exact ⟨_, rfl, rfl, _, rfl, h1⟩
    | succ i => exact ih i hs
  | bo h1 t ih =>
    rename_i r a v sl vs
    cases i with
    | zero =>
      cases hs
      exact ⟨_, rfl, rfl, _, rfl, r.mono (φ := φ) (ψ := ⟨φ.F, H⟩) ⟨Ex.refl _, h.2⟩ h1⟩
    | succ i => exact ih i hs
end
end Q
set_option Elab.async false
set_option linter.all false
set_option maxRecDepth 100000
set_option maxHeartbeats 2000000
namespace Q
open PySem L2 Evl DL
section
variable {α β γ δ S R O : Type} {K : PySem.W.Frag} {σ σ2 : L2.St} {φ ψ : Fm} {F Gb F0 H0 G G2 H H1 H2 H3 : Hp} {ta tb te tx : TE} {t u : TT} {v : V} {r : AR α} {s : AR β} {r1 : AR γ} {rr : Rep α} {ss : Rep β} {a : α} {b : β} {as : List α} {bs : List β} {o : OR α} {p : Addr} {xs : List V} {i j : Nat} {sl : List Slot} {D : Ends} {tu tw tz : TS} {g : TG}
theorem isE {a' : α} (h : Er r te σ φ a) (e : a = a') : Er r te σ φ a' := e ▸ h
theorem isO {a' : α} (h : Eo o te σ φ a) (e : a = a') : Eo o te σ φ a' := e ▸ h
theorem isT {a b : Bool} (h : Et t σ φ a) (e : a = b) : Et t σ φ b := e ▸ h
theorem isS {wi : TI} {as' : List α} (h : Src wi σ φ r as) (e : as = as') : Src wi σ φ r as' := e ▸ h
theorem et_andT {a b : Bool} (h1 : Et t σ φ a) (h2 : Et u σ φ b) : Et (tAnd t u) σ φ (a && b) := et_and (ob := some b) h1 (fun c h => by cases h; exact h2) (by cases a <;> rfl)
theorem et_orT {a b : Bool} (h1 : Et t σ φ a) (h2 : Et u σ φ b) : Et (tOr t u) σ φ (a || b) := et_or (ob := some b) h1 (fun c h => by cases h; exact h2) (by cases a <;> rfl)
theorem er_andVT {a b : Bool} (h1 : Er (pr rBl) ta σ φ a) (h2 : Er (pr rBl) tb σ φ b) : Er (pr rBl) (tAndV ta tb) σ φ (a && b) := er_andV (ob := some b) h1 (fun c h => by cases h; exact h2) (by cases a <;> rfl)
theorem compM_tot1 {m' : α → β} (as : List α) : compM (fun _ => some true) (fun a => some (m' a)) as = some (as.map m') := by
  rw [compM_tot (f' := fun _ => true)]
  rw [List.filter_eq_self.mpr fun _ _ => rfl]
def mulOk (i j : Int) : Bool := decide ((-(2 ^ 64) < i ∧ i < 2 ^ 64) ∨ (-(2 ^ 64) < j ∧ j < 2 ^ 64))
theorem mulOk_C {i j : Int} (h : mulOk i j = true) : CMul i j := by
  unfold mulOk at h
  have h2 := of_decide_eq_true h
  exact h2
def divOk (j : Int) : Bool := decide (0 < j ∧ j.natAbs.log2 < 9000)
theorem divOk_C {i j : Int} (h : divOk j = true) : CDivW i j := by
  unfold divOk at h
  have h2 := of_decide_eq_true h
  exact h2
def repL (as : List α) (k : Int) : List α := (List.replicate k.toNat as).flatten
def repOk (as : List α) (k : Int) : Bool := decide ((-100000 ≤ k ∧ k ≤ 100000) ∧ as.length * k.toNat ≤ 100000)
theorem repOk_b {k : Int} (h : repOk as k = true) : -100000 ≤ k ∧ k ≤ 100000 := (of_decide_eq_true h).1
theorem repOk_l {k : Int} (h : repOk as k = true) : as.length * k.toNat ≤ 100000 := (of_decide_eq_true h).2
def after (o : Option (Ctl S R)) (k : S → Option O) (q : R → Option O) : Option O := match o with
  | some (.nx s) => k s
  | some (.rt r) => q r
  | _ => none
theorem afterS {o : Option (Ctl S R)} {k : S → Option O} {q : R → Option O} {c : O} (h : after o k q = some c) : ∃ x, o = some x ∧ (∀ s, x = .nx s → k s = some c) ∧ (∀ r, x = .rt r → q r = some c) := by
  unfold after at h
  split at h
  · exact ⟨_, rfl, (fun s e => by cases e; exact h), fun r e => by cases e⟩
  · exact ⟨_, rfl, (fun s e => by cases e), fun r e => by cases e; exact h⟩
  · cases h
def thenJ (o : Option (S ⊕ O)) (k : S → Option O) : Option O := match o with
  | some (.inl s) => k s
  | some (.inr r) => some r
  | none => none
theorem thenS {o : Option (S ⊕ O)} {k : S → Option O} {c : O} (h : thenJ o k = some c) : ∃ x, o = some x ∧ (∀ s, x = .inl s → k s = some c) ∧ (∀ r, x = .inr r → r = c) := by
  unfold thenJ at h
  split at h
  · exact ⟨_, rfl, (fun s e => by cases e; exact h), fun r e => by cases e⟩
  · exact ⟨_, rfl, (fun s e => by cases e), fun r e => by cases e; exact Option.some.inj h⟩
  · cases h
def ifNone (o : Option α) (x : Option β) (k : α → Option β) : Option β := match o with
  | none => x
  | some a => k a
theorem noneS (o : Option α) {x : Option β} {k : α → Option β} {c : β} (h : ifNone o x k = some c) : (o = none ∧ x = some c) ∨ ∃ a, o = some a ∧ k a = some c := by
  cases o with
  | none => exact .inl ⟨rfl, h⟩
  | some a => exact .inr ⟨a, rfl, h⟩
theorem Fits.at {s0 s' : Slot} (h : Fits H0 G H sl σ) (i : Nat) (hi : sl[i]? = some s0) (he : s0 = s') : Fits H0 G H (sl.set i s') σ := h.re hi fun fp x k => he ▸ k
theorem d_ifT (w : WB Gb F0 H0 G H) (f : Fits H0 G H sl σ) (h : Rd ⟨G, H⟩ sl σ → Et t σ ⟨G, H⟩ true) (h1 : ∀ H, WB Gb F0 H0 G H → Fits H0 G H sl σ → tu D σ H) : tIfS t tu tw D σ H :=
  d_if w f h (fun _ => h1) fun z => by cases z
theorem d_ifF (w : WB Gb F0 H0 G H) (f : Fits H0 G H sl σ) (h : Rd ⟨G, H⟩ sl σ → Et t σ ⟨G, H⟩ false) (h1 : ∀ H, WB Gb F0 H0 G H → Fits H0 G H sl σ → tw D σ H) : tIfS t tu tw D σ H :=
  d_if w f h (fun z => by cases z) fun _ => h1
theorem d_cut {sh : S → List Slot} {c : S ⊕ O} (w : WB Gb F0 H0 G H) (X : Ends → O → Prop) (hX : ∀ (D : Ends) (N : L2.St → Hp → Prop) (o : O), X D o → X { D with nx := N } o) (h : ∀ D' : Ends, LandsJ D' Gb F0 H0 sh X c → tu D' σ H) (Lr : ∀ r, c = .inr r → X D r) (Ln : ∀ s, c = .inl s → Nx Gb F0 H0 (tz D) (sh s)) : Evl.tCut tu tz D σ H := by
  refine ⟨fun σ' H' => match c with | .inl s => ∃ G', WB Gb F0 H0 G' H' ∧ Fits H0 G' H' (sh s) σ' | .inr _ => False, h _ ?_, fun σ' H' hm => ?_⟩
  · cases c with
    | inl s => exact fun σ' G' H' w f => ⟨G', w, f⟩
    | inr r => exact hX D _ r (Lr r rfl)
  · cases c with
    | inl s =>
      obtain ⟨G', w, f⟩ := hm
      exact Ln s rfl σ' G' H' w f
    | inr r => exact hm.elim
end
section
variable {α β γ δ S R O : Type} {K : PySem.W.Frag} {σ σ2 : L2.St} {φ ψ : Fm} {F Gb F0 H0 G G2 H H1 H2 H3 : Hp} {ta tb te tx : TE} {t u : TT} {v : V} {r : AR α} {s : AR β} {r1 : AR γ} {rr : Rep α} {ss : Rep β} {a : α} {b : β} {as : List α} {bs : List β} {o : OR α} {p : Addr} {xs : List V} {i j : Nat} {sl : List Slot} {D : Ends} {tu tw tz : TS} {g : TG} {rv : R → V → Hp → Prop}
theorem q_asg (w : WB Gb F0 H0 G H) (f : Fits H0 G H sl σ) (h : Rd ⟨G, H⟩ sl σ → Er (pr rr) te σ ⟨G, H⟩ a) (k : Nx Gb F0 H0 (tz D) (sl.set i (.va rr a))) : tSeq (tAsg te (gName i)) tz D σ H := d_asg (D := { D with nx := tz D }) w f h k
theorem q_asgO (w : WB Gb F0 H0 G H) (f : Fits H0 G H sl σ) (h : Rd ⟨G, H⟩ sl σ → Eo o te σ ⟨G, H⟩ a) (k : Nx Gb F0 H0 (tz D) (sl.set i (.ow o a))) : tSeq (tAsg te (gName i)) tz D σ H := d_asgO (D := { D with nx := tz D }) w f h k
theorem q_drop (w : WB Gb F0 H0 G H) (f : Fits H0 G H sl σ) (h : Rd ⟨G, H⟩ sl σ → Er r te σ ⟨G, H⟩ a) (k : Nx Gb F0 H0 (tz D) sl) : tSeq (tDrop te) tz D σ H := d_drop (D := { D with nx := tz D }) w f h k
theorem q_if {b : Bool} (w : WB Gb F0 H0 G H) (f : Fits H0 G H sl σ) (h : Rd ⟨G, H⟩ sl σ → Et t σ ⟨G, H⟩ b) (h1 : b = true → ∀ H, WB Gb F0 H0 G H → Fits H0 G H sl σ → tu { D with nx := tz D } σ H) (h2 : b = false → ∀ H, WB Gb F0 H0 G H → Fits H0 G H sl σ → tw { D with nx := tz D } σ H) : tSeq (tIfS t tu tw) tz D σ H := d_if (D := { D with nx := tz D }) w f h h1 h2
theorem q_ifT (w : WB Gb F0 H0 G H) (f : Fits H0 G H sl σ) (h : Rd ⟨G, H⟩ sl σ → Et t σ ⟨G, H⟩ true) (h1 : ∀ H, WB Gb F0 H0 G H → Fits H0 G H sl σ → tu { D with nx := tz D } σ H) : tSeq (tIfS t tu tw) tz D σ H := d_ifT (D := { D with nx := tz D }) w f h h1
theorem q_ifF (w : WB Gb F0 H0 G H) (f : Fits H0 G H sl σ) (h : Rd ⟨G, H⟩ sl σ → Et t σ ⟨G, H⟩ false) (h1 : ∀ H, WB Gb F0 H0 G H → Fits H0 G H sl σ → tw { D with nx := tz D } σ H) : tSeq (tIfS t tu tw) tz D σ H := d_ifF (D := { D with nx := tz D }) w f h h1
theorem q_app (w : WB Gb F0 H0 G H) (f : Fits H0 G H sl σ) (hi : sl[i]? = some (.ow (oV rr) as)) (hl : as.length < 100000) (h : Rd ⟨G, H⟩ sl σ → Er (pr rr) te σ ⟨G, H⟩ a) {as' : List α} (he : as ++ [a] = as') (k : Nx Gb F0 H0 (tz D) (sl.set i (.ow (oV rr) as'))) :
    tSeq (tDrop (tBM K "list" rAppend (tVar i) (tCons te tNil))) tz D σ H := d_app (D := { D with nx := tz D }) w f hi hl h he k
theorem q_for {wi : TI} {js : List Nat} {T : α → List Slot → List Slot} {step : α → S → Option (Ctl S R)} {s0 : S} {c : Ctl S R} (sh : S → List Slot) (w : WB Gb F0 H0 G H) (f : Fits H0 G H sl σ) (hs : Rd ⟨G, H0⟩ (hide sl) σ → Src wi σ ⟨G, H0⟩ r as) (hg : Tgt g r js T)
    (hc : loop step as s0 = some c) (hw : Weak sl (sh s0))
    (hb : ∀ a s c', a ∈ as → step a s = some c' → ∀ Gb D' σ G H, WB Gb F0 H0 G H → Fits H0 G H (T a (sh s)) σ → Lands D' Gb F0 H0 sh rv c' → tu D' σ H)
    (Lr : ∀ r, c = .rt r → ∀ v H2, rv r v H2 → D.rt v H2) (Ln : ∀ s, c = .nx s → Nx Gb F0 H0 (tz D) (sh s)) : tSeq (tFor wi g tu) tz D σ H := d_for (D := { D with nx := tz D }) sh w f hs hg hc hw hb Lr Ln
theorem q_while {cn : S → Option Bool} {step : S → Option (Ctl S R)} {n : Nat} {s0 : S} {c : Ctl S R} (sh : S → List Slot) (w : WB Gb F0 H0 G H) (f : Fits H0 G H sl σ)
    (hc : wloop cn step n s0 = some c) (hw : Weak sl (sh s0))
    (ht : ∀ s b, cn s = some b → ∀ σ φ, Rd φ (sh s) σ → Et t σ φ b)
    (hb : ∀ s c', step s = some c' → ∀ Gb D' σ G H, WB Gb F0 H0 G H → Fits H0 G H (sh s) σ → Lands D' Gb F0 H0 sh rv c' → tu D' σ H)
    (Lr : ∀ r, c = .rt r → ∀ v H2, rv r v H2 → D.rt v H2) (Ln : ∀ s, c = .nx s → Nx Gb F0 H0 (tz D) (sh s)) : tSeq (tWhile t tu) tz D σ H := d_while (D := { D with nx := tz D }) sh w f hc hw ht hb Lr Ln
theorem er_callP {W : (Fm → List V → Prop) → α → Prop} {P : Fm → List V → Prop} {E : XK} {tr : TA} (h : Ea P tr σ φ ∧ MonoP P) (w : W P a) : Er (pr rr) (tCall (spO (oPr rr) W) [] E tr) σ φ a := Eo.er (o := oPr rr) (eo_call (o := oPr rr) h w)
end
section
variable {α β γ : Type} {f : α → Option Bool} {cs : α → Option (List γ)} {f1 : α → γ → Option Bool} {m : α → γ → Option β}
theorem comp2_cons {a : α} {l : List α} {bs : List β} (h : comp2 f cs f1 m (a :: l) = some bs) : (f a = some false ∧ comp2 f cs f1 m l = some bs) ∨ ∃ k ys b0, f a = some true ∧ cs a = some k ∧ compM (f1 a) (m a) k = some ys ∧ comp2 f cs f1 m l = some b0 ∧ bs = ys ++ b0 := by
  simp only [comp2] at h
  cases hf : f a with
  | none => rw [hf] at h; cases h
  | some q =>
    rw [hf] at h
    cases q with
    | false => exact .inl ⟨rfl, h⟩
    | true =>
      cases hc : cs a with
      | none => simp only [hc] at h; cases h
      | some k =>
        simp only [hc] at h
        cases hm : compM (f1 a) (m a) k with
        | none => simp only [hm] at h; cases h
        | some ys =>
          simp only [hm] at h
          cases hr : comp2 f cs f1 m l with
          | none => rw [hr] at h; cases h
          | some b0 =>
            rw [hr] at h
            exact .inr ⟨k, ys, b0, rfl, rfl, hm, rfl, (Option.some.inj h).symm⟩
theorem comp2_app : ∀ {l k : List α} {bs : List β}, comp2 f cs f1 m (l ++ k) = some bs → ∃ b0 b1, comp2 f cs f1 m l = some b0 ∧ comp2 f cs f1 m k = some b1 ∧ bs = b0 ++ b1
  | [], k, bs, h => ⟨[], bs, rfl, h, rfl⟩
  | c :: l, k, bs, h => by
    rcases comp2_cons (l := l ++ k) h with ⟨h1, h2⟩ | ⟨q, ys, b0, h1, h2, h3, h4, rfl⟩
    · obtain ⟨b0, b1, h3, h4, h5⟩ := comp2_app h2
      refine ⟨b0, b1, ?_, h4, h5⟩
      simp only [comp2, h1]
      exact h3
    · obtain ⟨c0, c1, h5, h6, rfl⟩ := comp2_app h4
      refine ⟨ys ++ c0, c1, ?_, h6, (List.append_assoc _ _ _).symm⟩
      simp only [comp2, h1, h2, h3, h5]
      rfl
theorem comp2_one {a : α} {bs : List β} (h : comp2 f cs f1 m [a] = some bs) : (f a = some false ∧ bs = []) ∨ ∃ k, f a = some true ∧ cs a = some k ∧ compM (f1 a) (m a) k = some bs := by
  rcases comp2_cons h with ⟨h1, h2⟩ | ⟨k, ys, b0, h1, h2, h3, h4, rfl⟩
  · cases h2
    exact .inl ⟨h1, rfl⟩
  · cases h4
    exact .inr ⟨k, h1, h2, by rw [List.append_nil]; exact h3⟩
end
section
variable {α β γ δ : Type} {K : PySem.W.Frag} {σ σ2 : L2.St} {φ ψ : Fm} {F F0 H0 G G2 H H1 H2 H3 : Hp} {ta tb te tx : TE} {t u : TT} {v : V} {r : AR α} {s : AR β} {r1 : AR γ} {rr : Rep α} {ss : Rep β} {a : α} {b : β} {as : List α} {bs : List β} {p : Addr} {xs : List V} {i : Nat} {sl : List Slot}
theorem eo_lc2 {wi wi1 : TI} {g g1 : TG} {tt tt1 : TT} {vs js vs1 js1 : List Nat} {T : α → List Slot → List Slot} {T1 : γ → List Slot → List Slot} {f : α → Option Bool} {cs : α → Option (List γ)} {f1 : α → γ → Option Bool} {m : α → γ → Option β}
    (rd : Rd φ sl σ) (h : Src wi σ φ r as) (hg : Tgt g r js T) (hg1 : Tgt g1 r1 js1 T1) (hj : ∀ j ∈ js, j ∈ vs) (hj1 : ∀ j ∈ js1, j ∈ vs1) (hn : bs.length < 100000) (hc : comp2 f cs f1 m as = some bs)
    (hw : ∀ a ∈ as, ∀ ψ σ2, φ.le ψ → Rd ψ (T a (wipeS sl vs)) σ2 → (∀ b, f a = some b → Et tt σ2 ψ b) ∧ (∀ l, cs a = some l → Src wi1 σ2 ψ r1 l) ∧
      ∀ c ψ' σ3, ψ.le ψ' → Rd ψ' (T1 c (wipeS (T a (wipeS sl vs)) vs1)) σ3 → (∀ b, f1 a c = some b → Et tt1 σ3 ψ' b) ∧ (∀ y, m a c = some y → Er (pr ss) te σ3 ψ' y)) :
    Eo (oV ss) (tLc2 wi g tt wi1 g1 tt1 te vs vs1) σ φ bs := fun H1 e Q q => h H1 e _ fun J H2 e2 w D hD => by
  have mem : ∀ {δ : Type} {l : List δ} {i : Nat} {a : δ}, l[i]? = some a → a ∈ l := fun h => List.mem_of_getElem? h
  have tk : ∀ {δ : Type} {l : List δ} {i : Nat} {a : δ}, l[i]? = some a → l.take (i + 1) = l.take i ++ [a] := fun h => by
    rw [List.take_add_one, h]
    rfl
  have cut_as : ∀ i, as = as.take i ++ as.drop i := fun i => (List.take_append_drop i as).symm
  have dF : φ.F D = none := back_none (e.1.trans e2) hD
  have d2 : part φ.F H1 H2 D = none := by
    rw [part_new dF (back_none e2 hD)]
    exact hD
  let P := fun (i : Nat) (H' : Hp) => ∃ acc bi, H' D = some (.lst acc) ∧ Ex H2 (mns H' D) ∧ comp2 f cs f1 m (as.take i) = some bi ∧ Al (ss.rel (mns (part φ.F H1 H') D)) acc bi
  refine ⟨fun i k H' => k = as.length - i ∧ i ≤ as.length ∧ P i H', ⟨as.length, by omega, Nat.zero_le _, [], [], upd_same, ?_, rfl, .nil⟩, ?_⟩
  · rw [mns_upd]
    exact ex_mns (Ex.refl _) hD
  rintro i k H' ⟨rfl, hi, acc, bi, h1, h2, h2c, h3⟩
  have eG : (φ.go H1 H2).In H' := (Fm.go_in e e2).trans (h2.trans mns_sub)
  by_cases hlt' : ¬ i < as.length
  · have ei : i = as.length := by omega
    subst ei
    refine .inl ⟨w.stops H' eG, ?_⟩
    rw [List.take_length, hc] at h2c
    cases h2c
    refine q _ H' [D] (e2.trans (h2.trans mns_sub)) (fun p hp => by rw [List.mem_singleton.mp hp]; exact back_none e2 hD) ⟨D, acc, rfl, rfl, h1, ?_⟩
    rw [cut_one]
    exact h3
  have hlt : i < as.length := Decidable.not_not.mp hlt'
  refine .inr ⟨w.goes i H' hlt eG, P (i + 1), fun H'' p => ⟨as.length - (i + 1), by omega, rfl, hlt, p⟩, fun x H'' yl => ?_⟩
  obtain ⟨y1, a, y2, y3⟩ := w.yields i H' x H'' hlt eG yl
  refine hg.run _ H'' x a _ _ (Fm.go_in eG y1) y3 fun σ2 hu hrd _ => ?_
  have l2 : φ.le ((φ.go H1 H2).go H' H'') := Fm.go_le.trans Fm.go_le
  have rd2 := hrd _ ((rd.mono l2).wipe vs)
  obtain ⟨ht, hs, hin⟩ := hw a (mem y2) _ σ2 l2 rd2
  refine ⟨wipe_upd hj hu, ?_⟩
  -- the turn's share
  obtain ⟨b1, hb1, hpre⟩ : ∃ b1, comp2 f cs f1 m (as.take (i + 1)) = some b1 ∧ b1.length ≤ bs.length := by
    rw [cut_as (i + 1)] at hc
    obtain ⟨b0, b1, q1, q2, q3⟩ := comp2_app hc
    exact ⟨b0, q1, by rw [q3, List.length_append]; omega⟩
  have hb1' := hb1
  rw [tk y2] at hb1'
  obtain ⟨b0, ys, hb0, hone, hb⟩ := comp2_app hb1'
  have hbb : b0 = bi := Option.some.inj (hb0.symm.trans h2c)
  rw [hbb] at hb
  have e12a : Ex H2 H'' := (h2.trans mns_sub).trans y1
  rcases comp2_one hone with ⟨hf, hys⟩ | ⟨l, hf, hcs, hys⟩
  · refine ht _ hf H'' (Fm.go_in eG y1) _ fun H3 e3 => ?_
    refine ⟨acc, b1, e3 D _ (y1 D _ h1), ex_mns (e12a.trans e3) hD, hb1, ?_⟩
    rw [hb, hys, List.append_nil]
    exact h3.imp fun _ _ k => ss.mono (mns_up (part_up (y1.trans e3))) k
  · refine ht _ hf H'' (Fm.go_in eG y1) _ fun H3 e3 => ?_
    have e12 : Ex H2 H3 := e12a.trans e3
    have hD3 : H3 D = some (.lst acc) := e3 D _ (y1 D _ h1)
    have d3 : part (part φ.F H1 H2) H' H'' D = none := part_old d2 h1
    have gsub : Ex (part (part φ.F H1 H2) H' H'') (part φ.F H1 H3) := (part_part e2 (h2.trans mns_sub) y1).trans (part_up e3)
    refine hs l hcs H3 ((Fm.go_in eG y1).trans e3) _ fun J1 H4 e4 w1 => ?_
    have hD4 : H4 D = some (.lst acc) := e4 D _ hD3
    have d4 : part (part (part φ.F H1 H2) H' H'') H3 H4 D = none := part_old d3 hD3
    have gsub4 : Ex (part (part (part φ.F H1 H2) H' H'') H3 H4) (part φ.F H1 H4) := fun q o hq => part_elem gsub e.1 (e2.trans e12) e4 hD3 d3 q o hq |> mns_sub q o
    let P1 := fun (j : Nat) (Hj : Hp) => ∃ acc' yj, Hj D = some (.lst acc') ∧ Ex (mns H4 D) (mns Hj D) ∧ compM (f1 a) (m a) (l.take j) = some yj ∧ Al (ss.rel (mns (part φ.F H1 Hj) D)) acc' (bi ++ yj)
    refine ⟨fun j k Hj => k = l.length - j ∧ j ≤ l.length ∧ P1 j Hj, ⟨l.length, by omega, Nat.zero_le _, acc, [], hD4, Ex.refl _, rfl, ?_⟩, ?_⟩
    · rw [List.append_nil]
      exact h3.imp fun _ _ k => ss.mono (mns_up (part_up (y1.trans (e3.trans e4)))) k
    rintro j k Hj ⟨rfl, hjl, acc', yj, g1', g2', g2c, g3'⟩
    have e4j : (((φ.go H1 H2).go H' H'').go H3 H4).In Hj := by
      have h4 : (((φ.go H1 H2).go H' H'').go H3 H4).In H4 := Fm.go_in ((Fm.go_in eG y1).trans e3) e4
      refine ⟨(ex_mns h4.1 d4).trans (g2'.trans mns_sub), ?_⟩
      intro q o hq
      have hne : H1 q = some o := e.2 q o hq
      have hq2 := e2 q o hne
      have nq : q ≠ D := ne_of_none hq2 hD
      have h4q : H4 q = some o := h4.2 q o hq
      have := g2' q o (by rw [mns_ne nq]; exact h4q)
      rw [mns_ne nq] at this
      exact this
    have e2j : Ex H2 (mns Hj D) := (ex_mns (e12.trans e4) hD).trans g2'
    by_cases hlj' : ¬ j < l.length
    · have ej : j = l.length := by omega
      subst ej
      refine .inl ⟨w1.stops Hj e4j, acc', b1, g1', e2j, hb1, ?_⟩
      rw [List.take_length, hys] at g2c
      cases g2c
      rw [hb]
      exact g3'
    have hlj : j < l.length := Decidable.not_not.mp hlj'
    refine .inr ⟨w1.goes j Hj hlj e4j, P1 (j + 1), fun H'' p => ⟨l.length - (j + 1), by omega, rfl, hlj, p⟩, fun x1 Hk yl1 => ?_⟩
    obtain ⟨z1, c, z2, z3⟩ := w1.yields j Hj x1 Hk hlj e4j yl1
    refine hg1.run _ Hk x1 c _ _ (Fm.go_in e4j z1) z3 fun σ3 hu1 hrd1 _ => ?_
    have l3 : ((φ.go H1 H2).go H' H'').le ((((φ.go H1 H2).go H' H'').go H3 H4).go Hj Hk) := Fm.go_le.trans Fm.go_le
    obtain ⟨ht1, he1⟩ := hin c _ σ3 l3 (hrd1 _ ((rd2.mono l3).wipe vs1))
    refine ⟨wipe_upd hj1 hu1, ?_⟩
    obtain ⟨y', hy'⟩ := compM_take hys (j + 1)
    have hyt := hy'
    rw [tk z2] at hyt
    obtain ⟨y0, hy0, hcase⟩ := compM_snoc hyt
    have hyy : y0 = yj := Option.some.inj (hy0.symm.trans g2c)
    rw [hyy] at hcase
    rcases hcase with ⟨hf1, hye⟩ | ⟨y, hf1, hm, hye⟩
    · refine ht1 _ hf1 Hk (Fm.go_in e4j z1) _ fun H6 e6 => ?_
      refine ⟨acc', y', e6 D _ (z1 D _ g1'), g2'.trans (mns_up (z1.trans e6)), hy', ?_⟩
      rw [hye]
      exact g3'.imp fun _ _ k => ss.mono (mns_up (part_up (z1.trans e6))) k
    · refine ht1 _ hf1 Hk (Fm.go_in e4j z1) _ fun H6 e6 => ?_
      have hD6 : H6 D = some (.lst acc') := e6 D _ (z1 D _ g1')
      refine he1 _ hm H6 ((Fm.go_in e4j z1).trans e6) _ fun y7 H7 e7 ry => ?_
      have hl : acc'.length < 100000 := by
        have l1 := g3'.len
        rw [List.length_append] at l1
        have l2 : yj.length ≤ ys.length := by
          have hys2 := hys
          rw [← List.take_append_drop j l] at hys2
          obtain ⟨c0, c1, q1, q2⟩ := compM_pre hys2
          have : c0 = yj := Option.some.inj (q1.symm.trans g2c)
          rw [q2, this, List.length_append]
          omega
        have l3 : b1.length = bi.length + ys.length := by rw [hb, List.length_append]
        omega
      refine ⟨acc', e7 D _ hD6, sz_lt hl, acc' ++ [y7], y', upd_same, ?_, hy', ?_⟩
      · rw [mns_upd]
        exact g2'.trans (mns_up (z1.trans (e6.trans e7)))
      · rw [hye, ← List.append_assoc]
        refine Al.snoc (g3'.imp fun _ _ k => ss.mono ((mns_up (part_up (z1.trans (e6.trans e7)))).trans part_put) k) (ss.mono (Ex.trans ?_ part_put) ry)
        have hj4 : Ex H1 Hj := (e2.trans e2j).trans mns_sub
        have gj : Ex (part (part (part φ.F H1 H2) H' H'') H3 H4) (part φ.F H1 Hj) := fun q o hq => by
          have nq : q ≠ D := fun z => by
            rw [z, d4] at hq
            cases hq
          have hq4 := gsub4 q o hq
          cases hF : φ.F q with
          | some u => rw [part_in hF] at hq4 ⊢; exact hq4
          | none =>
            cases hH : H1 q with
            | some u => rw [part_old hF hH] at hq4; cases hq4
            | none =>
              rw [part_new hF hH] at hq4 ⊢
              have := g2' q o (by rw [mns_ne nq]; exact hq4)
              rw [mns_ne nq] at this
              exact this
        have gk : Ex (part (part (part (part φ.F H1 H2) H' H'') H3 H4) Hj Hk) (part φ.F H1 Hk) := fun q o hq => part_elem gj e.1 hj4 z1 g1' d4 q o hq |> mns_sub q o
        exact part_elem (gk.trans (part_up e6)) e.1 (hj4.trans (z1.trans e6)) e7 hD6 (part_old d4 g1')
end
end Q
set_option Elab.async false
set_option linter.all false
set_option maxRecDepth 100000
set_option maxHeartbeats 4000000
namespace DCT
open PySem PySem.Spec PyProof.Rows L2
section
variable {X : Cx}
theorem put_in {pins : List (Addr × Obj)} {σ : L2.St} {H : Hp} {s : Shared} {E : Value → Shared → Prop} {d b : Addr} {es : List (List Key × V)} {k : List Key} {v : V} {r : Value} {R : Unit → Shared → Prop} (room : X.A.units + 1 < cLine) (J : Inv X pins σ H s)
    (at_d : H d = some (.dT es)) (at_b : H b = some (.tup (k.map kV))) (fits : es.length < sizeLine) (rv : RelV v r) (go : ∀ t, Inv X pins σ (upd H d (.dT (putK es k v))) t → R () t) :
    wpAny (model X.prog X.w) X.A (dictSet d (.ref b) r) R E s := by
  obtain ⟨n1, n2, ys, pr, dd⟩ := dt_of J.hok at_d
  have m1 : ys.length ≤ sizeLine := by
    rw [← Paired.length pr]
    exact n1
  have m2 : (putK es k v).length ≤ sizeLine := by
    have := length_putK es k v
    omega
  refine wpAny_dictSet_heap (hsz := m1) (Nat.lt_of_succ_lt room) (key_of J.hok at_b) dd fun g' dd' sb => go _ ?_
  obtain ⟨o, us, ep, z1, z2, z3, z4, _, z5⟩ := dd'
  refine d_write J (by rw [at_d]; trivial) sb ⟨o, z1⟩ ⟨m2, n2, _, (pr.put k at_b rv).keeps fun c cs hc => ?_, o, us, ep, z1, z2, z3, z4, z5⟩
  rw [upd_ne (ne_of hc at_d (fun z => nomatch z))]
  exact hc
def tDcT (wi : TI) (g : TG) (tt : TT) (tk tv : TE) (vs : List Nat) : TE := fun σ H Q => wi σ H fun J Ha =>
  ∀ d, Ha d = none → ∃ W : Nat → Nat → Hp → Prop, (∃ m, W 0 m (upd Ha d (.dT []))) ∧ ∀ i m Hb, W i m Hb →
    (J.stop i Hb ∧ Q (.ref d) Hb) ∨ (J.go i Hb ∧ ∃ N : Hp → Prop, (∀ Hc, N Hc → ∃ m', m' < m ∧ W (i + 1) m' Hc) ∧
      ∀ x Hc, J.yld i Hb x Hc → g x (wipe σ vs) Hc fun τ Hd => wipe τ vs = wipe σ vs ∧ tt τ Hd fun yes He =>
        if yes = true then tk τ He fun y Hf => tv τ Hf fun z Hg => ∃ (es : List (List Key × V)) (k : List Key) (b : Addr), y = .ref b ∧ Hg b = some (.tup (k.map kV)) ∧ Hg d = some (.dT es) ∧ es.length < sizeLine ∧ N (upd Hg d (.dT (putK es k z)))
        else N He)
abbrev BC (X : Cx) (s : Shared) (H : Hp) (scope : Scope) (C : Addr) (cl : List (Str × Addr)) (fp : List Addr) : Cx := X.blk s H scope (compEnvC scope cl C X.env) fp
theorem core {pins : List (Addr × Obj)} {s : Shared} {σ : L2.St} {H : Hp} {Q : VK} {kx vx tg iter : Expr} {ifs : List Expr} {scope : Scope} {own : List (Str × Nat)} {pos pos' : Pos} {wi : TI} {g : TG} {tt : TT} {tk tv : TE} {use : Option (Value → Sem Unit)} {Qf : Value → Shared → Prop}
    (room : X.A.units + 1 < cLine) (calm : X.calm = true) (nd : X.N.Nodup) (J : Inv X pins σ H s) (walk : PI X tg iter wi) (ok : BlkOk X.N X.env.scope scope own)
    (ptg : ∀ s H C cl fp, PG (BC X s H scope C cl fp) tg g) (pif : ∀ s H C cl fp, PTs (BC X s H scope C cl fp) ifs tt) (pk : ∀ s H C cl fp, PE (BC X s H scope C cl fp) kx tk) (pv' : ∀ s H C cl fp, PE (BC X s H scope C cl fp) vx tv)
    (fold : ∀ x, foldedSetIterable iter X.env x = pure x) (h : tDcT wi g tt tk tv (own.map (·.2)) σ H Q)
    (back : ∀ d C t m Ht, Inv X pins σ Ht t → Q (.ref d) Ht → t.heap.Ns C m → FpOk X pins Ht C → compPost (model X.prog X.w) X.A X.xe use Qf (.ref d) C (.ok .next) t) :
    wpAny (model X.prog X.w) X.A (comprehension (.DictComp kx vx [⟨tg, iter, ifs, 0⟩] scope pos) scope X.env pos' newDict false (eval iter X.env) use) Qf X.xe s := by
  have free : ∀ y ∈ scope.names, y.2 = .free → ∃ c, X.env.cells.lookup y.1 = some c := fun y hy e => (ok.free y hy e).elim (fun k => J.ok.has _ (.inl k)) fun k => J.ok.has _ (.inr k)
  refine wpAny_comprehension_free (use := use) rfl fold (closure_ok free) ok.kind (fun y hy e => by rw [ok.uniq y hy, e]) (thn (walk.run pins s σ H _ J h) fun _ s1 w1 => thn w1 fun _ s2 w2 => ?_)
  obtain ⟨it, fp, tn, Jt, Ha, rfl, J2, T, at2, fresh2, q⟩ := w2
  refine wpAny_newObj_type (newEnv_comp ?_)
  generalize ed : s2.heap.objs.size = d
  have nd_d : Ha d = none := J2.hok.fresh (Nat.le_of_eq ed)
  obtain ⟨W, ⟨m0, start⟩, turn⟩ := q d nd_d
  generalize e3 : ({ s2 with heap := s2.heap.push { cls := .type "dict", data := .dict #[] } } : Shared) = s3
  have J3 : Inv X pins σ (upd Ha d (.dT [])) s3 := by
    rw [← e3, ← ed]
    exact J2.laid (t' := s2.toks) (fun b o e => Heap.get?_push_of_some _ e) (Nat.le_refl _) (dt_empty s2.heap J2.big)
  have hp3 : s3.heap = s2.heap.push { cls := .type "dict", data := .dict #[] } := by rw [← e3]
  have below : ∀ b ∈ fp, b < s2.heap.objs.size := fun b hb => (T.obj _ _ at2 b hb).elim fun o z => Heap.lt_size z.1
  have fresh3 : ∀ b ∈ fp, FpOk X pins (upd Ha d (.dT [])) b ∧ b < s3.heap.objs.size := fun b hb => by
    have lt := below b hb
    have nb : (upd Ha d (.dT [])) b = none := by
      rw [upd_ne (by rw [← ed]; exact Nat.ne_of_lt lt)]
      exact (fresh2 b hb).1
    exact ⟨⟨nb, (fresh2 b hb).2⟩, by rw [hp3, Heap.size_push]; exact Nat.lt_succ_of_lt lt⟩
  have at3 : tn 0 s3.heap := T.keep _ _ _ at2 fun b _ o e => by
    rw [hp3]
    exact Heap.get?_push_of_some _ e
  have J4 := block_start J3 ok nd fresh3
  generalize eH3 : upd Ha d (.dT []) = H3 at J3 J4 start fresh3
  show codeAny _ _ (.compStart (.DictComp kx vx [⟨tg, iter, ifs, 0⟩] scope pos) 0 (.ref it) (.ref d) (compEnvC scope (cellsFrom (s3.heap.objs.size + 1) scope.names (cloFrom X.env.cells scope.names [])) s3.heap.objs.size X.env)) (compPost (model X.prog X.w) X.A X.xe use Qf (.ref d) s3.heap.objs.size) { s3 with heap := pushCells (s3.heap.push { cls := .type "dict", data := .dict #[] }) scope.names }
  generalize ecl : cellsFrom (s3.heap.objs.size + 1) scope.names (cloFrom X.env.cells scope.names []) = cl at J4 ⊢
  have g1 : PG (X.blk s3 H3 scope (compEnvC scope cl s3.heap.objs.size X.env) fp) tg g := ptg s3 H3 s3.heap.objs.size cl fp
  have g2 : PTs (X.blk s3 H3 scope (compEnvC scope cl s3.heap.objs.size X.env) fp) ifs tt := pif s3 H3 s3.heap.objs.size cl fp
  have g3 : PE (X.blk s3 H3 scope (compEnvC scope cl s3.heap.objs.size X.env) fp) kx tk := pk s3 H3 s3.heap.objs.size cl fp
  have g4 : PE (X.blk s3 H3 scope (compEnvC scope cl s3.heap.objs.size X.env) fp) vx tv := pv' s3 H3 s3.heap.objs.size cl fp
  have gone : ∀ b ∈ fp, H3 b = none := fun b hb => (fresh3 b hb).1.1
  generalize ece : compEnvC scope cl s3.heap.objs.size X.env = ce at J4 g1 g2 g3 g4 ⊢
  have eL : ce.locals = s3.heap.objs.size := by
    rw [← ece]
    rfl
  generalize e4 : ({ s3 with heap := pushCells (s3.heap.push { cls := .type "dict", data := .dict #[] }) scope.names } : Shared) = s4 at J4 ⊢
  have at4 : tn 0 s4.heap := T.keep _ _ _ at3 fun b _ o e => by
    rw [← e4]
    exact pushCells_keeps _ _ _ _ (Heap.get?_push_of_some _ e)
  let B : Cx := X.blk s3 H3 scope ce fp
  have steady : ∀ {τ : L2.St} {Ht : Hp} {t : Shared}, Inv B [] τ Ht t → (∀ b ∈ fp, Ht b = none) → ∀ b ∈ fp, FpOk B [] Ht b := fun {τ Ht t} JB none_ b hb =>
    ⟨none_ b hb, (JB.ok.exf b hb).1, JB.ok.exfs b hb, .inl hb, (fun x c e => (JB.ok.exf b hb).2 x c e), fun p hp => by
      have hp' : p ∈ ([] : List (Addr × Obj)) ++ [] := hp
      simp at hp'⟩
  have loop : codeAny (model X.prog X.w) X.A (.compLoop (.DictComp kx vx [⟨tg, iter, ifs, 0⟩] scope pos) 0 (.ref it) (.ref d) ce) (compPost (model X.prog X.w) X.A X.xe use Qf (.ref d) s3.heap.objs.size) s4 := by
    refine compLoop_anyD (fun n t => ∃ i Ht, Inv B [] (wipe σ (own.map (·.2))) Ht t ∧ tn i t.heap ∧ (∀ b ∈ fp, Ht b = none) ∧ W i n Ht) ?_ m0 ⟨0, H3, J4, at4, gone, start⟩
    rintro n s5 ⟨i, H5, J5, at5, none5, w5⟩
    rcases turn i n H5 w5 with ⟨stops, done⟩ | ⟨goes, N, less, step⟩
    · refine thnF (T.done B rfl rfl rfl calm i [] s5 _ H5 (fun _ _ => False) J5 (steady J5 none5) at5 stops) fun r s6 hr6 => ?_
      obtain ⟨hr, J6⟩ := hr6
      subst hr
      have J7 : Inv X pins σ H5 s6 := J3.call' (ch := fp) J6.os J6.base J6.hok J6.bare fun b hb =>
        let f := (fresh3 b hb).1.2
        ⟨f.2.2.1, f.1, f.2.2.2.1, f.2.2.2.2⟩
      have noC : H5 s3.heap.objs.size = none := by
        have z : H5 ce.locals = none := J6.free
        rwa [eL] at z
      obtain ⟨m, ns, _⟩ := J6.loc
      have ns2 : s6.heap.Ns ce.locals m := ns
      rw [eL] at ns2
      exact back d s3.heap.objs.size s6 m H5 J7 done ns2 (J3.fpOk (Nat.le_refl _) noC)
    · refine thnF (T.item B rfl rfl rfl calm i [] s5 _ H5 (fun _ _ => False) J5 (steady J5 none5) at5 goes) fun r s6 hr6 => ?_
      obtain ⟨u, hr, w6⟩ := hr6
      subst hr
      refine thnF w6 fun _ s7 w7 => ?_
      obtain ⟨x, H7, J7, rx, yx, at7, none7⟩ := w7
      have J7p := J7.pinned (steady J7 none7) (T.obj _ _ at7)
      refine thnF (g1.run _ s7 _ H7 x u _ J7p rx (step x H7 yx)) fun _ s8 w8 => ?_
      obtain ⟨τ, H8, J8, same, q8⟩ := w8
      refine thnF (g2.run _ s8 τ H8 _ J8 q8) fun yes s9 w9 => ?_
      obtain ⟨H9, J9, q9⟩ := w9
      have over : ∀ {t : Shared} {Ht : Hp}, Inv B ([] ++ pinsAt fp s7.heap) τ Ht t → N Ht → ∃ m, m < n ∧ ∃ i Ht, Inv B [] (wipe σ (own.map (·.2))) Ht t ∧ tn i t.heap ∧ (∀ b ∈ fp, Ht b = none) ∧ W i m Ht := fun {t Ht} Jt2 nx => by
        obtain ⟨m', lt, w'⟩ := less Ht nx
        have still : ∀ b ∈ fp, ∀ o, s7.heap.get? b = some o → t.heap.get? b = some o ∧ Ht b = none := fun b hb o e => by
          have z := Jt2.pin (b, o) (List.mem_append_right _ (List.mem_append_right _ (mem_pinsAt hb e)))
          exact ⟨z.1, z.2.1⟩
        have len : (wipe σ (own.map (·.2))).length = τ.length := by rw [← same, wipe_length]
        refine ⟨m', lt, i + 1, Ht, (Jt2.unpinned (pins := [])).weak len (fun j v e => (wipe_some (vs := own.map (·.2)) (by rw [same]; exact e)).1), T.keep _ _ _ at7 fun b hb o e => (still b hb o e).1, (fun b hb => ?_), w'⟩
        obtain ⟨o, e, _⟩ := T.obj _ _ at7 b hb
        exact (still b hb o e).2
      cases yes with
      | false =>
        rw [if_neg (by decide)] at q9
        rw [if_neg (by decide)]
        exact over J9 q9
      | true =>
        rw [if_pos rfl] at q9
        rw [if_pos rfl]
        refine thnF (g3.run _ s9 τ H9 _ J9 q9) fun _ s10 w10 => ?_
        obtain ⟨y, H10, J10, ry, q10⟩ := w10
        refine thnF (g4.run _ s10 τ H10 _ J10 q10) fun _ s11 w11 => ?_
        obtain ⟨z, H11, J11, rz, es, k, b, rfl, at_b, at_d, fits, nx⟩ := w11
        cases ry
        exact put_in (X := B) room J11 at_d at_b fits rz fun t Jt2 => over Jt2 nx
  exact codeAny_compStart_dict loop (T.self X.A 0 _ _ _ at4 loop)
end
end DCT
set_option Elab.async false
set_option linter.all false
set_option maxRecDepth 100000
set_option maxHeartbeats 4000000
namespace DCT
open PySem PySem.Spec PyProof.Rows L2 PySem.W
section
variable {X : Cx}
end
end DCT
set_option Elab.async false
set_option linter.all false
set_option maxRecDepth 100000
set_option maxHeartbeats 4000000
namespace DLT
open PySem PySem.Spec PyProof.Rows L2
end DLT
set_option Elab.async false
set_option linter.all false
set_option maxRecDepth 100000
set_option maxHeartbeats 4000000
namespace SCI
open PySem PySem.Spec PyProof.Rows L2 PpSet 
section
variable {X : Cx}
end
end SCI
set_option Elab.async false
set_option linter.all false
set_option maxRecDepth 100000
set_option maxHeartbeats 2000000
namespace Q
open PySem L2 Evl
open DL hiding Ea EaL Er MonoP Src Tgt YD d_for er_two walkR
inductive AlD {β : Type} (R : V → β → Prop) : List (List Key × V) → List (List Int × β) → Prop
  | nil : AlD R [] []
  | cons {k : List Int} {v : V} {b : β} {es : List (List Key × V)} {cs : List (List Int × β)} : R v b → AlD R es cs → AlD R ((k.map Sum.inl, v) :: es) ((k, b) :: cs)
section
variable {α β γ : Type} {R R' : V → β → Prop} {es : List (List Key × V)} {cs : List (List Int × β)}
theorem AlD.imp (f : ∀ v b, R v b → R' v b) : ∀ {es : List (List Key × V)} {cs : List (List Int × β)}, AlD R es cs → AlD R' es cs
  | _, _, .nil => .nil
  | _, _, .cons h t => .cons (f _ _ h) (AlD.imp f t)
theorem AlD.len : ∀ {es : List (List Key × V)} {cs : List (List Int × β)}, AlD R es cs → es.length = cs.length
  | _, _, .nil => rfl
  | _, _, .cons _ t => by rw [List.length_cons, List.length_cons, AlD.len t]
theorem inl_inj : ∀ {k l : List Int}, (k.map Sum.inl : List Key) = l.map Sum.inl ↔ k = l
  | [], [] => ⟨fun _ => rfl, fun _ => rfl⟩
  | [], _ :: _ => ⟨fun h => (nomatch h), fun h => (nomatch h)⟩
  | _ :: _, [] => ⟨fun h => (nomatch h), fun h => (nomatch h)⟩
  | a :: k, b :: l => by
    rw [List.map_cons, List.map_cons, List.cons.injEq, List.cons.injEq, inl_inj (k := k) (l := l)]
    exact ⟨fun ⟨h1, h2⟩ => ⟨Sum.inl.inj h1, h2⟩, fun ⟨h1, h2⟩ => ⟨congrArg _ h1, h2⟩⟩
def putA (cs : List (List Int × β)) (k : List Int) (b : β) : List (List Int × β) := if (cs.any fun c => decide (c.1 = k)) = true then cs.map (fun c => if c.1 = k then (c.1, b) else c) else cs ++ [(k, b)]
def getA (cs : List (List Int × β)) (k : List Int) : Option β := (cs.find? fun c => decide (c.1 = k)).map (·.2)
theorem AlD.any {k : List Int} : ∀ {es : List (List Key × V)} {cs : List (List Int × β)}, AlD R es cs → (es.any fun e => decide (e.1 = k.map Sum.inl)) = cs.any fun c => decide (c.1 = k)
  | _, _, .nil => rfl
  | _, _, .cons h t => by
    rw [List.any_cons, List.any_cons, AlD.any t]
    congr 1
    exact decide_eq_decide.mpr inl_inj
theorem AlD.app {fs : List (List Key × V)} {ds : List (List Int × β)} : ∀ {es : List (List Key × V)} {cs : List (List Int × β)}, AlD R es cs → AlD R fs ds → AlD R (es ++ fs) (cs ++ ds)
  | _, _, .nil, h => h
  | _, _, .cons h t, k => .cons h (AlD.app t k)
theorem AlD.repl {k : List Int} {v : V} {b : β} (hv : R v b) : ∀ {es : List (List Key × V)} {cs : List (List Int × β)}, AlD R es cs → AlD R (es.map fun e => if e.1 = k.map Sum.inl then (e.1, v) else e) (cs.map fun c => if c.1 = k then (c.1, b) else c)
  | _, _, .nil => .nil
  | _, _, .cons (k := k') h t => by
    rw [List.map_cons, List.map_cons]
    by_cases hk : k' = k
    · rw [if_pos (inl_inj.mpr hk), if_pos hk]
      exact .cons hv (AlD.repl hv t)
    · rw [if_neg (fun z => hk (inl_inj.mp z)), if_neg hk]
      exact .cons h (AlD.repl hv t)
theorem AlD.put {k : List Int} {v : V} {b : β} (h : AlD R es cs) (hv : R v b) : AlD R (putK es (k.map Sum.inl) v) (putA cs k b) := by
  unfold putK putA
  rw [h.any]
  split
  · exact AlD.repl hv h
  · exact h.app (.cons hv .nil)
theorem AlD.get {k : List Int} {b : β} : ∀ {es : List (List Key × V)} {cs : List (List Int × β)}, AlD R es cs → getA cs k = some b → ∃ v, valV es (k.map Sum.inl) = some v ∧ R v b
  | _, _, .nil, h => by cases h
  | _, _, .cons (k := k') h t, hg => by
    unfold getA at hg
    unfold valV
    rw [List.find?_cons] at hg ⊢
    by_cases hk : k' = k
    · rw [decide_eq_true hk] at hg
      rw [decide_eq_true (inl_inj.mpr hk)]
      cases hg
      exact ⟨_, rfl, h⟩
    · rw [decide_eq_false hk] at hg
      rw [decide_eq_false (fun z => hk (inl_inj.mp z))]
      exact AlD.get t hg
end
section
variable {α β γ δ : Type} {K : PySem.W.Frag} {σ σ2 : L2.St} {φ ψ : Fm} {F H H1 H2 H3 : Hp} {ta tb tk tv te tx : TE} {t u : TT} {v : V} {r : AR α} {s : AR β} {rr : Rep α} {ss : Rep β} {a : α} {b : β} {as : List α} {sl : List Slot} {p : Addr}
def dcM {α β : Type} (f : α → Option Bool) (kf : α → Option (List Int)) (m : α → Option β) : List α → List (List Int × β) → Option (List (List Int × β))
  | [], acc => some acc
  | a :: as, acc => match f a with
    | none => none
    | some false => dcM f kf m as acc
    | some true => match kf a, m a with
      | some k, some b => dcM f kf m as (putA acc k b)
      | _, _ => none
theorem er_chain {f g : Int → Int → Bool} {i j k : Int} (ha : Er (pr rInt) ta σ φ i) (hb : Er (pr rInt) tb σ φ j) (hc : Er (pr rInt) te σ φ k) : Er (pr rBl) (tChain (rI0 fun i j => .bl (f i j)) (rI0 fun i j => .bl (g i j)) ta tb te) σ φ (f i j && g j k) := fun H1 e Q q =>
  ha H1 e _ fun x H2 e2 hx => hb H2 (e.trans e2) _ fun y H3 e3 hy => by
    refine ⟨i, j, hx, hy, f i j, rfl, ?_⟩
    by_cases hf : f i j = true
    · rw [if_pos hf]
      refine hc H3 (e.trans (e2.trans e3)) _ fun z H4 e4 hz => ⟨j, k, hy, hz, q _ H4 (e2.trans (e3.trans e4)) ?_⟩
      rw [hf]
      rfl
    · rw [if_neg hf]
      refine q _ H3 (e2.trans e3) ?_
      rw [Bool.eq_false_iff.mpr hf]
      rfl
def cnt : List Int → List Int → Nat
  | _, [] => 0
  | seen, a :: as => if a ∈ seen then cnt seen as else cnt (a :: seen) as + 1
end
end Q
set_option Elab.async false
set_option linter.all false
set_option maxRecDepth 100000
set_option maxHeartbeats 2000000
namespace Q
open PySem PySem.Spec PyProof.Rows L2 Evl ClX
open DL hiding Ea EaL Er MonoP Src Tgt YD d_for er_two walkR
section
variable {α β γ δ : Type} {K : PySem.W.Frag} {wo : World} {σ σ2 : L2.St} {φ ψ : Fm} {F H H1 H2 H3 : Hp} {ta tb tk tv te tx : TE} {t u : TT} {v : V} {r : AR α} {s : AR β} {rr : Rep α} {ss : Rep β} {a : α} {b : β} {as : List α} {sl : List Slot} {p : Addr}
end
structure FRep (α : Type) where
  rel : Hp → List (Str × V) → α → Prop
  mono : ∀ {H H' : Hp} {fs : List (Str × V)} {a : α}, Ex H H' → rel H fs a → rel H' fs a
def fE : FRep Unit := ⟨fun _ fs _ => fs = [], fun _ h => h⟩
def fS {α β : Type} (F : FRep α) (n : Str) (r : Rep β) : FRep (α × β) := ⟨fun H fs c => ∃ gs v, fs = gs ++ [(n, v)] ∧ F.rel H gs c.1 ∧ r.rel H v c.2, fun e ⟨gs, v, h, k, l⟩ => ⟨gs, v, h, F.mono e k, r.mono e l⟩⟩
def rIns {α : Type} (C : Addr) (F : FRep α) : Rep α := ⟨fun H v a => ∃ p dx fs, v = .ref p ∧ H p = some (.ins C dx fs) ∧ F.rel H fs a, fun e ⟨p, dx, fs, h, hp, k⟩ => ⟨p, dx, fs, h, e p _ hp, F.mono e k⟩⟩
def FGet {α β : Type} (F : FRep α) (n : Str) (s : Rep β) (get : α → β) : Prop := ∀ H fs a, F.rel H fs a → ∃ v, fs.lookup n = some v ∧ s.rel H v (get a)
def FNo {α : Type} (F : FRep α) (n : Str) : Prop := ∀ H fs a, F.rel H fs a → fs.lookup n = none
theorem lk_app {n m : Str} {v : V} : ∀ {gs : List (Str × V)}, (gs ++ [(m, v)]).lookup n = match gs.lookup n with | some w => some w | none => if (n == m) = true then some v else none
  | [] => by
    show List.lookup n [(m, v)] = _
    simp only [List.lookup]
    cases n == m <;> rfl
  | (k, u) :: gs => by
    rw [List.cons_append]
    simp only [List.lookup]
    cases n == k with
    | true => rfl
    | false => exact lk_app
theorem fno_E {n : Str} : FNo fE n := fun H fs a h => by
  rw [show fs = [] from h]
  rfl
section
variable {α β γ : Type} {F : FRep α} {n m : Str} {r : Rep β} {s : Rep γ} {get : α → γ}
theorem fno_S (h : FNo F n) (hn : (n == m) = false) : FNo (fS F m r) n := fun H fs a ⟨gs, v, e, k, _⟩ => by
  rw [e, lk_app, h H gs a.1 k, hn]
  rfl
theorem fg_last (h : FNo F n) : FGet (fS F n r) n r (·.2) := fun H fs a ⟨gs, v, e, k, l⟩ => ⟨v, by
  rw [e, lk_app, h H gs a.1 k, show (n == n) = true from beq_self_eq_true n]
  rfl, l⟩
theorem fg_S (h : FGet F n s get) : FGet (fS F m r) n s (fun a => get a.1) := fun H fs a ⟨gs, v, e, k, l⟩ => by
  obtain ⟨w, h1, h2⟩ := h H gs a.1 k
  exact ⟨w, by rw [e, lk_app, h1], h2⟩
end
section
variable {α β γ δ : Type} {K : PySem.W.Frag} {σ σ2 : L2.St} {φ ψ : Fm} {Gb F0 H0 G H H1 H2 H3 : Hp} {ta tb tk tv te tx : TE} {tr : TA} {v : V} {r : AR α} {s : AR β} {rr : Rep α} {ss : Rep β} {a : α} {b : β} {o : OR β} {sl : List Slot} {C x : Addr} {F : FRep α} {n m : Str} {get : α → β} {i : Nat} {D : Ends} {tz : TS}
theorem er_fld (hC : Cls K C) (hf : NoAttr K C n) (k : FGet F n ss get) (h : Er (pr (rIns C F)) ta σ φ a) : Er (pr ss) (tFld K ta n) σ φ (get a) := fun H1 e Q q =>
  h H1 e _ fun v H2 e2 ⟨p, dx, fs, hp, hi, hF⟩ => by
    obtain ⟨w, h1, h2⟩ := k _ fs a hF
    exact ⟨p, C, dx, fs, w, hp, (Fm.go_in e e2).1 _ _ hi, hC, hf, h1, q w H2 e2 h2⟩
theorem eo_meth {W : (Fm → List V → Prop) → β → Prop} {P : Fm → List V → Prop} {E : XK} (no : FNo F m) (h : Er (pr (rIns C F)) ta σ φ a) (ha : Ea P tr σ φ ∧ MonoP P) (w : W (HC (pr (rIns C F)) a P) b) : Eo o (tMeth C m (spO o W) [] E ta tr) σ φ b := fun H1 e Q q =>
  h H1 e _ fun v H2 e2 hv => by
    have hv0 := hv
    obtain ⟨p, dx, fs, hp, hi, hF⟩ := hv
    refine ⟨p, dx, fs, hp, (Fm.go_in e e2).1 _ _ hi, no _ fs a hF, ha.1 H2 (e.trans e2) _ fun vs H3 e3 k => ?_⟩
    refine ⟨φ.go H1 H3, HC (pr (rIns C F)) a P, b, Fm.go_in e (e2.trans e3), mono_cons ha.2, w, ⟨v, vs, by rw [List.append_nil], (rIns C F).mono (part_up e3) hv0, ha.2 _ _ _ (Fm.back e2) k⟩, fun u H4 hr => ?_⟩
    obtain ⟨fp, e4, hf, k3⟩ := hr
    exact q u H4 fp ((e2.trans e3).trans e4) (fun p hp => back_none (e2.trans e3) (hf p hp)) (o.mono (cut_up (part_part (e2.trans e3) (Ex.refl H3) e4)) (fun _ _ _ z => z) k3)
theorem er_methP {W : (Fm → List V → Prop) → β → Prop} {P : Fm → List V → Prop} {E : XK} (no : FNo F m) (h : Er (pr (rIns C F)) ta σ φ a) (ha : Ea P tr σ φ ∧ MonoP P) (w : W (HC (pr (rIns C F)) a P) b) : Er (pr ss) (tMeth C m (spO (oPr ss) W) [] E ta tr) σ φ b := Eo.er (o := oPr ss) (eo_meth no h ha w)
def spI (C : Addr) (F : FRep α) (W : (Fm → List V → Prop) → α → Prop) : Sp := fun vs H Q _ => ∃ (φ : Fm) (P : Fm → List V → Prop) (a : α) (x dx : Addr) (ws : List V), vs = .ref x :: ws ∧ H x = some (.ins C dx []) ∧ φ.F x = none ∧ φ.B x = none ∧ φ.In H ∧ MonoP P ∧ W P a ∧ P φ ws ∧
  ∀ H2, Ex (mns H x) (mns H2 x) → (rIns C F).rel (part φ.F (mns H x) H2) (.ref x) a → Q .non H2
theorem er_make {W : (Fm → List V → Prop) → α → Prop} {P : Fm → List V → Prop} {E : XK} (h : Ea P tr σ φ ∧ MonoP P) (w : W P a) : Er (pr (rIns C F)) (tMake C (spI C F W) [] E tr) σ φ a := fun H1 e Q q =>
  h.1 H1 e _ fun vs H2 e2 hk x dx hx hd hne => by
    have e0 : Ex H2 (upd (upd H2 dx (.own x)) x (.ins C dx [])) := (Ex.new hd).trans (Ex.new ((upd_ne (Ne.symm hne)).trans hx))
    have hin := Fm.go_in e e2
    refine ⟨φ.go H1 H2, P, a, x, dx, vs, by rw [List.append_nil], upd_same, back_none hin.1 hx, back_none hin.2 hx, hin.trans e0, h.2, w, hk, fun H3 e3 hr => ⟨rfl, ?_⟩⟩
    have e23 : Ex H2 H3 := fun q o hq => by
      have hne : q ≠ x := fun z => by
        rw [z, hx] at hq
        cases hq
      have := e3 q o ((mns_ne hne).trans (e0 q o hq))
      rwa [mns_ne hne] at this
    refine q _ H3 (e2.trans e23) ((rIns C F).mono (fun q o hq => ?_) hr)
    cases hg : part φ.F H1 H2 q with
    | some z =>
      rw [show (φ.go H1 H2).F = part φ.F H1 H2 from rfl, part_in hg] at hq
      rw [← hq]
      exact part_up e23 q z hg
    | none =>
      rw [show (φ.go H1 H2).F = part φ.F H1 H2 from rfl] at hq
      cases hm : mns (upd (upd H2 dx (.own x)) x (.ins C dx [])) x q with
      | some z =>
        rw [part_old hg hm] at hq
        cases hq
      | none =>
        rw [part_new hg hm] at hq
        have hF0 : φ.F q = none := by
          cases z : φ.F q with
          | none => rfl
          | some o => rw [part_in z] at hg; cases hg
        have hH1 : H1 q = none := by
          cases z : H1 q with
          | none => rfl
          | some o =>
            have h2 := e2 q o z
            have hne : q ≠ x := fun z => by
              rw [z, hx] at h2
              cases h2
            rw [mns_ne hne, e0 q o h2] at hm
            cases hm
        show part φ.F H1 H3 q = some o
        rw [part_new hF0 hH1]
        exact hq
theorem er_cval {mc : Value} {u : Value} {z : Int} (r : CRead K C mc) (k : CVal K C mc n (.int z) u) : Er (pr rInt) (tCVal K (tC (.ref C)) n) σ φ z := fun H1 _ _ q => ⟨C, mc, .int z, u, rfl, r, k, q _ H1 (Ex.refl H1) rfl⟩
def oIni (C x : Addr) (F : FRep α) : OR α where
  rel := fun G H fp v a => v = .ref x ∧ fp = [x] ∧ ∃ dx fs, H x = some (.ins C dx fs) ∧ F.rel G fs a ∧ fs.length < 1000
  mono := fun e h ⟨h1, h2, dx, fs, h3, h4, h5⟩ => ⟨h1, h2, dx, fs, h x (by rw [h2]; exact List.mem_singleton.mpr rfl) _ h3, F.mono e h4, h5⟩
  ins := fun ⟨h1, h2, dx, fs, h3, h4, h5⟩ q hq => by
    rw [h2] at hq
    rw [List.mem_singleton.mp hq]
    exact ⟨_, h3⟩
  nd := fun ⟨h1, h2, _⟩ => by
    rw [h2]
    exact List.nodup_cons.mpr ⟨by simp, .nil⟩
  view := ⟨fun φ v a => v = .ref x ∧ ∃ dx fs, (φ.B x = some (.ins C dx fs) ∨ φ.F x = some (.ins C dx fs)) ∧ F.rel φ.F fs a, fun l ⟨h1, dx, fs, h2, h3⟩ => ⟨h1, dx, fs, h2.imp (l.2 _ _) (l.1 _ _), F.mono l.1 h3⟩⟩
  look := fun ⟨h1, _, dx, fs, h3, h4, _⟩ => ⟨h1, dx, fs, .inl h3, h4⟩
  frz := rIns C F
  frzs := fun ⟨h1, h2, dx, fs, h3, h4, h5⟩ e k => ⟨x, dx, fs, h1, k x (by rw [h2]; exact List.mem_singleton.mpr rfl) _ h3, F.mono e h4⟩
theorem er_fldI (rd : Rd φ sl σ) (i : Nat) (hi : sl[i]? = some (.ow (oIni C x F) a)) (hC : Cls K C) (hf : NoAttr K C n) (k : FGet F n ss get) : Er (pr ss) (tFld K (tVar i) n) σ φ (get a) := fun H1 e Q q => by
  obtain ⟨y, h1, v, h2, h3, dx, fs, h4, h5⟩ := rd i _ hi
  subst h2 h3
  obtain ⟨w, h6, h7⟩ := k _ fs a h5
  exact ⟨_, h1, x, C, dx, fs, w, rfl, h4.elim (e.2 _ _) (e.1 _ _), hC, hf, h6, q w H1 (Ex.refl H1) (ss.mono part_ex h7)⟩
theorem putF_end {f : Str} {v : V} : ∀ {fs : List (Str × V)}, fs.lookup f = none → putF f v fs = fs ++ [(f, v)]
  | [], _ => rfl
  | (k, u) :: fs, h => by
    simp only [List.lookup] at h
    cases hk : (f == k) with
    | true => rw [hk] at h; cases h
    | false =>
      rw [hk] at h
      have ih := putF_end (v := v) h
      have hk2 : (k == f) = false := by
        cases z : (k == f) with
        | false => rfl
        | true =>
          have e : k = f := eq_of_beq z
          rw [e, beq_self_eq_true] at hk
          cases hk
      have hn : ¬ k = f := fun e => by
        rw [e, beq_self_eq_true] at hk
        cases hk
      show (if k = f then (k, v) :: fs else (k, u) :: putF f v fs) = _
      rw [if_neg hn, ih]
      rfl
theorem d_fld (w : WB Gb F0 H0 G H) (f : Fits H0 G H sl σ) (hi : sl[i]? = some (.ow (oIni C x F) a)) (hC : Cls K C) (hf : NoAttr K C n) (no : FNo F n) (hl : ∀ H fs a, F.rel H fs a → fs.length < 900) (h : Rd ⟨G, H⟩ sl σ → Er (pr ss) tv σ ⟨G, H⟩ b) (k : Nx Gb F0 H0 D.nx (sl.set i (.ow (oIni C x (fS F n ss)) (a, b)))) : sFld K (tVar i) tv n D σ H := by
  have hh := h (f.rd w.up) H ⟨w.sub, Ex.refl H⟩
  obtain ⟨fps, f⟩ := f
  obtain ⟨z, hx, v, hv, h1, h2, dx, fs, h3, h4, h5⟩ := f.at_ i _ hi
  subst hv h1
  refine hh _ fun y H2 e hy => ⟨_, hx, x, C, dx, fs, rfl, e x _ h3, hC, hf, h5, ?_⟩
  have f2 := f.go (stp_ev (G := G) e)
  have hp : x ∈ fps i := by rw [h2]; exact List.mem_singleton.mpr rfl
  refine k σ (part G H H2) _ ⟨(w.ev e).put (f2.own i x hp).2.1 (f2.own i x hp).2.2, w.bs.trans part_ex⟩ ⟨fps, f2.upd hp hx ⟨rfl, h2, dx, _, upd_same, ⟨fs, y, putF_end (no _ fs a h4), F.mono part_ex h4, hy⟩, ?_⟩⟩
  rw [putF_end (no _ fs a h4), List.length_append]
  have := hl _ fs a h4
  simp only [List.length_cons, List.length_nil]
  omega
theorem q_fld (w : WB Gb F0 H0 G H) (f : Fits H0 G H sl σ) (hi : sl[i]? = some (.ow (oIni C x F) a)) (hC : Cls K C) (hf : NoAttr K C n) (no : FNo F n) (hl : ∀ H fs a, F.rel H fs a → fs.length < 900) (h : Rd ⟨G, H⟩ sl σ → Er (pr ss) tv σ ⟨G, H⟩ b) (k : Nx Gb F0 H0 (tz D) (sl.set i (.ow (oIni C x (fS F n ss)) (a, b)))) : tSeq (sFld K (tVar i) tv n) tz D σ H := d_fld (D := { D with nx := tz D }) w f hi hC hf no hl h k
theorem fl_E : ∀ H fs a, fE.rel H fs a → fs.length ≤ 0 := fun H fs a h => by
  rw [show fs = [] from h]
  exact Nat.le_refl _
theorem fl_S {k : Nat} (h : ∀ H fs a, F.rel H fs a → fs.length ≤ k) : ∀ H fs a, (fS F n ss).rel H fs a → fs.length ≤ k + 1 := fun H fs a ⟨gs, v, e, hF, _⟩ => by
  rw [e, List.length_append]
  have := h H gs a.1 hF
  simp only [List.length_cons, List.length_nil]
  omega
theorem Wd.beginI {dx : Addr} (h : φ.In H) (hx : H x = some (.ins C dx [])) (hF : φ.F x = none) : WB φ.F φ.F (mns H x) φ.F H := ⟨⟨Ex.refl _, h.1, mns_sub, fun q u hq hn => by
  rw [hq] at hn
  cases hn⟩, Ex.refl _⟩
theorem Args.fitsI {dx : Addr} {vs : List V} (h : φ.In H) (hx : H x = some (.ins C dx [])) (hF : φ.F x = none) (hB : φ.B x = none) (k : Args φ sl vs) (n : Nat) : Fits (mns H x) φ.F H (.ow (oIni C x fE) () :: (sl ++ List.replicate n .un)) (some (.ref x) :: (vs.map some ++ List.replicate n none)) := by
  obtain ⟨fps, f⟩ := Args.fits (H := mns H x) (φ := ⟨φ.F, φ.B⟩) ⟨ex_mns h.1 hF, ex_mns h.2 hB⟩ k n
  refine ⟨fun j => match j with | 0 => [x] | j + 1 => [], fun j s hs => ?_, fun j j' p hj hp hp' => ?_, fun j p hp => ?_⟩
  · cases j with
    | zero =>
      cases hs
      exact ⟨_, rfl, _, rfl, rfl, rfl, dx, [], hx, rfl, by decide⟩
    | succ j =>
      obtain ⟨y, h1, h2⟩ := f.at_ j s hs
      refine ⟨y, h1, ?_⟩
      cases s with
      | un => rfl
      | va r a => exact ⟨rfl, h2.2⟩
      | bo r a => exact ⟨rfl, h2.2⟩
      | ow o a =>
        exfalso
        clear h1 h2
        have hs : (sl ++ List.replicate n Slot.un)[j]? = some (Slot.ow o a) := hs
        clear f
        induction k generalizing j with
        | nil =>
          rw [List.nil_append, List.getElem?_replicate] at hs
          split at hs <;> cases hs
        | va _ _ ih =>
          cases j with
          | zero => cases hs
          | succ j => exact ih j hs hs
        | bo _ _ ih =>
          cases j with
          | zero => cases hs
          | succ j => exact ih j hs hs
  · cases j with
    | zero =>
      cases j' with
      | zero => exact hj rfl
      | succ j' => cases hp'
    | succ j => cases hp
  · cases j with
    | zero =>
      rw [List.mem_singleton.mp hp]
      exact ⟨⟨_, hx⟩, hF, mns_at⟩
    | succ j => cases hp
theorem iniEnd (w : WB Gb F0 (mns H0 x) G H) (f : Fits (mns H0 x) G H sl σ) (hi : sl[0]? = some (.ow (oIni C x F) a)) (hF : F0 x = none) : Ex (mns H0 x) (mns H x) ∧ (rIns C F).rel (part F0 (mns H0 x) H) (.ref x) a := by
  obtain ⟨fps, f⟩ := f
  obtain ⟨z, hx, v, hv, h1, h2, dx, fs, h3, h4, h5⟩ := f.at_ 0 _ hi
  refine ⟨fun q o hq => ?_, x, dx, fs, rfl, ?_, F.mono w.into h4⟩
  · have hn : q ≠ x := fun z => by
      rw [z, mns_at] at hq
      cases hq
    rw [mns_ne hn]
    exact w.up q o hq
  · rw [part_new hF mns_at]
    exact h3
end
end Q
set_option Elab.async false
set_option linter.all false
set_option maxRecDepth 100000
set_option maxHeartbeats 2000000
namespace Q
open PySem PySem.Spec PyProof.Rows L2 Evl ClX
open DL hiding Ea EaL Er MonoP Src Tgt YD d_for er_two walkR
section
variable {X : Cx} {K : PySem.W.Frag} {e : Expr} {f : Str} {ta : TE} {pos : Pos}
theorem pe_fldK (he : PE X e ta) (hb : attributeBase e f X.env (eval e X.env) = eval e X.env) (hK : X.K = K := by rfl) : PE X (.Attribute e f pos) (tFld K ta f) := hK ▸ pe_fld he hb
theorem pe_cvalK (he : PE X e ta) (hb : attributeBase e f X.env (eval e X.env) = eval e X.env := by rfl) (hK : X.K = K := by rfl) : PE X (.Attribute e f pos) (tCVal K ta f) := hK ▸ pe_cval he hb
end
section
variable {α β γ δ : Type} {K : PySem.W.Frag} {σ σ2 : L2.St} {φ ψ : Fm} {Gb F0 H0 G H H1 H2 H3 : Hp} {ta tb tk tv te tx : TE} {tr : TA} {v : V} {r : AR α} {s : AR β} {rr : Rep α} {ss : Rep β} {a : α} {b : β} {o : OR β} {sl : List Slot} {C x : Addr} {F : FRep α} {n m : Str} {i : Nat} {D : Ends} {tz : TS}
theorem endI {Q : V → Hp → Prop} (w : WB Gb F0 (mns H0 x) G H) (f : Fits (mns H0 x) G H sl σ) (hi : sl[0]? = some (.ow (oIni C x F) a)) (hF : F0 x = none) (L : ∀ H2, Ex (mns H0 x) (mns H2 x) → (rIns C F).rel (part F0 (mns H0 x) H2) (.ref x) a → Q .non H2) : Q .non H :=
  L H (iniEnd w f hi hF).1 (iniEnd w f hi hF).2
end
theorem inD_room {k : Nat} {A : Around} (r : Room k A) : A.units + 65 < cLine := by
  have := r.un
  omega
def eOpt {α : Type} [DecidableEq α] {K : PySem.W.Frag} {r : Rep α} (E : DL.Enc K r) (hn : ∀ a, PyData.eqv (E.enc a) .none = false ∧ PyData.eqv .none (E.enc a) = false) : DL.Enc K (rOpt r) where
  enc := fun o => match o with | none => .none | some a => E.enc a
  d := E.d
  dp := fun {H v o} h => by
    cases o with
    | none =>
      cases (show v = V.non from h)
      exact .non
    | some a => exact E.dp h
  eqv := fun a b => by
    cases a <;> cases b
    · rfl
    · simpa using (hn _).2
    · simpa using (hn _).1
    · show PyData.eqv (E.enc _) (E.enc _) = _
      rw [E.eqv]
      simp
  can := fun o => by
    cases o with
    | none => rfl
    | some a => exact E.can a
  dep := fun o => by
    cases o with
    | none => exact Nat.zero_le _
    | some a => exact E.dep a
def eTri {α β γ : Type} [DecidableEq α] [DecidableEq β] [DecidableEq γ] {K : PySem.W.Frag} {r : Rep α} {s : Rep β} {z : Rep γ} (E : DL.Enc K r) (E' : DL.Enc K s) (E'' : DL.Enc K z) : DL.Enc K (rTri r s z) where
  enc := fun c => .tuple [E.enc c.1, E'.enc c.2.1, E''.enc c.2.2]
  d := max E.d (max E'.d E''.d) + 1
  dp := fun ⟨p, x, y, u, h, hp, h1, h2, h3⟩ => by
    subst h
    exact .tup (SqT.of hp) (.cons (E.dp h1) (.cons (E'.dp h2) (.cons (E''.dp h3) .nil)))
  eqv := fun a b => by
    show (PyData.eqv (E.enc a.1) (E.enc b.1) && (PyData.eqv (E'.enc a.2.1) (E'.enc b.2.1) && (PyData.eqv (E''.enc a.2.2) (E''.enc b.2.2) && true))) = _
    rw [E.eqv, E'.eqv, E''.eqv]
    obtain ⟨a1, a2, a3⟩ := a
    obtain ⟨b1, b2, b3⟩ := b
    by_cases h : a1 = b1 <;> by_cases h2 : a2 = b2 <;> by_cases h3 : a3 = b3 <;> simp [h, h2, h3]
  can := fun a => by
    show ((E.enc a.1).canLay0 && ((E'.enc a.2.1).canLay0 && ((E''.enc a.2.2).canLay0 && true))) = true
    rw [E.can, E'.can, E''.can]
    rfl
  dep := fun a => by
    have h1 := E.dep a.1
    have h2 := E'.dep a.2.1
    have h3 := E''.dep a.2.2
    show max (E.enc a.1).depth (max (E'.enc a.2.1).depth (max (E''.enc a.2.2).depth 0)) + 1 ≤ _
    omega
end Q
set_option Elab.async false
set_option linter.all false
set_option maxRecDepth 100000
set_option maxHeartbeats 2000000
namespace Q
open PySem PySem.Spec PyProof.Rows L2 Evl
open DL hiding Ea EaL Er MonoP Src Tgt YD d_for er_two walkR
abbrev inQ {α : Type} [DecidableEq α] (a : α) (l : List α) : Bool := @decide (a ∈ l) (@List.instDecidableMemOfLawfulBEq α instBEqOfDecidableEq inferInstance a l)
theorem inQ_iff {α : Type} [DecidableEq α] {a : α} {l : List α} : inQ a l = true ↔ a ∈ l := decide_eq_true_iff
def SrcI (wi : TI) (σ : L2.St) (φ : Fm) (as : List Int) : Prop :=
  ∀ H1, φ.In H1 → ∀ R : It → Hp → Prop, (∀ J H2, Ex H1 H2 → (∀ ψ : Fm, Walk J as.length (fun H => ψ.In H) (YD ψ (pr rInt) as)) → R J H2) → wi σ H1 R
variable {α β γ δ S R : Type} {K : PySem.W.Frag} {σ σ2 : L2.St} {φ ψ : Fm} {F Gb F0 H0 G G2 H H1 H2 H3 : Hp} {ta tb te tx : TE} {t u : TT} {v : V} {r : AR α} {s : AR β} {rr : Rep α} {ss : Rep β} {a : α} {b : β} {as : List α} {bs : List β} {o : OR α} {p : Addr} {xs : List V} {i j : Nat} {sl : List Slot} {D : Ends} {tu tw tz : TS} {g : TG} {rv : R → V → Hp → Prop} {sh : S → List Slot}
section
variable {ψ : Fm}
theorem srcI_rng1 {φ : Fm} {n : Int} (h : Er (pr rInt) ta σ φ n) (hn : small n = true) : SrcI (iRng1 (tCons ta tNil)) σ φ (rng 0 n.toNat) := fun H1 e R k => h H1 e _ fun v H2 e2 hr => by
  have hn := of_decide_eq_true hn
  cases (show v = V.int n from hr)
  exact ⟨n, rfl, by omega, by omega, k _ H2 e2 fun ψ => walkR⟩
theorem srcI_rng2 {φ : Fm} {lo n : Int} (h : Er (pr rInt) ta σ φ lo) (h2 : Er (pr rInt) tb σ φ n) (hl : small lo = true) (hn : small n = true) : SrcI (iRng2 (tCons ta (tCons tb tNil))) σ φ (rng lo (n - lo).toNat) := fun H1 e R k => er_two h h2 e fun v w H2 e2 hr hw => by
  have hl := of_decide_eq_true hl
  have hn := of_decide_eq_true hn
  cases (show v = V.int lo from hr)
  cases (show w = V.int n from hw)
  exact ⟨lo, n, rfl, by omega, k _ H2 e2 fun ψ => walkR⟩
end
theorem d_forR {wi : TI} {js : List Nat} {T : Int → List Slot → List Slot} {as : List Int} {step : Int → S → Option (Ctl S R)} {s0 : S} {c : Ctl S R} (sh : S → List Slot) (w : WB Gb F0 H0 G H) (f : Fits H0 G H sl σ) (hs : Rd ⟨G, H⟩ sl σ → SrcI wi σ ⟨G, H⟩ as) (hg : Tgt g (pr rInt) js T)
    (hc : loop step as s0 = some c) (hw : Weak sl (sh s0))
    (hb : ∀ a s c', a ∈ as → step a s = some c' → ∀ Gb D' σ G H, WB Gb F0 H0 G H → Fits H0 G H (T a (sh s)) σ → Lands D' Gb F0 H0 sh rv c' → tu D' σ H)
    (Lr : ∀ r, c = .rt r → ∀ v H2, rv r v H2 → D.rt v H2) (Ln : ∀ s, c = .nx s → Nx Gb F0 H0 D.nx (sh s)) : tFor wi g tu D σ H := by
  refine hs (f.rd w.up) H ⟨w.sub, Ex.refl H⟩ _ fun J H1 e1 wk0 => ?_
  have wk := wk0 ⟨part G H H1, H0⟩
  have mem : ∀ (i : Nat) (a : Int), as[i]? = some a → a ∈ as := fun i a h => List.mem_of_getElem? h
  refine for_it wk (fun i σ' H' => (∃ G' s, Wd F0 H0 G' H' ∧ Ex (part G H H1) G' ∧ Fits H0 G' H' (sh s) σ' ∧ loop step (as.drop i) s = some c)) ?_ ?_ ?_ ?_
  · refine ⟨part G H H1, s0, w.ev e1, Ex.refl _, (f.go (stp_ev e1)).weak hw, ?_⟩
    rw [List.drop_zero]
    exact hc
  · rintro i σ' H' _ ⟨G', s, w', eG, _⟩
    exact ⟨eG.trans w'.sub, w'.up⟩
  · rintro i x σ' H' H'' hi ⟨G', s, w', eG, f', hl⟩ ⟨y1, a, y2, y3⟩
    have hdr : as.drop i = a :: as.drop (i + 1) := by
      have hlt : i < as.length := hi
      rw [List.getElem?_eq_getElem hlt] at y2
      cases y2
      exact List.drop_eq_getElem_cons hlt
    rw [hdr] at hl
    obtain ⟨c', h1, h2⟩ := loop_cons hl
    have w2 := w'.ev y1
    have le : Fm.le ((Fm.go ⟨G, H0⟩ H H1).go H' H'') ⟨part G' H' H'', H0⟩ := ⟨part_frame eG w'.sub, Ex.refl _⟩
    refine hg.run ⟨part G' H' H'', H0⟩ H'' x a σ' _ ⟨w2.sub, w2.up⟩ ((pr rInt).mono le y3) fun σ2 _ _ hf => ?_
    refine hb a s c' (mem _ _ y2) h1 (part G H H1) _ σ2 (part G' H' H'') H'' ⟨w2, eG.trans part_ex⟩ (hf _ (f'.go (stp_ev y1))) ?_
    cases c' with
    | nx s' => exact fun σ3 G3 H3 w3 f3 => ⟨G3, s', w3.toWd, w3.bs, f3, h2⟩
    | ct s' => exact fun σ3 G3 H3 w3 f3 => ⟨G3, s', w3.toWd, w3.bs, f3, h2⟩
    | bk s' =>
      subst h2
      exact fun σ3 G3 H3 w3 f3 => Ln s' rfl σ3 G3 H3 ⟨w3.toWd, w.bs.trans (part_ex.trans w3.bs)⟩ f3
    | rt r =>
      subst h2
      exact Lr r rfl
  · rintro σ' H' ⟨G', s, w', eG, f', hl⟩
    rw [show as.drop as.length = [] from List.drop_length] at hl
    cases hl
    exact Ln s rfl σ' G' H' ⟨w', w.bs.trans (part_ex.trans eG)⟩ f'
theorem q_forR {wi : TI} {js : List Nat} {T : Int → List Slot → List Slot} {as : List Int} {step : Int → S → Option (Ctl S R)} {s0 : S} {c : Ctl S R} (sh : S → List Slot) (w : WB Gb F0 H0 G H) (f : Fits H0 G H sl σ) (hs : Rd ⟨G, H⟩ sl σ → SrcI wi σ ⟨G, H⟩ as) (hg : Tgt g (pr rInt) js T)
    (hc : loop step as s0 = some c) (hw : Weak sl (sh s0))
    (hb : ∀ a s c', a ∈ as → step a s = some c' → ∀ Gb D' σ G H, WB Gb F0 H0 G H → Fits H0 G H (T a (sh s)) σ → Lands D' Gb F0 H0 sh rv c' → tu D' σ H)
    (Lr : ∀ r, c = .rt r → ∀ v H2, rv r v H2 → D.rt v H2) (Ln : ∀ s, c = .nx s → Nx Gb F0 H0 (tz D) (sh s)) : tSeq (tFor wi g tu) tz D σ H := d_forR (D := { D with nx := tz D }) sh w f hs hg hc hw hb Lr Ln
end Q
set_option Elab.async false
set_option linter.all false
set_option maxRecDepth 100000
set_option maxHeartbeats 2000000
namespace Q
open PySem PySem.Spec PyProof.Rows L2 Evl
open DL hiding Ea EaL Er MonoP Src Tgt YD d_for er_two walkR
section
variable {α β : Type} {K : PySem.W.Frag} {σ : L2.St} {φ : Fm} {ta te : TE} {rr : Rep α} {ss : Rep β}
end
end Q
set_option Elab.async false
set_option linter.all false
set_option maxRecDepth 100000
set_option maxHeartbeats 2000000
namespace Q
open PySem PySem.Spec PyProof.Rows L2 Evl
open DL hiding Ea EaL Er MonoP Src Tgt YD d_for er_two walkR
mutual
inductive Dq (φ : Fm) : V → PyData → Prop
  | non : Dq φ .non .none
  | bl (b : Bool) : Dq φ (.bl b) (.bool b)
  | int (i : Int) : Dq φ (.int i) (.int i)
  | str (x : Str) : Dq φ (.str x) (.str x)
  | lst {p : Addr} {xs : List V} {ds : List PyData} : (φ.B p = some (.lst xs) ∨ φ.F p = some (.lst xs)) → DqAll φ xs ds → Dq φ (.ref p) (.list ds)
  | tup {p : Addr} {xs : List V} {ds : List PyData} : (φ.B p = some (.tup xs) ∨ φ.F p = some (.tup xs)) → DqAll φ xs ds → Dq φ (.ref p) (.tuple ds)
inductive DqAll (φ : Fm) : List V → List PyData → Prop
  | nil : DqAll φ [] []
  | cons {v : V} {vs : List V} {d : PyData} {ds : List PyData} : Dq φ v d → DqAll φ vs ds → DqAll φ (v :: vs) (d :: ds)
end
mutual
theorem Dq.mono {φ ψ : Fm} (l : φ.le ψ) : ∀ {v : V} {d : PyData}, Dq φ v d → Dq ψ v d
  | _, _, .non => .non
  | _, _, .bl b => .bl b
  | _, _, .int i => .int i
  | _, _, .str x => .str x
  | _, _, .lst h t => .lst (h.imp (l.2 _ _) (l.1 _ _)) (DqAll.mono l t)
  | _, _, .tup h t => .tup (h.imp (l.2 _ _) (l.1 _ _)) (DqAll.mono l t)
theorem DqAll.mono {φ ψ : Fm} (l : φ.le ψ) : ∀ {vs : List V} {ds : List PyData}, DqAll φ vs ds → DqAll ψ vs ds
  | _, _, .nil => .nil
  | _, _, .cons h t => .cons (Dq.mono l h) (DqAll.mono l t)
end
mutual
theorem Dq.dp {K : PySem.W.Frag} {φ : Fm} {H : Hp} (i : φ.In H) : ∀ {v : V} {d : PyData}, Dq φ v d → Dp K H v d
  | _, _, .non => .non
  | _, _, .bl b => .bl b
  | _, _, .int i => .int i
  | _, _, .str x => .str x
  | _, _, .lst h t => .lst (SqL.of (h.elim (i.2 _ _) (i.1 _ _))) (DqAll.dp i t)
  | _, _, .tup h t => .tup (SqT.of (h.elim (i.2 _ _) (i.1 _ _))) (DqAll.dp i t)
theorem DqAll.dp {K : PySem.W.Frag} {φ : Fm} {H : Hp} (i : φ.In H) : ∀ {vs : List V} {ds : List PyData}, DqAll φ vs ds → DpAll K H vs ds
  | _, _, .nil => .nil
  | _, _, .cons h t => .cons (Dq.dp i h) (DqAll.dp i t)
end
def EQR {α : Type} (r : Rep α) (enc : α → PyData) : Prop := ∀ φ v a, r.rel φ.F v a → Dq φ v (enc a)
def EQA {α : Type} (r : AR α) (enc : α → PyData) : Prop := ∀ φ v a, r.rel φ v a → Dq φ v (enc a)
section
variable {α β : Type} {r : Rep α} {s : Rep β} {f : α → PyData} {g : β → PyData} {φ : Fm}
theorem eq_all {R : V → α → Prop} (h : ∀ v a, R v a → Dq φ v (f a)) : ∀ {xs : List V} {as : List α}, Al R xs as → DqAll φ xs (as.map f)
  | _, _, .nil => .nil
  | _, _, .cons k t => .cons (h _ _ k) (eq_all h t)
theorem eqT (h : EQR r f) : EQR (rTup r) (fun as => .tuple (as.map f)) := fun φ v as ⟨p, xs, hv, hp, hal⟩ => by
  subst hv
  exact .tup (.inr hp) (eq_all (fun v a k => h φ v a k) hal)
theorem eqV (h : EQR r f) : EQA (pr r) f := fun φ v a k => h φ v a k
end
def pl : Nat → PyData → Prop
  | _, .none => True
  | _, .bool _ => True
  | _, .int _ => True
  | _, .str x => SeqAt.shaped (.str x) = true
  | n + 1, .list ds => ds.length ≤ 100000 ∧ ∀ d ∈ ds, pl n d
  | n + 1, .tuple ds => ds.length ≤ 100000 ∧ ∀ d ∈ ds, pl n d
  | _, _ => False
section
variable {α β : Type} {K : PySem.W.Frag} {σ : L2.St} {φ : Fm} {H : Hp} {ta tb te : TE} {v : V} {d e : PyData} {ds : List PyData} {r : AR α} {a : α}
end
section
variable {α β : Type} {K : PySem.W.Frag} {σ : L2.St} {φ : Fm} {H : Hp} {ta tb te : TE} {v : V} {d e : PyData} {ds : List PyData} {r : AR α} {a : α}
end
section
variable {α β : Type} {f : α → PyData} {g : β → PyData} {c : α → Bool} {c2 : β → Bool} {n : Nat}
end
end Q
namespace Q
open PySem PySem.Spec PyProof.Rows L2 Evl
open DL hiding Ea EaL Er MonoP Src Tgt YD d_for er_two walkR
end Q
set_option Elab.async false
set_option linter.all false
set_option maxRecDepth 100000
set_option maxHeartbeats 2000000
namespace Q
open PySem L2 Evl DL
section
variable {α β : Type} {Gb F0 H0 G H : Hp} {σ : L2.St} {φ : Fm} {sl : List Slot} {D : Ends} {rr : Rep α} {as : List α} {te : TE} {i : Nat} {K : PySem.W.Frag} {tu tz : TS}
theorem al_reverse {R : V → α → Prop} : ∀ {xs : List V} {as : List α}, Al R xs as → Al R xs.reverse as.reverse
  | _, _, .nil => .nil
  | _, _, .cons h t => by
    rw [List.reverse_cons, List.reverse_cons]
    exact (al_reverse t).app (.cons h .nil)
theorem eo_revL (h : Er (rB (pr rr)) te σ φ as) : Eo (oV rr) (tRevL K te) σ φ as.reverse := fun H1 e _ q =>
  h H1 e _ fun v H2 e2 ⟨p, xs, hx, hp, hal⟩ => by
    refine ⟨p, xs, hx, sqB e e2 hp, fun c hc => q_newV e.1 e2 hc ?_ q⟩
    exact al_reverse hal
theorem q_blk (h : tu { D with nx := tz D } σ H) : tSeq tu tz D σ H := h
end
end Q
set_option Elab.async false
set_option linter.all false
set_option maxRecDepth 100000
set_option maxHeartbeats 2000000
namespace Q
open PySem PySem.Spec PyProof.Rows L2 Evl
open DL hiding Ea EaL Er MonoP Src Tgt YD d_for er_two walkR
section
variable {X : Cx}
end
section
variable {α : Type} {σ : L2.St} {φ : Fm} {rr : Rep α} {as : List α} {te : TE} {K : PySem.W.Frag} {k : Nat}
end
end Q
set_option Elab.async false
set_option linter.all false
set_option maxRecDepth 100000
set_option maxHeartbeats 4000000
namespace DLE
open PySem PySem.W PySem.Calls PyProof.Rows PySem.HandSPX
def iA (fld : Str) (p1 p2 : Pos) : Arguments := { posonlyargs := [], args := [{ arg := "self", annotation := none, pos := p1 }, { arg := fld, annotation := none, pos := p2 }], vararg := none, kwonlyargs := [], kw_defaults := [], kwarg := none, defaults := [] }
def iB (fld txt : Str) (k : Nat) (q1 q2 q3 q4 q5 q6 r1 r2 r3 r4 : Pos) : List Stmt :=
  [.Expr (.Call (.Attribute (.Call (.Name "super" q1) [] [] q2) "__init__" q3) [.Constant (.str txt) k q4] [] q5) q6,
   .Assign [.Attribute (.Name "self" r1) fld r2] (.Name fld r3) r4]
def iS (fld : Str) : Scope := { kind := .function, names := [(PySem.Str.ofString "self", .local), (fld, .local), (PySem.Str.ofString "__class__", .free), (PySem.Str.ofString "super", .globalImplicit)], isGenerator := false, isCoroutine := false, more := [] }
def OneRow (txt : Str) (k : Nat) (q1 q2 q3 q4 q5 : Pos) : Prop := ∃ pl : Sem Bool, ∀ env : Env, eval (.Call (.Attribute (.Call (.Name "super" q1) [] [] q2) "__init__" q3) [.Constant (.str txt) k q4] [] q5) env = (do
      let ov ← attributeBase (.Call (.Name "super" q1) [] [] q2) "__init__" env (eval (.Call (.Name "super" q1) [] [] q2) env)
      standAt q3.atName
      let (f, first) ← holding [ov] (getMethod ov "__init__" pl)
      callWith q5 f first (backTo q5 (starEach [.Constant (.str txt) k q4] env)) [])
structure OwnTxt (P : Program) (K : Frag) (mg : Str → Option Value) (qn fld : Str) (C fI cc cd : Addr) : Prop where
  f1 : (("self" : Str) == fld) = false
  f2 : (iS fld).names.lookup ("super" : Str) = some .globalImplicit
  f3 : (iS fld).names.lookup ("__class__" : Str) = some .free
  f4 : (iS fld).names.lookup fld = some .local
  f5 : (fld == ("__debug__" : Str)) = false
  bnd : ∀ (B : List Stmt) (doc pm : Value) (an : Option Addr) (cdv ct : Value) (p1 p2 : Pos) (a b : Value), bindArgs (ksFn "__init__" qn (iA fld p1 p2) B (iS fld) .none .none doc pm an cdv ct cc) ⟨[a, b], []⟩ = pure [((PySem.Str.ofString "self"), a), (fld, b)]
  cls : ∃ nm q N bs bm sn sub ab col dd k0 k1 k2 k3 k5, K.lookup C = some (excClassObj nm q C N bs bm true sn sub ab col dd k0 k1 k2 k3 k5 "ValueError.__new__") ∧ refsVE bm = true ∧ alongIn K "__init__" bm = some (some (.builtin "ValueError.__init__"))
  sa : findIn K (.ref C) "__setattr__" = some (some (.builtin "object.__setattr__"))
  noN : findIn K (.ref C) fld = some none
  vE : subIn K (.ref C) (.type "ValueError") = some true
  iC : findIn K (.ref C) "__init__" = some (some (.ref fI))
  tC : typeIn K (.ref fI) = some (.type "function")
  ga : findIn K (.ref C) "__getattribute__" = some (some (.builtin "BaseException.__getattribute__"))
  gg : findIn K (.ref C) "__getattr__" = some none
  kC : keepIn K (.ref C) = true
  exC : subIn K (.ref C) (.type "BaseException") = some true
  tyC : typeIn K (.ref C) = some (.type "type")
  hdC : hasDictIn K C = true
  opq : nsIn K cStatics "thirdparty.any" = some none
  cell : ∃ cl cld csl, K.lookup cc = some ⟨cl, cld, .cell (some (.ref C)), csl⟩
  code : ∃ ccl cdd vs ccs file tf, K.lookup cd = some ⟨ccl, cdd, .fields vs, ccs⟩ ∧ vs[2]? = some (.str file tf) ∧ ((P.main.file : Str) == file) = true
  top : (P.main.scope.names.lookup ("super" : Str)).isSome = false
  sup : mg "super" = none
  fn : ∃ (oc : Value) (od : Option Addr) (doc pm : Value) (an : Option Addr) (ct : Value) (osl : Array (Option Value)) (p1 p2 : Pos) (txt : Str) (k : Nat) (q1 q2 q3 q4 q5 q6 r1 r2 r3 r4 : Pos),
    K.lookup fI = some ⟨oc, od, .func (ksFn "__init__" qn (iA fld p1 p2) (iB fld txt k q1 q2 q3 q4 q5 q6 r1 r2 r3 r4) (iS fld) .none .none doc pm an (.ref cd) ct cc), osl⟩ ∧ codeIn K (.ref cd) qn = true ∧ OneRow txt k q1 q2 q3 q4 q5
structure InitEnd (fld : Str) (h h' : Heap) (x C dx t1 : Addr) (v : Value) : Prop where
  keep : ∀ b o, b ≠ x → h.get? b = some o → h'.get? b = some o
  obj : h'.get? x = some { cls := .ref C, dict := some dx, data := .fields #[.ref t1, .none, .none, .none, .bool false, .none] }
  dbig : h.objs.size ≤ dx
  dne : dx ≠ x
  ns : h'.Ns1 dx (fun y => if y = fld then some v else none)
section
variable {prog : Program} {w : World} {A : Around} {E : Value → Shared → Prop} {h : Heap} {g : Array GenState} {d : Drawn} {t : Nat} {os : OsState}
end
section
variable {P : Program} {w : World} {A : Around} {R : Result → Shared → Prop} {s : Shared} {K : Frag} {mg : Str → Option Value} {qn fld : Str} {C fI cc cd : Addr}
end
structure Made (fld : Str) (h h' : Heap) (e C d : Addr) (v : Value) : Prop where
  keep : ∀ b o, h.get? b = some o → h'.get? b = some o
  new : h.objs.size ≤ e
  obj : ∃ oe vs, h'.get? e = some oe ∧ oe.cls = .ref C ∧ oe.dict = some d ∧ oe.data = .fields vs ∧ vs[1]? = some .none ∧ vs[2]? = some .none
  dbig : h.objs.size ≤ d
  dne : d ≠ e
  ns : h'.Ns1 d (fun y => if y = fld then some v else none)
section
variable {P : Program} {w : World} {A : Around} {R : Result → Shared → Prop} {s : Shared} {K : Frag} {mg : Str → Option Value} {qn fld : Str} {C fI cc cd : Addr}
end
end DLE
namespace DLF
open PySem PySem.Spec PyProof.Rows L2
section
variable {X : Cx} {C fI cc cd : Addr} {qn fld : Str}
end
end DLF
set_option Elab.async false
set_option linter.all false
set_option maxRecDepth 100000
set_option maxHeartbeats 4000000
namespace DLF
open PySem PySem.Spec PyProof.Rows L2
structure IsTxt (K : PySem.W.Frag) (C : Addr) : Prop where
  cl : (PySem.W.clsIn K C).isSome = true
  ha : PySem.W.findIn K (.ref C) "__class__" = some (some (.builtin "object.__class__"))
  hn : PySem.W.specialIn K (.builtin "object.__class__") "__get__" = some (some (.builtin "getset_descriptor.__get__"))
  ht : PySem.W.takesIn K (.builtin "object.__class__") = some true
  hm : PySem.W.mroIn K C (.type "object") = some true
end DLF
set_option Elab.async false
set_option linter.all false
set_option maxRecDepth 100000
set_option maxHeartbeats 4000000
namespace Q
open PySem PySem.Spec PyProof.Rows L2 Evl
open DL hiding Ea EaL Er MonoP Src Tgt YD d_for er_two walkR ea_cons ea_nil eal_cons eal_nil er_I er_I0 er_all er_andV er_any er_bl er_call er_catT er_eqB er_eqD er_eqI er_fst er_if er_inL er_inT er_int er_int1 er_int1B er_isN er_ixF er_ixL er_ixT er_lenF er_lenL er_lenT er_ltT er_neB er_neD er_neI er_neg er_niL er_niT er_nonO er_notN er_notV er_orV er_pair er_slT er_snd er_some er_str er_tup er_tupOf et_B et_lst et_test et_tup mono_cons mono_nil src_enum src_enumT src_list src_rng1 src_rng2 src_tup src_zip src_zipM
inductive EVal
  | int (i : Int)
  | tup (l : List Int)
  deriving DecidableEq
structure ErrV where
  c : Str
  f : Option (Str × EVal)
def rEV : Rep EVal := ⟨fun F v e => match e with | .int i => rInt.rel F v i | .tup l => (rTup rInt).rel F v l, fun {F F' v e} h k => by
  cases e with
  | int i => exact rInt.mono h k
  | tup l => exact (rTup rInt).mono h k⟩
section
variable {α β R S : Type} {σ σ2 : L2.St} {φ ψ : Fm} {H H1 H2 H3 F0 H0 G Gb : Hp} {te ta tb : TE} {tr : TA} {r : AR α} {o : OR α} {a : α} {i : Int} {l : List Int} {e : ErrV} {E : XK} {sl : List Slot} {mg : Str → Option Value} {C : Addr} {tu tz : TS} {D : Ends}
def ErrV.Is (mg : Str → Option Value) (F : Hp) (e : ErrV) (cls : Value) (d : Option Addr) (H : Hp) : Prop :=
  mg e.c = some cls ∧ match e.f with | none => d = none | some (n, ev) => ∃ dd x, d = some dd ∧ F dd = some (.xd [(n, x)]) ∧ rEV.rel F x ev
theorem ErrV.Is.mono {F F' : Hp} {cls : Value} {d : Option Addr} (h : e.Is mg F cls d H) (hf : Ex F F') : e.Is mg F' cls d H := by
  obtain ⟨c, f⟩ := e
  refine ⟨h.1, ?_⟩
  cases f with
  | none => exact h.2
  | some p =>
    obtain ⟨dd, x, h1, h2, h3⟩ := h.2
    exact ⟨dd, x, h1, hf _ _ h2, rEV.mono hf h3⟩
def EOK (mg : Str → Option Value) (F0 H0 : Hp) (E : XK) (e : ErrV) : Prop := ∀ cls d H2, Ex H0 H2 → e.Is mg (part F0 H0 H2) cls d H2 → E cls d H2
theorem EOK.go {F : Hp} (h : EOK mg F H1 E e) (x : Ex H1 H2) : EOK mg F H2 E e := fun cls d H3 e3 k => h cls d H3 (x.trans e3) (k.mono (part_back x))
theorem EOK.at_ (w : WB Gb F0 H0 G H) (h : EOK mg F0 H0 E e) : EOK mg G H E e := fun cls d H2 x k => h cls d H2 (w.up.trans x) (k.mono (w.ev x).into)
def rvX (o : OR α) (F0 H0 : Hp) : α ⊕ ErrV → V → Hp → Prop
  | .inl a => rvO o F0 H0 a
  | .inr _ => fun _ _ => False
def spX (mg : Str → Option Value) (o : OR α) (W : (Fm → List V → Prop) → α ⊕ ErrV → Prop) : Sp := fun vs H Q E => ∃ (φ : Fm) (P : Fm → List V → Prop) (b : α ⊕ ErrV), φ.In H ∧ MonoP P ∧ W P b ∧ P φ vs ∧ (∀ v H2, rvX o φ.F H b v H2 → Q v H2) ∧ ∀ e, b = .inr e → EOK mg φ.F H E e
def Ee (mg : Str → Option Value) (E : XK) (e : ErrV) (te : TE) (σ : L2.St) (φ : Fm) : Prop := ∀ H1, φ.In H1 → EOK mg φ.F H1 E e → ∀ Q, te σ H1 Q
theorem Ee.go (w : WB Gb F0 H0 G H) (f : Fits H0 G H sl σ) (h : Rd ⟨G, H⟩ sl σ → Ee mg E e te σ ⟨G, H⟩) (L : EOK mg F0 H0 E e) (Q : VK) : te σ H Q := h (f.rd w.up) H ⟨w.sub, Ex.refl H⟩ (EOK.at_ w L) Q
section
variable {W : (Fm → List V → Prop) → α ⊕ ErrV → Prop} {P : Fm → List V → Prop} {E' : XK}
end
theorem d_raise0 {c : Str} (w : WB Gb F0 H0 G H) (hm : mg c = some (.ref C)) (L : EOK mg F0 H0 E ⟨c, none⟩) : E (.ref C) none H := EOK.at_ w L (.ref C) none H (Ex.refl H) ⟨hm, rfl⟩
theorem Ee.at_ (w : WB Gb F0 H0 G H) (f : Fits H0 G H sl σ) (h : Rd ⟨G, H⟩ sl σ → Ee mg E e te σ ⟨G, H⟩) (k : ∀ cls d H2, WB Gb F0 H0 (part G H H2) H2 → Fits H0 (part G H H2) H2 sl σ → e.Is mg (part G H H2) cls d H2 → E cls d H2) (Q : VK) : te σ H Q :=
  h (f.rd w.up) H ⟨w.sub, Ex.refl H⟩ (fun cls d H2 x is => k cls d H2 ⟨w.ev x, w.bs.trans part_ex⟩ (f.go (stp_ev x)) is) Q
def err0 {β : Type} (e : ErrV) (c : Str) (k : Option β) : Option β := match e with
  | ⟨c', none⟩ => if c' = c then k else none
  | _ => none
theorem err0_S {β : Type} {e : ErrV} {c : Str} {k : Option β} {r : β} (h : err0 e c k = some r) : e = ⟨c, none⟩ ∧ k = some r := by
  obtain ⟨c', f'⟩ := e
  cases f' with
  | none =>
    unfold err0 at h
    dsimp only at h
    split at h
    · rename_i z
      rw [z]
      exact ⟨rfl, h⟩
    · cases h
  | some p => cases h
theorem ErrV.Is.own {c f : Str} {v : EVal} {F : Hp} {cls : Value} {d : Option Addr} {H : Hp} (h : ErrV.Is mg F ⟨c, some (f, v)⟩ cls d H) (hm : mg c = some (.ref C)) : cls = .ref C ∧ ∃ dd x, d = some dd ∧ F dd = some (.xd [(f, x)]) ∧ rEV.rel F x v := ⟨Option.some.inj (h.1.symm.trans hm), h.2⟩
theorem ErrV.Is.bare {c : Str} {F : Hp} {cls : Value} {d : Option Addr} {H : Hp} (h : ErrV.Is mg F ⟨c, none⟩ cls d H) (hm : mg c = some (.ref C)) : cls = .ref C ∧ d = none := ⟨Option.some.inj (h.1.symm.trans hm), h.2⟩
def rIsH (K : PySem.W.Frag) (B a : Addr) (cls : Value) (d : Option Addr) : List V → Hp → VK → Prop := fun xs H Q => cls = .ref B ∧ d = none ∧ rIsE K B a xs H Q
theorem call_isH {X : Cx} {a B : Addr} {cls : Value} {d : Option Addr} {oe : Obj} {pn : List (Addr × Obj)} (C : ExcC X.K B) (hz : Zc cls d oe) (hf : ∃ vs, oe.data = .fields vs) :
    CallR (X.suite a ((a, oe) :: pn)) (.builtin "isinstance") (rIsH X.K B a cls d) := by
  intro pins s σ H xs us Q I r ⟨e1, e2, h⟩
  subst e1
  subst e2
  exact call_isE C hz hf pins s σ H xs us Q I r h
theorem er_isH {K : PySem.W.Frag} {aa : Addr} {b : Bool} {j : Nat} {c : V} {cv : Value} (h : σ[j]? = some (some (.ref aa))) (hc : ∀ u, RelV c u → u = cv) (hk : PySem.W.kitOne K (.ref C) cv = some b) : Er (pr rBl) (tCB (rIsH K C aa (.ref C) none) (tCons (tVar j) (tCons (tC c) tNil))) σ φ b := fun H1 hi Q q =>
  ⟨_, h, rfl, rfl, c, cv, b, rfl, hc, hk, q _ H1 (Ex.refl H1) rfl⟩
def caseX {α β : Type} (o : Option (α ⊕ ErrV)) (x : ErrV → Option β) (k : α → Option β) : Option β := match o with
  | none => none
  | some (.inl a) => k a
  | some (.inr e) => x e
theorem xS {α β : Type} {o : Option (α ⊕ ErrV)} {x : ErrV → Option β} {k : α → Option β} {c : β} (h : caseX o x k = some c) : (∃ e, o = some (.inr e) ∧ x e = some c) ∨ ∃ a, o = some (.inl a) ∧ k a = some c := by
  unfold caseX at h
  split at h
  · cases h
  · exact .inr ⟨_, rfl, h⟩
  · exact .inl ⟨_, rfl, h⟩
end
section
variable {α β : Type} {σ : L2.St} {φ : Fm} {H H1 H2 H3 : Hp} {ta : TE} {tr : TA} {o : OR β} {a : α} {b : β} {e : ErrV} {E E' : XK} {mg : Str → Option Value} {C : Addr} {F : FRep α} {m : Str} {sp : Sp}
def spIX (mg : Str → Option Value) (C : Addr) (F : FRep α) (W : (Fm → List V → Prop) → α ⊕ ErrV → Prop) : Sp := fun vs H Q E => ∃ (φ : Fm) (P : Fm → List V → Prop) (b : α ⊕ ErrV) (x dx : Addr) (ws : List V), vs = .ref x :: ws ∧ H x = some (.ins C dx []) ∧ φ.F x = none ∧ φ.B x = none ∧ φ.In H ∧ MonoP P ∧ W P b ∧ P φ ws ∧
  (∀ a, b = .inl a → ∀ H2, Ex (mns H x) (mns H2 x) → (rIns C F).rel (part φ.F (mns H x) H2) (.ref x) a → Q .non H2) ∧ ∀ e, b = .inr e → EOK mg φ.F (mns H x) E e
theorem mk_frame {x dx : Addr} {F0 : Hp} (e2 : Ex H1 H2) (hx : H2 x = none) (hd : H2 dx = none) (hne : dx ≠ x) (e23 : Ex H2 H3) : Ex (part (part F0 H1 H2) (mns (upd (upd H2 dx (.own x)) x (.ins C dx [])) x) H3) (part F0 H1 H3) := by
  have e0 : Ex H2 (upd (upd H2 dx (.own x)) x (.ins C dx [])) := (Ex.new hd).trans (Ex.new ((upd_ne (Ne.symm hne)).trans hx))
  let φ : Fm := ⟨F0, F0⟩
  intro q o hq
  have hq : part (φ.go H1 H2).F (mns (upd (upd H2 dx (.own x)) x (.ins C dx [])) x) H3 q = some o := hq
  show part φ.F H1 H3 q = some o
  cases hg : part φ.F H1 H2 q with
  | some z =>
    rw [show (φ.go H1 H2).F = part φ.F H1 H2 from rfl, part_in hg] at hq
    rw [← hq]
    exact part_up e23 q z hg
  | none =>
    rw [show (φ.go H1 H2).F = part φ.F H1 H2 from rfl] at hq
    cases hm : mns (upd (upd H2 dx (.own x)) x (.ins C dx [])) x q with
    | some z =>
      rw [part_old hg hm] at hq
      cases hq
    | none =>
      rw [part_new hg hm] at hq
      have hF0 : φ.F q = none := by
        cases z : φ.F q with
        | none => rfl
        | some o => rw [part_in z] at hg; cases hg
      have hH1 : H1 q = none := by
        cases z : H1 q with
        | none => rfl
        | some o =>
          have h2 := e2 q o z
          have hne : q ≠ x := fun z => by
            rw [z, hx] at h2
            cases h2
          rw [mns_ne hne, e0 q o h2] at hm
          cases hm
      show part φ.F H1 H3 q = some o
      rw [part_new hF0 hH1]
      exact hq
theorem mk_ex {x dx : Addr} (hx : H2 x = none) (hd : H2 dx = none) (hne : dx ≠ x) (e3 : Ex (mns (upd (upd H2 dx (.own x)) x (.ins C dx [])) x) H3) : Ex H2 H3 := fun q o hq => by
  have e0 : Ex H2 (upd (upd H2 dx (.own x)) x (.ins C dx [])) := (Ex.new hd).trans (Ex.new ((upd_ne (Ne.symm hne)).trans hx))
  have hne : q ≠ x := fun z => by
    rw [z, hx] at hq
    cases hq
  exact e3 q o ((mns_ne hne).trans (e0 q o hq))
theorem er_makeX {W : (Fm → List V → Prop) → α ⊕ ErrV → Prop} {P : Fm → List V → Prop} (h : Ea P tr σ φ ∧ MonoP P) (w : W P (.inl a)) : Er (pr (rIns C F)) (tMake C (spIX mg C F W) [] E tr) σ φ a := fun H1 hi Q q =>
  h.1 H1 hi _ fun vs H2 e2 hk x dx hx hd hne => by
    have e0 : Ex H2 (upd (upd H2 dx (.own x)) x (.ins C dx [])) := (Ex.new hd).trans (Ex.new ((upd_ne (Ne.symm hne)).trans hx))
    have hin := Fm.go_in hi e2
    refine ⟨φ.go H1 H2, P, .inl a, x, dx, vs, by rw [List.append_nil], upd_same, back_none hin.1 hx, back_none hin.2 hx, hin.trans e0, h.2, w, hk, fun a' za H3 e3 hr => ⟨rfl, ?_⟩, fun e z => nomatch z⟩
    cases za
    have e23 : Ex H2 H3 := mk_ex hx hd hne (e3.trans mns_sub)
    exact q _ H3 (e2.trans e23) ((rIns C F).mono (mk_frame e2 hx hd hne e23) hr)
theorem ee_makeX {W : (Fm → List V → Prop) → α ⊕ ErrV → Prop} {P : Fm → List V → Prop} (h : Ea P tr σ φ ∧ MonoP P) (w : W P (.inr e)) : Ee mg E e (tMake C (spIX mg C F W) [] E tr) σ φ := fun H1 hi hE Q =>
  h.1 H1 hi _ fun vs H2 e2 hk x dx hx hd hne => by
    have e0 : Ex H2 (upd (upd H2 dx (.own x)) x (.ins C dx [])) := (Ex.new hd).trans (Ex.new ((upd_ne (Ne.symm hne)).trans hx))
    have hin := Fm.go_in hi e2
    refine ⟨φ.go H1 H2, P, .inr e, x, dx, vs, by rw [List.append_nil], upd_same, back_none hin.1 hx, back_none hin.2 hx, hin.trans e0, h.2, w, hk, (fun a z => nomatch z), fun e' z => ?_⟩
    cases z
    exact fun cls d H3 e3 his => hE cls d H3 (e2.trans (mk_ex hx hd hne e3)) (his.mono (mk_frame e2 hx hd hne (mk_ex hx hd hne e3)))
end
section
variable {α β γ δ S R : Type} {K : PySem.W.Frag} {σ σ2 : L2.St} {φ ψ : Fm} {F Gb F0 H0 G G2 H H1 H2 H3 : Hp} {ta tb te tx : TE} {t u : TT} {v : V} {r : AR α} {s : AR β} {rr : Rep α} {ss : Rep β} {a : α} {b : β} {as : List α} {bs : List β} {o : OR α} {p : Addr} {xs : List V} {i j : Nat} {sl : List Slot} {D : Ends} {tu tw tz : TS} {g : TG} {rv : R → V → Hp → Prop} {sh : S → List Slot}
theorem d_forX {wi : TI} {js : List Nat} {T : α → List Slot → List Slot} {step : α → S → Option (Ctl S R)} {s0 : S} {c : Ctl S R} (sh : S → List Slot) (w : WB Gb F0 H0 G H) (f : Fits H0 G H sl σ) (hs : Rd ⟨G, H0⟩ (hide sl) σ → Src wi σ ⟨G, H0⟩ r as) (hg : Tgt g r js T)
    (hc : loop step as s0 = some c) (hw : Weak sl (sh s0))
    (hb : ∀ a s c', a ∈ as → step a s = some c' → (∀ r, c' = .rt r → c = .rt r) → ∀ Gb D' σ G H, WB Gb F0 H0 G H → Fits H0 G H (T a (sh s)) σ → Lands D' Gb F0 H0 sh rv c' → tu D' σ H)
    (Lr : ∀ r, c = .rt r → ∀ v H2, rv r v H2 → D.rt v H2) (Ln : ∀ s, c = .nx s → Nx Gb F0 H0 D.nx (sh s)) : tFor wi g tu D σ H := by
  refine hs f.rd0 H ⟨w.sub, w.up⟩ _ fun J H1 e1 wk => ?_
  have mem : ∀ i a, as[i]? = some a → a ∈ as := fun i a h => List.mem_of_getElem? h
  refine for_it wk (fun i σ' H' => (∃ G' s, Wd F0 H0 G' H' ∧ Ex (part G H H1) G' ∧ Fits H0 G' H' (sh s) σ' ∧ loop step (as.drop i) s = some c)) ?_ ?_ ?_ ?_
  · refine ⟨part G H H1, s0, w.ev e1, Ex.refl _, (f.go (stp_ev e1)).weak hw, ?_⟩
    rw [List.drop_zero]
    exact hc
  · rintro i σ' H' _ ⟨G', s, w', eG, _⟩
    exact ⟨eG.trans w'.sub, w'.up⟩
  · rintro i x σ' H' H'' hi ⟨G', s, w', eG, f', hl⟩ ⟨y1, a, y2, y3⟩
    have hdr : as.drop i = a :: as.drop (i + 1) := by
      have hlt : i < as.length := hi
      rw [List.getElem?_eq_getElem hlt] at y2
      cases y2
      exact List.drop_eq_getElem_cons hlt
    rw [hdr] at hl
    obtain ⟨c', h1, h2⟩ := loop_cons hl
    have w2 := w'.ev y1
    have le : Fm.le ((Fm.go ⟨G, H0⟩ H H1).go H' H'') ⟨part G' H' H'', H0⟩ := ⟨part_frame eG w'.sub, Ex.refl _⟩
    refine hg.run ⟨part G' H' H'', H0⟩ H'' x a σ' _ ⟨w2.sub, w2.up⟩ (r.mono le y3) fun σ2 _ _ hf => ?_
    refine hb a s c' (mem _ _ y2) h1 (fun r z => by subst z; exact h2) (part G H H1) _ σ2 (part G' H' H'') H'' ⟨w2, eG.trans part_ex⟩ (hf _ (f'.go (stp_ev y1))) ?_
    cases c' with
    | nx s' => exact fun σ3 G3 H3 w3 f3 => ⟨G3, s', w3.toWd, w3.bs, f3, h2⟩
    | ct s' => exact fun σ3 G3 H3 w3 f3 => ⟨G3, s', w3.toWd, w3.bs, f3, h2⟩
    | bk s' =>
      subst h2
      exact fun σ3 G3 H3 w3 f3 => Ln s' rfl σ3 G3 H3 ⟨w3.toWd, w.bs.trans (part_ex.trans w3.bs)⟩ f3
    | rt r =>
      subst h2
      exact Lr r rfl
  · rintro σ' H' ⟨G', s, w', eG, f', hl⟩
    rw [show as.drop as.length = [] from List.drop_length] at hl
    cases hl
    exact Ln s rfl σ' G' H' ⟨w', w.bs.trans (part_ex.trans eG)⟩ f'
theorem q_forX {wi : TI} {js : List Nat} {T : α → List Slot → List Slot} {step : α → S → Option (Ctl S R)} {s0 : S} {c : Ctl S R} (sh : S → List Slot) (w : WB Gb F0 H0 G H) (f : Fits H0 G H sl σ) (hs : Rd ⟨G, H0⟩ (hide sl) σ → Src wi σ ⟨G, H0⟩ r as) (hg : Tgt g r js T)
    (hc : loop step as s0 = some c) (hw : Weak sl (sh s0))
    (hb : ∀ a s c', a ∈ as → step a s = some c' → (∀ r, c' = .rt r → c = .rt r) → ∀ Gb D' σ G H, WB Gb F0 H0 G H → Fits H0 G H (T a (sh s)) σ → Lands D' Gb F0 H0 sh rv c' → tu D' σ H)
    (Lr : ∀ r, c = .rt r → ∀ v H2, rv r v H2 → D.rt v H2) (Ln : ∀ s, c = .nx s → Nx Gb F0 H0 (tz D) (sh s)) : tSeq (tFor wi g tu) tz D σ H := d_forX (D := { D with nx := tz D }) sh w f hs hg hc hw hb Lr Ln
end
end Q
set_option Elab.async false
set_option linter.all false
set_option maxRecDepth 100000
set_option maxHeartbeats 4000000
namespace SrtF
open PySem PyProof.Rows Srt SrtO
section
variable {prog : Program} {w : World} {A : Around} {E : Value → Shared → Prop} {s : Shared}
def IsFst (h : Heap) (v : Value) (x : Int) : Prop := ∃ a o t u n, v = .ref a ∧ h.get? a = some o ∧ o.cls = .type "tuple" ∧ o.data = .seq #[.int x t, u] n
theorem IsFst.keeps {h h' : Heap} {v : Value} {x : Int} (p : IsFst h v x) (k : ∀ b o, h.get? b = some o → o.cls = .type "tuple" → h'.get? b = some o) : IsFst h' v x := by
  obtain ⟨a, o, t, u, n, e, ho, hc, hd⟩ := p
  exact ⟨a, o, t, u, n, e, k _ _ ho hc, hc, hd⟩
theorem firsts_of {h : Heap} : ∀ {vs : List Value}, (∀ v ∈ vs, ∃ x, IsFst h v x) → ∃ fs : List Value, PySem.W.KatTups h vs fs ∧ fs.length = vs.length ∧ ∀ f ∈ fs, ∃ x t, f = Value.int x t
  | [], _ => ⟨[], PySem.W.KatTups.nil, rfl, fun _ hm => by simp at hm⟩
  | v :: vs, hp => by
    obtain ⟨fs, h1, h2, h3⟩ := firsts_of (vs := vs) fun v' hm => hp v' (List.mem_cons_of_mem _ hm)
    obtain ⟨x, a, o, t, u, n, e, ho, hc, hd⟩ := hp v (List.mem_cons_self ..)
    subst e
    refine ⟨.int x t :: fs, PySem.W.KatTups.cons ho hc hd rfl h1, by rw [List.length_cons, List.length_cons, h2], fun f hm => ?_⟩
    rcases List.mem_cons.mp hm with rfl | hm
    · exact ⟨x, t, rfl⟩
    · exact h3 f hm
end
end SrtF
namespace L2
open PySem PySem.Spec PyProof.Rows
section
variable {X : Cx}
end
end L2
namespace Q
open PySem PySem.Spec PyProof.Rows L2 Evl
open DL hiding Ea EaL Er MonoP Src Tgt YD d_for er_two walkR
section
variable {α β : Type} {K : PySem.W.Frag} {σ : L2.St} {φ : Fm} {ta te : TE} {rr : Rep α} {bs : List (Int × α)}
theorem al_perm {R : V → α → Prop} {xs ys : List V} (h : ys.Perm xs) : ∀ {as : List α}, Al R xs as → ∃ cs : List α, cs.Perm as ∧ Al R ys cs := by
  induction h with
  | nil => intro as h; cases h; exact ⟨[], .nil, .nil⟩
  | cons x _ ih =>
    intro as h
    cases h with
    | cons h1 h2 =>
      obtain ⟨cs, c1, c2⟩ := ih h2
      exact ⟨_ :: cs, c1.cons _, .cons h1 c2⟩
  | swap x y l =>
    intro as h
    cases h with
    | cons h1 h2 =>
      cases h2 with
      | cons h3 h4 => exact ⟨_ :: _ :: _, .swap _ _ _, .cons h3 (.cons h1 h4)⟩
  | trans _ _ ih1 ih2 =>
    intro as h
    obtain ⟨cs, c1, c2⟩ := ih2 h
    obtain ⟨ds, d1, d2⟩ := ih1 c2
    exact ⟨ds, d1.trans c1, d2⟩
end
end Q
set_option Elab.async false
set_option linter.all false
set_option maxRecDepth 100000
set_option maxHeartbeats 2000000
namespace Q
open PySem PySem.Spec PyProof.Rows L2 Evl
open DL hiding Ea EaL Er MonoP Src Tgt YD d_for er_two walkR
section
variable {α : Type} {Gb F0 H0 G H : Hp} {sl : List Slot} {σ : L2.St} {o : OR α} {a : α} {i j : Nat} {D : Ends} {tz : TS}
end
section
open HT
variable {prog : Program} {w : World} {A : Around} {E : Value → Shared → Prop} {s : Shared}
end
section
variable {X : Cx}
end
section
variable {α : Type} {σ : L2.St} {φ : Fm} {rr : Rep α} {as : List α} {te : TE} {K : PySem.W.Frag}
end
section
variable {S R : Type} {Gb F0 H0 G H : Hp} {sl : List Slot} {σ : L2.St} {D : Ends} {tz : TS} {t : TT} {tu : TS} {rv : R → V → Hp → Prop}
end
end Q
set_option Elab.async false
set_option linter.all false
set_option maxRecDepth 100000
set_option maxHeartbeats 4000000
namespace SrtT
open PySem PyProof.Rows Srt SrtO
def lexB : List Int → List Int → Bool
  | [], [] => false
  | [], _ :: _ => true
  | _ :: _, [] => false
  | a :: as, b :: bs => if a = b then lexB as bs else decide (a < b)
theorem lexB_asym : ∀ {a b}, lexB a b = true → lexB b a = false
  | [], [], h => by cases h
  | [], _ :: _, _ => rfl
  | _ :: _, [], h => by cases h
  | a :: as, b :: bs, h => by
    unfold lexB at h ⊢
    by_cases e : a = b
    · subst e
      rw [if_pos rfl] at h ⊢
      exact lexB_asym h
    · rw [if_neg e] at h
      rw [if_neg (Ne.symm e)]
      have := of_decide_eq_true h
      exact decide_eq_false (by omega)
theorem lexB_eq : ∀ {a b}, lexB a b = false → lexB b a = false → a = b
  | [], [], _, _ => rfl
  | [], _ :: _, h, _ => by cases h
  | _ :: _, [], _, h => by cases h
  | a :: as, b :: bs, h, k => by
    unfold lexB at h k
    by_cases e : a = b
    · subst e
      rw [if_pos rfl] at h k
      rw [lexB_eq h k]
    · rw [if_neg e] at h
      rw [if_neg (Ne.symm e)] at k
      have h1 := of_decide_eq_false h
      have h2 := of_decide_eq_false k
      exact absurd (show a = b by omega) e
theorem lexB_trans : ∀ {a b c : List Int}, lexB b a = false → lexB c b = false → lexB c a = false
  | [], [], [], _, _ => rfl
  | _ :: _, [], [], h, _ => by cases h
  | _, _ :: _, [], _, k => by cases k
  | [], _, _ :: _, _, _ => rfl
  | _ :: _, [], _ :: _, h, _ => by cases h
  | a :: as, b :: bs, c :: cs, h, k => by
    unfold lexB at h k ⊢
    by_cases e : b = a
    · subst e
      rw [if_pos rfl] at h
      by_cases e2 : c = b
      · subst e2
        rw [if_pos rfl] at k ⊢
        exact lexB_trans h k
      · rw [if_neg e2] at k ⊢
        exact k
    · rw [if_neg e] at h
      have h1 := of_decide_eq_false h
      by_cases e2 : c = b
      · subst e2
        rw [if_neg e]
        exact h
      · rw [if_neg e2] at k
        have h2 := of_decide_eq_false k
        rw [if_neg (show ¬ c = a by omega)]
        exact decide_eq_false (by omega)
section
variable {prog : Program} {w : World} {A : Around} {E : Value → Shared → Prop} {s : Shared}
inductive Ints : List Value → List Int → Prop
  | nil : Ints [] []
  | cons {i : Int} {t : Tok} {us : List Value} {is : List Int} : Ints us is → Ints (.int i t :: us) (i :: is)
theorem Ints.len : ∀ {us : List Value} {is : List Int}, Ints us is → us.length = is.length
  | _, _, .nil => rfl
  | _, _, .cons h => by rw [List.length_cons, List.length_cons, Ints.len h]
def IsTI (h : Heap) (v : Value) (l : List Int) : Prop := ∃ a o us n, v = .ref a ∧ h.get? a = some o ∧ o.cls = .type "tuple" ∧ o.data = .seq (List.toArray us) n ∧ Ints us l
theorem IsTI.keeps {h h' : Heap} {v : Value} {l : List Int} (p : IsTI h v l) (k : ∀ b o, h.get? b = some o → o.cls = .type "tuple" → h'.get? b = some o) : IsTI h' v l := by
  obtain ⟨a, o, us, n, e, ho, hc, hd⟩ := p
  exact ⟨a, o, us, n, e, k _ _ ho hc, hc, hd⟩
theorem swo_ti (k : Value → List Int) : Swo fun v u => lexB (k v) (k u) := ⟨fun x y h => lexB_asym h, fun x y z h1 h2 => lexB_trans h1 h2⟩
theorem lex_go : ∀ (xs ys : List Value) (l m : List Int) (i : Nat) (s : Shared), Ints xs l → Ints ys m → xs.length ≤ ys.length ∨ True → PySem.W.KatLex prog w A true (decide (xs.length < ys.length)) (fun r s' => s' = s ∧ r = lexB l m) (xs.zip ys) i s
  | _, _, [], [], i, s, .nil, .nil, _ => PySem.W.kat_nil ⟨rfl, rfl⟩
  | _, _, [], b :: m, i, s, .nil, .cons h, _ => PySem.W.kat_nil ⟨rfl, by simp [lexB]⟩
  | _, _, a :: l, [], i, s, .cons h, .nil, _ => PySem.W.kat_nil ⟨rfl, by simp [lexB]⟩
  | _, _, a :: l, b :: m, i, s, .cons (t := t) (us := us) h, .cons (t := t') (us := us') h', _ => by
    rw [List.zip_cons_cons]
    refine PySem.W.kat_cons (SeqAt.EqAt.int_int a t b t' prog w _ _ ?_)
    refine PySem.W.kat_go (fun e1 => ?_) (fun e1 => ?_)
    · have ex : a = b := by simpa using e1
      subst ex
      refine PySem.W.kat_yes ?_
      have := lex_go us us' l m (i + 1) s h h' (.inr trivial)
      have e2 : decide ((Value.int a t :: us).length < (Value.int a t' :: us').length) = decide (us.length < us'.length) := by simp
      have e3 : lexB (a :: l) (a :: m) = lexB l m := by
        show (if a = a then lexB l m else _) = _
        rw [if_pos rfl]
      rw [e2, e3]
      exact this
    · have ex : ¬ a = b := by simpa using e1
      have e3 : lexB (a :: l) (b :: m) = decide (a < b) := by
        show (if a = b then lexB l m else _) = _
        rw [if_neg ex]
      rw [e3]
      refine PySem.W.kat_no ?_
      cases i with
      | zero => exact oneLt_int ⟨rfl, rfl⟩
      | succ i => exact PySem.W.kat_one _ _ (wpAny_lt_int (show _ ∧ _ from ⟨rfl, rfl⟩))
theorem ti_cmp {vs : List Value} {k : Value → List Int} (hp : ∀ v ∈ vs, IsTI s.heap v (k v)) : Cmp prog w A s (tuples' true) (fun p => p.1 ∈ vs) (lt2 fun v u => lexB (k v) (k u)) := by
  intro p q hm hm'
  have h1 := hp _ hm
  have h2 := hp _ hm'
  show wpAny (model prog w) A (keyLt' (tuples' true) p.1 q.1) (fun r s' => s' = s ∧ r = lexB (k p.1) (k q.1)) (fun _ _ => False) s
  generalize k p.1 = x at h1 ⊢
  generalize k q.1 = x' at h2 ⊢
  obtain ⟨a, o, us, n, e, ho, hc, hd, hi⟩ := h1
  obtain ⟨a', o', us', n', e', ho', hc', hd', hi'⟩ := h2
  rw [e, e']
  refine PySem.W.kat_lt ho hd ho' hd' ?_
  have := lex_go (prog := prog) (w := w) (A := A) us us' x x' 0 s hi hi' (.inr trivial)
  simpa using this
theorem firsts_of {h : Heap} : ∀ {vs : List Value}, (∀ v ∈ vs, ∃ l, l ≠ [] ∧ IsTI h v l) → ∃ fs : List Value, PySem.W.KatTups h vs fs ∧ fs.length = vs.length ∧ ∀ f ∈ fs, ∃ x t, f = Value.int x t
  | [], _ => ⟨[], PySem.W.KatTups.nil, rfl, fun _ hm => by simp at hm⟩
  | v :: vs, hp => by
    obtain ⟨fs, h1, h2, h3⟩ := firsts_of (vs := vs) fun v' hm => hp v' (List.mem_cons_of_mem _ hm)
    obtain ⟨l, hl, a, o, us, n, e, ho, hc, hd, hi⟩ := hp v (List.mem_cons_self ..)
    subst e
    cases hi with
    | nil => exact absurd rfl hl
    | @cons x t us is hi =>
      refine ⟨.int x t :: fs, PySem.W.KatTups.cons ho hc hd (by simp) h1, by rw [List.length_cons, List.length_cons, h2], fun f hm => ?_⟩
      rcases List.mem_cons.mp hm with rfl | hm
      · exact ⟨x, t, rfl⟩
      · exact h3 f hm
theorem ti_sortable {a : Addr} {vs : List Value} {k : Value → List Int} (h0 : 0 < vs.length) (hp : ∀ v ∈ vs, IsTI s.heap v (k v)) (hne : ∀ v ∈ vs, k v ≠ []) (ha : ∀ o, s.heap.get? a = some o → o.cls ≠ .type "tuple") : SortableO prog w A s a vs fun v u => lexB (k v) (k u) := by
  intro h' keep
  have hp' : ∀ v ∈ vs, IsTI h' v (k v) := fun v hm => (hp v hm).keeps fun b o e c => keep b o (fun z => by subst z; exact ha o e c) e
  obtain ⟨fs, h1, h2, h3⟩ := firsts_of fun v hm => ⟨_, hne v hm, hp' v hm⟩
  refine ⟨tuples' true, fun Q E hq => ?_, ti_cmp hp'⟩
  refine PySem.W.kat_kind (T := .type "int") h1 (by omega) (fun f hm => ?_) (by rfl) ?_
  · obtain ⟨x, t, rfl⟩ := h3 f hm
    exact PySem.W.Looks.now
  · have e : (Value.type "int" != Value.type "tuple") = true := by first | decide +kernel | rfl | decide
    rw [e]
    exact hq
theorem sorted_ti {l : Addr} {vs : List Value} {k : Value → List Int} {Q : Value → Shared → Prop} (hl : s.heap.IsList l vs.toArray) (hz : vs.length ≤ sizeLine) (hp : ∀ v ∈ vs, IsTI s.heap v (k v)) (hne : ∀ v ∈ vs, k v ≠ [])
    (h : ∀ (h' : Heap) (d : Addr) (out : List Value), Srtd (fun v u => lexB (k v) (k u)) out → Stb (fun v u => lexB (k v) (k u)) out vs → (∀ b o, s.heap.get? b = some o → h'.get? b = some o) → s.heap.objs.size ≤ d → (∃ n, h'.get? d = some (seqObj "list" out.toArray n)) → Q (.ref d) { s with heap := h' }) :
    wpAny (model prog w) A (call (.builtin "sorted") [.ref l]) Q E s := by
  refine sorted_ord (swo_ti k) hl hz (fun h2 h₁ a ha kk => ?_) fun out hs hb => ?_
  · refine ti_sortable (s := { s with heap := h₁ }) (by omega) (fun v hm => (hp v hm).keeps fun b o e _ => (kk b o e).2) hne fun o e => ?_
    have e' : some o = some (seqObj "list" vs.toArray 0) := e.symm.trans ha
    cases e'
    intro c
    exact absurd (Value.type.inj c) (by decide)
  · exact h _ _ out hs hb (fun b o e => sortedAll_old e) (Nat.le_succ _) (sortedAll_at s.heap vs out.toArray)
end
end SrtT
namespace L2
open PySem PySem.Spec PyProof.Rows
def rSortedTI (K : PySem.W.Frag) : List V → Hp → VK → Prop := fun vs H Q => ∃ (a : Addr) (xs : List V) (k : V → List Int), vs = [V.ref a] ∧ SqL K H a xs ∧ (∀ x ∈ xs, ∃ t, x = V.ref t ∧ H t = some (.tup ((k x).map V.int)) ∧ k x ≠ []) ∧
  ∀ ys p, ys.Pairwise (fun x y => SrtT.lexB (k y) (k x) = false) → ys.Perm xs → H p = none → Q (.ref p) (upd H p (.lst ys))
theorem ints_of' : ∀ {l : List Int} {us : List Value}, Vals (l.map V.int) us → SrtT.Ints us l
  | [], _, .nil => .nil
  | i :: l, _, .cons r t => by
    obtain ⟨tk, rfl⟩ := r
    exact .cons (ints_of' t)
section
variable {X : Cx}
theorem cr_sortedTI : CallR X (.builtin "sorted") (rSortedTI X.K) := by
  intro pins s σ H vs us Q I r h
  obtain ⟨a, xs, k, rfl, hs, hx, q⟩ := h
  obtain ⟨its, rv, hl, hz⟩ := I.list hs
  obtain ⟨u, rfl, ru⟩ := vals1 r
  obtain rfl : u = Value.ref a := ru
  obtain ⟨e1, e2⟩ := refs_back rv fun x m => by
    obtain ⟨t, e, _⟩ := hx x m
    exact ⟨t, e⟩
  refine SrtT.sorted_ti (k := fun u => k (backV u)) hl.isList (by rw [← rv.length]; exact hz) (fun v hv => ?_) (fun v hv => ?_) fun h' d out h1 h2 kp hd hn => ?_
  · obtain ⟨t, rfl⟩ := e2 v hv
    have hm : V.ref t ∈ xs := by rw [e1]; exact List.mem_map.mpr ⟨_, hv, rfl⟩
    obtain ⟨t', e, ht, _⟩ := hx _ hm
    cases e
    obtain ⟨_, its2, r2, o, ho, hc, n, hd⟩ := I.hok _ _ ht
    exact ⟨t, o, its2, n, rfl, ho, hc, hd, ints_of' r2⟩
  · obtain ⟨t, rfl⟩ := e2 v hv
    have hm : V.ref t ∈ xs := by rw [e1]; exact List.mem_map.mpr ⟨_, hv, rfl⟩
    obtain ⟨t', e, ht, hne⟩ := hx _ hm
    exact hne
  · have h3 : ∀ u ∈ out, ∃ a, u = Value.ref a := fun u hu => e2 u (h2.perm.mem_iff.mp hu)
    obtain ⟨n, hn⟩ := hn
    have hpm : (out.map backV).Perm xs := by
      rw [e1]
      exact h2.perm.map backV
    refine ⟨.ref d, upd H d (.lst (out.map backV)), I.laid (t' := s.toks) kp hd ⟨?_, out, n, vals_back h3, hn⟩, rfl, q _ d ?_ hpm (I.hok.fresh hd)⟩
    · rw [hpm.length_eq]
      exact hz
    · rw [List.pairwise_map]
      exact h1
end
end L2
namespace Q
open PySem PySem.Spec PyProof.Rows L2 Evl
open DL hiding Ea EaL Er MonoP Src Tgt YD d_for er_two walkR
open SrtT
section
variable {α β : Type} {K : PySem.W.Frag} {σ : L2.St} {φ : Fm} {ta te : TE} {rr : Rep α} {bs : List α}
def sortL {α : Type} (f : α → List Int) (bs : List α) : List α := bs.mergeSort fun a b => !lexB (f b) (f a)
theorem sortL_perm (f : α → List Int) (bs : List α) : (sortL f bs).Perm bs := List.mergeSort_perm _ _
theorem sortL_up (f : α → List Int) (bs : List α) : (sortL f bs).Pairwise fun a b => lexB (f b) (f a) = false := by
  have := List.pairwise_mergeSort (le := fun a b : α => !lexB (f b) (f a)) (fun a b c h1 h2 => by
    have h1 : lexB (f b) (f a) = false := by simpa using h1
    have h2 : lexB (f c) (f b) = false := by simpa using h2
    simp [lexB_trans h1 h2]) (fun a b => by
    cases h : lexB (f b) (f a) with
    | false => rfl
    | true => rw [lexB_asym h]; rfl) bs
  exact this.imp fun h => by simpa using h
theorem lex_uniq {f : α → List Int} (inj : ∀ a b, f a = f b → a = b) : ∀ {l m : List α}, l.Perm m → l.Pairwise (fun a b => lexB (f b) (f a) = false) → m.Pairwise (fun a b => lexB (f b) (f a) = false) → l = m
  | [], m, h, _, _ => (List.Perm.eq_nil h.symm).symm
  | a :: l, [], h, _, _ => absurd h.length_eq (by simp)
  | a :: l, b :: m, h, hl, hm => by
    rw [List.pairwise_cons] at hl hm
    have e : a = b := by
      rcases List.mem_cons.mp (h.mem_iff.mp List.mem_cons_self) with q | q
      · exact q
      · rcases List.mem_cons.mp (h.mem_iff.mpr List.mem_cons_self) with z | z
        · exact z.symm
        · exact inj _ _ (lexB_eq (hm.1 a q) (hl.1 b z))
    subst e
    rw [lex_uniq inj h.cons_inv hl.2 hm.2]
structure TI {α : Type} (rr : Rep α) (f : α → List Int) : Prop where
  inj : ∀ a b, f a = f b → a = b
  is : ∀ {H : Hp} {v : V} {a : α}, rr.rel H v a → ∃ p, v = .ref p ∧ H p = some (.tup ((f a).map V.int))
theorem ti_Q : TI (rTri rInt rInt rInt) (fun c => [c.1, c.2.1, c.2.2]) := ⟨fun a b h => by
  obtain ⟨a1, a2, a3⟩ := a
  obtain ⟨b1, b2, b3⟩ := b
  simp at h
  obtain ⟨h1, h2, h3⟩ := h
  rw [h1, h2, h3], fun ⟨p, x, y, z, h1, h2, h3, h4, h5⟩ => ⟨p, h1, by
    cases (show x = V.int _ from h3)
    cases (show y = V.int _ from h4)
    cases (show z = V.int _ from h5)
    exact h2⟩⟩
theorem eo_sortL {f : α → List Int} (t : TI rr f) (h : Er (rB (pr rr)) ta σ φ bs) (hne : ∀ b ∈ bs, f b ≠ []) : Eo (oV rr) (tCB (rSortedTI K) (tCons ta tNil)) σ φ (sortL f bs) := fun H1 e Q q => h H1 e _ fun v H2 e2 ⟨p, xs, hx, hp, hal⟩ => by
  have hin := Fm.go_in e e2
  classical
  let k : V → List Int := fun x => match x with
    | .ref a => match H2 a with
      | some (.tup l) => l.map fun u => match u with | .int i => i | _ => 0
      | _ => []
    | _ => []
  have hk : ∀ x b, rr.rel (part φ.F H1 H2) x b → ∃ a, x = V.ref a ∧ H2 a = some (.tup ((f b).map V.int)) ∧ k x = f b := fun x b hr => by
    obtain ⟨a, rfl, ha⟩ := t.is hr
    have ha2 := hin.1 _ _ ha
    refine ⟨a, rfl, ha2, ?_⟩
    show (match H2 a with
      | some (.tup l) => l.map fun u => match u with | .int i => i | _ => 0
      | _ => []) = f b
    rw [ha2]
    show List.map _ (List.map V.int (f b)) = f b
    rw [List.map_map]
    exact List.map_id _
  have mem : ∀ {xs : List V} {bs : List α}, Al (rr.rel (part φ.F H1 H2)) xs bs → xs.map k = bs.map f := fun {xs bs} h => by
    induction h with
    | nil => rfl
    | cons h1 _ ih =>
      obtain ⟨_, _, _, e⟩ := hk _ _ h1
      rw [List.map_cons, List.map_cons, ih, e]
  have firstOf : ∀ {xs : List V} {bs : List α}, Al (rr.rel (part φ.F H1 H2)) xs bs → ∀ x ∈ xs, ∃ b ∈ bs, rr.rel (part φ.F H1 H2) x b := fun {xs bs} h => by
    induction h with
    | nil => intro x hx; cases hx
    | cons h1 h2 ih =>
      intro x hx
      rcases List.mem_cons.mp hx with q | q
      · rw [q]; exact ⟨_, List.mem_cons_self, h1⟩
      · obtain ⟨b, hb, hr⟩ := ih x q
        exact ⟨b, List.mem_cons_of_mem _ hb, hr⟩
  refine ⟨p, xs, k, congrArg (· :: []) hx, sqB e e2 hp, fun x hx => ?_, fun ys c hup hpm hc => ?_⟩
  · obtain ⟨b, hb, hr⟩ := firstOf hal x hx
    obtain ⟨a, h1, h2, h3⟩ := hk _ _ hr
    exact ⟨a, h1, by rw [h3]; exact h2, by rw [h3]; exact hne b hb⟩
  · obtain ⟨cs, c1, c2⟩ := al_perm hpm hal
    have e3 : cs = sortL f bs := by
      refine lex_uniq t.inj (c1.trans (sortL_perm f bs).symm) ?_ (sortL_up f bs)
      have e4 := mem c2
      have h5 : (ys.map k).Pairwise (fun x y => lexB y x = false) := List.pairwise_map.mpr hup
      rw [e4] at h5
      exact List.pairwise_map.mp h5
    subst e3
    exact q_newV e.1 e2 hc c2 q
end
end Q
set_option Elab.async false
set_option linter.all false
set_option maxRecDepth 100000
set_option maxHeartbeats 4000000
namespace L2
open PySem PySem.Spec PyProof.Rows
section
variable {X : Cx}
theorem canAll : ∀ {ds : List PyData}, PyData.canLayAll0 ds = true → ∀ z ∈ ds, z.canLay0 = true
  | [], _, _, hz => nomatch hz
  | d :: ds, h, z, hz => by
    have h' : d.canLay0 = true ∧ PyData.canLayAll0 ds = true := by simpa [PyData.canLayAll0] using h
    rcases List.mem_cons.mp hz with rfl | hz
    · exact h'.1
    · exact canAll h'.2 z hz
end
end L2
namespace Q
open PySem PySem.Spec PyProof.Rows L2 Evl
open DL hiding Ea EaL Er MonoP Src Tgt YD d_for er_two walkR
open SrtT
structure LtD {α : Type} [DecidableEq α] {K : PySem.W.Frag} {r : Rep α} (E : DL.Enc K r) (lt : α → α → Bool) : Prop where
  al : ∀ a b, PySem.W.alike (E.enc a) (E.enc b) = true
  nn : ∀ a, E.enc a ≠ .none
  eq : ∀ a b, PySem.W.dataLt (E.enc a) (E.enc b) = lt a b
section
variable {α β γ : Type} [DecidableEq α] [DecidableEq β] [DecidableEq γ] {K : PySem.W.Frag} {r : Rep α} {s : Rep β} {z : Rep γ}
def ltI (a b : Int) : Bool := decide (a < b)
def ltL (lt : α → α → Bool) : List α → List α → Bool
  | [], [] => false
  | [], _ :: _ => true
  | _ :: _, [] => false
  | a :: as, b :: bs => if a = b then ltL lt as bs else lt a b
theorem LtD.int : LtD (K := K) eInt ltI := ⟨fun a b => by show PySem.W.alike (.int a) (.int b) = true; simp only [PySem.W.alike], (fun a h => by cases h), fun a b => PySem.W.dataLt_int a b⟩
theorem LtD.self {E : DL.Enc K r} {lt : α → α → Bool} (h : LtD E lt) (a : α) : lt a a = false := by
  rw [← h.eq]
  exact lex_irrefl _
theorem LtD.alAll {E : DL.Enc K r} {lt : α → α → Bool} (h : LtD E lt) : ∀ xs ys : List α, PySem.W.alikeAll (xs.map E.enc) (ys.map E.enc) = true
  | [], _ => by rw [List.map_nil, PySem.W.alikeAll]
  | _ :: _, [] => by rw [List.map_nil, List.map_cons, PySem.W.alikeAll]
  | x :: xs, y :: ys => by
    rw [List.map_cons, List.map_cons, PySem.W.alikeAll, h.al x y, h.alAll xs ys]
    rfl
theorem LtD.lex {E : DL.Enc K r} {lt : α → α → Bool} (h : LtD E lt) : ∀ xs ys : List α, PyProof.Rows.lexLt itemOrd (PySem.W.keyToksAll (xs.map E.enc)) (PySem.W.keyToksAll (ys.map E.enc)) = ltL lt xs ys
  | [], [] => lex_irrefl _
  | [], y :: ys => by
    rw [List.map_nil, List.map_cons, PySem.W.toks_all_cons]
    simp only [PySem.W.keyToksAll]
    rw [lex_diff (O := itemOrd) (by simp)]
    rfl
  | x :: xs, [] => by
    rw [List.map_nil, List.map_cons, PySem.W.toks_all_cons]
    simp only [PySem.W.keyToksAll]
    rw [lex_diff (O := itemOrd) (by simp)]
    rfl
  | x :: xs, y :: ys => by
    rw [List.map_cons, List.map_cons, ltL]
    by_cases e : x = y
    · rw [if_pos e, PySem.W.dataLt_all_yes (h.al x y) (by rw [E.eqv, decide_eq_true_eq]; exact e), h.lex xs ys]
    · rw [if_neg e, PySem.W.dataLt_all_no (h.al x y) (by rw [E.eqv, decide_eq_false_iff_not]; exact e)]
      exact h.eq x y
theorem LtD.tup {E : DL.Enc K r} {lt : α → α → Bool} (h : LtD E lt) : LtD (eTup E) (ltL lt) :=
  ⟨fun xs ys => by show PySem.W.alike (.tuple _) (.tuple _) = true; simp only [PySem.W.alike]; exact h.alAll xs ys, (fun a e => by cases e), fun xs ys => (PySem.W.dataLt_tuple _ _).trans (h.lex xs ys)⟩
variable {σ : L2.St} {φ : Fm} {ta tb te : TE} {a b : α} {as : List α} {lt : α → α → Bool} {E : DL.Enc K r}
end
section
variable {α : Type} {K : PySem.W.Frag} {σ : L2.St} {φ : Fm} {ta : TE} {r : AR α} {as : List α}
end
end Q
set_option Elab.async false
set_option linter.all false
set_option maxRecDepth 100000
set_option maxHeartbeats 4000000
namespace XD
open PySem PySem.Spec PyProof.Rows L2
def xO (d : Addr) (o : Obj) : HO := .ext fun h => h.get? d = some o
def entN (w : World) (x : NestedKey × Addr × Value) : DictEntry := ⟨x.1.hash w, .ref x.2.1, x.2.2⟩
mutual
inductive AIs (H : Hp) : NestedKey → V → Prop
  | int (i) : AIs H (.num i) (.int i)
  | text (x) : AIs H (.text x) (.str x)
  | none : AIs H .none .non
  | tup {a xs ks} : H a = some (.tup xs) → AAll H ks xs → AIs H (.tup ks) (.ref a)
inductive AAll (H : Hp) : List NestedKey → List V → Prop
  | nil : AAll H [] []
  | cons {k v ks vs} : AIs H k v → AAll H ks vs → AAll H (k :: ks) (v :: vs)
end
mutual
theorem AIs.nested {P : Program} {w : World} {H : Hp} {h : Heap} (ok : HOk P w H h) : ∀ (k : NestedKey) (v : V) (u : Value), AIs H k v → RelV v u → NestedIs h k u
  | .none, _, _, x, r => by
    cases x
    cases (show _ = Value.none from r)
    exact .none
  | .num i, _, _, x, r => by
    cases x
    obtain ⟨t, rfl⟩ := r
    exact .int i t
  | .text y, _, _, x, r => by
    cases x
    obtain ⟨t, rfl⟩ := r
    exact .text y t
  | .tup ks, _, u, x, r => by
    cases x with
    | @tup a xs _ hx hk =>
      cases (show u = Value.ref a from r)
      obtain ⟨z, its, hv, o, ho, hc, n, hd⟩ := ok a _ hx
      refine .tup ho hc hd ?_
      exact AAll.nested ok ks xs its hk hv
theorem AAll.nested {P : Program} {w : World} {H : Hp} {h : Heap} (ok : HOk P w H h) : ∀ (ks : List NestedKey) (vs : List V) (us : List Value), AAll H ks vs → Vals vs us → NestedAll h ks us
  | [], _, _, x, r => by
    cases x
    cases r
    exact .nil
  | k :: ks, _, _, x, r => by
    cases x with
    | cons h1 h2 =>
      cases r with
      | cons r1 r2 => exact .cons (AIs.nested ok k _ _ h1 r1) (AAll.nested ok ks _ _ h2 r2)
end
mutual
theorem AIs.mono {H H' : Hp} (e : ∀ b ys, H b = some (.tup ys) → H' b = some (.tup ys)) : ∀ (k : NestedKey) (v : V), AIs H k v → AIs H' k v
  | .none, _, x => by cases x; exact .none
  | .num i, _, x => by cases x; exact .int i
  | .text y, _, x => by cases x; exact .text y
  | .tup ks, _, x => by
    cases x with
    | tup hx hk => exact .tup (e _ _ hx) (AAll.mono e ks _ hk)
theorem AAll.mono {H H' : Hp} (e : ∀ b ys, H b = some (.tup ys) → H' b = some (.tup ys)) : ∀ (ks : List NestedKey) (vs : List V), AAll H ks vs → AAll H' ks vs
  | [], _, x => by cases x; exact .nil
  | k :: ks, _, x => by
    cases x with
    | cons h1 h2 => exact .cons (AIs.mono e k _ h1) (AAll.mono e ks _ h2)
end
def KIs (H : Hp) (k : NestedKey) (a : Addr) : Prop := k.depth ≤ 8 ∧ AIs H k (.ref a)
theorem KIs.mono {H H' : Hp} {k : NestedKey} {a : Addr} (x : KIs H k a) (e : ∀ b ys, H b = some (.tup ys) → H' b = some (.tup ys)) : KIs H' k a := ⟨x.1, AIs.mono e _ _ x.2⟩
theorem KIs.upd {H : Hp} {k : NestedKey} {a d : Addr} {o : Obj} {u : HO} (x : KIs H k a) (hd : H d = some (xO d o)) : KIs (upd H d u) k a := x.mono fun b ys e => by
  rw [upd_ne (ne_of e hd (fun z => nomatch z))]
  exact e
structure XF (w : World) (o : Obj) (xs : List (NestedKey × Addr × Value)) : Prop where
  ex : o.ExactDict
  dt : ∃ es ep, o.data = .dict es ep ∧ es.toList = xs.map (entN w)
  nd : (xs.map (·.1)).Nodup
  sz : xs.length ≤ sizeLine
def XAt (w : World) (H : Hp) (d : Addr) (xs : List (NestedKey × Addr × Value)) : Prop := (d == sysModules) = false ∧ (∃ o, H d = some (xO d o) ∧ XF w o xs) ∧ ∀ x ∈ xs, KIs H x.1 x.2.1
section
variable {X : Cx} {pins : List (Addr × Obj)} {σ : L2.St} {H : Hp} {s : Shared} {d b : Addr} {xs : List (NestedKey × Addr × Value)} {k : NestedKey} {v : V}
theorem xO_get {o : Obj} (I : Inv X pins σ H s) (h : H d = some (xO d o)) : s.heap.get? d = some o := (I.hok d _ h).1
theorem xO_ok {P : Program} {w : World} {H : Hp} {h : Heap} {o : Obj} (e : h.get? d = some o) : ObjOk P w H h d (xO d o) := ⟨e, ⟨o, e⟩, fun h1 h2 p q => q o p⟩
theorem KIs.is {P : Program} {w : World} {H : Hp} {h : Heap} (x : KIs H k b) (ok : HOk P w H h) : (nestedKind P w).is h k b := ⟨AIs.nested ok _ _ _ x.2 rfl, x.1⟩
theorem XAt.dict (I : Inv X pins σ H s) (h : XAt X.w H d xs) : s.heap.DictOfH (nestedKind X.prog X.w) d xs := by
  obtain ⟨hd, ⟨o, ho, f⟩, hk⟩ := h
  obtain ⟨es, ep, h1, h2⟩ := f.dt
  exact ⟨o, es, ep, xO_get I ho, f.ex, h1, h2, fun x hx => (hk x hx).is I.hok, f.nd⟩
theorem XAt.sz {w : World} (h : XAt w H d xs) : xs.length ≤ sizeLine := by
  obtain ⟨hd, ⟨o, ho, f⟩, hk⟩ := h
  exact f.sz
theorem XF.of {P : Program} {w : World} {h : Heap} (x : h.DictOfH (nestedKind P w) d xs) (hs : xs.length ≤ sizeLine) : ∃ o, h.get? d = some o ∧ XF w o xs := by
  obtain ⟨o, es, ep, h1, h2, h3, h4, _, h6⟩ := x
  exact ⟨o, h1, h2, ⟨es, ep, h3, h4⟩, h6, hs⟩
theorem room_in1 {A : Around} {prog : Program} {w : World} (h : A.units + 9 < cLine) : (nestedKind prog w).room A.in1 := by
  show A.in1.units + 8 < cLine
  have : A.in1.units = A.units + 1 := rfl
  omega
theorem room_at {A : Around} {prog : Program} {w : World} (h : A.units + 9 < cLine) : (nestedKind prog w).room A := by
  show A.units + 8 < cLine
  omega
theorem x_write {h' : Heap} {t' : Nat} {o' : Obj} {o : Obj} (I : Inv X pins σ H s) (hd : H d = some (xO d o)) (hs : Heap.SameBut d s.heap h') (e : h'.get? d = some o') : Inv X pins σ (upd H d (xO d o')) { s with heap := h', toks := t' } :=
  d_write I (by rw [hd]; trivial) hs ⟨o', e⟩ (xO_ok e)
theorem len_stored {a : Addr} {u : Value} : (storedH xs k a u).length ≤ xs.length + 1 := by
  unfold storedH
  split
  · rw [List.length_map]
    omega
  · rw [List.length_append]
    exact Nat.le_refl _
def rLenX (w : World) : List V → Hp → VK → Prop := fun vs H Q => ∃ d xs, vs = [.ref d] ∧ XAt w H d xs ∧ Q (.int (xs.length : Int)) H
theorem call_len_x : CallR X (.builtin "len") (rLenX X.w) := by
  intro pins s σ H vs us Q I r h
  obtain ⟨d, xs, rfl, g, q⟩ := h
  obtain ⟨u, rfl, rx⟩ := vals1 r
  obtain rfl : u = .ref d := rx
  have z := g.sz
  refine call_len_dictH g.1 (XAt.dict I g) (by rw [sizeLine_eq] at z; omega) ?_
  exact ⟨.int (xs.length : Int), H, I.tok _, ⟨_, rfl⟩, q⟩
def rGetX (w : World) : V → List V → Hp → VK → Prop := fun x ys H Q => ∃ d b k xs v, x = .ref d ∧ ys = [.ref b] ∧ XAt w H d xs ∧ KIs H k b ∧ RelV v (((atKey xs k).map (·.2)).getD .none) ∧ Q v H
theorem mt_getX (hu : X.A.units + 9 < cLine) : MtR X "dict.get" (rGetX X.w) := by
  intro pins s σ H x ys v us Q I rx rs h
  obtain ⟨d, b, k, xs, z, rfl, rfl, g, hk, rz, q⟩ := h
  cases (show v = Value.ref d from rx)
  obtain ⟨u, rfl, ru⟩ := vals1 rs
  cases (show u = Value.ref b from ru)
  have dd := XAt.dict I g
  exact call_meetsIn F.slot_dict_get dd.typeIs F.entry_dict_get (F.args_dict_get_2 _ _) (meetsH_dict_get (nestedKind X.prog X.w) d b g.1) ⟨room_in1 hu, k, xs, hk.is I.hok, dd, ⟨z, H, I.tok _, rz, q⟩⟩
theorem XF.raw {w : World} {o : Obj} {h : Heap} (f : XF w o xs) (e : h.get? d = some o) : ∃ es ep, h.DictRaw d es ep ∧ o.data = .dict es ep ∧ es.size = xs.length ∧ ∀ i (hi : i < es.size), ∃ k b u, xs[i]? = some (k, b, u) ∧ es[i].key = .ref b ∧ es[i].val = u := by
  obtain ⟨es, ep, h1, h2⟩ := f.dt
  have hl : es.size = xs.length := by rw [← Array.length_toList, h2, List.length_map]
  refine ⟨es, ep, ⟨o, e, f.ex, h1⟩, h1, hl, fun i hi => ?_⟩
  have hx : i < xs.length := hl ▸ hi
  have e1 : es[i] = entN w xs[i] := by
    have : es.toList[i]? = (xs.map (entN w))[i]? := by rw [h2]
    rw [List.getElem?_map, List.getElem?_eq_getElem hx, Array.getElem?_toList, Array.getElem?_eq_getElem hi] at this
    exact Option.some.inj this
  refine ⟨xs[i].1, xs[i].2.1, xs[i].2.2, List.getElem?_eq_getElem hx, ?_, ?_⟩
  · rw [e1]
    rfl
  · rw [e1]
    rfl
def Itx (d : Addr) (o : Obj) (xs : List (NestedKey × Addr × Value)) (vs : List V) : It :=
  ⟨fun i H => H d = some (xO d o) ∧ i < xs.length, fun i H x H' => ∃ T k b u v, xs[i]? = some (k, b, u) ∧ vs[i]? = some v ∧ x = .ref T ∧ H T = none ∧ H' = upd H T (.tup [.ref b, v]), fun i H => H d = some (xO d o) ∧ xs.length ≤ i⟩
theorem vals_get : ∀ {vs : List V} {us : List Value} {i : Nat} {u : Value}, Vals vs us → us[i]? = some u → ∃ v, vs[i]? = some v ∧ RelV v u
  | _, _, 0, _, .cons r _, h => by
    cases h
    exact ⟨_, rfl, r⟩
  | _, _, i + 1, _, .cons _ t, h => vals_get (i := i) t h
  | _, _, 0, _, .nil, h => by cases h
  | _, _, i + 1, _, .nil, h => by cases h
theorem turn_itemsX {P : Program} {w : World} {K : PySem.W.Frag} {o : Obj} {vs : List V} {elts : List Expr} {kk : Nat} {tpos : Pos} (f : XF w o xs) (hv : Vals vs (xs.map (·.2.2))) {es : Array DictEntry} {ep : Nat} (hod : o.data = .dict es ep) (it : Addr) :
    Turn P w K (.Tuple elts kk tpos) (Itx d o xs vs) [it] it (fun i h => ∃ ok ov, IsItemIter h it d i xs.length ep ok ov) where
  mem := by simp
  obj := fun i h st b hb => by
    have e : b = it := by simpa using hb
    subst e
    obtain ⟨ok, ov, e⟩ := st
    exact ⟨_, e, fun v z => nomatch z⟩
  keep := fun i h h' st k => let ⟨ok, ov, e⟩ := st; ⟨ok, ov, k it (by simp) _ e⟩
  item := by
    intro X hP hw hK hc i pins s σ H E I hf st hg
    subst hP hw hK
    obtain ⟨hd, hi⟩ := hg
    obtain ⟨es', ep', hraw, hdt, hl, hen⟩ := f.raw (xO_get I hd)
    rw [hod] at hdt
    cases hdt
    obtain ⟨ok, ov, he⟩ := st
    have hi' : i < es.size := by rw [hl]; exact hi
    obtain ⟨k, b, u, hx, hkey, hval⟩ := hen i hi'
    obtain ⟨v, hv1, hv2⟩ := vals_get hv (i := i) (u := u) (by rw [List.getElem?_map, hx]; rfl)
    rw [← hl] at he
    have hlt : it < s.heap.objs.size := Heap.lt_size he
    refine wpAny_pyNext_items_item_raw he hraw hi' fun h' ho hT hz hk => ?_
    refine ⟨_, rfl, wpAny_letOwnedTupleGo_items (s := { s with heap := h' }) ho fun h'' he' sb => ?_⟩
    rw [hkey, hval] at hT
    have hT2 : h''.get? s.heap.objs.size = some { cls := .type "tuple", data := .seq #[.ref b, u] } := (sb.2 _ (Nat.ne_of_gt hlt)).trans hT
    have new : ObjOk X.prog X.w (upd H s.heap.objs.size (.tup [.ref b, v])) h'' s.heap.objs.size (.tup [.ref b, v]) :=
      ⟨by show 2 ≤ sizeLine; decide, [.ref b, u], .cons rfl (.cons hv2 .nil), ⟨_, hT2, rfl, _, rfl⟩⟩
    have I1 : Inv X pins σ (upd H s.heap.objs.size (.tup [.ref b, v])) { s with heap := h'' } :=
      I.turnedNew (t' := s.toks) (ch := [it]) (fun b ob hb e => (sb.2 b (by simpa using hb)).trans (hk b ob (by simpa using hb) e)) hf (Nat.le_refl _) new
    refine ⟨.ref s.heap.objs.size, _, I1, rfl, ⟨s.heap.objs.size, k, b, u, v, hx, hv1, rfl, I.hok.fresh (Nat.le_refl _), rfl⟩, ⟨es[i].key, es[i].val, ?_⟩, fun b hb => ?_⟩
    · rw [← hl]; exact he'
    · have e : b = it := by simpa using hb
      rw [e, upd_ne (Nat.ne_of_lt hlt)]
      exact (hf it (by simp)).1
  done := by
    intro X hP hw hK hc i pins s σ H E I hf st hg
    subst hP hw hK
    obtain ⟨hd, hi⟩ := hg
    obtain ⟨f0, f1, f2, f3, f4, f5⟩ := hf it (by simp)
    obtain ⟨es', ep', hraw, hdt, hl, hen⟩ := f.raw (xO_get I hd)
    rw [hod] at hdt
    cases hdt
    obtain ⟨ok, ov, he⟩ := st
    rw [← hl] at he
    exact wpAny_pyNext_items_end_raw (I.ok.hd hc) he hraw (by rw [hl]; exact hi) fun h' eb => ⟨rfl, I.turned (t' := s.toks) (fun b ob hb e => eb b ob hb e) f0 f1 f3 f4 f5⟩
  self := fun A i s Q E st h => let ⟨_, _, e⟩ := st; PySem.W.kcp_self e h
def iXItems (w : World) (td : TE) : TI := fun σ H R => td σ H fun x H1 => ∃ d o xs vs, x = .ref d ∧ (d == sysModules) = false ∧ H1 d = some (xO d o) ∧ XF w o xs ∧ Vals vs (xs.map (·.2.2)) ∧ R (Itx d o xs vs) H1
theorem pi_itemsX {e : Expr} {td : TE} {apos cpos : Pos} {elts : List Expr} {kk : Nat} {tpos : Pos} (he : PE X e td) (hbase : attributeBase e "items" X.env (eval e X.env) = eval e X.env := by rfl) (hline : (apos.endLine == cpos.line) = true := by rfl) :
    PI X (.Tuple elts kk tpos) (.Call (.Attribute e "items" apos) [] [] cpos) (iXItems X.w td) := by
  refine ⟨fun pins s σ H R I h => ?_⟩
  refine wpAny_Call_method (T := "dict") (id := "dict.items") hbase rfl hline F.plainAttrs_dict F.slot_dict_items F.type_dict_items (thn (he.run pins s σ H _ I h) fun u s1 ⟨x, H1, I1, rx, d, o, xs, vs, ex, hs, hd, f, hv, q⟩ => ?_)
  subst ex
  obtain rfl : u = Value.ref d := rx
  obtain ⟨es, ep, hraw, hdt, hl, hen⟩ := f.raw (xO_get I1 hd)
  have nd : ∀ a : Addr, Value.ref d = Value.ref a → ∃ ob, s1.heap.get? a = some ob ∧ ob.dict = none := fun a hq => by
    cases hq
    exact ⟨o, xO_get I1 hd, f.ex.2.1⟩
  refine ⟨hraw.typeIs, nd, ?_⟩
  have I2 : Inv X pins σ H1 { s1 with heap := s1.heap.push { cls := .type "dict_items", data := .fields #[.ref d] } } := I1.kept (t' := s1.toks) fun b ob q => Heap.get?_push_of_some _ q
  have fin : wpAny (model X.prog X.w) X.A (pyIter (.ref s1.heap.objs.size)) (PIE X pins σ (.Tuple elts kk tpos) R) X.xe { s1 with heap := s1.heap.push { cls := .type "dict_items", data := .fields #[.ref d] } } := by
    refine wpAny_pyIter_items_raw (d := d) (es := es) (ep := ep) ⟨_, Heap.get?_push_size _ rfl, rfl, rfl⟩ (hraw.at fun o e => Heap.get?_push_of_some _ e) (pi_one (tk := s1.toks) I2 _ (turn_itemsX f hv hdt _) ⟨.none, .none, ?_⟩ q)
    rw [← hl]
    exact Heap.get?_push_size _ rfl
  show wpAny _ _ (callWith cpos (.builtin "dict.items") [.ref d] [] []) _ X.xe s1
  exact method_meetsIn F.slot_dict_items F.entry_dict_items rfl (PySem.evalArgs_none ⟨rfl, hraw.typeIs, F.args_dict_items_1 _, _, meets_dict_items_raw d hs, ⟨es, ep, hraw⟩, fin⟩)
end
end XD
set_option Elab.async false
set_option linter.all false
set_option maxRecDepth 100000
set_option maxHeartbeats 4000000
namespace XD
open PySem PySem.Spec PyProof.Rows L2
def o0 : Obj := { cls := .type "dict", data := .dict #[] }
theorem xf_nil {w : World} : XF w o0 [] := ⟨⟨rfl, rfl, rfl⟩, ⟨#[], 0, rfl, rfl⟩, List.nodup_nil, Nat.zero_le _⟩
section
variable {X : Cx}
theorem put_inX {pins : List (Addr × Obj)} {σ : L2.St} {H : Hp} {s : Shared} {E : Value → Shared → Prop} {d b : Addr} {xs : List (NestedKey × Addr × Value)} {k : NestedKey} {v : V} {r : Value} {R : Unit → Shared → Prop} (room : X.A.units + 9 < cLine) (J : Inv X pins σ H s)
    (g : XAt X.w H d xs) (hk : KIs H k b) (fits : xs.length < sizeLine) (rv : RelV v r) (go : ∀ t o', XF X.w o' (storedH xs k b r) → Inv X pins σ (upd H d (xO d o')) t → R () t) :
    wpAny (model X.prog X.w) X.A (dictSet d (.ref b) r) R E s := by
  obtain ⟨ob, ho, f⟩ := g.2.1
  refine wpAny_dictSet_heap (hsz := g.sz) (room_at room) (hk.is J.hok) (XAt.dict J g) fun h' hm' hs => ?_
  obtain ⟨o', e', f'⟩ := XF.of hm' (Nat.le_trans len_stored (Nat.succ_le_of_lt fits))
  exact go _ o' f' (x_write J ho hs e')
def tDcX (w : World) (wi : TI) (g : TG) (tt : TT) (tk tv : TE) (vs : List Nat) : TE := fun σ H Q => wi σ H fun J Ha =>
  ∀ d, Ha d = none → (d == sysModules) = false → ∀ o, XF w o [] → ∃ W : Nat → Nat → Hp → Prop, (∃ m, W 0 m (upd Ha d (xO d o))) ∧ ∀ i m Hb, W i m Hb →
    (J.stop i Hb ∧ Q (.ref d) Hb) ∨ (J.go i Hb ∧ ∃ N : Hp → Prop, (∀ Hc, N Hc → ∃ m', m' < m ∧ W (i + 1) m' Hc) ∧
      ∀ x Hc, J.yld i Hb x Hc → g x (wipe σ vs) Hc fun τ Hd => wipe τ vs = wipe σ vs ∧ tt τ Hd fun yes He =>
        if yes = true then tk τ He fun y Hf => tv τ Hf fun z Hg => ∃ (xs : List (NestedKey × Addr × Value)) (k : NestedKey) (b : Addr), y = .ref b ∧ XAt w Hg d xs ∧ KIs Hg k b ∧ xs.length < sizeLine ∧ ∀ u, RelV z u → ∀ o', XF w o' (storedH xs k b u) → N (upd Hg d (xO d o'))
        else N He)
theorem core {pins : List (Addr × Obj)} {s : Shared} {σ : L2.St} {H : Hp} {Q : VK} {kx vx tg iter : Expr} {ifs : List Expr} {scope : Scope} {own : List (Str × Nat)} {pos pos' : Pos} {wi : TI} {g : TG} {tt : TT} {tk tv : TE} {use : Option (Value → Sem Unit)} {Qf : Value → Shared → Prop}
    (room : X.A.units + 9 < cLine) (calm : X.calm = true) (nd : X.N.Nodup) (J : Inv X pins σ H s) (walk : PI X tg iter wi) (ok : BlkOk X.N X.env.scope scope own)
    (ptg : ∀ s H C cl fp, PG (DCT.BC X s H scope C cl fp) tg g) (pif : ∀ s H C cl fp, PTs (DCT.BC X s H scope C cl fp) ifs tt) (pk : ∀ s H C cl fp, PE (DCT.BC X s H scope C cl fp) kx tk) (pv' : ∀ s H C cl fp, PE (DCT.BC X s H scope C cl fp) vx tv)
    (fold : ∀ x, foldedSetIterable iter X.env x = pure x) (h : tDcX X.w wi g tt tk tv (own.map (·.2)) σ H Q)
    (back : ∀ d C t m Ht, Inv X pins σ Ht t → Q (.ref d) Ht → t.heap.Ns C m → FpOk X pins Ht C → compPost (model X.prog X.w) X.A X.xe use Qf (.ref d) C (.ok .next) t) :
    wpAny (model X.prog X.w) X.A (comprehension (.DictComp kx vx [⟨tg, iter, ifs, 0⟩] scope pos) scope X.env pos' newDict false (eval iter X.env) use) Qf X.xe s := by
  have free : ∀ y ∈ scope.names, y.2 = .free → ∃ c, X.env.cells.lookup y.1 = some c := fun y hy e => (ok.free y hy e).elim (fun k => J.ok.has _ (.inl k)) fun k => J.ok.has _ (.inr k)
  refine wpAny_comprehension_free (use := use) rfl fold (closure_ok free) ok.kind (fun y hy e => by rw [ok.uniq y hy, e]) (thn (walk.run pins s σ H _ J h) fun _ s1 w1 => thn w1 fun _ s2 w2 => ?_)
  obtain ⟨it, fp, tn, Jt, Ha, rfl, J2, T, at2, fresh2, q⟩ := w2
  refine wpAny_newObj_type (newEnv_comp ?_)
  generalize ed : s2.heap.objs.size = d
  have nd_d : Ha d = none := J2.hok.fresh (Nat.le_of_eq ed)
  obtain ⟨_, nsys, _⟩ := dt_empty (P := X.prog) (w := X.w) (H := Ha) s2.heap J2.big
  rw [ed] at nsys
  obtain ⟨W, ⟨m0, start⟩, turn⟩ := q d nd_d nsys o0 xf_nil
  generalize e3 : ({ s2 with heap := s2.heap.push { cls := .type "dict", data := .dict #[] } } : Shared) = s3
  have J3 : Inv X pins σ (upd Ha d (xO d o0)) s3 := by
    rw [← e3, ← ed]
    exact J2.laid (t' := s2.toks) (fun b o e => Heap.get?_push_of_some _ e) (Nat.le_refl _) (xO_ok (Heap.get?_push_size _ rfl))
  have hp3 : s3.heap = s2.heap.push { cls := .type "dict", data := .dict #[] } := by rw [← e3]
  have below : ∀ b ∈ fp, b < s2.heap.objs.size := fun b hb => (T.obj _ _ at2 b hb).elim fun o z => Heap.lt_size z.1
  have fresh3 : ∀ b ∈ fp, FpOk X pins (upd Ha d (xO d o0)) b ∧ b < s3.heap.objs.size := fun b hb => by
    have lt := below b hb
    have nb : (upd Ha d (xO d o0)) b = none := by
      rw [upd_ne (by rw [← ed]; exact Nat.ne_of_lt lt)]
      exact (fresh2 b hb).1
    exact ⟨⟨nb, (fresh2 b hb).2⟩, by rw [hp3, Heap.size_push]; exact Nat.lt_succ_of_lt lt⟩
  have at3 : tn 0 s3.heap := T.keep _ _ _ at2 fun b _ o e => by
    rw [hp3]
    exact Heap.get?_push_of_some _ e
  have J4 := block_start J3 ok nd fresh3
  generalize eH3 : upd Ha d (xO d o0) = H3 at J3 J4 start fresh3
  show codeAny _ _ (.compStart (.DictComp kx vx [⟨tg, iter, ifs, 0⟩] scope pos) 0 (.ref it) (.ref d) (compEnvC scope (cellsFrom (s3.heap.objs.size + 1) scope.names (cloFrom X.env.cells scope.names [])) s3.heap.objs.size X.env)) (compPost (model X.prog X.w) X.A X.xe use Qf (.ref d) s3.heap.objs.size) { s3 with heap := pushCells (s3.heap.push { cls := .type "dict", data := .dict #[] }) scope.names }
  generalize ecl : cellsFrom (s3.heap.objs.size + 1) scope.names (cloFrom X.env.cells scope.names []) = cl at J4 ⊢
  have g1 : PG (X.blk s3 H3 scope (compEnvC scope cl s3.heap.objs.size X.env) fp) tg g := ptg s3 H3 s3.heap.objs.size cl fp
  have g2 : PTs (X.blk s3 H3 scope (compEnvC scope cl s3.heap.objs.size X.env) fp) ifs tt := pif s3 H3 s3.heap.objs.size cl fp
  have g3 : PE (X.blk s3 H3 scope (compEnvC scope cl s3.heap.objs.size X.env) fp) kx tk := pk s3 H3 s3.heap.objs.size cl fp
  have g4 : PE (X.blk s3 H3 scope (compEnvC scope cl s3.heap.objs.size X.env) fp) vx tv := pv' s3 H3 s3.heap.objs.size cl fp
  have gone : ∀ b ∈ fp, H3 b = none := fun b hb => (fresh3 b hb).1.1
  generalize ece : compEnvC scope cl s3.heap.objs.size X.env = ce at J4 g1 g2 g3 g4 ⊢
  have eL : ce.locals = s3.heap.objs.size := by
    rw [← ece]
    rfl
  generalize e4 : ({ s3 with heap := pushCells (s3.heap.push { cls := .type "dict", data := .dict #[] }) scope.names } : Shared) = s4 at J4 ⊢
  have at4 : tn 0 s4.heap := T.keep _ _ _ at3 fun b _ o e => by
    rw [← e4]
    exact pushCells_keeps _ _ _ _ (Heap.get?_push_of_some _ e)
  let B : Cx := X.blk s3 H3 scope ce fp
  have steady : ∀ {τ : L2.St} {Ht : Hp} {t : Shared}, Inv B [] τ Ht t → (∀ b ∈ fp, Ht b = none) → ∀ b ∈ fp, FpOk B [] Ht b := fun {τ Ht t} JB none_ b hb =>
    ⟨none_ b hb, (JB.ok.exf b hb).1, JB.ok.exfs b hb, .inl hb, (fun x c e => (JB.ok.exf b hb).2 x c e), fun p hp => by
      have hp' : p ∈ ([] : List (Addr × Obj)) ++ [] := hp
      simp at hp'⟩
  have loop : codeAny (model X.prog X.w) X.A (.compLoop (.DictComp kx vx [⟨tg, iter, ifs, 0⟩] scope pos) 0 (.ref it) (.ref d) ce) (compPost (model X.prog X.w) X.A X.xe use Qf (.ref d) s3.heap.objs.size) s4 := by
    refine compLoop_anyD (fun n t => ∃ i Ht, Inv B [] (wipe σ (own.map (·.2))) Ht t ∧ tn i t.heap ∧ (∀ b ∈ fp, Ht b = none) ∧ W i n Ht) ?_ m0 ⟨0, H3, J4, at4, gone, start⟩
    rintro n s5 ⟨i, H5, J5, at5, none5, w5⟩
    rcases turn i n H5 w5 with ⟨stops, done⟩ | ⟨goes, N, less, step⟩
    · refine thnF (T.done B rfl rfl rfl calm i [] s5 _ H5 (fun _ _ => False) J5 (steady J5 none5) at5 stops) fun r s6 hr6 => ?_
      obtain ⟨hr, J6⟩ := hr6
      subst hr
      have J7 : Inv X pins σ H5 s6 := J3.call' (ch := fp) J6.os J6.base J6.hok J6.bare fun b hb =>
        let f := (fresh3 b hb).1.2
        ⟨f.2.2.1, f.1, f.2.2.2.1, f.2.2.2.2⟩
      have noC : H5 s3.heap.objs.size = none := by
        have z : H5 ce.locals = none := J6.free
        rwa [eL] at z
      obtain ⟨m, ns, _⟩ := J6.loc
      have ns2 : s6.heap.Ns ce.locals m := ns
      rw [eL] at ns2
      exact back d s3.heap.objs.size s6 m H5 J7 done ns2 (J3.fpOk (Nat.le_refl _) noC)
    · refine thnF (T.item B rfl rfl rfl calm i [] s5 _ H5 (fun _ _ => False) J5 (steady J5 none5) at5 goes) fun r s6 hr6 => ?_
      obtain ⟨u, hr, w6⟩ := hr6
      subst hr
      refine thnF w6 fun _ s7 w7 => ?_
      obtain ⟨x, H7, J7, rx, yx, at7, none7⟩ := w7
      have J7p := J7.pinned (steady J7 none7) (T.obj _ _ at7)
      refine thnF (g1.run _ s7 _ H7 x u _ J7p rx (step x H7 yx)) fun _ s8 w8 => ?_
      obtain ⟨τ, H8, J8, same, q8⟩ := w8
      refine thnF (g2.run _ s8 τ H8 _ J8 q8) fun yes s9 w9 => ?_
      obtain ⟨H9, J9, q9⟩ := w9
      have over : ∀ {t : Shared} {Ht : Hp}, Inv B ([] ++ pinsAt fp s7.heap) τ Ht t → N Ht → ∃ m, m < n ∧ ∃ i Ht, Inv B [] (wipe σ (own.map (·.2))) Ht t ∧ tn i t.heap ∧ (∀ b ∈ fp, Ht b = none) ∧ W i m Ht := fun {t Ht} Jt2 nx => by
        obtain ⟨m', lt, w'⟩ := less Ht nx
        have still : ∀ b ∈ fp, ∀ o, s7.heap.get? b = some o → t.heap.get? b = some o ∧ Ht b = none := fun b hb o e => by
          have z := Jt2.pin (b, o) (List.mem_append_right _ (List.mem_append_right _ (mem_pinsAt hb e)))
          exact ⟨z.1, z.2.1⟩
        have len : (wipe σ (own.map (·.2))).length = τ.length := by rw [← same, wipe_length]
        refine ⟨m', lt, i + 1, Ht, (Jt2.unpinned (pins := [])).weak len (fun j v e => (wipe_some (vs := own.map (·.2)) (by rw [same]; exact e)).1), T.keep _ _ _ at7 fun b hb o e => (still b hb o e).1, (fun b hb => ?_), w'⟩
        obtain ⟨o, e, _⟩ := T.obj _ _ at7 b hb
        exact (still b hb o e).2
      cases yes with
      | false =>
        rw [if_neg (by decide)] at q9
        rw [if_neg (by decide)]
        exact over J9 q9
      | true =>
        rw [if_pos rfl] at q9
        rw [if_pos rfl]
        refine thnF (g3.run _ s9 τ H9 _ J9 q9) fun _ s10 w10 => ?_
        obtain ⟨y, H10, J10, ry, q10⟩ := w10
        refine thnF (g4.run _ s10 τ H10 _ J10 q10) fun zz s11 w11 => ?_
        obtain ⟨z, H11, J11, rz, xs, k, b, rfl, at_d, at_b, fits, nx⟩ := w11
        cases ry
        exact put_inX (X := B) room J11 at_d at_b fits rz fun t o' f' Jt2 => over Jt2 (nx zz rz o' f')
  exact codeAny_compStart_dict loop (T.self X.A 0 _ _ _ at4 loop)
theorem pe_dcX {kx vx tg iter : Expr} {ifs : List Expr} {scope : Scope} {own : List (Str × Nat)} {pos : Pos} {wi : TI} {g : TG} {tt : TT} {tk tv : TE} (room : X.A.units + 9 < cLine) (calm : X.calm = true) (nd : X.N.Nodup) (walk : PI X tg iter wi) (ok : BlkOk X.N X.env.scope scope own)
    (ptg : ∀ s H C cl fp, PG (DCT.BC X s H scope C cl fp) tg g) (pif : ∀ s H C cl fp, PTs (DCT.BC X s H scope C cl fp) ifs tt) (pk : ∀ s H C cl fp, PE (DCT.BC X s H scope C cl fp) kx tk) (pv' : ∀ s H C cl fp, PE (DCT.BC X s H scope C cl fp) vx tv)
    (fold : ∀ x, foldedSetIterable iter X.env x = pure x := by intro _; rfl) : PE X (.DictComp kx vx [⟨tg, iter, ifs, 0⟩] scope pos) (tDcX X.w wi g tt tk tv (own.map (·.2))) := by
  refine ⟨fun pins s σ H Q J h => ?_⟩
  rw [arm_eval_DictComp]
  refine core room calm nd J walk ok ptg pif pk pv' fold h fun d C t m Ht Jt q ns fp => ⟨m, ns, fun g' sb => ?_⟩
  obtain ⟨f0, f1, f2, f3, f4, f5⟩ := fp
  exact ⟨.ref d, Ht, Jt.turned (t' := t.toks) (fun b o hb e => (sb.2 b hb).trans e) f0 f1 f3 f4 f5, rfl, q⟩
def tBMX (r : V → List V → Hp → VK → Prop) (to : TE) (t : TA) : TE := fun σ H Q => to σ H fun x H1 => ∃ d o, x = .ref d ∧ H1 d = some (xO d o) ∧ o.ExactDict ∧ t σ H1 fun xs H2 => r x xs H2 Q
theorem pe_bmX {o e : Expr} {es : List Expr} {to : TE} {t : TA} {name : Str} {apos cpos : Pos} {id : String} {r : V → List V → Hp → VK → Prop} (pa : PlainAttrs "dict") (slot : Slot "dict" name id) (hty : typeOf (.builtin id) = pure (.type "method_descriptor")) (hm : MtR X id r) (ho : PE X o to) (ha : PA X (e :: es) t)
    (hbase : attributeBase o name X.env (eval o X.env) = eval o X.env := by rfl)
    (hfew : ((backTo cpos (starEach (e :: es) X.env)).all (fun x => !x.1) && (backToKw cpos (keywordEach [] X.env)).all (fun x => x.1.isSome)
      && decide ((e :: es).length + ([] : List Keyword).length + (if ([] : List Keyword).isEmpty then 0 else 1) < 30)) = true := by rfl)
    (hline : (apos.endLine == cpos.line) = true := by rfl) (hs : starEach (e :: es) X.env = (false, eval e X.env) :: starEach es X.env := by rfl) (hplain : (backTo cpos (starEach es X.env)).any (·.1) = false := by rfl) :
    PE X (.Call (.Attribute o name apos) (e :: es) [] cpos) (tBMX r to t) := by
  refine ⟨fun pins s σ H Q I h => ?_⟩
  refine wpAny_Call_method_late hbase hfew hline rfl (thn (ho.run pins s σ H _ I h) fun v s1 ⟨x, H1, I1, r1, d, ob, ex, hd, hx, q1⟩ => ?_)
  subst ex
  cases (show v = Value.ref d from r1)
  have g := xO_get I1 hd
  refine ⟨"dict", id, pa, slot, hty, ⟨ob, g, hx.1⟩, fun a e => ?_, ?_⟩
  · cases e
    exact ⟨ob, g, hx.2.1⟩
  have hA := ha.run cpos pins s1 σ H1 _ I1 q1
  rw [hs] at hA ⊢
  refine Calls.callWith_builtin (by show (false || (backTo cpos (starEach es X.env)).any (·.1)) = false; rw [hplain] <;> rfl) (Calls.evalArgs_plain ?_)
  exact thn hA fun us s2 ⟨vs, H2, I2, r2, q2⟩ => hm pins s2 σ H2 _ vs _ us Q I2 r1 r2 q2
end
end XD
set_option Elab.async false
set_option linter.all false
set_option maxRecDepth 100000
set_option maxHeartbeats 2000000
namespace Q
open PySem L2 Evl XD
open DL hiding Ea EaL Er MonoP Src Tgt YD d_for er_two walkR
structure KR {κ : Type} (r : Rep κ) where
  nk : κ → NestedKey
  inj : ∀ a b, nk a = nk b → a = b
  is : ∀ {H : Hp} {v : V} {k : κ}, r.rel H v k → AIs H (nk k) v
  d : Nat
  dep : ∀ k, (nk k).depth ≤ d
def kI : KR rInt where
  nk := .num
  inj := fun a b h => NestedKey.num.inj h
  is := fun h => by
    cases (show _ = V.int _ from h)
    exact .int _
  d := 0
  dep := fun _ => Nat.le_refl _
def kP {κ ι : Type} {r : Rep κ} {s : Rep ι} (E : KR r) (E' : KR s) : KR (rPair r s) where
  nk := fun c => .tup [E.nk c.1, E'.nk c.2]
  inj := fun a b h => by
    have h := NestedKey.tup.inj h
    rw [List.cons.injEq, List.cons.injEq] at h
    exact Prod.ext (E.inj _ _ h.1) (E'.inj _ _ h.2.1)
  is := fun ⟨p, x, y, h1, h2, h3, h4⟩ => by
    subst h1
    exact .tup h2 (.cons (E.is h3) (.cons (E'.is h4) .nil))
  d := max E.d E'.d + 1
  dep := fun c => by
    have h1 := E.dep c.1
    have h2 := E'.dep c.2
    show max _ (max _ 0) + 1 ≤ _
    omega
def RefK {κ : Type} (r : Rep κ) : Prop := ∀ (H : Hp) (v : V) (k : κ), r.rel H v k → ∃ a, v = .ref a
theorem ref_P {κ ι : Type} {r : Rep κ} {s : Rep ι} : RefK (rPair r s) := fun _ _ _ ⟨p, _, _, h, _⟩ => ⟨p, h⟩
abbrev Ent := NestedKey × Addr × Value
inductive AlX {κ β : Type} (R : Ent → κ × β → Prop) : List Ent → List (κ × β) → Prop
  | nil : AlX R [] []
  | cons {x : Ent} {c : κ × β} {xs : List Ent} {cs : List (κ × β)} : R x c → AlX R xs cs → AlX R (x :: xs) (c :: cs)
section
variable {κ β : Type} {R R' : Ent → κ × β → Prop} {xs : List Ent} {cs : List (κ × β)}
theorem AlX.imp (f : ∀ x c, R x c → R' x c) : ∀ {xs : List Ent} {cs : List (κ × β)}, AlX R xs cs → AlX R' xs cs
  | _, _, .nil => .nil
  | _, _, .cons h t => .cons (f _ _ h) (AlX.imp f t)
theorem AlX.len : ∀ {xs : List Ent} {cs : List (κ × β)}, AlX R xs cs → xs.length = cs.length
  | _, _, .nil => rfl
  | _, _, .cons _ t => by rw [List.length_cons, List.length_cons, AlX.len t]
theorem AlX.app {ys : List Ent} {ds : List (κ × β)} : ∀ {xs : List Ent} {cs : List (κ × β)}, AlX R xs cs → AlX R ys ds → AlX R (xs ++ ys) (cs ++ ds)
  | _, _, .nil, h => h
  | _, _, .cons h t, k => .cons h (AlX.app t k)
theorem AlX.mem : ∀ {xs : List Ent} {cs : List (κ × β)} {x : Ent}, AlX R xs cs → x ∈ xs → ∃ c, c ∈ cs ∧ R x c
  | _, _, _, .nil, h => nomatch h
  | _, _, x, .cons h t, hx => by
    rcases List.mem_cons.mp hx with rfl | hx
    · exact ⟨_, List.mem_cons_self, h⟩
    · obtain ⟨c, h1, h2⟩ := AlX.mem t hx
      exact ⟨c, List.mem_cons_of_mem _ h1, h2⟩
theorem AlX.get : ∀ {xs : List Ent} {cs : List (κ × β)} {i : Nat} {x : Ent}, AlX R xs cs → xs[i]? = some x → ∃ c, cs[i]? = some c ∧ R x c
  | _, _, 0, x, .cons h _, e => by
    cases e
    exact ⟨_, rfl, h⟩
  | _, _, i + 1, x, .cons _ t, e => AlX.get (i := i) t e
  | _, _, 0, _, .nil, e => by cases e
  | _, _, i + 1, _, .nil, e => by cases e
end
def getX {κ β : Type} [DecidableEq κ] (cs : List (κ × β)) (k : κ) : Option β := (cs.find? fun c => decide (c.1 = k)).map (·.2)
def putX {κ β : Type} [DecidableEq κ] (cs : List (κ × β)) (k : κ) (b : β) : List (κ × β) := if (getX cs k).isSome = true then cs.map (fun c => if c.1 = k then (c.1, b) else c) else cs ++ [(k, b)]
theorem putX_len {κ β : Type} [DecidableEq κ] (cs : List (κ × β)) (k : κ) (b : β) : (putX cs k b).length ≤ cs.length + 1 := by
  unfold putX
  split
  · rw [List.length_map]
    omega
  · rw [List.length_append]
    exact Nat.le_refl _
section
variable {κ β : Type} {r : Rep κ} {s : Rep β}
def EX (E : KR r) (s : Rep β) (H : Hp) (x : Ent) (c : κ × β) : Prop := r.rel H (.ref x.2.1) c.1 ∧ x.1 = E.nk c.1 ∧ ∃ z, RelV z x.2.2 ∧ s.rel H z c.2
theorem EX.mono {E : KR r} {H H' : Hp} (e : Ex H H') {x : Ent} {c : κ × β} (h : EX E s H x c) : EX E s H' x c := by
  obtain ⟨h1, h2, z, h3, h4⟩ := h
  exact ⟨r.mono e h1, h2, z, h3, s.mono e h4⟩
def rXD (w : World) (E : KR r) (s : Rep β) : Rep (List (κ × β)) := ⟨fun H v cs => ∃ d o xs, v = .ref d ∧ (d == sysModules) = false ∧ H d = some (xO d o) ∧ XF w o xs ∧ AlX (EX E s H) xs cs,
  fun e ⟨d, o, xs, h1, h2, h3, h4, h5⟩ => ⟨d, o, xs, h1, h2, e d _ h3, h4, h5.imp fun _ _ k => k.mono e⟩⟩
def rXB (w : World) (E : KR r) (s : Rep β) : AR (List (κ × β)) := ⟨fun φ v cs => ∃ d o xs, v = .ref d ∧ (d == sysModules) = false ∧ (φ.B d = some (xO d o) ∨ φ.F d = some (xO d o)) ∧ XF w o xs ∧ AlX (EX E s φ.F) xs cs,
  fun l ⟨d, o, xs, h1, h2, h3, h4, h5⟩ => ⟨d, o, xs, h1, h2, h3.imp (l.2 _ _) (l.1 _ _), h4, h5.imp fun _ _ k => k.mono l.1⟩⟩
def oXD (w : World) (E : KR r) (s : Rep β) : OR (List (κ × β)) where
  rel := fun G H fp v cs => ∃ d o xs, v = .ref d ∧ fp = [d] ∧ (d == sysModules) = false ∧ H d = some (xO d o) ∧ XF w o xs ∧ AlX (EX E s G) xs cs
  mono := fun e h ⟨d, o, xs, h1, h2, h3, h4, h5, h6⟩ => ⟨d, o, xs, h1, h2, h3, h d (by rw [h2]; exact List.mem_singleton.mpr rfl) _ h4, h5, h6.imp fun _ _ k => k.mono e⟩
  ins := fun ⟨d, o, xs, h1, h2, h3, h4, h5, h6⟩ q hq => by
    rw [h2] at hq
    rw [List.mem_singleton.mp hq]
    exact ⟨_, h4⟩
  nd := fun ⟨d, o, xs, h1, h2, h3, h4, h5, h6⟩ => by
    rw [h2]
    exact List.nodup_cons.mpr ⟨by simp, .nil⟩
  view := rXB w E s
  look := fun ⟨d, o, xs, h1, h2, h3, h4, h5, h6⟩ => ⟨d, o, xs, h1, h3, .inl h4, h5, h6⟩
  frz := rXD w E s
  frzs := fun ⟨d, o, xs, h1, h2, h3, h4, h5, h6⟩ e k => ⟨d, o, xs, h1, h3, k d (by rw [h2]; exact List.mem_singleton.mpr rfl) _ h4, h5, h6.imp fun _ _ z => z.mono e⟩
variable {w : World} {E : KR r} {xs : List Ent} {cs : List (κ × β)} {H F : Hp}
theorem key_is {v : V} {k : κ} (E : KR r) (he : E.d ≤ 8) (hr : RefK r) (e : Ex F H) (h : r.rel F v k) : ∃ b, v = .ref b ∧ KIs H (E.nk k) b := by
  obtain ⟨b, rfl⟩ := hr _ _ _ h
  exact ⟨b, rfl, Nat.le_trans (E.dep k) he, E.is (r.mono e h)⟩
theorem keys_is (he : E.d ≤ 8) (e : Ex F H) (h : AlX (EX E s F) xs cs) : ∀ x ∈ xs, KIs H x.1 x.2.1 := fun x hx => by
  obtain ⟨c, _, h1, h2, _⟩ := h.mem hx
  rw [h2]
  exact ⟨Nat.le_trans (E.dep _) he, E.is (r.mono e h1)⟩
variable [DecidableEq κ]
theorem at_key (hx : AlX (EX E s F) xs cs) (k : κ) : (atKey xs (E.nk k) = none ∧ getX cs k = none) ∨ ∃ p b z, atKey xs (E.nk k) = some p ∧ getX cs k = some b ∧ RelV z p.2 ∧ s.rel F z b := by
  induction hx with
  | nil => exact .inl ⟨rfl, rfl⟩
  | @cons x c xs cs h t ih =>
    obtain ⟨h1, h2, z, h3, h4⟩ := h
    unfold atKey getX
    rw [List.find?_cons, List.find?_cons]
    by_cases hk : c.1 = k
    · rw [decide_eq_true hk, decide_eq_true (by rw [h2, hk])]
      exact .inr ⟨x.2, c.2, z, rfl, rfl, h3, h4⟩
    · rw [decide_eq_false hk, decide_eq_false fun q => hk (E.inj _ _ (h2.symm.trans q))]
      exact ih
theorem at_some (hx : AlX (EX E s F) xs cs) (k : κ) : (atKey xs (E.nk k)).isSome = (getX cs k).isSome := by
  rcases at_key hx k with ⟨h1, h2⟩ | ⟨p, b, z, h1, h2, _⟩
  · rw [h1, h2]
    rfl
  · rw [h1, h2]
    rfl
theorem put_al {k : κ} {b : β} {a : Addr} {u : Value} {z : V} (hx : AlX (EX E s F) xs cs) (hk : r.rel F (.ref a) k) (hz : RelV z u) (hb : s.rel F z b) : AlX (EX E s F) (storedH xs (E.nk k) a u) (putX cs k b) := by
  unfold storedH putX
  rw [at_some hx k]
  split
  · rename_i hs
    clear hs hk
    induction hx with
    | nil => exact .nil
    | @cons x c xs cs h t ih =>
      refine .cons ?_ ih
      obtain ⟨h1, h2, h3⟩ := h
      show EX E s F (if x.1 = E.nk k then (x.1, x.2.1, u) else x) (if c.1 = k then (c.1, b) else c)
      by_cases e : c.1 = k
      · rw [if_pos e, if_pos (by rw [h2, e])]
        exact ⟨h1, h2, z, hz, hb⟩
      · rw [if_neg e, if_neg fun q => e (E.inj _ _ (h2.symm.trans q))]
        exact ⟨h1, h2, h3⟩
  · exact hx.app (.cons ⟨hk, rfl, z, hz, hb⟩ .nil)
end
section
variable {α β κ : Type} [DecidableEq κ] {K : PySem.W.Frag} {σ σ2 : L2.St} {φ ψ : Fm} {F Gb F0 H0 G H H1 H2 H3 : Hp} {ta tb tk tv te tx : TE} {t u : TT} {v : V} {r : AR α} {rk : Rep κ} {s : Rep β} {a : α} {b : β} {k : κ} {as : List α} {sl : List Slot} {w : World} {E : KR rk} {cs : List (κ × β)} {i : Nat} {D : Ends} {tz : TS}
omit [DecidableEq κ] in
theorem er_xb (h : Er (pr (rXD w E s)) te σ φ cs) : Er (rXB w E s) te σ φ cs := h.to fun ψ v ⟨d, o, xs, h1, h2, h3, h4, h5⟩ => ⟨d, o, xs, h1, h2, .inr h3, h4, h5⟩
omit [DecidableEq κ] in
theorem xat {ψ : Fm} {x : V} (he : E.d ≤ 8) (e : ψ.In H) (h : (rXB w E s).rel ψ x cs) : ∃ d o xs, x = .ref d ∧ (d == sysModules) = false ∧ H d = some (xO d o) ∧ XF w o xs ∧ AlX (EX E s ψ.F) xs cs ∧ XAt w H d xs := by
  obtain ⟨d, o, xs, h1, h2, h3, h4, h5⟩ := h
  have hd : H d = some (xO d o) := h3.elim (e.2 _ _) (e.1 _ _)
  exact ⟨d, o, xs, h1, h2, hd, h4, h5, h2, ⟨o, hd, h4⟩, keys_is he e.1 h5⟩
omit [DecidableEq κ] in
theorem er_xlen (he : E.d ≤ 8) (hd : Er (rXB w E s) ta σ φ cs) : Er (pr rInt) (tCB (rLenX w) (tCons ta tNil)) σ φ (cs.length : Int) := fun H1 e Q q => hd H1 e _ fun x H2 e2 kx => by
  have inF := Fm.go_in e e2
  obtain ⟨d, o, xs, rfl, hs, hd, f, hx, g⟩ := xat he inF kx
  refine ⟨d, xs, rfl, g, q _ H2 e2 ?_⟩
  rw [hx.len]
  rfl
theorem er_xgetN (he : E.d ≤ 8) (hr : RefK rk) (hd : Er (rXB w E s) ta σ φ cs) (hk : Er (pr rk) tk σ φ k) : Er (pr (rOpt s)) (tBMX (rGetX w) ta (tCons tk tNil)) σ φ (getX cs k) := fun H1 e Q q =>
  hd H1 e _ fun x H2 e2 kx => by
    obtain ⟨d, o, xs, rfl, hs, hd2, f, hx, g⟩ := xat he (Fm.go_in e e2) kx
    refine ⟨d, o, rfl, hd2, f.ex, hk H2 (e.trans e2) _ fun y H3 e3 ky => ?_⟩
    have in3 := Fm.go_in e (e2.trans e3)
    obtain ⟨d', o', xs', h0, hs', hd', f', hx', g'⟩ := xat he in3 ((rXB w E s).mono (Fm.up e3) kx)
    cases h0
    obtain ⟨bb, rfl, hb⟩ := key_is E he hr in3.1 (rk.mono (Fm.back e2).1 ky)
    rcases at_key hx' k with ⟨h1, h2⟩ | ⟨p, b, z, h1, h2, h3, h4⟩
    · refine ⟨d, bb, _, xs', .non, rfl, rfl, g', hb, ?_, q .non H3 (e2.trans e3) ?_⟩
      · rw [h1]
        rfl
      · rw [h2]
        exact (rfl : V.non = V.non)
    · refine ⟨d, bb, _, xs', z, rfl, rfl, g', hb, ?_, q z H3 (e2.trans e3) ?_⟩
      · rw [h1]
        exact h3
      · rw [h2]
        exact h4
omit [DecidableEq κ] in
theorem src_xitems (hd : Er (rXB w E s) ta σ φ cs) : Src (iXItems w ta) σ φ (pr (rPair rk s)) cs := fun H1 e R kk => hd H1 e _ fun x H2 e2 kx => by
  have in2 := Fm.go_in e e2
  obtain ⟨d, o, xs, rfl, hs, h3, f, hx⟩ := kx
  have hv : ∀ {xs : List Ent} {cs : List (κ × β)}, AlX (EX E s (φ.go H1 H2).F) xs cs → ∃ vs, Vals vs (xs.map (·.2.2)) ∧ ∀ (i : Nat) (x : Ent) (v : V) (c : κ × β), xs[i]? = some x → vs[i]? = some v → cs[i]? = some c → rk.rel (φ.go H1 H2).F (.ref x.2.1) c.1 ∧ s.rel (φ.go H1 H2).F v c.2 := by
    intro xs cs hx
    induction hx with
    | nil => exact ⟨[], .nil, fun i x v c h => by cases h⟩
    | @cons x c xs cs h t ih =>
      obtain ⟨vs, h1, h2⟩ := ih
      obtain ⟨k1, k2, z, k3, k4⟩ := h
      refine ⟨z :: vs, .cons k3 h1, fun i y v c' g1 g2 g3 => ?_⟩
      cases i with
      | zero =>
        cases g1
        cases g2
        cases g3
        exact ⟨k1, k4⟩
      | succ i => exact h2 i y v c' g1 g2 g3
  obtain ⟨vs, h1, h2⟩ := hv hx
  have at_ : ∀ H, (φ.go H1 H2).In H → H d = some (xO d o) := fun H e => h3.elim (e.2 _ _) (e.1 _ _)
  refine ⟨d, o, xs, vs, rfl, hs, at_ _ in2, f, h1, kk _ H2 e2 ?_⟩
  have hl : cs.length = xs.length := hx.len.symm
  refine ⟨fun i H hi eG => ⟨at_ _ eG, by omega⟩, fun H eG => ⟨at_ _ eG, by omega⟩, fun i H x H' hi eG ⟨T, k, b, u, v, y1, y2, y3, y4, y5⟩ => ?_⟩
  subst y3 y5
  obtain ⟨c, hc, _⟩ := hx.get y1
  obtain ⟨h4, h5⟩ := h2 i _ _ _ y1 y2 hc
  have hF : (φ.go H1 H2).F T = none := back_none eG.1 y4
  refine ⟨Ex.new y4, c, hc, T, .ref b, v, rfl, ?_, rk.mono part_ex h4, s.mono part_ex h5⟩
  show part _ H _ T = _
  rw [part_new hF y4]
  exact upd_same
def dcX (f : α → Option Bool) (kf : α → Option κ) (m : α → Option β) : List α → List (κ × β) → Option (List (κ × β))
  | [], acc => some acc
  | a :: as, acc => match f a with
    | none => none
    | some false => dcX f kf m as acc
    | some true => match kf a, m a with
      | some k, some b => dcX f kf m as (putX acc k b)
      | _, _ => none
theorem dcX_cons {f : α → Option Bool} {kf : α → Option κ} {m : α → Option β} {l : List α} {acc cs : List (κ × β)} (h : dcX f kf m (a :: l) acc = some cs) :
    (f a = some false ∧ dcX f kf m l acc = some cs) ∨ ∃ k b, f a = some true ∧ kf a = some k ∧ m a = some b ∧ dcX f kf m l (putX acc k b) = some cs := by
  simp only [dcX] at h
  cases hf : f a with
  | none => rw [hf] at h; cases h
  | some q =>
    rw [hf] at h
    cases q with
    | false => exact .inl ⟨rfl, h⟩
    | true =>
      cases hk : kf a with
      | none => simp only [hk] at h; cases h
      | some k =>
        cases hm : m a with
        | none => simp only [hk, hm] at h; cases h
        | some b =>
          simp only [hk, hm] at h
          exact .inr ⟨k, b, rfl, rfl, rfl, h⟩
theorem mns_cut {H : Hp} {D : Addr} : Ex (mns H D) (cut H [D]) := fun q o h => by
  by_cases e : q = D
  · rw [e, mns_at] at h
    cases h
  · rw [cut_out (by simpa using e)]
    rw [mns_ne e] at h
    exact h
theorem eo_xdc {wi : L2.TI} {g : TG} {tt : TT} {vs js : List Nat} {T : α → List Slot → List Slot} {f : α → Option Bool} {kf : α → Option κ} {m : α → Option β} {cs : List (κ × β)} (he : E.d ≤ 8) (hrf : RefK rk) (rd : Rd φ sl σ) (h : Src wi σ φ r as) (hg : Tgt g r js T) (hj : ∀ j ∈ js, j ∈ vs) (hn : as.length < 100000) (hc : dcX f kf m as [] = some cs)
    (hw : ∀ a ∈ as, ∀ ψ σ2, φ.le ψ → Rd ψ (T a (wipeS sl vs)) σ2 → (∀ b, f a = some b → Et tt σ2 ψ b) ∧ (∀ k, kf a = some k → Er (pr rk) tk σ2 ψ k) ∧ (∀ y, m a = some y → Er (pr s) tv σ2 ψ y)) :
    Eo (oXD w E s) (tDcX w wi g tt tk tv vs) σ φ cs := fun H1 e Q q => h H1 e _ fun J H2 e2 w0 D hD hS o0 f0 => by
  have mem : ∀ i a, as[i]? = some a → a ∈ as := fun i a h => List.mem_of_getElem? h
  have dF : φ.F D = none := back_none (e.1.trans e2) hD
  have d2 : part φ.F H1 H2 D = none := by
    rw [part_new dF (back_none e2 hD)]
    exact hD
  let P := fun (i : Nat) (H' : Hp) => ∃ o xs acc, H' D = some (xO D o) ∧ XF w o xs ∧ Ex H2 (mns H' D) ∧ acc.length ≤ i ∧ dcX f kf m (as.drop i) acc = some cs ∧ AlX (EX E s (mns (part φ.F H1 H') D)) xs acc
  refine ⟨fun i k H' => k = as.length - i ∧ i ≤ as.length ∧ P i H', ⟨as.length, by omega, Nat.zero_le _, o0, [], [], upd_same, f0, ?_, Nat.le_refl _, by rw [List.drop_zero]; exact hc, .nil⟩, ?_⟩
  · rw [mns_upd]
    exact ex_mns (Ex.refl _) hD
  rintro i k H' ⟨rfl, hi, o, xs, acc, h1, hf, h2, hlen, hrun, h4⟩
  have eG : (φ.go H1 H2).In H' := (Fm.go_in e e2).trans (h2.trans mns_sub)
  by_cases hlt' : ¬ i < as.length
  · have ei : i = as.length := by omega
    subst ei
    refine .inl ⟨w0.stops H' eG, ?_⟩
    rw [List.drop_length] at hrun
    cases hrun
    refine q _ H' [D] (e2.trans (h2.trans mns_sub)) (fun p hp => ?_) ⟨D, o, xs, rfl, rfl, hS, h1, hf, h4.imp fun _ _ k => k.mono mns_cut⟩
    rw [List.mem_singleton.mp hp]
    exact back_none e2 hD
  have hlt : i < as.length := Decidable.not_not.mp hlt'
  refine .inr ⟨w0.goes i H' hlt eG, P (i + 1), fun H'' p => ⟨as.length - (i + 1), by omega, rfl, hlt, p⟩, fun x H'' yl => ?_⟩
  obtain ⟨y1, a, y2, y3⟩ := w0.yields i H' x H'' hlt eG yl
  refine hg.run _ H'' x a _ _ (Fm.go_in eG y1) y3 fun σ2 hu hrd _ => ?_
  have l2 : φ.le ((φ.go H1 H2).go H' H'') := Fm.go_le.trans Fm.go_le
  obtain ⟨ht, hk, hm⟩ := hw a (mem _ _ y2) _ σ2 l2 (hrd _ ((rd.mono l2).wipe vs))
  refine ⟨wipe_upd hj hu, ?_⟩
  have hdr : as.drop i = a :: as.drop (i + 1) := by
    rw [List.getElem?_eq_getElem hlt] at y2
    cases y2
    exact List.drop_eq_getElem_cons hlt
  rw [hdr] at hrun
  have e12a : Ex H2 H'' := (h2.trans mns_sub).trans y1
  rcases dcX_cons hrun with ⟨hfa, hr⟩ | ⟨kk, b, hfa, hkk, hmb, hr⟩
  · refine ht _ hfa H'' (Fm.go_in eG y1) _ fun H3 e3 => ?_
    exact ⟨o, xs, acc, e3 D _ (y1 D _ h1), hf, ex_mns (e12a.trans e3) hD, by omega, hr, h4.imp fun _ _ k => k.mono (mns_up (part_up (y1.trans e3)))⟩
  · refine ht _ hfa H'' (Fm.go_in eG y1) _ fun H3 e3 => ?_
    have i3 := (Fm.go_in eG y1).trans e3
    refine hk _ hkk H3 i3 _ fun y H4 e4 ry => ?_
    refine hm _ hmb H4 (i3.trans e4) _ fun z H5 e5 rz => ?_
    have hD3 : H3 D = some (xO D o) := e3 D _ (y1 D _ h1)
    have hD4 : H4 D = some (xO D o) := e4 D _ hD3
    have hD5 : H5 D = some (xO D o) := e5 D _ hD4
    have e35 := e4.trans e5
    have sub1 : Ex (mns (part φ.F H1 H') D) H5 := mns_sub.trans ((part_sub ((e.1.trans e2).trans (h2.trans mns_sub))).trans (y1.trans (e3.trans e35)))
    obtain ⟨bb, rfl, hbb⟩ := key_is E he hrf ((Fm.go_in i3 e4).1.trans e5) ry
    refine ⟨xs, _, bb, rfl, ⟨hS, ⟨o, hD5, hf⟩, keys_is he sub1 h4⟩, hbb, sz_lt (by rw [h4.len]; omega), fun u hu o' f' => ⟨o', _, putX acc kk b, upd_same, f', ?_, ?_, hr, ?_⟩⟩
    · rw [mns_upd]
      exact ex_mns (e12a.trans (e3.trans e35)) hD
    · have := putX_len acc kk b
      omega
    · have gsub : Ex (part (part φ.F H1 H2) H' H'') (part φ.F H1 H3) := (part_part e2 (h2.trans mns_sub) y1).trans (part_up e3)
      refine put_al (h4.imp fun _ _ k => k.mono ((mns_up (part_up (y1.trans (e3.trans e35)))).trans part_put)) (rk.mono (Ex.trans ?_ part_put) ry) hu (s.mono (Ex.trans ?_ part_put) rz)
      · exact (part_elem gsub e.1 ((e2.trans e12a).trans e3) e4 hD3 (part_old d2 h1)).trans (mns_up (part_up e5))
      · exact part_elem (gsub.trans (part_up e4)) e.1 ((e2.trans e12a).trans (e3.trans e4)) e5 hD4 (part_old d2 h1)
end
end Q
set_option Elab.async false
set_option linter.all false
set_option maxRecDepth 100000
set_option maxHeartbeats 4000000
namespace Q
open PySem PySem.Spec PyProof.Rows L2 Evl
open DL hiding Ea EaL Er MonoP Src Tgt YD d_for er_two walkR
section
variable {α β : Type} {K : PySem.W.Frag} {σ : L2.St} {φ : Fm} {r : AR α} {rr : Rep α} {ss : Rep β} {a : α} {b : β} {o : OR β} {P P' : Fm → List V → Prop} {tr tk : TA} {E : XK} {dvs : List V}
end
section
variable {K : PySem.W.Frag} {x qual k : Str} {st : Stmt} {f D T : Addr} {oc : Value} {od an : Option Addr} {osl : Array (Option Value)} {dV kV doc pm cdv ct : Value} {ps : List Str}
structure FunV (K : PySem.W.Frag) (x qual : Str) (st : Stmt) (f : Addr) (fd : FuncData) : Prop where
  ex : ∃ (oc : Value) (od : Option Addr) (dV kV doc pm : Value) (an : Option Addr) (cdv ct : Value) (osl : Array (Option Value)),
    fd = PySem.W.fnOf x qual (defArgs st) (defBody st) (defScope st) dV kV doc pm an cdv ct ∧ K.lookup f = some ⟨oc, od, .func fd, osl⟩ ∧ PySem.W.codeIn K cdv qual = true
  kp : PySem.W.keepIn K (.ref f) = true
theorem FunV.ok {P : Program} {w : World} {mg : Str → Option Value} {base : Heap} {fd : FuncData} {N : List Str} {k : Nat} {sp : Sp} (F : FunV K x qual st f fd) (S : FnScope N ps (defScope st)) (len : ∀ vs H Q E, sp vs H Q E → vs.length = ps.length)
    (hbody : ∀ (cdv : Value) (A : Around) (outer : List Env) (s : Shared) (H : Hp) (vs : List V) (Q : VK) (E : XK), Room k (A.deeper (envOfC qual (defScope st) s.heap.objs.size f cdv)) → sp vs H Q E →
      ∃ t, PSs (cxOf CX0 P w K mg base N qual (defScope st) f cdv A outer s H E).nox (defBody st) t ∧ t { nx := fun _ H' => Q .non H', rt := Q } (start N vs) H) : FnOk P w K mg base CX0 (k + 1) f fd ps sp := by
  obtain ⟨oc, od, dV, kV, doc, pm, an, cdv, ct, osl, rfl, lk, hcd⟩ := F.ex
  refine fn_of lk hcd S len fun A outer s H vs Q E hr hsp => ?_
  obtain ⟨t, h, q⟩ := hbody cdv A outer s H vs Q E hr hsp
  exact ⟨t, h.nox, q⟩
theorem FunV.okX {CX : CXT} {P : Program} {w : World} {mg : Str → Option Value} {base : Heap} {fd : FuncData} {N : List Str} {k : Nat} {sp : Sp} (F : FunV K x qual st f fd) (S : FnScope N ps (defScope st)) (len : ∀ vs H Q E, sp vs H Q E → vs.length = ps.length)
    (hbody : ∀ (cdv : Value) (A : Around) (outer : List Env) (s : Shared) (H : Hp) (vs : List V) (Q : VK) (E : XK), Room k (A.deeper (envOfC qual (defScope st) s.heap.objs.size f cdv)) → sp vs H Q E →
      ∃ t, PSs (cxOf CX P w K mg base N qual (defScope st) f cdv A outer s H E) (defBody st) t ∧ t { nx := fun _ H' => Q .non H', rt := Q } (start N vs) H) : FnOk P w K mg base CX (k + 1) f fd ps sp := by
  obtain ⟨oc, od, dV, kV, doc, pm, an, cdv, ct, osl, rfl, lk, hcd⟩ := F.ex
  exact fn_of lk hcd S len fun A outer s H vs Q E hr hsp => hbody cdv A outer s H vs Q E hr hsp
end
end Q
namespace Q
open PySem PySem.Spec PyProof.Rows L2 Evl
theorem inX_room {k : Nat} {A : Around} (r : Room k A) : A.units + 9 < cLine := by
  have := inD_room r
  omega
end Q
namespace Q
open PySem PySem.Spec PyProof.Rows L2 Evl
open DL hiding Ea EaL Er MonoP Src Tgt YD d_for er_two walkR
section
variable {α : Type} {K : PySem.W.Frag} {σ : L2.St} {φ : Fm} {rr : Rep α} {te : TE} {x : Option α}
theorem er_isiOF {n ty : String} (h : Er (pr (rOpt rr)) te σ φ x) (ht : ∀ (H : Hp) (v : V) (a : α), rr.rel H v a → TyX K H v (.type ty)) (hk : PySem.W.kitOne K (.type ty) (.type n) = some false) (hn : PySem.W.kitOne K (.type "NoneType") (.type n) = some false) : Er (pr rBl) (tCB (rIsi K) (tCons te (tCons (tC (.ty n)) tNil))) σ φ false := by
  cases x with
  | none => exact er_isi (n := n) (ty := "NoneType") h (fun φ H v hi k => by
      cases (show v = V.non from k)
      exact .base .non) hn
  | some a => exact er_isi (n := n) (ty := ty) h (fun φ H v hi k => ht H v a (rr.mono hi.1 k)) hk
end
end Q
set_option Elab.async false
set_option linter.all false
set_option maxRecDepth 100000
set_option maxHeartbeats 4000000
namespace Q
open PySem L2 Evl
open DL hiding Ea EaL Er MonoP Src Tgt YD d_for er_two walkR ea_cons ea_nil eal_cons eal_nil er_I er_I0 er_all er_andV er_any er_bl er_call er_catT er_eqB er_eqD er_eqI er_fst er_if er_inL er_inT er_int er_int1 er_int1B er_isN er_ixF er_ixL er_ixT er_lenF er_lenL er_lenT er_ltT er_neB er_neD er_neI er_neg er_niL er_niT er_nonO er_notN er_notV er_orV er_pair er_slT er_snd er_some er_str er_tup er_tupOf et_B et_lst et_test et_tup mono_cons mono_nil src_enum src_enumT src_list src_rng1 src_rng2 src_tup src_zip src_zipM
section
variable {α β γ δ S R : Type} {K : PySem.W.Frag} {σ σ2 : L2.St} {φ ψ : Fm} {F Gb F0 H0 G G2 H H1 H2 H3 : Hp} {ta tb te tx : TE} {t u : TT} {v : V} {r : AR α} {s : AR β} {rr : Rep α} {ss : Rep β} {a : α} {b : β} {as : List α} {bs : List β} {o : OR α} {p : Addr} {xs : List V} {i j : Nat} {sl : List Slot} {D : Ends} {tu tw tz : TS} {g : TG} {rv : R → V → Hp → Prop} {sh : S → List Slot}
end
end Q
set_option Elab.async false
set_option linter.all false
set_option maxRecDepth 100000
set_option maxHeartbeats 4000000
namespace L2
open PySem PySem.Spec PyProof.Rows
section
variable {X : Cx} {CX : CXT} {k : Nat} {C f : Addr} {fd : FuncData} {ps : List Str} {sp : Sp} {dvs : List V} {ds : List Value} {E : XK} {e : Expr} {pos : Pos} {ta : TE}
structure Inver (K : PySem.W.Frag) (C f : Addr) : Prop where
  at_ : PySem.W.findIn K (.ref C) "__invert__" = some (some (.ref f))
  fn : PySem.W.isFn K (.ref f) = true
theorem pe_inv (he : PE X e ta) (c : Cls X.K C) (hp : Inver X.K C f) (F : FnOk X.prog X.w X.K X.mg X.base CX k f fd ps sp) (hr : Room k X.A) (hb : Binds X.K fd ps ds) (hd : Vals dvs ds) (hx : Passes CX X E) : PE X (.UnaryOp .Invert e pos) (tProp C sp dvs E ta) := by
  refine ⟨fun pins s σ H Q I h => ?_⟩
  refine UnaryOp_ (thn (he.run pins s σ H _ I h) fun u s1 ⟨x, H1, I1, rx, a, dx, fs, ex, ea, q⟩ => ?_)
  subst ex
  obtain rfl : u = Value.ref a := rx
  obtain ⟨mA, O, _, _, _, _⟩ := ins_get I1.hok ea
  obtain ⟨od, J, _⟩ := O.look
  have h1 := run_fn (us := [.ref a]) (vs := [.ref a]) F hr hb hd hx I1 (.cons rfl .nil) q
  unfold unaryOp
  refine wpAny_holding ?_
  exact wpAny_bind (PySem.W.special_fn I1.kIn J hp.at_ (beq_iff_eq.mp hp.fn) (wpAny_mono h1 (fun _ _ z => wpAny_pure z) fun _ _ z => z))
end
end L2
namespace Q
open PySem L2 Evl
open DL hiding Ea EaL Er MonoP Src Tgt YD d_for er_two walkR
section
variable {α β γ δ : Type} {K : PySem.W.Frag} {σ σ2 : L2.St} {φ ψ : Fm} {H H1 H2 : Hp} {ta : TE} {rr : Rep α} {ss : Rep β} {a : α} {b : β} {o : OR β} {C : Addr} {F : FRep α}
theorem eo_prop {W : (Fm → List V → Prop) → β → Prop} {E : XK} (h : Er (pr (rIns C F)) ta σ φ a) (w : W (HC (pr (rIns C F)) a HN) b) : Eo o (tProp C (spO o W) [] E ta) σ φ b := fun H1 e Q q =>
  h H1 e _ fun v H2 e2 hv => by
    have hv0 := hv
    obtain ⟨p, dx, fs, hp, hi, hF⟩ := hv
    subst hp
    refine ⟨p, dx, fs, rfl, (Fm.go_in e e2).1 _ _ hi, φ.go H1 H2, HC (pr (rIns C F)) a HN, b, Fm.go_in e e2, mono_cons mono_nil, w, ⟨.ref p, [], rfl, hv0, rfl⟩, fun u H4 hr => ?_⟩
    obtain ⟨fp, e4, hf, k3⟩ := hr
    exact q u H4 fp (e2.trans e4) (fun p hp => back_none e2 (hf p hp)) (o.mono (cut_up (part_part e2 (Ex.refl H2) e4)) (fun _ _ _ z => z) k3)
theorem er_prop {W : (Fm → List V → Prop) → β → Prop} {E : XK} (h : Er (pr (rIns C F)) ta σ φ a) (w : W (HC (pr (rIns C F)) a HN) b) : Er (pr ss) (tProp C (spO (oPr ss) W) [] E ta) σ φ b := Eo.er (o := oPr ss) (eo_prop h w)
end
end Q
set_option Elab.async false
set_option linter.all false
set_option maxRecDepth 100000
set_option maxHeartbeats 4000000
namespace Q
open PySem L2 Evl
open DL hiding Ea EaL Er MonoP Src Tgt YD d_for er_two walkR
structure FA (α : Type) where
  rel : Fm → List (Str × V) → α → Prop
  mono : ∀ {φ ψ : Fm} {fs : List (Str × V)} {a : α}, φ.le ψ → rel φ fs a → rel ψ fs a
structure FO (α : Type) where
  rel : Hp → Hp → List Addr → List (Str × V) → α → Prop
  mono : ∀ {G G' H H' : Hp} {fp : List Addr} {fs : List (Str × V)} {a : α}, Ex G G' → (∀ p ∈ fp, ∀ o, H p = some o → H' p = some o) → rel G H fp fs a → rel G' H' fp fs a
  ins : ∀ {G H : Hp} {fp : List Addr} {fs : List (Str × V)} {a : α}, rel G H fp fs a → ∀ p ∈ fp, ∃ o, H p = some o
  nd : ∀ {G H : Hp} {fp : List Addr} {fs : List (Str × V)} {a : α}, rel G H fp fs a → fp.Nodup
  view : FA α
  look : ∀ {G H : Hp} {fp : List Addr} {fs : List (Str × V)} {a : α}, rel G H fp fs a → view.rel ⟨G, H⟩ fs a
  frz : FRep α
  frzs : ∀ {G G' H : Hp} {fp : List Addr} {fs : List (Str × V)} {a : α}, rel G H fp fs a → Ex G G' → (∀ p ∈ fp, ∀ o, H p = some o → G' p = some o) → frz.rel G' fs a
section
variable {α β γ : Type} {F : FA α} {n m : Str} {r : AR β} {s : AR γ} {get : α → γ}
end
section
variable {α β γ : Type} {F : FO α} {n m : Str} {o : OR β} {o' : OR γ} {get : α → β} {put : α → β → α}
end
section
variable {α β γ : Type} {K : PySem.W.Frag} {O : OR α} {o : OR β} {te : TE → TE} {get : α → β} {put : α → β → α} {C : Addr} {n : Str} {x : V}
end
structure Chg (G H G2 H2 : Hp) (f0 : List Addr) : Prop where
  fr : Ex G G2
  st : ∀ c u, H c = some u → c ∉ f0 → H2 c = some u
  nw : ∀ c u, H c = some u → G c = none → c ∉ f0 → G2 c = none
  sub : Ex G2 H2
section
variable {α β γ δ S R : Type} {K : PySem.W.Frag} {σ σ2 : L2.St} {φ ψ : Fm} {F Gb F0 H0 G G2 H H1 H2 H3 : Hp} {ta tb tv te0 tx : TE} {tr : TA} {t u : TT} {v x : V} {r : AR α} {s : AR β} {rr : Rep α} {ss : Rep β} {a : α} {b : β} {as : List γ} {bs : List β} {O : OR α} {o : OR β} {p : Addr} {xs : List V} {i j : Nat} {sl : List Slot} {D : Ends} {tu tw tz : TS} {g : TG} {te : TE → TE} {get : α → β} {put : α → β → α} {C : Addr} {n m : Str}
end
end Q
set_option Elab.async false
set_option linter.all false
set_option maxRecDepth 100000
set_option maxHeartbeats 4000000
namespace Q
open PySem L2 Evl
open DL hiding Ea EaL Er MonoP Src Tgt YD d_for er_two walkR
section
variable {α β γ δ S R : Type} {K : PySem.W.Frag} {σ σ2 : L2.St} {φ ψ : Fm} {F0 Gb H0 G G2 H H1 H2 H3 : Hp} {ta tb tv tx : TE} {tr : TA} {t u : TT} {v x : V} {r : AR α} {s : AR β} {rr : Rep γ} {ss : Rep β} {a : α} {b : β} {O : OR α} {o : OR β} {p : Addr} {i j : Nat} {sl : List Slot} {D : Ends} {tu tw tz : TS} {g : TG} {te : TE → TE} {get : α → β} {put : α → β → α} {C : Addr} {n m : Str}
end
end Q
set_option Elab.async false
set_option linter.all false
set_option maxRecDepth 100000
set_option maxHeartbeats 4000000
namespace L2
open PySem PySem.Spec PyProof.Rows
section
variable {X : Cx} {pins : List (Addr × Obj)} {σ : St} {H : Hp} {s : Shared} {CI : CXT} {n : Nat} {C f : Addr} {fd : FuncData} {ps : List Str} {sp : Sp} {EO : XK} {A1 : Around} {K : PySem.W.Frag}
structure Dun (K : PySem.W.Frag) (C f : Addr) (m : Str) : Prop where
  at_ : PySem.W.findIn K (.ref C) m = some (some (.ref f))
  fn : PySem.W.isFn K (.ref f) = true
variable {it l q : Addr} {i : Nat} {xs : List V} {v : V}
def He (H0 : Hp) (it q : Addr) (xs : List V) : Hp := upd (upd H0 it (ItE it xs.length)) q (.lst xs)
structure ItL (K : PySem.W.Frag) (C fi fl : Addr) : Prop where
  it : Dun K C fi "__iter__"
  ln : Dun K C fl "__len__"
end
end L2
set_option Elab.async false
set_option linter.all false
set_option maxRecDepth 100000
set_option maxHeartbeats 4000000
namespace Q
open PySem L2 Evl
open DL hiding Ea EaL Er MonoP Src Tgt YD d_for er_two walkR
section
variable {α β γ δ : Type} {K : PySem.W.Frag} {σ : L2.St} {φ ψ : Fm} {F0 Gb H0 G G2 H H1 H2 H3 : Hp} {ta tb tv tx : TE} {tr : TA} {v x : V} {r : AR α} {rr : Rep γ} {ss : Rep β} {a a2 : α} {b : β} {C : Addr} {n m : Str} {F : FA α} {E : XK} {sl : List Slot} {D : Ends}
end
end Q
set_option Elab.async false
set_option linter.all false
set_option maxRecDepth 100000
set_option maxHeartbeats 4000000
namespace DL
open PySem PySem.Spec PySem.W PySem.Calls PyProof.Rows L2 Evl
section
variable {prog : Program} {w : World} {A : Around} {E : Value → Shared → Prop} {s : Shared}
end
section
variable {X : Cx} {f : Addr}
end
end DL
namespace Q
open PySem PySem.Spec PyProof.Rows L2 Evl
open DL hiding Ea EaL Er MonoP Src Tgt YD d_for er_two walkR
section
variable {α β : Type} {K : PySem.W.Frag} {σ : L2.St} {φ : Fm} {ta : TE} {tr : TA} {rr : Rep α} {as : List α} {sl : List Slot} {i : Nat} {f : Addr}
end
section
open PySem.W
variable {K : PySem.W.Frag} {mg : Str → Option Value} {x qual : Str} {st : Stmt} {ps : List Str} {kV : Value} {doc pm : Value} {an : Option Addr} {cdv ct : Value}
end
end Q
set_option Elab.async false
set_option linter.all false
set_option maxRecDepth 100000
set_option maxHeartbeats 4000000
namespace XD
open PySem PySem.Spec PyProof.Rows L2
section
variable {X : Cx} {e e2 : Expr} {ta : TA} {p p2 pos pos2 : Pos}
end
end XD
namespace Q
open PySem L2 Evl XD
open DL hiding Ea EaL Er MonoP Src Tgt YD d_for er_two walkR
section
variable {α β κ : Type} {K : PySem.W.Frag} {w : World} {σ : L2.St} {φ : Fm} {F H : Hp} {ta tb tl : TE} {r : AR α} {a : α} {as : List α} {rk : Rep κ} {s : Rep β} {ks : List κ} {bs : List β}
inductive KK {κ : Type} {rk : Rep κ} (E : KR rk) (F : Hp) : List (NestedKey × Addr) → List κ → Prop
  | nil : KK E F [] []
  | cons {p : NestedKey × Addr} {k : κ} {ps : List (NestedKey × Addr)} {ks : List κ} : p.1 = E.nk k → rk.rel F (.ref p.2) k → KK E F ps ks → KK E F (p :: ps) (k :: ks)
end
end Q
set_option Elab.async false
set_option linter.all false
set_option maxRecDepth 100000
set_option maxHeartbeats 4000000
namespace XD
open PySem PySem.Spec PyProof.Rows L2
section
variable {X : Cx} {pins : List (Addr × Obj)} {σ : L2.St} {H : Hp} {s : Shared} {d b : Addr} {xs : List (NestedKey × Addr × Value)} {k : NestedKey} {v : V}
end
end XD
namespace Q
open PySem L2 Evl XD
open DL hiding Ea EaL Er MonoP Src Tgt YD d_for er_two walkR
section
variable {β κ : Type} {w : World} {σ : L2.St} {φ : Fm} {ta : TE} {rk : Rep κ} {E : KR rk} {s : Rep β} {cs : List (κ × β)}
end
end Q
set_option Elab.async false
set_option linter.all false
set_option maxRecDepth 100000
set_option maxHeartbeats 4000000
namespace Q
open PySem PySem.Spec PyProof.Rows L2 Evl
open DL hiding Ea EaL Er MonoP Src Tgt YD d_for er_two walkR
section
variable {α : Type} {K : PySem.W.Frag} {σ : L2.St} {φ : Fm} {rr : Rep α} {te : TE} {c : α × α} {i : Int}
end
section
variable {K : PySem.W.Frag} {x qual k : Str} {st : Stmt} {f D T : Addr} {oc : Value} {od an : Option Addr} {osl : Array (Option Value)} {dV kV doc pm cdv ct : Value} {ps : List Str} {i : Int} {t : Tok}
end
end Q
set_option Elab.async false
set_option linter.all false
set_option maxRecDepth 100000
set_option maxHeartbeats 4000000
namespace Q
open PySem PySem.Spec PyProof.Rows L2 Evl
open DL hiding Ea EaL Er MonoP Src Tgt YD d_for er_two walkR
structure MetS (K : PySem.W.Frag) (x qual : Str) (st : Stmt) (ps : List Str) (f : Addr) (fd : FuncData) : Prop where
  F : Fun K x qual st f fd
  b : ∃ pa pv, ps = [pa, pv] ∧ ∀ (u : Value) (rest : List Value), rest.length ≤ 5 → bindArgs fd ⟨u :: rest, []⟩ = (newTuple rest >>= fun t => pure [(pa, u), (pv, t)])
section
variable {α β γ δ S R : Type} {P : Program} {w : World} {K : PySem.W.Frag} {mg : Str → Option Value} {base : Heap} {x qual pa pv : Str} {st : Stmt} {f : Addr} {fd : FuncData} {N : List Str} {k : Nat} {rr : Rep β} {O : OR α} {ri : Rep γ} {W : (Fm → List V → Prop) → α → β × α → Prop}
variable {F0 Gb H0 G H : Hp} {sl : List Slot} {σ : L2.St} {OO : OR δ} {a : δ} {C : Addr} {te : TE → TE} {get : δ → α} {put : δ → α → δ} {m : Str} {i j : Nat} {ta : TE} {tr : TA} {D : Ends}
end
section
variable {α β : Type} {r : Rep α} {F : FO α} {o : OR β} {C : Addr} {n : Str} {te : TE} {σ : L2.St} {φ : Fm} {a : α}
end
section
variable {σ : L2.St} {φ : Fm} {ta tb : TE} {i j : Str}
end
instance deedEqA : DecidableEq (Int × Int × List Int) := inferInstance
instance deedEqB : DecidableEq (Option (Int × List Int)) := inferInstance
instance deedEqC : DecidableEq (Option (Int × List Int) × List (Int × Int × List Int)) := @instDecidableEqProd _ _ deedEqB (@instDecidableEqList _ deedEqA)
instance deedEqD : DecidableEq (Str × Option (Int × List Int) × List (Int × Int × List Int)) := @instDecidableEqProd _ _ inferInstance deedEqC
section
variable {α β γ : Type} {r : Rep α} {s : Rep β} {t : Rep γ} {f : α → PyData} {g : β → PyData} {h : γ → PyData} {n : Nat} {c : α → Bool} {c2 : β → Bool} {c3 : γ → Bool}
end
end Q
namespace L2
open PySem PySem.Spec PyProof.Rows
end L2
set_option Elab.async false
set_option linter.all false
set_option maxRecDepth 100000
set_option maxHeartbeats 4000000
namespace Q
open PySem PySem.Spec PyProof.Rows L2 Evl
open DL hiding Ea EaL Er MonoP Src Tgt YD d_for er_two walkR
section
variable {K : PySem.W.Frag} {σ : L2.St} {φ : Fm} {ta tb : TE} {a b : Bool}
end
end Q
set_option Elab.async false
set_option linter.all false
set_option maxRecDepth 100000
set_option maxHeartbeats 4000000
namespace Q
open PySem PySem.Spec PyProof.Rows L2 Evl
open DL hiding Ea EaL Er MonoP Src Tgt YD d_for er_two walkR
def tMethS (C : Addr) (m : Str) (sp : Sp) (dvs : List V) (E : L2.St → XK) (ta : TE) (t : TA) : TE := fun σ H Q => ta σ H fun x H1 => ∃ a dx fs, x = .ref a ∧ H1 a = some (.ins C dx fs) ∧ fs.lookup m = none ∧
  t σ H1 fun vs H2 => sp (x :: (vs ++ dvs)) H2 Q (E σ)
section
variable {X : Cx} {CX : CXT} {k n : Nat} {f C : Addr} {fd : FuncData} {ps ks : List Str} {sp : Sp} {E : L2.St → XK} {x m : Str} {p pos apos : Pos} {e o : Expr} {es : List Expr} {kws : List Keyword} {ta : TE} {t tk : TA} {g : List Value → List Value → List Value} {gV : List V → List V → List V} {ds : List Value} {dvs : List V}
theorem pe_methS {pl : Sem Bool} (he : PE X o ta) (c : Cls X.K C) (hm : Meth X.K C m f) (F : FnOk X.prog X.w X.K X.mg X.base CX k f fd ps sp) (hr : Room k X.A) (hb : Binds X.K fd ps ds) (hd : Vals dvs ds) (hx : ∀ σ, PassesAt CX X σ (E σ)) (ha : PA X (e :: es) t)
    (hst : starEach (e :: es) X.env = (false, eval e X.env) :: starEach es X.env := by rfl) (hpl : (backTo pos (starEach es X.env)).any (·.1) = false := by rfl)
    (ht : eval (.Call (.Attribute o m apos) (e :: es) [] pos) X.env = (do
      let ov ← eval o X.env
      standAt apos.atName
      let (f, first) ← holding [ov] (getMethod ov m pl)
      callWith pos f first (backTo pos (starEach (e :: es) X.env)) (backToKw pos (keywordEach [] X.env))) := by rfl) :
    PE X (.Call (.Attribute o m apos) (e :: es) [] pos) (tMethS C m sp dvs E ta t) := by
  refine ⟨fun pins s σ H Q I h => ?_⟩
  refine PySem.W.methodCall_KW (pl := pl) (thn (he.run pins s σ H _ I h) fun u s1 ⟨x, H1, I1, rx, a, dx, fs, ex, ea, l, q⟩ => ?_) ht
  subst ex
  obtain rfl : u = Value.ref a := rx
  refine getmeth_ok I1 ea c hm l ?_
  refine PySem.W.callWith_K (first := [.ref a]) (h₀ := X.base) I.ok.mod.kin hm.kp (thn (ha.run pos pins s1 σ H1 _ I1 q) fun us s2 ⟨vs, H2, I2, r, q2⟩ => ⟨I2.kIn, ?_⟩) hst hpl
  exact run_fnSD (us := .ref a :: us) (vs := .ref a :: vs) F hr hb hd (hx σ) I2 (.cons rfl r) q2
end
section
variable {α β : Type} {K : PySem.W.Frag} {σ : L2.St} {φ : Fm} {H1 H2 : Hp} {ta : TE} {tr tk : TA} {o : OR α} {a : α} {e : ErrV} {mg : Str → Option Value} {C : Addr} {m : Str} {E E' : XK} {F : FRep β} {c : β} {dvs : List V} {W : (Fm → List V → Prop) → α ⊕ ErrV → Prop} {P P' P2 : Fm → List V → Prop} {n l : Nat}
theorem eo_methSX {b : α} {E : L2.St → XK} (no : FNo F m) (h : Er (pr (rIns C F)) ta σ φ c) (ha : Ea P tr σ φ ∧ MonoP P) (w : W (HC (pr (rIns C F)) c P) (.inl b)) : Eo o (tMethS C m (spX mg o W) [] E ta tr) σ φ b := fun H1 hi Q q =>
  h H1 hi _ fun v H2 e2 hv => by
    have hv0 := hv
    obtain ⟨p, dx, fs, hp, hin, hF⟩ := hv
    refine ⟨p, dx, fs, hp, (Fm.go_in hi e2).1 _ _ hin, no _ fs c hF, ha.1 H2 (hi.trans e2) _ fun vs H3 e3 k => ?_⟩
    refine ⟨φ.go H1 H3, _, .inl b, Fm.go_in hi (e2.trans e3), mono_cons ha.2, w, ⟨v, vs, by rw [List.append_nil], (pr (rIns C F)).mono (Fm.up e3) hv0, ha.2 _ _ _ (Fm.back e2) k⟩, fun u H4 ⟨fp, e4, hf, k4⟩ => ?_, fun e z => nomatch z⟩
    exact q u H4 fp (e2.trans (e3.trans e4)) (fun p hp => back_none (e2.trans e3) (hf p hp)) (o.mono (cut_up (part_part (e2.trans e3) (Ex.refl H3) e4)) (fun _ _ _ z => z) k4)
theorem er_methSX {b : α} {ss : Rep α} {E : L2.St → XK} (no : FNo F m) (h : Er (pr (rIns C F)) ta σ φ c) (ha : Ea P tr σ φ ∧ MonoP P) (w : W (HC (pr (rIns C F)) c P) (.inl b)) : Er (pr ss) (tMethS C m (spX mg (oPr ss) W) [] E ta tr) σ φ b := Eo.er (o := oPr ss) (eo_methSX no h ha w)
theorem ee_methSX {E : L2.St → XK} (no : FNo F m) (h : Er (pr (rIns C F)) ta σ φ c) (ha : Ea P tr σ φ ∧ MonoP P) (w : W (HC (pr (rIns C F)) c P) (.inr e)) : Ee mg (E σ) e (tMethS C m (spX mg o W) [] E ta tr) σ φ := fun H1 hi hE Q =>
  h H1 hi _ fun v H2 e2 hv => by
    have hv0 := hv
    obtain ⟨p, dx, fs, hp, hin, hF⟩ := hv
    refine ⟨p, dx, fs, hp, (Fm.go_in hi e2).1 _ _ hin, no _ fs c hF, ha.1 H2 (hi.trans e2) _ fun vs H3 e3 k => ?_⟩
    refine ⟨φ.go H1 H3, _, .inr e, Fm.go_in hi (e2.trans e3), mono_cons ha.2, w, ⟨v, vs, by rw [List.append_nil], (pr (rIns C F)).mono (Fm.up e3) hv0, ha.2 _ _ _ (Fm.back e2) k⟩, (fun u H4 z => z.elim), fun e' z => ?_⟩
    cases z
    exact fun cls d H4 e4 his => hE cls d H4 ((e2.trans e3).trans e4) (his.mono (part_part (e2.trans e3) (Ex.refl H3) e4))
end
end Q
set_option Elab.async false
set_option linter.all false
set_option maxRecDepth 100000
set_option maxHeartbeats 4000000
namespace Q
open PySem PySem.Spec PyProof.Rows L2 Evl
open DL hiding Ea EaL Er MonoP Src Tgt YD d_for er_two walkR
section
variable {X : Cx}
end
section
variable {K : PySem.W.Frag} {σ : L2.St} {φ : Fm} {ta tb : TE} {α : Type} {rr : Rep α} {as : List α}
end
section
variable {α : Type} {σ : L2.St} {H0 G H : Hp} {te : TE} {tt : TT} {sl sl' : List Slot} {i : Nat} {o : OR α} {a : α} {b : Bool} {k : Int}
end
def oVp {α : Type} (p : Addr) (xs : List V) (r : Rep α) : OR (List α) where
  rel := fun G H fp v as => v = .ref p ∧ fp = [p] ∧ H p = some (.lst xs) ∧ Al (r.rel G) xs as
  mono := fun e h ⟨h1, h2, h3, h4⟩ => ⟨h1, h2, h p (by rw [h2]; exact List.mem_singleton.mpr rfl) _ h3, h4.imp fun _ _ k => r.mono e k⟩
  ins := fun ⟨h1, h2, h3, h4⟩ q hq => by
    rw [h2] at hq
    rw [List.mem_singleton.mp hq]
    exact ⟨_, h3⟩
  nd := fun ⟨h1, h2, h3, h4⟩ => by
    rw [h2]
    exact List.nodup_cons.mpr ⟨by simp, .nil⟩
  view := rB (pr r)
  look := fun ⟨h1, h2, h3, h4⟩ => ⟨p, xs, h1, .inl h3, h4⟩
  frz := rLst r
  frzs := fun ⟨h1, h2, h3, h4⟩ e k => ⟨p, xs, h1, k p (by rw [h2]; exact List.mem_singleton.mpr rfl) _ h3, h4.imp fun _ _ z => r.mono e z⟩
section
variable {α S R : Type} {K : PySem.W.Frag} {σ : L2.St} {F Gb F0 H0 G H : Hp} {rr : Rep α} {as : List α} {p : Addr} {xs : List V} {k : Nat} {sl : List Slot} {D : Ends} {tu : TS} {g : TG} {rv : R → V → Hp → Prop}
theorem Fits.pin (f : Fits H0 G H sl σ) (k : Nat) (hs : sl[k]? = some (.ow (oV rr) as)) : ∃ p xs, Fits H0 G H (sl.set k (.ow (oVp p xs rr) as)) σ := by
  obtain ⟨fps, f⟩ := f
  obtain ⟨x, h1, v, h2, p, xs, h3, h4, h5, h6⟩ := f.at_ k _ hs
  refine ⟨p, xs, fps, fun j s h => ?_, f.sep, f.own⟩
  rcases get_set h with ⟨rfl, rfl, _⟩ | ⟨_, h⟩
  · exact ⟨x, h1, v, h2, h3, h4, h5, h6⟩
  · exact f.at_ j s h
theorem pinned (f : Fits H0 G H sl σ) (hs : sl[k]? = some (.ow (oVp p xs rr) as)) : σ[k]? = some (some (.ref p)) ∧ H p = some (.lst xs) ∧ Al (rr.rel G) xs as := by
  obtain ⟨fps, f⟩ := f
  obtain ⟨x, h1, v, h2, h3, h4, h5, h6⟩ := f.at_ k _ hs
  subst h2 h3
  exact ⟨h1, h5, h6⟩
end
def rAt (a : Addr) : Rep Unit := ⟨fun _ v _ => v = .ref a, fun _ h => h⟩
theorem vAt {φ : Fm} {sl : List Slot} {σ : L2.St} {a : Addr} (rd : Rd φ sl σ) (i : Nat) (h : sl[i]? = some (.va (rAt a) ())) : σ[i]? = some (some (V.ref a)) := by
  obtain ⟨x, h1, v, h2, h3⟩ := rd i _ h
  subst h2 h3
  exact h1
theorem Fits.setAt {H0 G H : Hp} {sl : List Slot} {σ : L2.St} (f : Fits H0 G H sl σ) (j : Nat) (a : Addr) : Fits H0 G H (sl.set j (.va (rAt a) ())) (σ.set j (some (V.ref a))) := f.setV rfl
section
variable {φ : Fm} {sl : List Slot} {σ : L2.St} {a dd : Addr} {fld : Str} {x : V} {ev : EVal}
end
end Q
set_option Elab.async false
set_option linter.all false
set_option maxRecDepth 100000
set_option maxHeartbeats 4000000
namespace Q
open PySem PySem.Spec PyProof.Rows L2 Evl
open DL hiding Ea EaL Er MonoP Src Tgt YD d_for er_two walkR
def oAnd {α β : Type} (ro : OR β) (O : OR α) : OR (V × β × α) where
  rel := fun G H fp x c => ∃ fr fo, fp = fr ++ fo ∧ fp.Nodup ∧ ro.rel G H fr c.1 c.2.1 ∧ O.rel G H fo x c.2.2
  mono := fun e h ⟨fr, fo, h1, h2, h3, h4⟩ => ⟨fr, fo, h1, h2, ro.mono e (fun q hq => h q (by rw [h1]; exact List.mem_append_left _ hq)) h3, O.mono e (fun q hq => h q (by rw [h1]; exact List.mem_append_right _ hq)) h4⟩
  ins := fun ⟨fr, fo, h1, h2, h3, h4⟩ q hq => by
    rw [h1] at hq
    exact (List.mem_append.mp hq).elim (ro.ins h3 q) (O.ins h4 q)
  nd := fun ⟨fr, fo, h1, h2, _⟩ => h2
  view := ⟨fun φ x c => ro.view.rel φ c.1 c.2.1 ∧ O.view.rel φ x c.2.2, fun l h => ⟨ro.view.mono l h.1, O.view.mono l h.2⟩⟩
  look := fun ⟨fr, fo, h1, h2, h3, h4⟩ => ⟨ro.look h3, O.look h4⟩
  frz := ⟨fun F x c => ro.frz.rel F c.1 c.2.1 ∧ O.frz.rel F x c.2.2, fun e h => ⟨ro.frz.mono e h.1, O.frz.mono e h.2⟩⟩
  frzs := fun ⟨fr, fo, h1, h2, h3, h4⟩ e k => ⟨ro.frzs h3 e fun q hq => k q (by rw [h1]; exact List.mem_append_left _ hq), O.frzs h4 e fun q hq => k q (by rw [h1]; exact List.mem_append_right _ hq)⟩
section
variable {α β γ δ : Type} {K : PySem.W.Frag} {σ : L2.St} {φ : Fm} {F0 Gb H0 G H : Hp} {ta tb tc : TE} {tr : TA} {v x : V} {r1 : Rep α} {r2 : Rep β} {o : OR γ} {a : α} {b : β} {c : γ} {i j k : Nat} {sl : List Slot} {D : Ends} {C : Addr} {m : Str}
theorem Fits.split {ro : OR γ} {O : OR α} (f : Fits H0 G H sl σ) (hi : sl[i]? = some (.ow (oAnd ro O) (v, c, a))) (hij : i ≠ j) (hj : j < sl.length) : Fits H0 G H ((sl.set i (.ow O a)).set j (.ow ro c)) (σ.set j (some v)) := by
  obtain ⟨fps, f⟩ := f
  obtain ⟨y, hy, z, hz, fr, fo, h1, h2, h3, h4⟩ := f.at_ i _ hi
  subst hz
  have h1' := h1
  rw [h1] at h2
  obtain ⟨n1, n2, n3⟩ := List.nodup_append.mp h2
  have hfr : ∀ p ∈ fr, p ∈ fps i := fun p hp => by rw [h1]; exact List.mem_append_left _ hp
  have hfo : ∀ p ∈ fo, p ∈ fps i := fun p hp => by rw [h1]; exact List.mem_append_right _ hp
  refine ⟨fun k => if k = j then fr else if k = i then fo else fps k, fun k s hs => ?_, fun k l p hkl hp hq => ?_, fun k p hp => ?_⟩
  · rcases get_set hs with ⟨rfl, rfl, _⟩ | ⟨hne, hs⟩
    · refine ⟨some v, ?_, v, rfl, ?_⟩
      · obtain ⟨y2, hy2, _⟩ := f.at_ j _ (List.getElem?_eq_getElem hj)
        exact set_get (List.getElem?_eq_some_iff.mp hy2).1
      · rw [if_pos rfl]
        exact h3
    · rcases get_set hs with ⟨rfl, rfl, _⟩ | ⟨hne2, hs⟩
      · refine ⟨some z, by rw [List.getElem?_set_ne hne]; exact hy, z, rfl, ?_⟩
        rw [if_neg (Ne.symm hne), if_pos rfl]
        exact h4
      · obtain ⟨y2, hy2, hs2⟩ := f.at_ k s hs
        refine ⟨y2, by rw [List.getElem?_set_ne hne]; exact hy2, ?_⟩
        rw [if_neg (Ne.symm hne), if_neg (Ne.symm hne2)]
        exact hs2
  · have key : ∀ k : Nat, ∀ p, p ∈ (if k = j then fr else if k = i then fo else fps k) → (k = j ∧ p ∈ fr) ∨ (k = i ∧ p ∈ fo) ∨ (k ≠ j ∧ k ≠ i ∧ p ∈ fps k) := fun k p h => by
      split at h
      · rename_i e
        exact .inl ⟨e, h⟩
      · split at h
        · rename_i e
          exact .inr (.inl ⟨e, h⟩)
        · rename_i e1 e2
          exact .inr (.inr ⟨e1, e2, h⟩)
    rcases key k p hp with ⟨e1, m1⟩ | ⟨e1, m1⟩ | ⟨e1, e2, m1⟩ <;> rcases key l p hq with ⟨g1, m2⟩ | ⟨g1, m2⟩ | ⟨g1, g2, m2⟩
    · exact hkl (e1.trans g1.symm)
    · exact n3 p m1 p m2 rfl
    · exact f.sep i l p (Ne.symm g2) (hfr p m1) m2
    · exact n3 p m2 p m1 rfl
    · exact hkl (e1.trans g1.symm)
    · exact f.sep i l p (Ne.symm g2) (hfo p m1) m2
    · exact f.sep k i p e2 m1 (hfr p m2)
    · exact f.sep k i p e2 m1 (hfo p m2)
    · exact f.sep k l p hkl m1 m2
  · split at hp
    · exact f.own i p (hfr p hp)
    · split at hp
      · exact f.own i p (hfo p hp)
      · exact f.own k p hp
end
end Q
set_option Elab.async false
set_option linter.all false
set_option maxRecDepth 100000
set_option maxHeartbeats 4000000
namespace XD
open PySem PySem.Spec PyProof.Rows L2 PySem.W
open DL hiding Ea EaL Er MonoP Src Tgt YD d_for er_two walkR
section
variable {X : Cx} {pins : List (Addr × Obj)} {σ : L2.St} {H : Hp} {s : Shared} {d b : Addr} {xs : List (NestedKey × Addr × Value)} {k : NestedKey} {v : V}
end
end XD
namespace Q
open PySem L2 Evl XD
open DL hiding Ea EaL Er MonoP Src Tgt YD d_for er_two walkR
section
variable {α β κ : Type} [DecidableEq κ] {K : PySem.W.Frag} {σ σ2 : L2.St} {φ ψ : Fm} {F Gb F0 H0 G H H1 H2 H3 : Hp} {ta tb tk tv te tx : TE} {v : V} {rk : Rep κ} {s : Rep β} {b : β} {k : κ} {sl : List Slot} {w : World} {E : KR rk} {cs : List (κ × β)} {i : Nat} {D : Ends} {tz : TS}
end
end Q
set_option Elab.async false
set_option linter.all false
set_option maxRecDepth 100000
set_option maxHeartbeats 4000000
namespace DLF
open PySem PySem.Spec PyProof.Rows L2
section
variable {X : Cx} {C fI cc cd : Addr} {qn fld : Str}
end
end DLF
namespace Q
open PySem PySem.Spec PyProof.Rows L2 Evl
open DL hiding Ea EaL Er MonoP Src Tgt YD d_for er_two walkR ea_cons ea_nil eal_cons eal_nil er_I er_I0 er_all er_andV er_any er_bl er_call er_catT er_eqB er_eqD er_eqI er_fst er_if er_inL er_inT er_inT er_int er_int1 er_int1B er_isN er_ixF er_ixL er_ixT er_lenF er_lenL er_lenT er_ltT er_neB er_neD er_neI er_neg er_niL er_niT er_nonO er_notN er_notV er_orV er_pair er_slT er_snd er_some er_str er_tup er_tupOf et_B et_lst et_test et_tup mono_cons mono_nil src_enum src_enumT src_list src_rng1 src_rng2 src_tup src_zip src_zipM
theorem _root_.L2H.RoomH.units {k : Nat} {A : Around} (r : L2H.RoomH k A) : A.units + 64 < cLine := by have := r.un; omega
section
variable {K : PySem.W.Frag} {x qual : Str} {st : Stmt} {f : Addr} {ps : List Str}
end
section
variable {α β : Type} {σ σ2 : L2.St} {φ ψ : Fm} {H1 : Hp} {tr : TA} {o : OR α} {a : α} {rr : Rep α}
end
end Q
namespace L2
open PySem PySem.Spec PyProof.Rows
theorem Fun.okXN {CX : CXT} {P : Program} {w : World} {K : PySem.W.Frag} {mg : Str → Option Value} {base : Heap} {x qual : Str} {st : Stmt} {f : Addr} {fd : FuncData} {N ps : List Str} {k : Nat} {sp : Sp} (F : Fun K x qual st f fd) (S : FnScope N ps (defScope st)) (len : ∀ vs H Q E, sp vs H Q E → vs.length = ps.length)
    (hbody : ∀ (cdv : Value) (A : Around) (outer : List Env) (s : Shared) (H : Hp) (vs : List V) (Q : VK) (E : XK), Room k (A.deeper (envOfC qual (defScope st) s.heap.objs.size f cdv)) → sp vs H Q E →
      ∃ t, PSs (cxOf CX P w K mg base N qual (defScope st) f cdv A outer s H E) (defBody st) t ∧ t { nx := fun _ H' => Q .non H', rt := Q } (start N vs) H) : FnOk P w K mg base CX (k + 1) f fd ps sp := by
  obtain ⟨oc, od, kV, doc, pm, an, cdv, ct, osl, rfl, lk, hcd⟩ := F.ex
  exact fn_of lk hcd S len fun A outer s H vs Q E hr hsp => hbody cdv A outer s H vs Q E hr hsp
end L2
abbrev Q.FunV.okXN {CX : L2.CXT} {K : PySem.W.Frag} {x qual : PySem.Str} {st : PySem.Stmt} {f : PySem.Addr} {ps : List PySem.Str} {P : PySem.Program} {w : PySem.World} {mg : PySem.Str → Option PySem.Value} {base : PySem.Heap} {fd : PySem.FuncData} {N : List PySem.Str} {k : Nat} {sp : L2.Sp} (F : Q.FunV K x qual st f fd) := @Q.FunV.okX K x qual st f ps CX P w mg base fd N k sp F
namespace Q
open PySem PySem.Spec PyProof.Rows L2 Evl
open DL hiding Ea EaL Er MonoP Src Tgt YD d_for er_two walkR
end Q
namespace Q
open PySem PySem.Spec PyProof.Rows L2 Evl ClX
open DL hiding Ea EaL Er MonoP Src Tgt YD d_for er_two walkR ea_cons ea_nil
section
variable {α β : Type} {σ : L2.St} {φ : Fm} {tr : TA} {o : OR β} {b : β} {e : ErrV} {E E' : XK} {mg : Str → Option Value} {C : Addr} {W : (Fm → List V → Prop) → β ⊕ ErrV → Prop} {P : Fm → List V → Prop} {ss : Rep β}
end
end Q
namespace Q
open PySem PySem.Spec PyProof.Rows L2 Evl
end Q
set_option Elab.async false
set_option linter.all false
set_option maxRecDepth 100000
set_option maxHeartbeats 2000000
namespace Q
open PySem PySem.Spec PyProof.Rows L2 Evl
open DL hiding Ea EaL Er MonoP Src Tgt YD d_for er_two walkR
section
variable {X : Cx}
end
section
variable {α : Type} {σ : L2.St} {φ : Fm} {rr : Rep α} {as : List α} {te : TE} {K : PySem.W.Frag} {k : Nat}
end
end Q
namespace Q
open PySem PySem.Spec PyProof.Rows L2 Evl
open DL hiding Ea EaL Er MonoP Src Tgt YD d_for er_two walkR
end Q
set_option Elab.async false
set_option linter.all false
set_option maxRecDepth 100000
set_option maxHeartbeats 2000000
namespace Q
open PySem PySem.Spec PyProof.Rows L2 Evl
open DL hiding Ea EaL Er MonoP Src Tgt YD d_for er_two walkR
section
variable {K : PySem.W.Frag} {σ : L2.St} {φ : Fm} {H : Hp} {ta tb te : TE} {v : V} {d e : PyData} {ds es : List PyData} {n : Nat}
end
section
variable {α β : Type} {f : α → PyData} {g : β → PyData} {c : α → Bool} {c2 : β → Bool} {n : Nat}
end
section
variable {α : Type} {mg : Str → Option Value} {E : XK} {e : ErrV} {ta tb : TE} {σ : L2.St} {φ : Fm} {r : AR α} {a : α} {R : R2}
end
end Q
set_option Elab.async false
set_option linter.all false
set_option maxRecDepth 100000
set_option maxHeartbeats 2000000
namespace L2
open PySem PySem.Spec PyProof.Rows
section
variable {X : Cx} {e : Expr} {te : St → Hp → (Int → Int → Hp → Prop) → Prop}
end
end L2
namespace Q
open PySem PySem.Spec PyProof.Rows L2 Evl
open DL hiding Ea EaL Er MonoP Src Tgt YD d_for er_two walkR
section
variable {φ : Fm} {σ : L2.St} {ta tb tc : TE} {lo hi c : Int} {ψ : Fm}
theorem al_rep {ns : List Int} : ∀ {xs : List V} {F : Hp}, Al (rInt.rel F) xs ns → xs = ns.map V.int := fun {xs F} h => by
  induction h with
  | nil => rfl
  | cons k _ ih =>
    rw [List.map_cons, ih]
    exact congrArg (· :: _) k
end
end Q
set_option Elab.async false
set_option linter.all false
set_option maxRecDepth 100000
set_option maxHeartbeats 2000000
namespace RT
open PySem PySem.Spec PyProof.Rows L2
section
variable {prog : Program} {w : World} {A : Around} {E : Value → Shared → Prop} {s : Shared}
end
section
variable {X : Cx}
end
end RT
namespace Q
open PySem PySem.Spec PyProof.Rows L2 Evl
open DL
section
variable {α : Type} {K : PySem.W.Frag} {σ : L2.St} {φ : Fm} {ta : TE} {rr : Rep α} {as : List α}
end
end Q
set_option Elab.async false
set_option linter.all false
set_option maxRecDepth 100000
set_option maxHeartbeats 2000000
namespace Q
open L2
open PySem PySem.Spec PyProof.Rows
end Q
namespace Q
open PySem PySem.Spec PyProof.Rows L2 Evl
open DL
structure EncS (K : PySem.W.Frag) {α : Type} (r : Rep α) [DecidableEq α] where
  enc : α → PyData
  d : Nat
  dp : ∀ {H : Hp} {v : V} {a : α}, r.rel H v a → Dp K H v (enc a)
  eqv : ∀ a b, PyData.eqv (enc a) (enc b) = decide (a = b)
  dep : ∀ a, (enc a).depth ≤ d
section
variable {α β γ : Type} [DecidableEq α] [DecidableEq β] [DecidableEq γ] {K : PySem.W.Frag} {r : Rep α} {s : Rep β} {z : Rep γ}
theorem EncS.shaped (E : EncS K r) (h : E.d ≤ 64) {a : α} (hc : (E.enc a).canLay0 = true) : SeqAt.shaped (E.enc a) = true := by
  unfold SeqAt.shaped
  rw [hc, decide_eq_true (Nat.le_trans (E.dep a) h)]
  rfl
variable {σ : L2.St} {φ : Fm} {ta tb : TE} {a a' : α}
end
end Q
set_option Elab.async false
set_option linter.all false
set_option maxRecDepth 100000
set_option maxHeartbeats 4000000
namespace DL
open PySem PySem.Spec PyProof.Rows L2 GenW
section
variable {X : Cx}
def tGIf (tc : TT) (ta tb : TGn) : TGn := fun D ys σ H => tc σ H fun d H1 => if d = true then ta D ys σ H1 else tb D ys σ H1
theorem gs_if {test : Expr} {a b : List Stmt} {tc : TT} {ta tb : TGn} {pos : Pos} (hc : PT X test tc) (ha : GSs X a ta) (hb : GSs X b tb) : GS X (.If test a b pos) (tGIf tc ta tb) := by
  refine ⟨fun A S ip R n ys s₀ c fs K Jx gd lv s σ H D gc hn k hI ht => ?_⟩
  rw [exec_If]
  refine seg_bind_wrap (wpAny_standAt ?_)
  obtain ⟨acc, cc, r, I⟩ := hI
  refine seg_bind_wrap ?_
  rw [gc.over]
  refine wpAny_mono (hc.run _ s σ H _ I ht) (fun d s1 h1 => ?_) fun x s' hx => k.exc n s₀ x s' hx
  obtain ⟨H1, I1, q⟩ := h1
  cases d with
  | true =>
    rw [if_pos rfl] at q ⊢
    exact ha.run A S ip R n ys s₀ c fs K Jx gd lv s1 σ H1 D gc hn k ⟨acc, cc, r, I1⟩ q
  | false =>
    rw [if_neg Bool.false_ne_true] at q ⊢
    exact hb.run A S ip R n ys s₀ c fs K Jx gd lv s1 σ H1 D gc hn k ⟨acc, cc, r, I1⟩ q
end
end DL
namespace L2
open PySem PySem.Spec PyProof.Rows
def nubI : List Int → List Int
  | [] => []
  | x :: l => if x ∈ l then nubI l else x :: nubI l
theorem mem_nub {x : Int} : ∀ {l : List Int}, x ∈ nubI l ↔ x ∈ l
  | [] => Iff.rfl
  | y :: l => by
    unfold nubI
    by_cases h : y ∈ l
    · rw [if_pos h, mem_nub, List.mem_cons]
      exact ⟨.inr, fun z => z.elim (fun e => e ▸ h) id⟩
    · rw [if_neg h, List.mem_cons, List.mem_cons, mem_nub]
theorem nub_nodup : ∀ {l : List Int}, (nubI l).Nodup
  | [] => .nil
  | y :: l => by
    unfold nubI
    by_cases h : y ∈ l
    · rw [if_pos h]
      exact nub_nodup
    · rw [if_neg h]
      exact List.nodup_cons.mpr ⟨fun z => h (mem_nub.mp z), nub_nodup⟩
theorem nd_len {l m : List Int} (h1 : l.Nodup) (h2 : m.Nodup) (h : ∀ x, x ∈ l ↔ x ∈ m) : l.length = m.length := ((List.perm_ext_iff_of_nodup h1 h2).mpr h).length_eq
section
variable {X : Cx} {e : Expr} {te : TE}
def tLenSetT (K : PySem.W.Frag) (te : TE) : TE := fun σ H Q => te σ H fun v H1 => ∃ (a : Addr) (ns : List Int), v = .ref a ∧ SqT K H1 a (ns.map V.int) ∧ ns.length < 1000 ∧ Q (.int ((nubI ns).length : Int)) H1
theorem pe_lenSetT {p p2 pos pos2 : Pos} (hc : X.calm = true) (hg : Gl X "len") (hm : X.mg "len" = none) (hg2 : Gl X "set") (hm2 : X.mg "set" = none) (he : PE X e te)
    (hs : starEach [e] X.env = (false, eval e X.env) :: starEach [] X.env := by rfl) (np : (backTo pos (starEach [] X.env)).any (·.1) = false := by rfl)
    (hs2 : starEach [.Call (.Name "set" p2) [e] [] pos2] X.env = (false, eval (.Call (.Name "set" p2) [e] [] pos2) X.env) :: starEach [] X.env := by rfl) :
    PE X (.Call (.Name "len" p) [.Call (.Name "set" p2) [e] [] pos2] [] pos) (tLenSetT X.K te) := by
  refine ⟨fun pins s σ H Q I h => ?_⟩
  refine wpAny_Call_Name_kw (ld_blt I hg hm (u := .builtin "len") (by rfl) ?_)
  refine PyProof.Rows.callWith_builtin1 (args_cons (Call_ (ld_blt I hg2 hm2 (u := .type "set") (by rfl) (PyProof.Rows.callWith_type1 (args_cons (thn (he.run pins s σ H _ I h) fun u s1 ⟨v, H1, I1, r1, q1⟩ => args_nil ?_) hs) hs rfl))) hs2) hs2 np
  obtain ⟨a, ns, ev, hq, hl, q⟩ := q1
  subst ev
  obtain rfl : u = Value.ref a := r1
  obtain ⟨its, rv, hlt, _⟩ := I1.tuple hq
  refine call_set_tupI ns (I1.ok.hd hc) hlt (by rw [List.toList_toArray]; exact rv.ints) (by unfold scanBound; omega) fun h' tk c hR hle hk => args_nil ?_
  obtain ⟨o, es, ep, t, ho, hx, hd, hgd, hnd, hS, hsz, hft, hn, _, _⟩ := hR
  have hcard : c = (nubI ns).length := by
    rw [← hn, ← Array.length_toList, ← List.length_map (f := keyOf)]
    refine nd_len hnd nub_nodup fun x => ?_
    rw [← hS, mem_nub, decide_eq_true_iff]
  have I2 : Inv X pins σ H1 { s1 with heap := h', toks := tk } := I1.kept hk
  exact call_len_set ho hx hd hft (by unfold scanBound at hsz; omega) ⟨.int ((nubI ns).length : Int), H1, I2.tok _, ⟨_, by rw [hn, hcard]⟩, q⟩
end
end L2
namespace L2
open PySem PySem.Spec PyProof.Rows
section
variable {X : Cx} {CX : CXT} {k : Nat} {f C : Addr} {fd : FuncData} {ps : List Str} {sp : Sp} {E : L2.St → XK} {x : Str} {p pos : Pos} {e : Expr} {es : List Expr} {t : TA} {ds : List Value} {dvs : List V}
def tMakeS (C : Addr) (sp : Sp) (dvs : List V) (E : L2.St → XK) (t : TA) : TE := fun σ H Q => tMake C sp dvs (E σ) t σ H Q
theorem pe_makeS (M : Mk X.K C f) (F : FnOk X.prog X.w X.K X.mg X.base CX k f fd ps sp) (hr : Room (k + 1) X.A) (hg : Gl X x) (hm : X.mg x = some (.ref C)) (hb : Binds X.K fd ps ds) (hd : Vals dvs ds) (hx : ∀ σ, PassesAt CX X σ (E σ))
    (ha : PA X (e :: es) t) (hdb : (x == ("__debug__" : Str)) = false := by decide) (he : starEach (e :: es) X.env = (false, eval e X.env) :: starEach es X.env := by rfl) (hpl : (backTo pos (starEach es X.env)).any (·.1) = false := by rfl) :
    PE X (.Call (.Name x p) (e :: es) [] pos) (tMakeS C sp dvs E t) := by
  refine ⟨fun pins s σ H Q I0 h0 => ?_⟩
  refine wpAny_Call_Name_kw (ld_glob I0 hg hm ?_ hdb)
  refine PySem.W.callWith_K (h₀ := X.base) I0.ok.mod.kin M.kp (thn (ha.run pos pins s σ H _ I0 h0) fun us s1 ⟨vs, H1, I1, r, h⟩ => ⟨I1.kIn, ?_⟩) he hpl
  have q := h (s1.heap.objs.size + 1) s1.heap.objs.size (I1.hok.fresh (Nat.le_succ _)) (I1.hok.fresh (Nat.le_refl _)) (Nat.ne_of_lt (Nat.lt_succ_self _))
  have J := Inv.made (C := C) I1
  have rr : Vals (V.ref (s1.heap.objs.size + 1) :: (vs ++ dvs)) (Value.ref (s1.heap.objs.size + 1) :: (us ++ ds)) := .cons rfl (r.append hd)
  have hl : (Value.ref (s1.heap.objs.size + 1) :: us ++ ds).length = ps.length := (F.len _ _ _ _ q ▸ rr.length).symm
  have run := F.run _ X.stack _ _ ⟨Value.ref (s1.heap.objs.size + 1) :: us, []⟩ (Value.ref (s1.heap.objs.size + 1) :: (us ++ ds)) _ _ (E σ) (hr.make C us []) (J.env0.make C us []) (hb _ (Value.ref (s1.heap.objs.size + 1) :: us) J.kIn hl) rr q
  refine wpAny_call (make_map (f := f) I1.kIn M.makes M.init (beq_iff_eq.mp M.fn) (codeAny_mono run fun z s' hz => ?_))
  match z, hz with
  | .error y, hz => exact hx σ pins _ _ y s' J hz
  | .ok (.ret u), hz =>
    obtain ⟨v, H', J2, rv, ev, q3⟩ := J.after hz
    subst ev
    exact ⟨rv, ⟨V.ref (s1.heap.objs.size + 1), H', J2, rfl, q3⟩⟩
end
end L2
namespace Q
open PySem PySem.Spec PyProof.Rows L2 Evl
open DL
section
variable {α β : Type} {K : PySem.W.Frag} {σ : L2.St} {φ : Fm} {ta te : TE} {rr : Rep α} {as : List α} {a : α}
theorem er_lenSetT {ns : List Int} (h : Er (pr (rTup rInt)) te σ φ ns) (hl : ns.length < 1000) : Er (pr rInt) (tLenSetT K te) σ φ ((nubI ns).length : Int) := fun H1 e Q q => h H1 e _ fun v H2 e2 ⟨p, xs, hv, hp, hal⟩ => by
  subst hv
  have ex := al_rep hal
  subst ex
  exact ⟨p, ns, rfl, SqT.of (part_sub (e.1.trans e2) p _ hp), hl, q _ H2 e2 rfl⟩
section
variable {C : Addr} {F : FRep α} {mg : Str → Option Value} {E : L2.St → XK} {tr : TA} {x : ErrV}
theorem er_makeSX {W : (Fm → List V → Prop) → α ⊕ ErrV → Prop} {P : Fm → List V → Prop} (h : Ea P tr σ φ ∧ MonoP P) (w : W P (.inl a)) : Er (pr (rIns C F)) (tMakeS C (spIX mg C F W) [] E tr) σ φ a := fun H1 hi Q q => er_makeX h w H1 hi Q q
theorem ee_makeSX {W : (Fm → List V → Prop) → α ⊕ ErrV → Prop} {P : Fm → List V → Prop} (h : Ea P tr σ φ ∧ MonoP P) (w : W P (.inr x)) : Ee mg (E σ) x (tMakeS C (spIX mg C F W) [] E tr) σ φ := fun H1 hi hE Q => ee_makeX h w H1 hi hE Q
end
def rAnyU : Rep Unit := ⟨fun _ _ _ => True, fun _ _ => trivial⟩
theorem er_appTmp (h : Eo (oV rr) te σ φ as) (hl : as.length < 100000) (hx : Er (pr rr) ta σ φ a) : Er (pr rAnyU) (tBM K "list" rAppend te (tCons ta tNil)) σ φ () := fun H1 e Q q => h H1 e _ fun v H2 fp e2 hf ⟨p, xs, h1, h2, h3, h4⟩ => by
  subst h1
  refine ⟨Or.inl ⟨rfl, xs, SqL.of h3⟩, hx H2 (e.trans e2) _ fun y H3 e3 hy => ⟨p, xs, y, rfl, rfl, e3 p _ h3, by rw [h4.len]; exact sz_lt hl, ?_⟩⟩
  refine q _ _ ?_ trivial
  have hp : H1 p = none := hf p (by rw [h2]; exact List.mem_singleton.mpr rfl)
  intro c u hc
  have hne : c ≠ p := fun z => by rw [z, hp] at hc; cases hc
  rw [upd_ne hne]
  exact e3 c u (e2 c u hc)
def spGQ (s : Rep β) (W : (Fm → List V → Prop) → List β → Prop) : SpG := fun vs H cont _ => ∃ (φ : Fm) (P : Fm → List V → Prop) (b : List β), φ.In H ∧ MonoP P ∧ W P b ∧ P φ vs ∧ ∀ xs H2, Ex H H2 → Al (s.rel (part φ.F H H2)) xs b → cont xs H2
theorem eo_listMG {F : FRep α} {C : Addr} {m : Str} {tr : TA} {s : Rep β} {bs : List β} {W : (Fm → List V → Prop) → List β → Prop} {P : Fm → List V → Prop} {E : XK} (no : FNo F m) (h : Er (pr (rIns C F)) ta σ φ a) (ha : Ea P tr σ φ ∧ MonoP P) (w : W (HC (pr (rIns C F)) a P) bs) : Eo (oV s) (tListG (tMethG C m (spGQ s W) [] E ta tr)) σ φ bs := fun H1 e Q q =>
  h H1 e _ fun v H2 e2 hv => by
    have hv0 := hv
    obtain ⟨p, dx, fs, hp, hi, hF⟩ := hv
    refine ⟨p, dx, fs, hp, (Fm.go_in e e2).1 _ _ hi, no _ fs a hF, ha.1 H2 (e.trans e2) _ fun vs H3 e3 k => ?_⟩
    refine ⟨φ.go H1 H3, HC (pr (rIns C F)) a P, bs, Fm.go_in e (e2.trans e3), mono_cons ha.2, w, ⟨v, vs, by rw [List.append_nil], (rIns C F).mono (part_up e3) hv0, ha.2 _ _ _ (Fm.back e2) k⟩, fun xs H4 e4 hal l hl => ?_⟩
    exact q_newV e.1 ((e2.trans e3).trans e4) hl (hal.imp fun _ _ z => s.mono (part_part (e2.trans e3) (Ex.refl H3) e4) z) q
theorem g_yields {r : AR α} {Gb F0 H0 G H : Hp} {sl : List Slot} {wi : L2.TI} {g : TG} {js : List Nat} {T : α → List Slot → List Slot} {tc : TT} {s : Rep β} {p : α → Bool} {m : α → β} {D : GEnds} (w : WB Gb F0 H0 G H) (f : Fits H0 G H sl σ) (hs : Rd ⟨G, H0⟩ (hide sl) σ → Src wi σ ⟨G, H0⟩ r as) (hg : Tgt g r js T)
    (hwk : ∀ a, Weak (T a sl) sl) (hlen : as.length < 100000)
    (hb : ∀ a ∈ as, ∀ σ G H, Wd F0 H0 G H → Fits H0 G H (T a sl) σ → Et tc σ ⟨G, H⟩ (p a) ∧ Er (pr s) te σ ⟨G, H⟩ (m a))
    (L : ∀ vs σ' H2, Ex H0 H2 → Al (s.rel (part F0 H0 H2)) vs ((as.filter p).map m) → D.nx vs σ' H2) :
    tGFor wi g (tGThen (tGIf tc (tGThen (tGYield te) tG0) tG0) tG0) D [] σ H := by
  refine hs f.rd0 H ⟨w.sub, w.up⟩ _ fun J H1 e1 wk => ?_
  refine ⟨fun i k ys σ' H' => k = as.length - i ∧ i ≤ as.length ∧ ∃ G', Wd F0 H0 G' H' ∧ Ex (part G H H1) G' ∧ Fits H0 G' H' sl σ' ∧ Al (s.rel G') ys (((as.take i).filter p).map m), ⟨as.length, by omega, Nat.zero_le _, part G H H1, w.ev e1, Ex.refl _, f.go (stp_ev e1), .nil⟩, ?_⟩
  rintro i k ys σ' H' ⟨rfl, hi, G', w', eG, f', hal⟩
  have hIn : (Fm.go ⟨G, H0⟩ H H1).In H' := ⟨eG.trans w'.sub, w'.up⟩
  by_cases hlt : i < as.length
  · refine .inr ⟨wk.goes i H' hlt hIn, fun ys' σ'' H'' => ∃ G'', Wd F0 H0 G'' H'' ∧ Ex (part G H H1) G'' ∧ Fits H0 G'' H'' sl σ'' ∧ Al (s.rel G'') ys' (((as.take (i + 1)).filter p).map m), fun ys' σ'' H'' p' => ⟨as.length - (i + 1), by omega, rfl, hlt, p'⟩, fun x H'' yl => ?_⟩
    obtain ⟨y1, a, y2, y3⟩ := wk.yields i H' x H'' hlt hIn yl
    have et : as.take (i + 1) = as.take i ++ [a] := by
      rw [List.take_add_one, y2]
      rfl
    have w2 := w'.ev y1
    have le : Fm.le ((Fm.go ⟨G, H0⟩ H H1).go H' H'') ⟨part G' H' H'', H0⟩ := ⟨part_frame eG w'.sub, Ex.refl _⟩
    refine hg.run ⟨part G' H' H'', H0⟩ H'' x a σ' _ ⟨w2.sub, w2.up⟩ (r.mono le y3) fun σ2 _ _ hf => ?_
    have f2 := hf _ (f'.go (stp_ev y1))
    obtain ⟨h1, h2⟩ := hb a (List.mem_of_getElem? y2) σ2 _ H'' w2 f2
    have hysl : ys.length ≤ as.length := by
      rw [hal.len, List.length_map]
      exact Nat.le_trans (List.length_filter_le _ _) (by rw [List.length_take]; omega)
    show tc σ2 H'' _
    refine h1 H'' ⟨w2.sub, Ex.refl _⟩ _ fun H3 e3 => ?_
    have w3 := w2.ev e3
    have f3 := (f2.go (stp_ev (G := part G' H' H'') e3)).weak (hwk a)
    have al3 : Al (s.rel (part (part G' H' H'') H'' H3)) ys (((as.take i).filter p).map m) := hal.imp fun _ _ z => s.mono (part_ex.trans part_ex) z
    by_cases hp : p a = true
    · rw [if_pos hp]
      refine ⟨by rw [sizeLine_eq]; omega, ?_⟩
      obtain ⟨_, h4⟩ := hb a (List.mem_of_getElem? y2) σ2 _ H3 w3 (f2.go (stp_ev (G := part G' H' H'') e3))
      refine h4 H3 ⟨w3.sub, Ex.refl _⟩ _ fun v H4 e4 hv => ?_
      refine ⟨part (part (part G' H' H'') H'' H3) H3 H4, w3.ev e4, eG.trans (part_ex.trans (part_ex.trans part_ex)), f3.go (stp_ev e4), ?_⟩
      rw [et, List.filter_append, List.map_append, show [a].filter p = [a] from by rw [List.filter_cons, if_pos hp]; rfl]
      exact (al3.imp fun _ _ z => s.mono part_ex z).app (.cons hv .nil)
    · rw [if_neg hp]
      refine ⟨part (part G' H' H'') H'' H3, w3, eG.trans (part_ex.trans part_ex), f3, ?_⟩
      rw [et, List.filter_append, List.map_append, show [a].filter p = [] from by rw [List.filter_cons, if_neg hp]; rfl, List.map_nil, List.append_nil]
      exact al3
  · have ei : i = as.length := by omega
    subst ei
    rw [List.take_length] at hal
    refine .inl ⟨wk.stops H' hIn, L ys σ' H' w'.up (hal.imp fun _ _ z => s.mono w'.into z)⟩
end
theorem g_then {t : TS} {u : TGn} {D : GEnds} {ys : List V} {σ : L2.St} {H : Hp} (h : tSeq t (fun _ σ' H' => u D ys σ' H') (D.at ys) σ H) : tGThen (tPlain t) u D ys σ H := h
theorem g_last {t : TGn} {D : GEnds} {ys : List V} {σ : L2.St} {H : Hp} (h : t { D with nx := fun ys' σ' H' => tG0 D ys' σ' H' } ys σ H) : tGThen t tG0 D ys σ H := h
theorem passG0 {X : Cx} : Passes (CX X.prog X.w) X E0 := DL.passG
def allI : List (Option Int) → Option (List Int)
  | [] => some []
  | none :: _ => none
  | some x :: l => (allI l).bind fun r => some (x :: r)
theorem allI_map : ∀ {as : List (Option Int)} {ns : List Int}, allI as = some ns → as = ns.map some
  | [], ns, h => by cases h; rfl
  | none :: _, ns, h => by cases h
  | some x :: l, ns, h => by
    unfold allI at h
    cases hl : allI l with
    | none => rw [hl] at h; cases h
    | some r =>
      rw [hl] at h
      cases h
      rw [allI_map hl]
      rfl
theorem er_sumOpt {K : PySem.W.Frag} {σ : L2.St} {φ : Fm} {ta : TE} {as : List (Option Int)} {ns : List Int} (h : Er (rB (pr (rOpt rInt))) ta σ φ as) (e : allI as = some ns) : Er (pr rInt) (tCB (rSum K) (tCons ta tNil)) σ φ ns.sum := by
  have ea := allI_map e
  subst ea
  refine er_sum fun H1 hi Q q => h H1 hi Q fun v H2 e2 ⟨p, xs, hx, hp, hal⟩ => q v H2 e2 ⟨p, xs, hx, hp, ?_⟩
  have conv : ∀ {xs : List V} {ns : List Int}, Al ((pr (rOpt rInt)).rel (φ.go H1 H2)) xs (ns.map some) → Al ((pr rInt).rel (φ.go H1 H2)) xs ns := by
    intro xs ns
    induction ns generalizing xs with
    | nil => intro h; cases h; exact .nil
    | cons n ns ih => intro h; cases h with | cons h1 h2 => exact .cons h1 (ih h2)
  exact conv hal
end Q
set_option Elab.async false
set_option linter.all false
set_option maxRecDepth 100000
set_option maxHeartbeats 4000000
namespace ZNm
open PySem PySem.Spec PyProof.Rows L2
abbrev ZO (h : Heap) (z TI TO : Addr) (v : Value) (f : Bool) : Prop :=
  h.get? z = some { cls := .type "zip", dict := none, data := .fields #[v, .bool f, .bool false, .ref TI, .ref TO], slots := #[] }
def Held (v : Value) : Prop := v = .none ∨ ∃ T : Nat, v = rawInt (T : Int)
section
variable {prog : Program} {w : World} {A : Around} {E : Value → Shared → Prop} {s : Shared}
theorem wpAny_alive {a : Addr} {Q : Option Obj → Shared → Prop} (h : Q (s.heap.get? a) s) : wpAny (model prog w) A (loadIfAlive a) Q E s := fun _ _ _ => h
theorem own_free {z TI TO : Addr} {v : Value} {f : Bool} {Q : Bool → Shared → Prop} (hz : ZO s.heap z TI TO v f) (hv : Held v) (h1 : Q true s)
    (h2 : ∀ h', ZO h' z TI TO v true → Heap.SameBut z s.heap h' → Q false { s with heap := h' }) : wpAny (model prog w) A (Builtin.SmallTypes.ownedTupleIsFree (.ref z)) Q E s := by
  unfold Builtin.SmallTypes.ownedTupleIsFree
  rcases hv with rfl | ⟨T, rfl⟩
  · exact wpAny_bind (wpAny_field hz rfl (x := .none) rfl (wpAny_pure h1))
  · refine wpAny_bind (wpAny_field hz rfl (x := rawInt T) rfl ?_)
    show wpAny _ _ (loadIfAlive ((T : Int).toNat) >>= _) _ _ _
    rw [Int.toNat_natCast]
    refine wpAny_bind (wpAny_alive ?_)
    cases hT : s.heap.get? T with
    | none =>
      simp only [Option.isNone_none, if_true]
      exact wpAny_pure h1
    | some oT =>
      simp only [Option.isNone_some, Bool.false_eq_true, if_false]
      refine wpAny_bind (wpAny_field hz rfl (x := .bool f) rfl ?_)
      cases f with
      | true =>
        rw [if_neg (show ¬ ((Value.bool true != Value.bool true) = true) from Bool.false_ne_true)]
        exact wpAny_pure (h2 s.heap hz (Heap.SameBut.refl _ _))
      | false =>
        rw [if_pos (show (Value.bool false != Value.bool true) = true from rfl)]
        exact wpAny_bind (wpAny_setField_rec hz (by simp) fun h₁ hz₁ hs₁ => wpAny_pure (h2 h₁ hz₁ hs₁))
end
section
variable {prog : Program} {w : World} {A : Around} {E : Value → Shared → Prop} {s : Shared} {z TI TO i1 i2 : Addr} {fp1 fp2 : List Addr} {n1 n2 i : Nat} {P1 P2 : Nat → Value → Prop} {St1 St2 : Nat → Heap → Prop} {a1 a2 v : Value} {f : Bool}
theorem next_item {Q : Value → Shared → Prop} (S : ZipSep2 z TI TO i1 i2 fp1 fp2) (D1 : Draws prog w A i1 fp1 n1 P1 St1) (D2 : Draws prog w A i2 fp2 n2 P2 St2)
    (hz : ZO s.heap z TI TO v f) (hv : Held v) (hTI : IsTupOf2 s.heap TI (.ref i1) (.ref i2)) (hTO : IsTupOf2 s.heap TO a1 a2) (st1 : St1 i s.heap) (st2 : St2 i s.heap) (hlt1 : i < n1) (hlt2 : i < n2)
    (hQ : ∀ x1 x2 h' tk v' f', P1 i x1 → P2 i x2 → ZO h' z TI TO v' f' → Held v' → (∃ a1 a2, IsTupOf2 h' TO a1 a2) → St1 (i + 1) h' → St2 (i + 1) h' → IsTupOf2 h' s.heap.objs.size x1 x2 → h'.objs.size = s.heap.objs.size + 1 →
      (∀ c o, c ≠ z → c ≠ TO → c ≠ i1 → c ≠ i2 → s.heap.get? c = some o → h'.get? c = some o) → Q (.ref s.heap.objs.size) { s with heap := h', toks := tk }) :
    wpAny (model prog w) A (Builtin.«zip.__next__» ⟨[.ref z], []⟩) (fun fin s' => ∃ v, fin = .done (.ret v) ∧ Q v s') E s := by
  obtain ⟨hp, g, d, tk0, os⟩ := s
  show wpAny _ _ (field (.ref z) 2 >>= _) _ _ _
  refine wpAny_bind (wpAny_field hz rfl (x := .bool false) rfl ?_)
  show wpAny _ _ (field (.ref z) 3 >>= _) _ _ _
  refine wpAny_bind (wpAny_field hz rfl (x := .ref TI) rfl ?_)
  refine wpAny_bind (wpAny_seqItems hTI rfl ?_)
  show wpAny _ _ (Builtin.SmallTypes.ownedTupleIsFree (.ref z) >>= _) _ _ _
  refine wpAny_bind (own_free hz hv ?_ fun h₁ hz₁ hs₁ => ?_)
  · simp only [if_true]
    refine wpAny_bind (wpAny_rule ?_)
    refine wpAny_bind (wpAny_field hz rfl (x := .ref TO) rfl ?_)
    refine wpAny_bind (wpAny_setField_rec hz (by simp) fun g0 hz0 hs0 => ?_)
    replace hz0 : ZO g0 z TI TO .ellipsis f := hz0
    replace hs0 : Heap.SameBut z hp g0 := hs0
    refine wpAny_bind ?_
    simp only [List.zipIdx_cons, List.zipIdx_nil, List.forIn_cons, List.forIn_nil]
    refine wpAny_bind (wpAny_bind (wpAny_onRaise ?_))
    show wpAny _ _ (Builtin.SmallTypes.nextOf (.ref i1) >>= _) _ _ ⟨g0, g, d, tk0, os⟩
    refine wpAny_bind (D1.item i _ _ _ hlt1 (D1.over st1 hs0 S.zf1) fun x1 p1 tk1 hx1 sn1 hp1 => wpAny_pure ?_)
    replace hp1 : Heap.SameBut i1 g0 p1 := hp1
    have hU1 : IsTupOf2 p1 TO a1 a2 := hp1.extBut _ _ S.Ti1 (hs0.extBut _ _ S.TOz hTO)
    refine wpAny_bind (wpAny_seqItems (s := ⟨p1, g, d, tk1, os⟩) hU1 rfl ?_)
    refine wpAny_bind (updateSeq_IsTupOf2 (s := ⟨p1, g, d, tk1, os⟩) hU1 fun g1 hT1 hs1 => ?_)
    replace hT1 : IsTupOf2 g1 TO x1 a2 := hT1
    replace hs1 : Heap.SameBut TO p1 g1 := hs1
    refine wpAny_bind (wpAny_letGo (wpAny_pure ?_))
    refine wpAny_bind (wpAny_bind (wpAny_onRaise ?_))
    show wpAny _ _ (Builtin.SmallTypes.nextOf (.ref i2) >>= _) _ _ ⟨g1, g, d, tk1, os⟩
    refine wpAny_bind (D2.item i _ _ _ hlt2 (D2.over (D2.over (D2.over st2 hs0 S.zf2) hp1 S.sep1_2) hs1 S.Tf2) fun x2 p2 tk2 hx2 sn2 hp2 => wpAny_pure ?_)
    replace hp2 : Heap.SameBut i2 g1 p2 := hp2
    have hU2 : IsTupOf2 p2 TO x1 a2 := hp2.extBut _ _ S.Ti2 hT1
    refine wpAny_bind (wpAny_seqItems (s := ⟨p2, g, d, tk2, os⟩) hU2 rfl ?_)
    refine wpAny_bind (updateSeq_IsTupOf2 (s := ⟨p2, g, d, tk2, os⟩) hU2 fun g2 hT2 hs2 => ?_)
    replace hT2 : IsTupOf2 g2 TO x1 x2 := hT2
    replace hs2 : Heap.SameBut TO p2 g2 := hs2
    refine wpAny_bind (wpAny_letGo (wpAny_pure (wpAny_pure ?_)))
    refine wpAny_bind (wpAny_seqItems (s := ⟨g2, g, d, tk2, os⟩) hT2 rfl ?_)
    refine wpAny_bind (wpAny_newTuple ?_)
    have hsz : g2.objs.size = hp.objs.size := by rw [hs2.1, hp2.1, hs1.1, hp1.1, hs0.1]
    have hzz : ZO g2 z TI TO .ellipsis f := (hs2.extBut _ _ S.TOz.symm (hp2.extBut _ _ S.zi2 (hs1.extBut _ _ S.TOz.symm (hp1.extBut _ _ S.zi1 hz0))))
    have hkk : ∀ c o, c ≠ z → c ≠ TO → c ≠ i1 → c ≠ i2 → hp.get? c = some o → g2.get? c = some o := fun c o cz cT c1 c2 e =>
      (hs2.extBut _ _ cT (hp2.extBut _ _ c2 (hs1.extBut _ _ cT (hp1.extBut _ _ c1 (hs0.extBut _ _ cz e)))))
    have hj1 : St1 (i + 1) g2 := (D1.over (D1.over (D1.over sn1 hs1 S.Tf1) hp2 S.sep2_1) hs2 S.Tf1)
    have hj2 : St2 (i + 1) g2 := (D2.over sn2 hs2 S.Tf2)
    have hzlt : z < g2.objs.size := Heap.lt_size hzz
    show wpAny _ _ (Builtin.SmallTypes.ownedTupleHandOut (.ref z) (.ref g2.objs.size) >>= _) _ _ ⟨g2.push { cls := .type "tuple", data := .seq #[x1, x2] }, g, d, tk2, os⟩
    refine wpAny_bind ?_
    unfold Builtin.SmallTypes.ownedTupleHandOut
    have hz₆ : ZO (g2.push { cls := .type "tuple", data := .seq #[x1, x2] }) z TI TO .ellipsis f := Heap.get?_push_of_some _ hzz
    refine wpAny_bind (wpAny_setField_rec hz₆ (by simp) fun h₇ hz₇ hs₇ => ?_)
    replace hz₇ : ZO h₇ z TI TO (rawInt g2.objs.size) f := hz₇
    refine wpAny_setField_rec hz₇ (by simp) fun h₈ hz₈ hs₈ => ?_
    replace hz₈ : ZO h₈ z TI TO (rawInt g2.objs.size) false := hz₈
    replace hs₇ : Heap.SameBut z (g2.push { cls := .type "tuple", data := .seq #[x1, x2] }) h₇ := hs₇
    replace hs₈ : Heap.SameBut z h₇ h₈ := hs₈
    have up : ∀ c o, c ≠ z → g2.get? c = some o → h₈.get? c = some o := fun c o c1 e => hs₈.extBut _ _ c1 (hs₇.extBut _ _ c1 (Heap.get?_push_of_some _ e))
    have hT₈ : IsTupOf2 h₈ g2.objs.size x1 x2 := hs₈.extBut _ _ (Nat.ne_of_gt hzlt) (hs₇.extBut _ _ (Nat.ne_of_gt hzlt) (Heap.get?_push_size _ rfl))
    have hz8 : h₈.objs.size = g2.objs.size + 1 := by rw [hs₈.1, hs₇.1, Heap.size_push]
    rw [hsz] at hz₈ hT₈ hz8
    refine wpAny_pure ⟨_, rfl, ?_⟩
    show Q (.ref g2.objs.size) ⟨h₈, g, d, tk2, os⟩
    rw [hsz]
    exact hQ x1 x2 h₈ tk2 _ _ hx1 hx2 hz₈ (.inr ⟨_, rfl⟩) ⟨_, _, up _ _ S.TOz hT2⟩ (D1.frame _ _ _ hj1 fun b hb o e => up b o (fun q => S.zf1 (q ▸ hb)) e) (D2.frame _ _ _ hj2 fun b hb o e => up b o (fun q => S.zf2 (q ▸ hb)) e) hT₈ hz8 fun c o cz cT c1 c2 e => up c o cz (hkk c o cz cT c1 c2 e)
  · simp only [Bool.false_eq_true, if_false]
    replace hs₁ : Heap.SameBut z hp h₁ := hs₁
    refine wpAny_bind ?_
    rw [← Array.forIn_toList]
    simp only [List.forIn_cons, List.forIn_nil]
    refine wpAny_bind (wpAny_bind (wpAny_holding ?_))
    show wpAny _ _ (Builtin.SmallTypes.nextOf (.ref i1) >>= _) _ _ ⟨h₁, g, d, tk0, os⟩
    refine wpAny_bind (D1.item i _ _ _ hlt1 (D1.over st1 hs₁ S.zf1) fun x1 p1 tk1 hx1 sn1 hp1 => wpAny_pure ?_)
    replace hp1 : Heap.SameBut i1 h₁ p1 := hp1
    refine wpAny_pure ?_
    refine wpAny_bind (wpAny_bind (wpAny_holding ?_))
    show wpAny _ _ (Builtin.SmallTypes.nextOf (.ref i2) >>= _) _ _ ⟨p1, g, d, tk1, os⟩
    refine wpAny_bind (D2.item i _ _ _ hlt2 (D2.over (D2.over st2 hs₁ S.zf2) hp1 S.sep1_2) fun x2 p2 tk2 hx2 sn2 hp2 => wpAny_pure ?_)
    replace hp2 : Heap.SameBut i2 p1 p2 := hp2
    refine wpAny_pure (wpAny_pure ?_)
    show wpAny _ _ (newTuple [x1, x2] >>= _) _ _ _
    refine wpAny_bind (wpAny_newTuple ?_)
    have hsz : p2.objs.size = hp.objs.size := by rw [hp2.1, hp1.1, hs₁.1]
    have hz₃ : ZO p2 z TI TO v true := hp2.extBut _ _ S.zi2 (hp1.extBut _ _ S.zi1 hz₁)
    have hk : ∀ c o, c ≠ z → c ≠ TO → c ≠ i1 → c ≠ i2 → hp.get? c = some o → p2.get? c = some o := fun c o c1 _ c2 c3 e => hp2.extBut _ _ c3 (hp1.extBut _ _ c2 (hs₁.extBut _ _ c1 e))
    have hU : IsTupOf2 p2 TO a1 a2 := hp2.extBut _ _ S.Ti2 (hp1.extBut _ _ S.Ti1 (hs₁.extBut _ _ S.TOz hTO))
    have hj1 : St1 (i + 1) p2 := D1.over sn1 hp2 S.sep2_1
    refine wpAny_pure ⟨_, rfl, ?_⟩
    show Q (.ref p2.objs.size) _
    have hp' : IsTupOf2 (p2.push { cls := .type "tuple", data := .seq #[x1, x2] }) p2.objs.size x1 x2 := Heap.get?_push_size _ rfl
    have hz4 : (p2.push { cls := .type "tuple", data := .seq #[x1, x2] }).objs.size = p2.objs.size + 1 := Heap.size_push ..
    rw [hsz] at hp' hz4 ⊢
    exact hQ x1 x2 _ tk2 _ _ hx1 hx2 (Heap.get?_push_of_some _ hz₃) hv ⟨_, _, Heap.get?_push_of_some _ hU⟩ (D1.frame _ _ _ hj1 fun b hb o e => Heap.get?_push_of_some _ e) (D2.frame _ _ _ sn2 fun b hb o e => Heap.get?_push_of_some _ e) hp' hz4 fun c o c0 c1 c2 c3 e => Heap.get?_push_of_some _ (hk c o c0 c1 c2 c3 e)
theorem next_end {Q : Fin → Shared → Prop} (S : ZipSep2 z TI TO i1 i2 fp1 fp2) (D1 : Draws prog w A i1 fp1 n1 P1 St1) (D2 : Draws prog w A i2 fp2 n2 P2 St2)
    (hz : ZO s.heap z TI TO v f) (hv : Held v) (hTI : IsTupOf2 s.heap TI (.ref i1) (.ref i2)) (hTO : IsTupOf2 s.heap TO a1 a2) (st1 : St1 i s.heap) (st2 : St2 i s.heap) (hle1 : i ≤ n1) (hle2 : i ≤ n2) (hend : i = n1 ∨ i = n2)
    (hE : ∀ h' tk e, (∀ c o, c ≠ z → c ≠ TO → c ≠ i1 → c ≠ i2 → s.heap.get? c = some o → h'.get? c = some o) → (∃ o, h'.get? e = some o ∧ o.cls = .type "StopIteration") → E (.ref e) { s with heap := h', toks := tk }) :
    wpAny (model prog w) A (Builtin.«zip.__next__» ⟨[.ref z], []⟩) Q E s := by
  obtain ⟨hp, g, d, tk0, os⟩ := s
  show wpAny _ _ (field (.ref z) 2 >>= _) _ _ _
  refine wpAny_bind (wpAny_field hz rfl (x := .bool false) rfl ?_)
  show wpAny _ _ (field (.ref z) 3 >>= _) _ _ _
  refine wpAny_bind (wpAny_field hz rfl (x := .ref TI) rfl ?_)
  refine wpAny_bind (wpAny_seqItems hTI rfl ?_)
  show wpAny _ _ (Builtin.SmallTypes.ownedTupleIsFree (.ref z) >>= _) _ _ _
  refine wpAny_bind (own_free hz hv ?_ fun h₁ hz₁ hs₁ => ?_)
  · simp only [if_true]
    refine wpAny_bind (wpAny_rule ?_)
    refine wpAny_bind (wpAny_field hz rfl (x := .ref TO) rfl ?_)
    refine wpAny_bind (wpAny_setField_rec hz (by simp) fun g0 hz0 hs0 => ?_)
    replace hz0 : ZO g0 z TI TO .ellipsis f := hz0
    replace hs0 : Heap.SameBut z hp g0 := hs0
    refine wpAny_bind ?_
    simp only [List.zipIdx_cons, List.zipIdx_nil, List.forIn_cons, List.forIn_nil]
    refine wpAny_bind (wpAny_bind (wpAny_onRaise ?_))
    show wpAny _ _ (Builtin.SmallTypes.nextOf (.ref i1) >>= _) _ _ ⟨g0, g, d, tk0, os⟩
    by_cases hlt1 : i < n1
    · refine wpAny_bind (D1.item i _ _ _ hlt1 (D1.over st1 hs0 S.zf1) fun x1 p1 tk1 hx1 sn1 hp1 => wpAny_pure ?_)
      replace hp1 : Heap.SameBut i1 g0 p1 := hp1
      have hU1 : IsTupOf2 p1 TO a1 a2 := hp1.extBut _ _ S.Ti1 (hs0.extBut _ _ S.TOz hTO)
      refine wpAny_bind (wpAny_seqItems (s := ⟨p1, g, d, tk1, os⟩) hU1 rfl ?_)
      refine wpAny_bind (updateSeq_IsTupOf2 (s := ⟨p1, g, d, tk1, os⟩) hU1 fun g1 hT1 hs1 => ?_)
      replace hT1 : IsTupOf2 g1 TO x1 a2 := hT1
      replace hs1 : Heap.SameBut TO p1 g1 := hs1
      refine wpAny_bind (wpAny_letGo (wpAny_pure ?_))
      have hi2 : i = n2 := by omega
      refine wpAny_bind (wpAny_bind (wpAny_onRaise ?_))
      show wpAny _ _ (Builtin.SmallTypes.nextOf (.ref i2) >>= _) _ _ ⟨g1, g, d, tk1, os⟩
      refine wpAny_bind (D2.done ⟨g1, g, d, tk1, os⟩ _ _ (by rw [← hi2]; exact (D2.over (D2.over (D2.over st2 hs0 S.zf2) hp1 S.sep1_2) hs1 S.Tf2)) fun q e hq he => ?_)
      replace hq : Heap.ExtBut i2 g1 q := hq
      obtain ⟨oe, hoe, hce⟩ := he
      replace hoe : q.get? e = some oe := hoe
      have hzq : ZO q z TI TO .ellipsis f := hq _ _ S.zi2 (hs1.extBut _ _ S.TOz.symm (hp1.extBut _ _ S.zi1 hz0))
      have hez : e ≠ z := fun x => by subst x; rw [hzq] at hoe; cases hoe; simp at hce
      refine wpAny_setField_rec (s := ⟨q, g, d, tk1, os⟩) hzq (by simp) fun q' _ hq' => ?_
      replace hq' : Heap.SameBut z q q' := hq'
      exact hE q' tk1 e (fun c o cz cT c1 c2 x => hq'.extBut _ _ cz (hq _ _ c2 (hs1.extBut _ _ cT (hp1.extBut _ _ c1 (hs0.extBut _ _ cz x))))) ⟨oe, hq'.extBut _ _ hez hoe, hce⟩
    · have hi1 : i = n1 := by omega
      refine wpAny_bind (D1.done ⟨g0, g, d, tk0, os⟩ _ _ (by rw [← hi1]; exact (D1.over st1 hs0 S.zf1)) fun q e hq he => ?_)
      replace hq : Heap.ExtBut i1 g0 q := hq
      obtain ⟨oe, hoe, hce⟩ := he
      replace hoe : q.get? e = some oe := hoe
      have hzq : ZO q z TI TO .ellipsis f := hq _ _ S.zi1 hz0
      have hez : e ≠ z := fun x => by subst x; rw [hzq] at hoe; cases hoe; simp at hce
      refine wpAny_setField_rec (s := ⟨q, g, d, tk0, os⟩) hzq (by simp) fun q' _ hq' => ?_
      replace hq' : Heap.SameBut z q q' := hq'
      exact hE q' tk0 e (fun c o cz cT c1 c2 x => hq'.extBut _ _ cz (hq _ _ c1 (hs0.extBut _ _ cz x))) ⟨oe, hq'.extBut _ _ hez hoe, hce⟩
  · simp only [Bool.false_eq_true, if_false]
    replace hs₁ : Heap.SameBut z hp h₁ := hs₁
    refine wpAny_bind ?_
    rw [← Array.forIn_toList]
    simp only [List.forIn_cons, List.forIn_nil]
    refine wpAny_bind (wpAny_bind (wpAny_holding ?_))
    show wpAny _ _ (Builtin.SmallTypes.nextOf (.ref i1) >>= _) _ _ ⟨h₁, g, d, tk0, os⟩
    by_cases hlt1 : i < n1
    · have hi2 : i = n2 := by omega
      refine wpAny_bind (D1.item i _ _ _ hlt1 (D1.over st1 hs₁ S.zf1) fun x1 p1 tk1 hx1 sn1 hp1 => wpAny_pure ?_)
      replace hp1 : Heap.SameBut i1 h₁ p1 := hp1
      refine wpAny_pure ?_
      refine wpAny_bind (wpAny_bind (wpAny_holding ?_))
      show wpAny _ _ (Builtin.SmallTypes.nextOf (.ref i2) >>= _) _ _ ⟨p1, g, d, tk1, os⟩
      refine wpAny_bind (D2.done ⟨p1, g, d, tk1, os⟩ _ _ (by rw [← hi2]; exact (D2.over (D2.over st2 hs₁ S.zf2) hp1 S.sep1_2)) fun q e hq he => ?_)
      replace hq : Heap.ExtBut i2 p1 q := hq
      exact hE q tk1 e (fun c o cz cT c1 c2 x => hq _ _ c2 (hp1.extBut _ _ c1 (hs₁.extBut _ _ cz x))) he
    · have hi1 : i = n1 := by omega
      refine wpAny_bind (D1.done ⟨h₁, g, d, tk0, os⟩ _ _ (by rw [← hi1]; exact (D1.over st1 hs₁ S.zf1)) fun q e hq he => ?_)
      replace hq : Heap.ExtBut i1 h₁ q := hq
      exact hE q tk0 e (fun c o cz cT c1 c2 x => hq _ _ c1 (hs₁.extBut _ _ cz x)) he
theorem pyNext_item {Q : Option Value → Shared → Prop} (S : ZipSep2 z TI TO i1 i2 fp1 fp2) (D1 : Draws prog w A.in1 i1 fp1 n1 P1 St1) (D2 : Draws prog w A.in1 i2 fp2 n2 P2 St2)
    (hz : ZO s.heap z TI TO v f) (hv : Held v) (hTI : IsTupOf2 s.heap TI (.ref i1) (.ref i2)) (hTO : IsTupOf2 s.heap TO a1 a2) (st1 : St1 i s.heap) (st2 : St2 i s.heap) (hlt1 : i < n1) (hlt2 : i < n2)
    (hQ : ∀ x1 x2 h' tk v' f', P1 i x1 → P2 i x2 → ZO h' z TI TO v' f' → Held v' → (∃ a1 a2, IsTupOf2 h' TO a1 a2) → St1 (i + 1) h' → St2 (i + 1) h' → IsTupOf2 h' s.heap.objs.size x1 x2 → h'.objs.size = s.heap.objs.size + 1 →
      (∀ c o, c ≠ z → c ≠ TO → c ≠ i1 → c ≠ i2 → s.heap.get? c = some o → h'.get? c = some o) → Q (some (.ref s.heap.objs.size)) { s with heap := h', toks := tk }) :
    wpAny (model prog w) A (pyNext (.ref z)) Q E s := by
  have hT : s.TypeIs (.ref z) "zip" := ⟨_, hz, rfl⟩
  unfold pyNext
  exact wpAny_bind (wpAny_attempt (wpAny_callSpecial?_slot (name := Str.ofString "__next__") hT F.slot_zip_next
    (wpAny_call_entry F.slot_zip_next hT F.entry_zip_next
      (next_item S D1 D2 hz hv hTI hTO st1 st2 hlt1 hlt2 fun x1 x2 h' tk v' f' y1 y2 b1 b2 b3 d1 d2 b5 b6 b7 => wpAny_pure (hQ x1 x2 h' tk v' f' y1 y2 b1 b2 b3 d1 d2 b5 b6 b7)) (F.args_zip_next_1 _))))
theorem pyNext_end {Q : Option Value → Shared → Prop} (S : ZipSep2 z TI TO i1 i2 fp1 fp2) (D1 : Draws prog w A.in1 i1 fp1 n1 P1 St1) (D2 : Draws prog w A.in1 i2 fp2 n2 P2 St2)
    (hz : ZO s.heap z TI TO v f) (hv : Held v) (hTI : IsTupOf2 s.heap TI (.ref i1) (.ref i2)) (hTO : IsTupOf2 s.heap TO a1 a2) (st1 : St1 i s.heap) (st2 : St2 i s.heap) (hle1 : i ≤ n1) (hle2 : i ≤ n2) (hend : i = n1 ∨ i = n2)
    (hQ : ∀ h' tk, (∀ c o, c ≠ z → c ≠ TO → c ≠ i1 → c ≠ i2 → s.heap.get? c = some o → h'.get? c = some o) → Q none { s with heap := h', toks := tk }) : wpAny (model prog w) A (pyNext (.ref z)) Q E s := by
  have hT : s.TypeIs (.ref z) "zip" := ⟨_, hz, rfl⟩
  unfold pyNext
  refine wpAny_bind (wpAny_attempt (wpAny_callSpecial?_slot (name := Str.ofString "__next__") hT F.slot_zip_next
    (wpAny_call_entry F.slot_zip_next hT F.entry_zip_next (next_end S D1 D2 hz hv hTI hTO st1 st2 hle1 hle2 hend fun h' tk e hk he => ?_) (F.args_zip_next_1 _))))
  obtain ⟨o, ho, hc⟩ := he
  refine wpAny_bind (wpAny_isInstance (T := "StopIteration") (b := true) ⟨o, ho, hc⟩ isSubtype_stop ?_)
  exact wpAny_pure (hQ _ _ hk)
theorem pyIter_self {Q : Value → Shared → Prop} (hz : ZO s.heap z TI TO v f) (h : Q (.ref z) s) : wpAny (model prog w) A (pyIter (.ref z)) Q E s := by
  have hT : s.TypeIs (.ref z) "zip" := ⟨_, hz, rfl⟩
  refine wpAny_pyIter_slot hT F.slot_zip_iter (wpAny_call_entry F.slot_zip_iter hT F.entry_zip_iter ?_ (F.args_zip_iter_1 _))
  show wpAny _ _ (ret (.ref z)) _ _ s
  exact wpAny_pure ⟨_, rfl, "zip", _, hT, F.slot_zip_next.lookup, h⟩
end
def ItN (K : PySem.W.Frag) (a b : Addr) : It where
  go := fun i H => ∃ xs ys x y, SqT K H a xs ∧ SqT K H b ys ∧ xs[i]? = some x ∧ ys[i]? = some y
  yld := fun i H v H' => ∃ (T : Addr) (x y : V), v = .ref T ∧ H T = none ∧ H' = upd H T (.tup [x, y]) ∧ (∀ xs, SqT K H a xs → xs[i]? = some x) ∧ ∀ ys, SqT K H b ys → ys[i]? = some y
  stop := fun i H => ∃ xs ys, SqT K H a xs ∧ SqT K H b ys ∧ i = min xs.length ys.length
theorem turn_zipN {P : Program} {w : World} {K : PySem.W.Frag} {nm : String} {tpos : Pos} {a b z TI TO i1 i2 : Addr} (S : ZipSep2 z TI TO i1 i2 [i1, a] [i2, b]) (ne1 : a ≠ i1) (ne2 : b ≠ i2) :
    Turn P w K (.Name nm tpos) (ItN K a b) [z, TI, TO, i1, i2] z (fun i h => (∃ v f, ZO h z TI TO v f ∧ Held v) ∧ IsTupOf2 h TI (.ref i1) (.ref i2) ∧ (∃ a1 a2, IsTupOf2 h TO a1 a2) ∧ h.IsTupleIter i1 a i ∧ h.IsTupleIter i2 b i) where
  mem := List.mem_cons_self
  obj := fun i h st c hc => by
    obtain ⟨⟨v, f, h1, _⟩, h2, ⟨a1, a2, h3⟩, ⟨o4, e4, _, d4⟩, o5, e5, _, d5⟩ := st
    simp only [List.mem_cons, List.not_mem_nil, or_false] at hc
    rcases hc with q | q | q | q | q <;> subst q
    · exact ⟨_, h1, fun v e => nomatch e⟩
    · exact ⟨_, h2, fun v e => nomatch e⟩
    · exact ⟨_, h3, fun v e => nomatch e⟩
    · exact ⟨o4, e4, fun v e => by rw [d4] at e; cases e⟩
    · exact ⟨o5, e5, fun v e => by rw [d5] at e; cases e⟩
  keep := fun i h h' st k => by
    obtain ⟨⟨v, f, h1, hv⟩, h2, ⟨a1, a2, h3⟩, h4, h5⟩ := st
    exact ⟨⟨v, f, k z (by simp) _ h1, hv⟩, k TI (by simp) _ h2, ⟨a1, a2, k TO (by simp) _ h3⟩, h4.at fun o q => k i1 (by simp) o q, h5.at fun o q => k i2 (by simp) o q⟩
  item := by
    intro X hP hw hK hc i pins s σ H E J hf st hg
    subst hP hw hK
    obtain ⟨xs, ys, x, y, hqx, hqy, hx, hy⟩ := hg
    obtain ⟨its, rv, p, _⟩ := J.tuple hqx
    obtain ⟨its2, rv2, p2, _⟩ := J.tuple hqy
    obtain ⟨u, hu, ru⟩ := rv.get hx
    obtain ⟨u2, hu2, ru2⟩ := rv2.get hy
    have D1 := Draws.tuple (prog := X.prog) (w := X.w) (A := X.A.in1) (J.ok.hd hc) i1 a ne1 its.toArray
    have D2 := Draws.tuple (prog := X.prog) (w := X.w) (A := X.A.in1) (J.ok.hd hc) i2 b ne2 its2.toArray
    have hl1 : i < its.toArray.size := by
      rw [List.size_toArray]
      exact (List.getElem?_eq_some_iff.mp hu).1
    have hl2 : i < its2.toArray.size := by
      rw [List.size_toArray]
      exact (List.getElem?_eq_some_iff.mp hu2).1
    obtain ⟨⟨v, f, hz, hv⟩, hTI, ⟨b1, b2, hTO⟩, h4, h5⟩ := id st
    have hzl : z < s.heap.objs.size := Heap.lt_size hz
    refine pyNext_item S D1 D2 hz hv hTI hTO ⟨h4, p⟩ ⟨h5, p2⟩ hl1 hl2 fun x1 x2 h' tk v' f' y1 y2 c1 c2 c3 d1 d2 hT hsz hk => ?_
    rw [List.getElem?_toArray, hu] at y1
    rw [List.getElem?_toArray, hu2] at y2
    cases y1
    cases y2
    refine ⟨_, rfl, wpAny_pure ?_⟩
    have new : ObjOk X.prog X.w (upd H s.heap.objs.size (.tup [x, y])) h' s.heap.objs.size (.tup [x, y]) :=
      ⟨by show 2 ≤ sizeLine; decide, [u, u2], .cons ru (.cons ru2 .nil), ⟨_, hT, rfl, _, rfl⟩⟩
    have I1 : Inv X pins σ (upd H s.heap.objs.size (.tup [x, y])) { s with heap := h', toks := tk } :=
      J.turnedNew (t' := tk) (ch := [z, TI, TO, i1, i2]) (fun c o hb q => hk c o (fun q' => hb (by simp [q'])) (fun q' => hb (by simp [q'])) (fun q' => hb (by simp [q'])) (fun q' => hb (by simp [q'])) q) hf (Nat.le_refl _) new
    refine ⟨.ref s.heap.objs.size, _, I1, rfl, ⟨_, x, y, rfl, J.hok.fresh (Nat.le_refl _), rfl, fun l hl => by rw [J.tuple_inj hl hqx]; exact hx, fun l hl => by rw [J.tuple_inj hl hqy]; exact hy⟩, ⟨⟨v', f', c1, c2⟩, hk _ _ S.TIz S.TITO S.TIi1 S.TIi2 hTI, c3, d1.1, d2.1⟩, fun c hcm => ?_⟩
    have hlt : c < s.heap.objs.size := by
      obtain ⟨o4, e4, _⟩ := h4
      obtain ⟨o5, e5, _⟩ := h5
      simp only [List.mem_cons, List.not_mem_nil, or_false] at hcm
      rcases hcm with q | q | q | q | q <;> subst q
      · exact Heap.lt_size hz
      · exact Heap.lt_size hTI
      · exact Heap.lt_size hTO
      · exact Heap.lt_size e4
      · exact Heap.lt_size e5
    rw [upd_ne (Nat.ne_of_lt hlt)]
    exact (hf c hcm).1
  done := by
    intro X hP hw hK hc i pins s σ H E J hf st hg
    subst hP hw hK
    obtain ⟨xs, ys, hqx, hqy, hi⟩ := hg
    obtain ⟨its, rv, p, _⟩ := J.tuple hqx
    obtain ⟨its2, rv2, p2, _⟩ := J.tuple hqy
    have hl := rv.length
    have hl2 := rv2.length
    have D1 := Draws.tuple (prog := X.prog) (w := X.w) (A := X.A.in1) (J.ok.hd hc) i1 a ne1 its.toArray
    have D2 := Draws.tuple (prog := X.prog) (w := X.w) (A := X.A.in1) (J.ok.hd hc) i2 b ne2 its2.toArray
    obtain ⟨⟨v, f, hz, hv⟩, hTI, ⟨b1, b2, hTO⟩, h4, h5⟩ := id st
    have hn : i = min its.toArray.size its2.toArray.size := by
      rw [List.size_toArray, List.size_toArray, ← hl, ← hl2, hi]
    refine pyNext_end S D1 D2 hz hv hTI hTO ⟨h4, p⟩ ⟨h5, p2⟩ (by omega) (by omega) (by omega) fun h' tk hk => ⟨rfl, J.turnedL (t' := tk) (ch := [z, TI, TO, i1, i2]) (fun c o hb q =>
      hk c o (fun q' => hb (by simp [q'])) (fun q' => hb (by simp [q'])) (fun q' => hb (by simp [q'])) (fun q' => hb (by simp [q'])) q) hf⟩
  self := fun A i s Q E st h => by
    obtain ⟨⟨v, f, hz, _⟩, _⟩ := st
    exact pyIter_self hz h
def iZipN (K : PySem.W.Frag) (ta : TA) : TI := fun σ H R => ta σ H fun vs H1 => ∃ a b xs ys, vs = [.ref a, .ref b] ∧ SqT K H1 a xs ∧ SqT K H1 b ys ∧ R (ItN K a b) H1
theorem pi_zipN {X : Cx} {K : PySem.W.Frag} {e e2 : Expr} {ta : TA} {p pos tpos : Pos} {nm : String} (hg : Gl X "zip") (hm : X.mg "zip" = none) (ha : PA X [e, e2] ta)
    (hs : starEach [e, e2] X.env = (false, eval e X.env) :: starEach [e2] X.env := by rfl) (hpl : (backTo pos (starEach [e2] X.env)).any (·.1) = false := by rfl) (hK : X.K = K := by rfl) :
    PI X (.Name nm tpos) (.Call (.Name "zip" p) [e, e2] [] pos) (iZipN K ta) := by
  subst hK
  refine ⟨fun pins s σ H R I h => ?_⟩
  refine Call_ (ld_blt I hg hm PyProof.Rows.boot_zip (PyProof.Rows.callWith_type1 (thn (ha.run pos pins s σ H _ I h) fun us s1 hh => ?_) hs hpl))
  obtain ⟨vs, H1, I1, r1, a, b, xs, ys, ex, hqx, hqy, q⟩ := hh
  subst ex
  obtain ⟨u1, u2, rfl, ru1, ru2⟩ := vals2 r1
  obtain rfl : u1 = Value.ref a := ru1
  obtain rfl : u2 = Value.ref b := ru2
  obtain ⟨its, _, p1, _⟩ := I1.tuple hqx
  obtain ⟨its2, _, p2, _⟩ := I1.tuple hqy
  have hal : a < s1.heap.objs.size := by
    obtain ⟨_, z, _⟩ := p1
    exact Heap.lt_size z
  have hbl : b < s1.heap.objs.size := by
    obtain ⟨_, z, _⟩ := p2
    exact Heap.lt_size z
  refine zip_begins2 (begins_tuple a its.toArray) (begins_tuple b its2.toArray) p1 p2 fun h' hz hTI hTO e1 e2 hsz hk => pyIter_self (f := false) hz ?_
  have I2 : Inv X pins σ H1 { s1 with heap := h' } := I1.kept (t' := s1.toks) hk
  refine ⟨s1.heap.objs.size + 4, [s1.heap.objs.size + 4, s1.heap.objs.size + 2, s1.heap.objs.size + 3, s1.heap.objs.size, s1.heap.objs.size + 1], _, _, H1, rfl, I2, turn_zipN (a := a) (b := b) (zip_sep2 (fp1 := [a]) (fp2 := [b]) (fun c hc => by rw [List.mem_singleton] at hc; rw [hc]; exact hal) fun c hc => by rw [List.mem_singleton] at hc; rw [hc]; exact hbl) (Nat.ne_of_lt hal) (Nat.ne_of_lt (Nat.lt_succ_of_lt hbl)), ⟨⟨.none, false, hz, .inl rfl⟩, hTI, ⟨_, _, hTO⟩, ⟨_, e1, rfl, rfl⟩, ⟨_, e2, rfl, rfl⟩⟩, fun c hc => ?_, q⟩
  have hle : s1.heap.objs.size ≤ c := by
    simp only [List.mem_cons, List.not_mem_nil, or_false] at hc
    rcases hc with z | z | z | z | z <;> rw [z]
    · exact Nat.le_add_right _ _
    · exact Nat.le_add_right _ _
    · exact Nat.le_add_right _ _
    · exact Nat.le_refl _
    · exact Nat.le_add_right _ _
  exact I1.fpOk hle (I1.hok.fresh hle)
end ZNm
namespace Q
open PySem PySem.Spec PyProof.Rows L2 Evl
open DL hiding Ea EaL Er MonoP Src Tgt YD d_for er_two
section
variable {α β : Type} {K : PySem.W.Frag} {σ : L2.St} {φ : Fm} {ta tb : TE} {rr : Rep α} {ss : Rep β} {as : List α} {bs : List β}
theorem src_zipN (h : Er (pr (rTup rr)) ta σ φ as) (h2 : Er (pr (rTup ss)) tb σ φ bs) : Src (ZNm.iZipN K (tCons ta (tCons tb tNil))) σ φ (pr (rPair rr ss)) (List.zip as bs) := fun H1 e R k => er_two h h2 e fun v w H2 e2 ⟨p, xs, hv2, hp, ha⟩ ⟨q, ys, hw2, hq, hb⟩ => by
  subst hv2 hw2
  refine ⟨p, q, xs, ys, rfl, SqT.of (part_sub (e.1.trans e2) p _ hp), SqT.of (part_sub (e.1.trans e2) q _ hq), k _ H2 e2 ?_⟩
  have hl : (List.zip as bs).length = min xs.length ys.length := by rw [List.length_zip, ha.len, hb.len]
  rw [hl]
  refine ⟨fun i H hi eG => ⟨xs, ys, xs[i]'(by omega), ys[i]'(by omega), SqT.of (eG.1 p _ hp), SqT.of (eG.1 q _ hq), List.getElem?_eq_getElem _, List.getElem?_eq_getElem _⟩, fun H eG => ⟨xs, ys, SqT.of (eG.1 p _ hp), SqT.of (eG.1 q _ hq), rfl⟩, fun i H x H' hi eG ⟨T, y, z, y1, y2, y3, y4, y5⟩ => ?_⟩
  subst y1
  subst y3
  obtain ⟨a, h1, h2⟩ := ha.get (y4 xs (SqT.of (eG.1 p _ hp)))
  obtain ⟨b, h3, h4⟩ := hb.get (y5 ys (SqT.of (eG.1 q _ hq)))
  refine ⟨Ex.new y2, (a, b), ?_, pair_new eG.1 y2 h2 h4⟩
  rw [List.getElem?_zip_eq_some]
  exact ⟨h1, h3⟩
end
end Q
set_option linter.all false
namespace PF
open Q DL PySem SrtT
abbrev Ty_Web : Type := ((Unit) × Int) × (List ((Int × Int) × Int))
def Web___init__ (places' : Int) (steps' : List (Int × Int × Int)) : Option PF.Ty_Web :=
 if (!(decide ((0 : Int) ≤ places') && decide (places' ≤ (12 : Int)))) = true then
 none
 else
 after (R := PF.Ty_Web) (loop (fun (y'3 : Int × Int × Int) (s'2 : Unit) =>
 if ((!(decide ((0 : Int) ≤ y'3.1) && decide (y'3.1 < places'))) || ((!(decide ((0 : Int) ≤ y'3.2.1) && decide (y'3.2.1 < places'))) || (decide (y'3.1 = y'3.2.1)))) = true then
 none
 else
 some (.nx ())) steps' ()) (fun (s'2 : Unit) =>
 (some (places')).bind fun (self'10 : Int) =>
 (chk (decide ((sortL (fun c : Int × Int × Int => [c.1, c.2.1, c.2.2]) steps').length < 100000))).bind fun _ =>
 (dcX (fun (y'12 : Int × Int × Int) => some true) (fun (y'12 : Int × Int × Int) => (some ((y'12.1, y'12.2.1)))) (fun (y'12 : Int × Int × Int) => (some (y'12.2.2))) (sortL (fun c : Int × Int × Int => [c.1, c.2.1, c.2.2]) steps') []).bind fun d_17 =>
 (some (d_17)).bind fun (self'19 : List ((Int × Int) × Int)) =>
 if (decide ((((((), self'10), self'19).2).length : Int) < (steps'.length : Int))) = true then
 none
 else
 some ((((), self'10), self'19)))
 (fun r => some r)
def Web___init__X (places' : Int) (steps' : List (Int × Int × Int)) : Option (PF.Ty_Web ⊕ ErrV) :=
 if (!(decide ((0 : Int) ≤ places') && decide (places' ≤ (12 : Int)))) = true then
 some ((.inr (⟨"BadWeb", none⟩ : ErrV)))
 else
 after (R := (PF.Ty_Web ⊕ ErrV)) (loop (fun (y'3 : Int × Int × Int) (s'2 : Unit) =>
 if ((!(decide ((0 : Int) ≤ y'3.1) && decide (y'3.1 < places'))) || ((!(decide ((0 : Int) ≤ y'3.2.1) && decide (y'3.2.1 < places'))) || (decide (y'3.1 = y'3.2.1)))) = true then
 some (.rt ((.inr (⟨"BadWeb", none⟩ : ErrV))))
 else
 some (.nx ())) steps' ()) (fun (s'2 : Unit) =>
 (some (places')).bind fun (self'10 : Int) =>
 (chk (decide ((sortL (fun c : Int × Int × Int => [c.1, c.2.1, c.2.2]) steps').length < 100000))).bind fun _ =>
 (dcX (fun (y'12 : Int × Int × Int) => some true) (fun (y'12 : Int × Int × Int) => (some ((y'12.1, y'12.2.1)))) (fun (y'12 : Int × Int × Int) => (some (y'12.2.2))) (sortL (fun c : Int × Int × Int => [c.1, c.2.1, c.2.2]) steps') []).bind fun d_17 =>
 (some (d_17)).bind fun (self'19 : List ((Int × Int) × Int)) =>
 if (decide ((((((), self'10), self'19).2).length : Int) < (steps'.length : Int))) = true then
 some ((.inr (⟨"BadWeb", none⟩ : ErrV)))
 else
 some ((.inl ((((), self'10), self'19)) : (PF.Ty_Web ⊕ ErrV))))
 (fun r => some r)
def Web_steps (self' : PF.Ty_Web) : Option (List (Int × Int × Int)) :=
 (chk (decide (self'.2.length < 100000))).bind fun _ =>
 some ((self'.2.map fun (y'1 : (Int × Int) × Int) => (y'1.1.1, y'1.1.2, y'1.2)))
def Web___invert__ (self' : PF.Ty_Web) : Option PF.Ty_Web :=
 (chk (decide (self'.2.length < 100000))).bind fun _ =>
 (PF.Web___init__ self'.1.2 (self'.2.map fun (y'1 : (Int × Int) × Int) => (y'1.1.2, y'1.1.1, y'1.2))).bind fun x_5 =>
 some (x_5)
def Web_after (self' : PF.Ty_Web) (place' : Int) : Option (List (Int × Int)) :=
 (chk (decide (self'.2.length < 100000))).bind fun _ =>
 some (((self'.2.filter fun (y'1 : (Int × Int) × Int) => (decide (y'1.1.1 = place'))).map fun (y'1 : (Int × Int) × Int) => (y'1.1.2, y'1.2)))
def Web_before (self' : PF.Ty_Web) (place' : Int) : Option (List (Int × Int)) :=
 (chk (decide (self'.2.length < 100000))).bind fun _ =>
 some (((self'.2.filter fun (y'1 : (Int × Int) × Int) => (decide (y'1.1.2 = place'))).map fun (y'1 : (Int × Int) × Int) => (y'1.1.1, y'1.2)))
def Web_worth_of (self' : PF.Ty_Web) (u' : Int) (v' : Int) : Option (Option Int) :=
 some ((getX self'.2 (u', v')))
def Web__step_worths (self' : PF.Ty_Web) (way' : List Int) : Option (List (Option Int)) :=
 (chk (decide ((List.zip way' (cutA way' (some (1 : Int)) none)).length < 100000))).bind fun _ =>
 some (((List.zip way' (cutA way' (some (1 : Int)) none)).map fun (y'1 : Int × Int) => (getX self'.2 y'1)))
def Web_is_way (self' : PF.Ty_Web) (way' : List Int) : Option Bool :=
 ((if (!(!way'.isEmpty)) = true then some true else ((chk (decide (way'.length < 1000))).bind fun _ =>
 some ((decide (((L2.nubI way').length : Int) < (way'.length : Int))))))).bind fun b_3 =>
 if b_3 = true then
 some (false)
 else
 (L2.atI way' (0 : Int)).bind fun x_6 =>
 ((if (decide ((0 : Int) ≤ x_6) && decide (x_6 < self'.1.2)) = true then ((PF.Web__step_worths self' way').bind fun x_8 =>
 some ((!inQ (none : Option Int) x_8))) else some false)).bind fun b_11 =>
 some (b_11)
def Web_way_worth (self' : PF.Ty_Web) (way' : List Int) : Option Int :=
 (PF.Web_is_way self' way').bind fun x_1 =>
 if (!x_1) = true then
 none
 else
 (PF.Web__step_worths self' way').bind fun x_4 =>
 (allI x_4).bind fun ns_6 =>
 some (ns_6.sum)
def Web_way_worthX (self' : PF.Ty_Web) (way' : List Int) : Option (Int ⊕ ErrV) :=
 (PF.Web_is_way self' way').bind fun x_1 =>
 if (!x_1) = true then
 some ((.inr (⟨"BadWeb", none⟩ : ErrV)))
 else
 (PF.Web__step_worths self' way').bind fun x_4 =>
 (allI x_4).bind fun ns_6 =>
 some ((.inl (ns_6.sum) : (Int ⊕ ErrV)))
def Web_all_ways (self' : PF.Ty_Web) (count' : Int) : Option (List (List Int)) :=
 (chk (small self'.1.2)).bind fun _ =>
 (chk (decide ((rng 0 self'.1.2.toNat).length < 100000))).bind fun _ =>
 (some (((rng 0 self'.1.2.toNat).map fun (y'2 : Int) => ([y'2] : List Int)))).bind fun (ways'6 : List (List Int)) =>
 after (R := List (List Int)) (wloop (fun (s'8 : (List (List Int))) => (((if (!s'8.isEmpty) = true then ((L2.atI s'8 (0 : Int)).bind fun x_9 =>
 some ((decide ((x_9.length : Int) < count')))) else some false)).bind fun b_12 =>
 some (b_12))) (fun (s'8 : (List (List Int))) =>
 (comp2 (fun (y'15 : List Int) => some true) (fun (y'15 : List Int) => ((L2.atI y'15 (-(1 : Int))).bind fun x_17 =>
 (PF.Web_after self' x_17).bind fun x_19 =>
 some (x_19))) (fun (y'15 : List Int) (z'21 : Int × Int) => (some ((!decide (z'21.1 ∈ y'15))))) (fun (y'15 : List Int) (z'21 : Int × Int) => ((chk (decide (y'15.length + ([z'21.1] : List Int).length ≤ 100000))).bind fun _ =>
 some ((y'15 ++ ([z'21.1] : List Int))))) s'8).bind fun xs_27 =>
 (chk (decide (xs_27.length < 100000))).bind fun _ =>
 (some (xs_27)).bind fun (ways'30 : List (List Int)) =>
 some (.nx ways'30)) 1000000 ways'6) (fun (s'8 : (List (List Int))) =>
 (chk (decide (s'8.length < 100000))).bind fun _ =>
 some ((s'8.filter fun (y'37 : List Int) => (decide ((y'37.length : Int) = count'))).map fun (y'37 : List Int) => y'37))
 (fun r => some r)
def law_cell (script' : List Int) (k' : Int) : Option Int :=
 if (decide (k' < (script'.length : Int))) = true then
 (L2.atI script' k').bind fun x_2 =>
 some (x_2)
 else
 some ((((7919 : Int) * k') + (104729 : Int)))
def law_draws (cell' : Int) (limits' : List Int) : Option (List Int) :=
 (some ((0 : Int))).bind fun (rest'1 : Int) =>
 thenJ (O := List Int) (
 if (decide (cell' ≥ ((10 : Int) ^ (18 : Int).toNat))) = true then
 (some ((cell' - ((10 : Int) ^ (18 : Int).toNat)))).bind fun (rest'5 : Int) =>
 some (.inl rest'5)
 else
 some (.inl rest'1)) (fun (s'3 : Int) =>
 (some (((cell' * (48271 : Int)) % (2147483647 : Int)))).bind fun (state'11 : Int) =>
 (some (([] : List Int))).bind fun (drawn'13 : List Int) =>
 after (R := List Int) (loop (fun (y'16 : Int) (s'15 : Int × (List Int) × Int) =>
 (some ((((s'15.1 * (16807 : Int)) + (10007 : Int)) % (2147483647 : Int)))).bind fun (state'17 : Int) =>
 if (decide (s'15.2.2 > (0 : Int))) = true then
 (chk (decide ((0 : Int) < y'16))).bind fun _ =>
 (chk (decide (s'15.2.1.length < 100000))).bind fun _ =>
 (some (s'15.2.1 ++ [(s'15.2.2 % y'16)])).bind fun (drawn'22 : List Int) =>
 (chk (divOk y'16)).bind fun _ =>
 (some ((s'15.2.2 / y'16))).bind fun (rest'25 : Int) =>
 some (.nx (state'17, drawn'22, rest'25))
 else
 (chk (decide ((0 : Int) < y'16))).bind fun _ =>
 (chk (decide (s'15.2.1.length < 100000))).bind fun _ =>
 (some (s'15.2.1 ++ [((state'17 / (64 : Int)) % y'16)])).bind fun (drawn'29 : List Int) =>
 some (.nx (state'17, drawn'29, s'15.2.2))) limits' (state'11, drawn'13, s'3)) (fun (s'15 : Int × (List Int) × Int) =>
 some (s'15.2.1))
 (fun r => some r))
def law_steps (script' : List Int) (places' : Int) (share' : Int) (large' : Bool) : Option (List (Int × Int × Int)) :=
 (some (([] : List (Int × Int × Int)))).bind fun (made'1 : List (Int × Int × Int)) =>
 (chk (small places')).bind fun _ =>
 after (R := List (Int × Int × Int)) (loop (fun (y'5 : Int) (s'4 : (List (Int × Int × Int))) =>
 (PF.law_cell script' ((1 : Int) + y'5)).bind fun x_6 =>
 (chk (repOk ([(6 : Int), (7 : Int)] : List Int) places')).bind fun _ =>
 (PF.law_draws x_6 (repL ([(6 : Int), (7 : Int)] : List Int) places')).bind fun x_9 =>
 (some (x_9)).bind fun (drawn'11 : List Int) =>
 (chk (small places')).bind fun _ =>
 after (R := List (Int × Int × Int)) (loop (fun (y'15 : Int) (s'14 : (List (Int × Int × Int))) =>
 ((if (!decide (y'5 = y'15)) = true then ((L2.atI drawn'11 ((2 : Int) * y'15)).bind fun x_16 =>
 some ((decide (x_16 < share')))) else some false)).bind fun b_19 =>
 if b_19 = true then
 (L2.atI drawn'11 (((2 : Int) * y'15) + (1 : Int))).bind fun x_22 =>
 (some ((x_22 - (3 : Int)))).bind fun (worth'24 : Int) =>
 thenJ (O := Ctl (List (Int × Int × Int)) (List (Int × Int × Int))) (
 if large' = true then
 (chk (mulOk worth'24 (((10 : Int) ^ (12 : Int).toNat) + y'5))).bind fun _ =>
 (some (((worth'24 * (((10 : Int) ^ (12 : Int).toNat) + y'5)) + y'15))).bind fun (worth'29 : Int) =>
 some (.inl worth'29)
 else
 some (.inl worth'24)) (fun (s'26 : Int) =>
 (chk (decide (s'14.length < 100000))).bind fun _ =>
 (some (s'14 ++ [(y'5, y'15, s'26)])).bind fun (made'36 : List (Int × Int × Int)) =>
 some (.nx made'36))
 else
 some (.nx s'14)) (rng 0 places'.toNat) s'4) (fun (s'14 : (List (Int × Int × Int))) =>
 some (.nx s'14))
 (fun r => some (.rt r))) (rng 0 places'.toNat) made'1) (fun (s'4 : (List (Int × Int × Int))) =>
 some (s'4))
 (fun r => some r)
def law_step (due' : List (Int × Int × Int)) (u' : Int) (v' : Int) : Option (Option Int) :=
 after (R := Option Int) (loop (fun (y'2 : Int × Int × Int) (s'1 : Unit) =>
 if ((decide (y'2.1 = u')) && (decide (y'2.2.1 = v'))) = true then
 some (.rt ((some y'2.2.2)))
 else
 some (.nx ())) due' ()) (fun (s'1 : Unit) =>
 some ((none : Option Int)))
 (fun r => some r)
def law_walk (due' : List (Int × Int × Int)) (places' : Int) (way' : List Int) : Option (Option Int) :=
 (some ((0 : Int))).bind fun (total'1 : Int) =>
 (chk (small (way'.length : Int))).bind fun _ =>
 after (R := Option Int) (loop (fun (y'5 : Int) (s'4 : Int) =>
 (L2.atI way' y'5).bind fun x_6 =>
 ((if (decide (x_6 < (0 : Int))) = true then some true else ((L2.atI way' y'5).bind fun x_8 =>
 ((if (decide (x_8 ≥ places')) = true then some true else ((L2.atI way' y'5).bind fun x_10 =>
 some ((decide (x_10 ∈ (cutA way' none (some y'5)))))))).bind fun b_13 =>
 some (b_13)))).bind fun b_16 =>
 if b_16 = true then
 some (.rt ((none : Option Int)))
 else
 if (decide (y'5 > (0 : Int))) = true then
 (L2.atI way' (y'5 - (1 : Int))).bind fun x_20 =>
 (L2.atI way' y'5).bind fun x_22 =>
 (PF.law_step due' x_20 x_22).bind fun x_24 =>
 (some (x_24)).bind fun (step'26 : Option Int) =>
 ifNone step'26 (
 some (.rt ((none : Option Int))))
 (fun step'28 =>
 (some ((s'4 + step'28))).bind fun (total'31 : Int) =>
 some (.nx total'31))
 else
 some (.nx s'4)) (rng 0 (way'.length : Int).toNat) total'1) (fun (s'4 : Int) =>
 if (decide ((way'.length : Int) = (0 : Int))) = true then
 some ((none : Option Int))
 else
 some ((some s'4)))
 (fun r => some r)
def law_ways (due' : List (Int × Int × Int)) (places' : Int) (count' : Int) : Option (List (List Int)) :=
 (some (([] : List (List Int)))).bind fun (found'1 : List (List Int)) =>
 thenJ (O := List (List Int)) (
 if (decide (count' > (0 : Int))) = true then
 (chk (small places')).bind fun _ =>
 (chk (decide ((rng 0 places'.toNat).length < 100000))).bind fun _ =>
 (some (((rng 0 places'.toNat).map fun (y'6 : Int) => ([y'6] : List Int)))).bind fun (found'10 : List (List Int)) =>
 some (.inl found'10)
 else
 some (.inl found'1)) (fun (s'3 : (List (List Int))) =>
 (chk (small (count' - (1 : Int)))).bind fun _ =>
 after (R := List (List Int)) (loop (fun (y'18 : Int) (s'17 : (List (List Int))) =>
 (some (([] : List (List Int)))).bind fun (longer'19 : List (List Int)) =>
 after (R := List (List Int)) (loop (fun (y'22 : List Int) (s'21 : (List (List Int))) =>
 after (R := List (List Int)) (loop (fun (y'24 : Int × Int × Int) (s'23 : (List (List Int))) =>
 (L2.atI y'22 (-(1 : Int))).bind fun x_25 =>
 if ((decide (y'24.1 = x_25)) && (!decide (y'24.2.1 ∈ y'22))) = true then
 (chk (decide (y'22.length + ([y'24.2.1] : List Int).length ≤ 100000))).bind fun _ =>
 (chk (decide (s'23.length < 100000))).bind fun _ =>
 (some (s'23 ++ [(y'22 ++ ([y'24.2.1] : List Int))])).bind fun (longer'30 : List (List Int)) =>
 some (.nx longer'30)
 else
 some (.nx s'23)) due' s'21) (fun (s'23 : (List (List Int))) =>
 some (.nx s'23))
 (fun r => some (.rt r))) s'17 longer'19) (fun (s'21 : (List (List Int))) =>
 (some (s'21)).bind fun (found'42 : List (List Int)) =>
 some (.nx found'42))
 (fun r => some (.rt r))) (rng 0 (count' - (1 : Int)).toNat) s'3) (fun (s'17 : (List (List Int))) =>
 some (s'17))
 (fun r => some r))
def law_tuple (due' : List (Int × Int × Int)) (places' : Int) (drawn' : List Int) : Option (List Int) :=
 (L2.atI drawn' (0 : Int)).bind fun x_1 =>
 if (decide (x_1 = (0 : Int))) = true then
 (L2.atI drawn' (1 : Int)).bind fun x_4 =>
 (chk (decide ((cutA drawn' (some (2 : Int)) (some ((2 : Int) + x_4))).length < 100000))).bind fun _ =>
 (compM (fun (y'6 : Int) => some true) (fun (y'6 : Int) => ((chk (decide ((0 : Int) < (places' + (2 : Int))))).bind fun _ =>
 some (((y'6 % (places' + (2 : Int))) - (1 : Int))))) (cutA drawn' (some (2 : Int)) (some ((2 : Int) + x_4)))).bind fun xs_11 =>
 some (xs_11)
 else
 if (decide (places' = (0 : Int))) = true then
 some (([] : List Int))
 else
 (L2.atI drawn' (2 : Int)).bind fun x_14 =>
 (chk (decide ((0 : Int) < places'))).bind fun _ =>
 (some (([(x_14 % places')] : List Int))).bind fun (way'17 : List Int) =>
 (L2.atI drawn' (1 : Int)).bind fun x_19 =>
 (chk (small x_19)).bind fun _ =>
 after (R := List Int) (loop (fun (y'23 : Int) (s'22 : (List Int)) =>
 (chk (decide (due'.length < 100000))).bind fun _ =>
 (compM (fun (y'24 : Int × Int × Int) => ((L2.atI s'22 (-(1 : Int))).bind fun x_26 =>
 ((if (decide (y'24.1 = x_26)) = true then ((L2.atI drawn' (0 : Int)).bind fun x_28 =>
 some (((decide (x_28 = (1 : Int))) || (!decide (y'24.2.1 ∈ s'22))))) else some false)).bind fun b_31 =>
 some (b_31))) (fun (y'24 : Int × Int × Int) => (some (y'24.2.1))) due').bind fun xs_35 =>
 (some (xs_35)).bind fun (following'37 : List Int) =>
 if (decide ((following'37.length : Int) > (0 : Int))) = true then
 (L2.atI drawn' ((3 : Int) + y'23)).bind fun x_40 =>
 (chk (decide ((0 : Int) < (following'37.length : Int)))).bind fun _ =>
 (L2.atI following'37 (x_40 % (following'37.length : Int))).bind fun x_43 =>
 (chk (decide (s'22.length + ([x_43] : List Int).length ≤ 100000))).bind fun _ =>
 (some ((s'22 ++ ([x_43] : List Int)))).bind fun (way'46 : List Int) =>
 some (.nx way'46)
 else
 some (.nx s'22)) (rng 0 x_19.toNat) way'17) (fun (s'22 : (List Int)) =>
 some (s'22))
 (fun r => some r)
def law_refused (places' : Int) (rows' : List (Int × Int × Int)) : Option Bool :=
 caseX (PF.Web___init__X places' rows') (fun err_3 =>
 (err0 err_3 "BadWeb" (
 some ((true && (true && (!false))))))) (fun x_1 =>
 some (false))
def law_no_way (web' : PF.Ty_Web) (way' : List Int) : Option Bool :=
 caseX (PF.Web_way_worthX web' way') (fun err_3 =>
 (err0 err_3 "BadWeb" (
 some ((true && (!false)))))) (fun x_1 =>
 some (false))
def law_right (web' : PF.Ty_Web) (places' : Int) (due' : List (Int × Int × Int)) : Option Bool :=
 ((if (!decide (web'.1.2 = places')) = true then some true else (((if false = true then some true else (((if (!decide ((12 : Int) = (12 : Int))) = true then some true else ((PF.Web_steps web').bind fun x_1 =>
 some ((!decide (x_1 = due')))))).bind fun b_4 =>
 some (b_4)))).bind fun b_7 =>
 some (b_7)))).bind fun b_10 =>
 if b_10 = true then
 some (false)
 else
 (chk (small places')).bind fun _ =>
 after (R := Bool) (loop (fun (y'15 : Int) (s'14 : Unit) =>
 (chk (decide (due'.length < 100000))).bind fun _ =>
 (some (((due'.filter fun (y'16 : Int × Int × Int) => (decide (y'16.1 = y'15))).map fun (y'16 : Int × Int × Int) => (y'16.2.1, y'16.2.2)))).bind fun (after'20 : List (Int × Int)) =>
 (chk (decide (due'.length < 100000))).bind fun _ =>
 (some (((due'.filter fun (y'22 : Int × Int × Int) => (decide (y'22.2.1 = y'15))).map fun (y'22 : Int × Int × Int) => (y'22.1, y'22.2.2)))).bind fun (before'26 : List (Int × Int)) =>
 (PF.Web_after web' y'15).bind fun x_28 =>
 ((if (!decide (x_28 = after'20)) = true then some true else ((PF.Web_before web' y'15).bind fun x_30 =>
 some ((!decide (x_30 = before'26)))))).bind fun b_33 =>
 if b_33 = true then
 some (.rt (false))
 else
 some (.nx ())) (rng 0 places'.toNat) ()) (fun (s'14 : Unit) =>
 (chk (small (places' + (1 : Int)))).bind fun _ =>
 after (R := Bool) (loop (fun (y'43 : Int) (s'42 : Unit) =>
 (chk (small (places' + (1 : Int)))).bind fun _ =>
 after (R := Bool) (loop (fun (y'46 : Int) (s'45 : Unit) =>
 (PF.Web_worth_of web' y'43 y'46).bind fun x_47 =>
 (some (x_47)).bind fun (told'49 : Option Int) =>
 ((if false = true then some true else ((PF.law_step due' y'43 y'46).bind fun x_51 =>
 some ((!decide (told'49 = x_51)))))).bind fun b_54 =>
 if b_54 = true then
 some (.rt (false))
 else
 some (.nx ())) (rng (-(1 : Int)) ((places' + (1 : Int)) - (-(1 : Int))).toNat) ()) (fun (s'45 : Unit) =>
 some (.nx ()))
 (fun r => some (.rt r))) (rng (-(1 : Int)) ((places' + (1 : Int)) - (-(1 : Int))).toNat) ()) (fun (s'42 : Unit) =>
 some (true))
 (fun r => some r))
 (fun r => some r)
def law_all_right (web' : PF.Ty_Web) (places' : Int) (due' : List (Int × Int × Int)) (most' : Int) : Option Bool :=
 (chk (small (most' + (1 : Int)))).bind fun _ =>
 after (R := Bool) (loop (fun (y'3 : Int) (s'2 : Unit) =>
 (PF.Web_all_ways web' y'3).bind fun x_4 =>
 (some (x_4)).bind fun (told'6 : List (List Int)) =>
 (PF.law_ways due' places' y'3).bind fun x_8 =>
 if (!decide (told'6 = x_8)) = true then
 some (.rt (false))
 else
 (chk (decide (told'6.length < 100000))).bind fun _ =>
 if (decide (false ∈ (told'6.map fun (y'11 : List Int) => true))) = true then
 some (.rt (false))
 else
 some (.nx ())) (rng 0 (most' + (1 : Int)).toNat) ()) (fun (s'2 : Unit) =>
 some (true))
 (fun r => some r)
def law_tuples_right (script' : List Int) (web' : PF.Ty_Web) (places' : Int) (due' : List (Int × Int × Int)) : Option Bool :=
 after (R := Bool) (loop (fun (y'2 : Int) (s'1 : Unit) =>
 (PF.law_cell script' ((13 : Int) + y'2)).bind fun x_3 =>
 (PF.law_draws x_3 ([(3 : Int), (5 : Int), (16 : Int), (16 : Int), (16 : Int), (16 : Int), (16 : Int), (16 : Int)] : List Int)).bind fun x_5 =>
 (some (x_5)).bind fun (drawn'7 : List Int) =>
 (PF.law_tuple due' places' drawn'7).bind fun x_9 =>
 (some (x_9)).bind fun (way'11 : List Int) =>
 (PF.law_walk due' places' way'11).bind fun x_13 =>
 (some (x_13)).bind fun (total'15 : Option Int) =>
 (PF.Web_is_way web' way'11).bind fun x_17 =>
 (some (x_17)).bind fun (told'19 : Bool) =>
 if ((!true) || (!decide (told'19 = (!total'15.isNone)))) = true then
 some (.rt (false))
 else
 ifNone total'15 (
 (PF.law_no_way web' way'11).bind fun x_25 =>
 if (!x_25) = true then
 some (.rt (false))
 else
 some (.nx ()))
 (fun total'22 =>
 (PF.Web_way_worth web' way'11).bind fun x_28 =>
 (some (x_28)).bind fun (worth'30 : Int) =>
 if ((!true) || (false || (!decide (worth'30 = total'22)))) = true then
 some (.rt (false))
 else
 some (.nx ()))) (rng 0 (12 : Int).toNat) ()) (fun (s'1 : Unit) =>
 some (true))
 (fun r => some r)
def law_bad_right (places' : Int) (made' : List (Int × Int × Int)) (drawn' : List Int) : Option Bool :=
 (L2.atI drawn' (0 : Int)).bind fun x_1 =>
 (PF.law_refused (((0 : Int) - (1 : Int)) - x_1) ([] : List (Int × Int × Int))).bind fun x_3 =>
 ((if (!x_3) = true then some true else ((L2.atI drawn' (0 : Int)).bind fun x_5 =>
 (PF.law_refused ((13 : Int) + x_5) ([] : List (Int × Int × Int))).bind fun x_7 =>
 some ((!x_7))))).bind fun b_10 =>
 if b_10 = true then
 some (false)
 else
 (L2.atI drawn' (1 : Int)).bind fun x_13 =>
 (chk (decide ((0 : Int) < (if places' > (1 : Int) then places' else (1 : Int))))).bind fun _ =>
 (some ((x_13 % (if places' > (1 : Int) then places' else (1 : Int))))).bind fun (inside'16 : Int) =>
 (some (([(places', inside'16, (1 : Int)), (inside'16, places', (1 : Int)), (((0 : Int) - (1 : Int)), inside'16, (1 : Int)), (inside'16, ((0 : Int) - (1 : Int)), (1 : Int)), (inside'16, inside'16, (1 : Int))] : List (Int × Int × Int)))).bind fun (bad'18 : List (Int × Int × Int)) =>
 thenJ (O := Bool) (
 if (decide ((made'.length : Int) > (0 : Int))) = true then
 (L2.atI drawn' (2 : Int)).bind fun x_22 =>
 (chk (decide ((0 : Int) < (made'.length : Int)))).bind fun _ =>
 (L2.atI made' (x_22 % (made'.length : Int))).bind fun x_25 =>
 (some (x_25)).bind fun (twice'27 : Int × Int × Int) =>
 (chk (decide (bad'18.length + ([twice'27, (twice'27.1, twice'27.2.1, (twice'27.2.2 + (1 : Int)))] : List (Int × Int × Int)).length ≤ 100000))).bind fun _ =>
 (some ((bad'18 ++ ([twice'27, (twice'27.1, twice'27.2.1, (twice'27.2.2 + (1 : Int)))] : List (Int × Int × Int))))).bind fun (bad'30 : List (Int × Int × Int)) =>
 some (.inl bad'30)
 else
 some (.inl bad'18)) (fun (s'20 : (List (Int × Int × Int))) =>
 after (R := Bool) (loop (fun (y'37 : Int × Int × Int) (s'36 : Unit) =>
 (L2.atI drawn' (3 : Int)).bind fun x_38 =>
 (chk (decide ((0 : Int) < ((made'.length : Int) + (1 : Int))))).bind fun _ =>
 (some ((x_38 % ((made'.length : Int) + (1 : Int))))).bind fun (at'41 : Int) =>
 (chk (decide ((cutA made' none (some at'41)).length + ([y'37] : List (Int × Int × Int)).length ≤ 100000))).bind fun _ =>
 (chk (decide (((cutA made' none (some at'41)) ++ ([y'37] : List (Int × Int × Int))).length + (cutA made' (some at'41) none).length ≤ 100000))).bind fun _ =>
 (some ((((cutA made' none (some at'41)) ++ ([y'37] : List (Int × Int × Int))) ++ (cutA made' (some at'41) none)))).bind fun (rows'45 : List (Int × Int × Int)) =>
 (some (rows'45)).bind fun (given'47 : List (Int × Int × Int)) =>
 (PF.law_refused places' given'47).bind fun x_49 =>
 if ((!x_49) || (!decide (given'47 = rows'45))) = true then
 some (.rt (false))
 else
 some (.nx ())) s'20 ()) (fun (s'36 : Unit) =>
 some (true))
 (fun r => some r))
def law (script' : List Int) : Option Bool :=
 (PF.law_cell script' (0 : Int)).bind fun x_1 =>
 (PF.law_draws x_1 ([(8 : Int), (6 : Int), (3 : Int), (3 : Int), (40 : Int), (40 : Int), (40 : Int), (40 : Int)] : List Int)).bind fun x_3 =>
 (some (x_3)).bind fun (drawn'5 : List Int) =>
 (L2.atI drawn'5 (0 : Int)).bind fun x_7 =>
 (some (x_7)).bind fun (places'9 : Int) =>
 (L2.atI drawn'5 (1 : Int)).bind fun x_11 =>
 (some (x_11)).bind fun (share'13 : Int) =>
 thenJ (O := Bool) (
 if (decide (places'9 = (7 : Int))) = true then
 (some ((12 : Int))).bind fun (places'17 : Int) =>
 (some ((1 : Int))).bind fun (share'19 : Int) =>
 some (.inl (places'17, share'19))
 else
 some (.inl (places'9, share'13))) (fun (s'15 : Int × Int) =>
 (L2.atI drawn'5 (2 : Int)).bind fun x_25 =>
 (PF.law_steps script' s'15.1 s'15.2 (decide (x_25 = (0 : Int)))).bind fun x_27 =>
 (some (x_27)).bind fun (made'29 : List (Int × Int × Int)) =>
 (some (made'29)).bind fun (due'31 : List (Int × Int × Int)) =>
 thenJ (O := Bool) (
 (L2.atI drawn'5 (3 : Int)).bind fun x_34 =>
 if (decide (x_34 = (1 : Int))) = true then
 (some ((made'29.reverse))).bind fun (made'37 : List (Int × Int × Int)) =>
 some (.inl made'37)
 else
 some (.inl made'29)) (fun (s'33 : (List (Int × Int × Int))) =>
 thenJ (O := Bool) (
 (L2.atI drawn'5 (3 : Int)).bind fun x_44 =>
 if (decide (x_44 = (2 : Int))) = true then
 (chk (decide (s'33.length < 100000))).bind fun _ =>
 (chk (decide ((sortL (fun c : Int × Int × Int => [c.1, c.2.1, c.2.2]) (s'33.map fun (y'47 : Int × Int × Int) => (y'47.2.1, y'47.1, y'47.2.2))).length < 100000))).bind fun _ =>
 (some (((sortL (fun c : Int × Int × Int => [c.1, c.2.1, c.2.2]) (s'33.map fun (y'47 : Int × Int × Int) => (y'47.2.1, y'47.1, y'47.2.2))).map fun (y'51 : Int × Int × Int) => (y'51.2.1, y'51.1, y'51.2.2)))).bind fun (made'55 : List (Int × Int × Int)) =>
 some (.inl made'55)
 else
 some (.inl s'33)) (fun (s'43 : (List (Int × Int × Int))) =>
 (some (s'43)).bind fun (given'61 : List (Int × Int × Int)) =>
 (PF.Web___init__ s'15.1 given'61).bind fun x_63 =>
 (some (x_63)).bind fun (web'65 : PF.Ty_Web) =>
 ((if (!decide (given'61 = s'43)) = true then some true else ((PF.law_right web'65 s'15.1 due'31).bind fun x_67 =>
 some ((!x_67))))).bind fun b_70 =>
 if b_70 = true then
 some (false)
 else
 ((if (decide (s'15.1 < (7 : Int))) = true then ((PF.law_all_right web'65 s'15.1 due'31 (3 : Int)).bind fun x_73 =>
 some ((!x_73))) else some false)).bind fun b_76 =>
 if b_76 = true then
 some (false)
 else
 (PF.Web___invert__ web'65).bind fun x_79 =>
 (some (x_79)).bind fun (turned'81 : PF.Ty_Web) =>
 (chk (decide (due'31.length < 100000))).bind fun _ =>
 (some ((sortL (fun c : Int × Int × Int => [c.1, c.2.1, c.2.2]) (due'31.map fun (y'83 : Int × Int × Int) => (y'83.2.1, y'83.1, y'83.2.2))))).bind fun (other'87 : List (Int × Int × Int)) =>
 (PF.law_right turned'81 s'15.1 other'87).bind fun x_89 =>
 ((if (!x_89) = true then some true else ((PF.law_tuples_right script' web'65 s'15.1 due'31).bind fun x_91 =>
 some ((!x_91))))).bind fun b_94 =>
 if b_94 = true then
 some (false)
 else
 (PF.Web_steps web'65).bind fun x_97 =>
 (some (x_97)).bind fun (told'99 : List (Int × Int × Int)) =>
 (chk (decide (told'99.length < 100000))).bind fun _ =>
 (some (told'99 ++ [((0 : Int), (0 : Int), (0 : Int))])).bind fun (told'102 : List (Int × Int × Int)) =>
 (chk (decide (given'61.length < 100000))).bind fun _ =>
 (some (given'61 ++ [((0 : Int), (0 : Int), (0 : Int))])).bind fun (given'105 : List (Int × Int × Int)) =>
 thenJ (O := Bool) (
 if (decide (s'15.1 > (0 : Int))) = true then
 (PF.Web_after web'65 (0 : Int)).bind fun x_109 =>
 (chk (decide (x_109.length < 100000))).bind fun _ =>
 (PF.Web_before web'65 (0 : Int)).bind fun x_112 =>
 (chk (decide (x_112.length < 100000))).bind fun _ =>
 some (.inl ())
 else
 some (.inl ())) (fun (s'107 : Unit) =>
 (PF.law_tuples_right script' turned'81 s'15.1 other'87).bind fun x_119 =>
 ((if (!x_119) = true then some true else ((PF.law_right web'65 s'15.1 due'31).bind fun x_121 =>
 some ((!x_121))))).bind fun b_124 =>
 if b_124 = true then
 some (false)
 else
 (PF.law_bad_right s'15.1 s'43 (cutA drawn'5 (some (4 : Int)) none)).bind fun x_127 =>
 some (x_127)))))
def choices (count' : Int) (size' : Int) : Option (List (List Int)) :=
 if (decide (size' < (0 : Int))) = true then
 some (([] : List (List Int)))
 else
 (some (([([] : List Int)] : List (List Int)))).bind fun (found'2 : List (List Int)) =>
 (chk (small size')).bind fun _ =>
 after (R := List (List Int)) (loop (fun (y'6 : Int) (s'5 : (List (List Int))) =>
 (comp2 (fun (y'7 : List Int) => some true) (fun (y'7 : List Int) => ((if (!y'7.isEmpty) = true then ((L2.atI y'7 (-(1 : Int))).bind fun x_9 =>
 some ((x_9 + (1 : Int)))) else (some ((0 : Int)))).bind fun x_13 =>
 (chk (small x_13)).bind fun _ =>
 (chk (small count')).bind fun _ =>
 some ((rng x_13 (count' - x_13).toNat)))) (fun (y'7 : List Int) (z'17 : Int) => some true) (fun (y'7 : List Int) (z'17 : Int) => ((chk (decide (y'7.length + ([z'17] : List Int).length ≤ 100000))).bind fun _ =>
 some ((y'7 ++ ([z'17] : List Int))))) s'5).bind fun xs_23 =>
 (chk (decide (xs_23.length < 100000))).bind fun _ =>
 (some (xs_23)).bind fun (found'26 : List (List Int)) =>
 some (.nx found'26)) (rng 0 size'.toNat) found'2) (fun (s'5 : (List (List Int))) =>
 some (s'5))
 (fun r => some r)
def apart (lot' : List Int) (other' : List Int) : Option Bool :=
 (chk (decide (lot'.length < 100000))).bind fun _ =>
 some ((!((lot'.map fun (y'1 : Int) => (decide (y'1 ∈ other'))).any id)))
def expanded (smaller' : List (List Int × Int)) (row' : List Int) (chosen' : List Int) : Option Int :=
 (some ((0 : Int))).bind fun (total'1 : Int) =>
 (some ((1 : Int))).bind fun (sign'3 : Int) =>
 (chk (small (chosen'.length : Int))).bind fun _ =>
 after (R := Int) (loop (fun (y'7 : Int) (s'6 : Int × Int) =>
 (L2.atI chosen' y'7).bind fun x_8 =>
 (L2.atI row' x_8).bind fun x_10 =>
 (chk (mulOk s'6.2 x_10)).bind fun _ =>
 (chk (decide ((cutA chosen' none (some y'7)).length + (cutA chosen' (some (y'7 + (1 : Int))) none).length ≤ 100000))).bind fun _ =>
 (getA smaller' ((cutA chosen' none (some y'7)) ++ (cutA chosen' (some (y'7 + (1 : Int))) none))).bind fun x_14 =>
 (chk (mulOk (s'6.2 * x_10) x_14)).bind fun _ =>
 (some ((s'6.1 + ((s'6.2 * x_10) * x_14)))).bind fun (total'17 : Int) =>
 (some ((-s'6.2))).bind fun (sign'19 : Int) =>
 some (.nx (total'17, sign'19))) (rng 0 (chosen'.length : Int).toNat).reverse (total'1, sign'3)) (fun (s'6 : Int × Int) =>
 some ((s'6.1 % (97 : Int))))
 (fun r => some r)
def minors (rows' : List (List Int)) (columns' : Int) : Option (List Int) :=
 (some ([(([] : List Int), (1 : Int))])).bind fun (found'1 : List (List Int × Int)) =>
 after (R := List Int) (loop (fun (y'4 : Int × (List Int)) (s'3 : (List (List Int × Int))) =>
 (PF.choices columns' y'4.1).bind fun x_5 =>
 (chk (decide (x_5.length < 100000))).bind fun _ =>
 (dcM (fun (y'7 : List Int) => some true) (fun (y'7 : List Int) => (some (y'7))) (fun (y'7 : List Int) => ((PF.expanded s'3 y'4.2 y'7).bind fun x_9 =>
 some (x_9))) x_5 []).bind fun d_14 =>
 (some (d_14)).bind fun (found'16 : List (List Int × Int)) =>
 some (.nx found'16)) (List.zip (rng 1 rows'.length) rows') found'1) (fun (s'3 : (List (List Int × Int))) =>
 some ((s'3.map (·.2))))
 (fun r => some r)
end PF
set_option Elab.async false
set_option linter.all false
set_option maxRecDepth 100000
set_option maxHeartbeats 4000000
namespace LW
open PySem PySem.Spec L2 ClX SrtT
open PyProof.Rows hiding KK cnt eqT src_list
open Evl hiding ea_cons ea_nil et_B et_and et_not et_or et_test q_app q_asg q_drop q_if q_while rMax2
open DL hiding q_app q_asg q_if Ea EaL Er MonoP Src Tgt YD d_for ea_cons ea_nil eal_cons eal_nil er_I er_I0 er_all er_andV er_any er_bl er_call er_catT er_eqB er_eqD er_eqI er_fst er_if er_inL er_inT er_int er_int1 er_int1B er_isN er_ixF er_ixL er_ixT er_lenF er_lenL er_lenT er_ltT er_neB er_neD er_neI er_neg er_niL er_niT er_nonO er_notN er_notV er_orV er_pair er_slT er_snd er_some er_str er_tup er_tupOf er_two et_B et_lst et_test et_tup mono_cons mono_nil src_enum src_enumT src_list src_rng1 src_rng2 src_tup src_zip src_zipM walkR
open Q
def topS (i : Nat) : Stmt := PySem.Challenge.pw_fewserve_k56_webs.main.body.getD i (.Pass ⟨0, 0, 0, 0⟩)
structure DefAt (K : PySem.W.Frag) (mg : Str → Option Value) (x : Str) (st : Stmt) (ps : List Str) (f : Addr) (fd : FuncData) : Prop where
  F : Fun K x x st f fd
  g : mg x = some (.ref f)
  b : Binds K fd ps []
structure DefV (K : PySem.W.Frag) (mg : Str → Option Value) (x : Str) (st : Stmt) (ps : List Str) (f : Addr) (fd : FuncData) : Prop where
  F : FunV K x x st f fd
  g : mg x = some (.ref f)
  b : Binds K fd ps []
structure DefK (K : PySem.W.Frag) (mg : Str → Option Value) (x : Str) (st : Stmt) (ps : List Str) (f : Addr) (fd : FuncData) : Prop where
  F : Fun K x x st f fd
  g : mg x = some (.ref f)
structure MetV (K : PySem.W.Frag) (x qual : Str) (st : Stmt) (ps : List Str) (f : Addr) (fd : FuncData) : Prop where
  F : FunV K x qual st f fd
  b : Binds K fd ps []
structure MetAt (K : PySem.W.Frag) (x qual : Str) (st : Stmt) (ps : List Str) (f : Addr) (fd : FuncData) : Prop where
  F : Fun K x qual st f fd
  b : Binds K fd ps []
abbrev F_Web (wo : World) : FRep PF.Ty_Web := (fS (fS fE "places" rInt) "_worth_at" (rXD wo (kP kI kI) rInt))
abbrev s_Web___init__ : Stmt := inClass (topS 5) 1
theorem sc_Web___init__ : FnScope ["self", "places", "steps", "u", "v", "_", "worth"] ["self", "places", "steps"] (defScope s_Web___init__) := ⟨rfl, rfl, rfl, by decide +kernel, rfl, by decide +kernel, by decide +kernel⟩
def w_Web___init__ (wo : World) (C_Web : Addr) : (Fm → List V → Prop) → PF.Ty_Web → Prop := fun P c => ∃ (places' : Int) (steps' : List (Int × Int × Int)), P = (HC (pr rInt) places' (HC (rB (pr (rTri rInt rInt rInt))) steps' HN)) ∧ PF.Web___init__ places' steps' = some c
set_option maxHeartbeats 8000000 in
theorem ok_Web___init__ {P : Program} {wo : World} {K : PySem.W.Frag} {mg : Str → Option Value} {base : Heap} {f : Addr} {fd : FuncData} {u_Web_MOST_PLACES : Value} {C_Web : Addr} {mc_Web : Value} (D : MetAt K "__init__" "Web.__init__" s_Web___init__ ["self", "places", "steps"] f fd) (mB_len : mg "len" = none) (mB_sorted : mg "sorted" = none) (cr_Web : CRead K C_Web mc_Web) (cv_Web_MOST_PLACES : CVal K C_Web mc_Web "MOST_PLACES" (.int 12) u_Web_MOST_PLACES) (gl_Web : mg "Web" = some (.ref C_Web)) (cl_Web : Cls K C_Web) (na_Web_places : NoAttr K C_Web "places") (na_Web__worth_at : NoAttr K C_Web "_worth_at") : FnOk P wo K mg base CX0 1 f fd ["self", "places", "steps"] (spI C_Web (F_Web wo) (w_Web___init__ wo C_Web)) := by
  refine D.F.ok sc_Web___init__ (fun vs H Q E h => ?_) (fun cdv A outer s H0 vs Q E hr h => ?_)
  · obtain ⟨φ, Pp, b, x, dx, ws, rfl, _, _, _, _, _, ⟨_, _, rfl, _⟩, ⟨v0, _, rfl, k0, v1, _, rfl, k1, rfl⟩, _⟩ := h
    rfl
  obtain ⟨φ, Pp, c0, x, dx, ws, rfl, hx, hF, hB, hφ, _, ⟨places', steps', rfl, h⟩, ⟨v0, _, rfl, k0, v1, _, rfl, k1, rfl⟩, L⟩ := h
  refine ⟨_, (pss_cons (ps_if (pt_not (pt_chain op_le op_le pe_int (pv 1) (pe_cvalK (K := K) (pe_glob (v := .ref C_Web) (by rfl) gl_Web rfl))))
    pss_never
    pss_nil)
  (pss_cons (ps_for PassesOwn.never rfl (pi_listK (K := K) (pv 2)) (pg_tupK (K := K) (by rfl) (pgs_cons (pg_name (i := 3) sc_Web___init__.nd rfl (by first | exact Or.inl rfl | exact Or.inr rfl)) (pgs_cons (pg_name (i := 4) sc_Web___init__.nd rfl (by first | exact Or.inl rfl | exact Or.inr rfl)) (pgs_cons (pg_name (i := 5) sc_Web___init__.nd rfl (by first | exact Or.inl rfl | exact Or.inr rfl)) pgs_nil))))
    (pss_one (ps_if (PW.pt (pw_or (pt_not (pt_chain op_le op_lt pe_int (pv 3) (pv 1))) (pw_or (pt_not (pt_chain op_le op_lt pe_int (pv 4) (pv 1))) (pw_or1 (pt_cmpR op_eq (pv 3) (pv 4) (nomark _))))))
    pss_never
    pss_nil)))
  (pss_cons (ps_fld (pv 0) (pv 1) rfl)
  (pss_cons (ps_fld (pv 0) (XD.pe_dcX (own := [("u", 3), ("v", 4), ("worth", 6)]) (g := gTup K 3 (gCons (gName 3) (gCons (gName 4) (gCons (gName 6) gNil)))) (inX_room hr) rfl sc_Web___init__.nd (pi_listK (K := K) (pe_callB (r := rSortedTI K) cr_sortedTI (by rfl) mB_sorted (by decide +kernel) (pa_cons (pv 2) pa_nil))) (blkOk_by (own := [("u", 3), ("v", 4), ("worth", 6)]) (N := ["self", "places", "steps", "u", "v", "_", "worth"]) (sc := defScope s_Web___init__) (by decide +kernel)) (fun _ _ _ _ _ => (pg_tupK (K := K) (by rfl) (pgs_cons (pg_name (i := 3) sc_Web___init__.nd rfl (by first | exact Or.inl rfl | exact Or.inr rfl)) (pgs_cons (pg_name (i := 4) sc_Web___init__.nd rfl (by first | exact Or.inl rfl | exact Or.inr rfl)) (pgs_cons (pg_name (i := 6) sc_Web___init__.nd rfl (by first | exact Or.inl rfl | exact Or.inr rfl)) pgs_nil))))) (fun _ _ _ _ _ => pts_nil) (fun _ _ _ _ _ => (pe_tup (pa_cons (pv 3) (pa_cons (pv 4) pa_nil)))) (fun _ _ _ _ _ => (pv 6))) rfl)
  (pss_one (ps_if (pt_cmpR op_lt (pe_callB XD.call_len_x (by rfl) mB_len (by decide +kernel) (pa_cons (pe_fldK (K := K) (pv 0) rfl) pa_nil)) (pe_callB (r := rLenQ K) call_len_seq (by rfl) mB_len (by decide +kernel) (pa_cons (pv 2) pa_nil)) (nomark _))
    pss_never
    pss_nil)))))), ?_⟩
  have w := Wd.beginI hφ hx hF
  have f := Args.fitsI hφ hx hF hB (.va (r := rInt) (a := places') k0 (.bo (r := (rB (pr (rTri rInt rInt rInt)))) (a := steps') k1 .nil)) 4
  unfold PF.Web___init__ at h
  refine q_if (b := (!(decide ((0 : Int) ≤ places') && decide (places' ≤ (12 : Int))))) w f (fun rd => (et_not (et_test (er_chain (f := fun i j => decide (i ≤ j)) (g := fun i j => decide (i ≤ j)) er_int (er_v rd 1 rfl) (er_cval cr_Web cv_Web_MOST_PLACES))))) (fun b_1 H w f => ?_) (fun b_1 H w f => ?_)
  · replace h := ifT h b_1
    cases h
  · replace h := ifF h b_1
    refine d_next w f fun σ G H w f => ?_
    try dsimp only
    obtain ⟨c_5, e_6, n_7, r_8⟩ := afterS h
    refine q_for (rv := (fun (_ : PF.Ty_Web) (_ : V) (_ : Hp) => False)) (fun (s'2 : Unit) => [.ow (oIni C_Web x fE) (), .va rInt places', .bo (rB (pr (rTri rInt rInt rInt))) steps', .un, .un, .un, .un]) w f (fun rd => (src_list (er_b rd 2 rfl))) (tg_t (K := K) tg_n tg_n tg_n) e_6 (weak_eq (weak_eq (weak_eq (weak_un (weak_un (weak_un (weak_un weak_nil))))))) (fun y'3 s'2 c' _ h Gb D' σ G H w f L => ?_) (fun r e => by cases r_8 r e; exact (fun _ _ z => z.elim)) (fun s'2 e σ G H w f => ?_)
    · refine d_if (b := ((!(decide ((0 : Int) ≤ y'3.1) && decide (y'3.1 < places'))) || ((!(decide ((0 : Int) ≤ y'3.2.1) && decide (y'3.2.1 < places'))) || (decide (y'3.1 = y'3.2.1))))) w f (fun rd => (et_orT (et_not (et_test (er_chain (f := fun i j => decide (i ≤ j)) (g := fun i j => decide (i < j)) er_int (er_v rd 3 rfl) (er_v rd 1 rfl)))) (et_orT (et_not (et_test (er_chain (f := fun i j => decide (i ≤ j)) (g := fun i j => decide (i < j)) er_int (er_v rd 4 rfl) (er_v rd 1 rfl)))) (et_test (er_eqI (er_v rd 3 rfl) (er_v rd 4 rfl)))))) (fun b_4 H w f => ?_) (fun b_4 H w f => ?_)
      · replace h := ifT h b_4
        cases h
      · replace h := ifF h b_4
        refine d_next w f fun σ G H w f => ?_
        cases h
        exact L _ _ _ w (f.weak (weak_eq (weak_eq (weak_eq (weak_un (weak_un (weak_un (weak_un weak_nil))))))))
    replace h := n_7 s'2 e
    obtain ⟨self'10, e_11, h⟩ := bS h
    replace e_11 := Option.some.inj e_11
    refine q_fld (C := C_Web) (F := fE) (a := ()) (n := "places") (ss := rInt) w f rfl cl_Web na_Web_places (fno_E (n := "places")) (fun H fs a h => Nat.lt_of_le_of_lt (fl_E H fs a h) (by decide)) (fun rd => isE (er_v rd 1 rfl) e_11) fun σ G H w f => ?_
    obtain ⟨k_14, h⟩ := ckS h
    obtain ⟨d_17, e_18, h⟩ := bS h
    obtain ⟨self'19, e_20, h⟩ := bS h
    replace e_20 := Option.some.inj e_20
    refine q_fld (C := C_Web) (F := (fS fE "places" rInt)) (a := ((), self'10)) (n := "_worth_at") (ss := (rXD wo (kP kI kI) rInt)) w f rfl cl_Web na_Web__worth_at (fno_S (n := "_worth_at") (m := "places") (fno_E (n := "_worth_at")) (by decide +kernel)) (fun H fs a h => Nat.lt_of_le_of_lt ((fl_S fl_E) H fs a h) (by decide)) (fun rd => isE (Eo.er (o := (oXD wo (kP kI kI) rInt)) (eo_xdc (s := rInt) (E := (kP kI kI)) (f := (fun (y'12 : Int × Int × Int) => some true)) (kf := (fun (y'12 : Int × Int × Int) => (some ((y'12.1, y'12.2.1))))) (m := (fun (y'12 : Int × Int × Int) => (some (y'12.2.2)))) (Nat.le_of_ble_eq_true rfl) ref_P rd (src_list (er_bor (Eo.er (o := (oV (rTri rInt rInt rInt))) (eo_sortL (f := fun c : Int × Int × Int => [c.1, c.2.1, c.2.2]) ti_Q (er_b rd 2 rfl) (fun _ _ h => nomatch h))))) (tg_t (K := K) tg_n tg_n tg_n) (by decide) (of_decide_eq_true k_14) e_18 (fun y'12 _ ψ σ2 l rd => ⟨fun _ g_13 => by exact (isT et_yes (Option.some.inj g_13)), fun _ g_15 => by exact isE (er_pair (er_v rd 3 rfl) (er_v rd 4 rfl)) (Option.some.inj g_15), fun _ g_16 => by exact isE (er_v rd 6 rfl) (Option.some.inj g_16)⟩))) e_20) fun σ G H w f => ?_
    refine d_if (b := (decide ((((((), self'10), self'19).2).length : Int) < (steps'.length : Int)))) w f (fun rd => (et_test (er_cmp (f := fun i j => decide (i < j)) (er_xlen (Nat.le_of_ble_eq_true rfl) (er_xb (er_fldI (F := (fS (fS fE "places" rInt) "_worth_at" (rXD wo (kP kI kI) rInt))) (get := fun a => a.2) (a := (((), self'10), self'19)) rd 0 rfl cl_Web na_Web__worth_at (fg_last (fno_S (n := "_worth_at") (m := "places") (fno_E (n := "_worth_at")) (by decide +kernel)))))) (er_lenL (er_b rd 2 rfl))))) (fun b_21 H w f => ?_) (fun b_21 H w f => ?_)
    · replace h := ifT h b_21
      cases h
    · replace h := ifF h b_21
      refine d_next w f fun σ G H w f => ?_
      cases h
      exact endI (Q := Q) w f rfl hF L
def w_Web___init__X (wo : World) (C_Web : Addr) : (Fm → List V → Prop) → (PF.Ty_Web ⊕ ErrV) → Prop := fun P c => ∃ (places' : Int) (steps' : List (Int × Int × Int)), P = (HC (pr rInt) places' (HC (rB (pr (rTri rInt rInt rInt))) steps' HN)) ∧ PF.Web___init__X places' steps' = some c
set_option maxHeartbeats 8000000 in
theorem ok_Web___init__X {P : Program} {wo : World} {K : PySem.W.Frag} {mg : Str → Option Value} {base : Heap} {f : Addr} {fd : FuncData} {u_Web_MOST_PLACES : Value} {C_Web : Addr} {mc_Web : Value} {C_BadWeb : Addr} (D : MetAt K "__init__" "Web.__init__" s_Web___init__ ["self", "places", "steps"] f fd) (mB_len : mg "len" = none) (mB_sorted : mg "sorted" = none) (cr_Web : CRead K C_Web mc_Web) (cv_Web_MOST_PLACES : CVal K C_Web mc_Web "MOST_PLACES" (.int 12) u_Web_MOST_PLACES) (gl_Web : mg "Web" = some (.ref C_Web)) (gl_BadWeb : mg "BadWeb" = some (.ref C_BadWeb)) (xi_BadWeb : PySem.W.excIn K C_BadWeb [.type "ValueError", .type "Exception", .type "BaseException", .type "object"] "ValueError.__new__" = true) (kp_BadWeb : PySem.W.keepIn K (.ref C_BadWeb) = true) (ty_BadWeb : PySem.W.typeIn K (.ref C_BadWeb) = some (.type "type")) (EC_BadWeb : ExcC K C_BadWeb) (cl_Web : Cls K C_Web) (na_Web_places : NoAttr K C_Web "places") (na_Web__worth_at : NoAttr K C_Web "_worth_at") : FnOk P wo K mg base (L2.CX P wo) 1 f fd ["self", "places", "steps"] (spIX mg C_Web (F_Web wo) (w_Web___init__X wo C_Web)) := by
  refine D.F.okX sc_Web___init__ (fun vs H Q E h => ?_) (fun cdv A outer s H0 vs Q E hr h => ?_)
  · obtain ⟨φ, Pp, b, x, dx, ws, rfl, _, _, _, _, _, ⟨_, _, rfl, _⟩, ⟨v0, _, rfl, k0, v1, _, rfl, k1, rfl⟩, _⟩ := h
    rfl
  obtain ⟨φ, Pp, c0, x, dx, ws, rfl, hx, hF, hB, hφ, _, ⟨places', steps', rfl, h⟩, ⟨v0, _, rfl, k0, v1, _, rfl, k1, rfl⟩, L, LE⟩ := h
  refine ⟨_, (pss_cons (ps_if (pt_not (pt_chain op_le op_le pe_int (pv 1) (pe_cvalK (K := K) (pe_glob (v := .ref C_Web) (by rfl) gl_Web rfl))))
    (pss_one (ps_raise rfl (takes_of rfl rfl rfl rfl) (pmk_own PySem.F.excBase_ValueError xi_BadWeb gl_BadWeb kp_BadWeb (raises_own EC_BadWeb.hs ty_BadWeb) (by exact rfl))))
    pss_nil)
  (pss_cons (ps_for (passes_of rfl) rfl (pi_listK (K := K) (pv 2)) (pg_tupK (K := K) (by rfl) (pgs_cons (pg_name (i := 3) sc_Web___init__.nd rfl (by first | exact Or.inl rfl | exact Or.inr rfl)) (pgs_cons (pg_name (i := 4) sc_Web___init__.nd rfl (by first | exact Or.inl rfl | exact Or.inr rfl)) (pgs_cons (pg_name (i := 5) sc_Web___init__.nd rfl (by first | exact Or.inl rfl | exact Or.inr rfl)) pgs_nil))))
    (pss_one (ps_if (PW.pt (pw_or (pt_not (pt_chain op_le op_lt pe_int (pv 3) (pv 1))) (pw_or (pt_not (pt_chain op_le op_lt pe_int (pv 4) (pv 1))) (pw_or1 (pt_cmpR op_eq (pv 3) (pv 4) (nomark _))))))
    (pss_one (ps_raise rfl (takes_of rfl rfl rfl rfl) (pmk_own PySem.F.excBase_ValueError xi_BadWeb gl_BadWeb kp_BadWeb (raises_own EC_BadWeb.hs ty_BadWeb) (by exact rfl))))
    pss_nil)))
  (pss_cons (ps_fld (pv 0) (pv 1) rfl)
  (pss_cons (ps_fld (pv 0) (XD.pe_dcX (own := [("u", 3), ("v", 4), ("worth", 6)]) (g := gTup K 3 (gCons (gName 3) (gCons (gName 4) (gCons (gName 6) gNil)))) (inX_room hr) rfl sc_Web___init__.nd (pi_listK (K := K) (pe_callB (r := rSortedTI K) cr_sortedTI (by rfl) mB_sorted (by decide +kernel) (pa_cons (pv 2) pa_nil))) (blkOk_by (own := [("u", 3), ("v", 4), ("worth", 6)]) (N := ["self", "places", "steps", "u", "v", "_", "worth"]) (sc := defScope s_Web___init__) (by decide +kernel)) (fun _ _ _ _ _ => (pg_tupK (K := K) (by rfl) (pgs_cons (pg_name (i := 3) sc_Web___init__.nd rfl (by first | exact Or.inl rfl | exact Or.inr rfl)) (pgs_cons (pg_name (i := 4) sc_Web___init__.nd rfl (by first | exact Or.inl rfl | exact Or.inr rfl)) (pgs_cons (pg_name (i := 6) sc_Web___init__.nd rfl (by first | exact Or.inl rfl | exact Or.inr rfl)) pgs_nil))))) (fun _ _ _ _ _ => pts_nil) (fun _ _ _ _ _ => (pe_tup (pa_cons (pv 3) (pa_cons (pv 4) pa_nil)))) (fun _ _ _ _ _ => (pv 6))) rfl)
  (pss_one (ps_if (pt_cmpR op_lt (pe_callB XD.call_len_x (by rfl) mB_len (by decide +kernel) (pa_cons (pe_fldK (K := K) (pv 0) rfl) pa_nil)) (pe_callB (r := rLenQ K) call_len_seq (by rfl) mB_len (by decide +kernel) (pa_cons (pv 2) pa_nil)) (nomark _))
    (pss_one (ps_raise rfl (takes_of rfl rfl rfl rfl) (pmk_own PySem.F.excBase_ValueError xi_BadWeb gl_BadWeb kp_BadWeb (raises_own EC_BadWeb.hs ty_BadWeb) (by exact rfl))))
    pss_nil)))))), ?_⟩
  have w := Wd.beginI hφ hx hF
  have f := Args.fitsI hφ hx hF hB (.va (r := rInt) (a := places') k0 (.bo (r := (rB (pr (rTri rInt rInt rInt)))) (a := steps') k1 .nil)) 4
  unfold PF.Web___init__X at h
  refine q_if (b := (!(decide ((0 : Int) ≤ places') && decide (places' ≤ (12 : Int))))) w f (fun rd => (et_not (et_test (er_chain (f := fun i j => decide (i ≤ j)) (g := fun i j => decide (i ≤ j)) er_int (er_v rd 1 rfl) (er_cval cr_Web cv_Web_MOST_PLACES))))) (fun b_1 H w f => ?_) (fun b_1 H w f => ?_)
  · replace h := ifT h b_1
    cases h
    exact d_raise0 w gl_BadWeb (LE _ rfl)
  · replace h := ifF h b_1
    refine d_next w f fun σ G H w f => ?_
    try dsimp only
    obtain ⟨c_5, e_6, n_7, r_8⟩ := afterS h
    refine q_forX (rv := (fun (_ : (PF.Ty_Web ⊕ ErrV)) (_ : V) (_ : Hp) => False)) (fun (s'2 : Unit) => [.ow (oIni C_Web x fE) (), .va rInt places', .bo (rB (pr (rTri rInt rInt rInt))) steps', .un, .un, .un, .un]) w f (fun rd => (src_list (er_b rd 2 rfl))) (tg_t (K := K) tg_n tg_n tg_n) e_6 (weak_eq (weak_eq (weak_eq (weak_un (weak_un (weak_un (weak_un weak_nil))))))) (fun y'3 s'2 c' _ h q_9 Gb D' σ G H w f L => ?_) (fun r e => by cases r_8 r e; exact (fun _ _ z => z.elim)) (fun s'2 e σ G H w f => ?_)
    · have LE : ∀ e, c' = Ctl.rt (Sum.inr e) → EOK mg φ.F _ E e := fun e z => LE e (Option.some.inj (r_8 _ (q_9 _ z))).symm
      refine d_if (b := ((!(decide ((0 : Int) ≤ y'3.1) && decide (y'3.1 < places'))) || ((!(decide ((0 : Int) ≤ y'3.2.1) && decide (y'3.2.1 < places'))) || (decide (y'3.1 = y'3.2.1))))) w f (fun rd => (et_orT (et_not (et_test (er_chain (f := fun i j => decide (i ≤ j)) (g := fun i j => decide (i < j)) er_int (er_v rd 3 rfl) (er_v rd 1 rfl)))) (et_orT (et_not (et_test (er_chain (f := fun i j => decide (i ≤ j)) (g := fun i j => decide (i < j)) er_int (er_v rd 4 rfl) (er_v rd 1 rfl)))) (et_test (er_eqI (er_v rd 3 rfl) (er_v rd 4 rfl)))))) (fun b_4 H w f => ?_) (fun b_4 H w f => ?_)
      · replace h := ifT h b_4
        cases h
        exact d_raise0 w gl_BadWeb (LE _ rfl)
      · replace h := ifF h b_4
        refine d_next w f fun σ G H w f => ?_
        cases h
        exact L _ _ _ w (f.weak (weak_eq (weak_eq (weak_eq (weak_un (weak_un (weak_un (weak_un weak_nil))))))))
    replace h := n_7 s'2 e
    obtain ⟨self'10, e_11, h⟩ := bS h
    replace e_11 := Option.some.inj e_11
    refine q_fld (C := C_Web) (F := fE) (a := ()) (n := "places") (ss := rInt) w f rfl cl_Web na_Web_places (fno_E (n := "places")) (fun H fs a h => Nat.lt_of_le_of_lt (fl_E H fs a h) (by decide)) (fun rd => isE (er_v rd 1 rfl) e_11) fun σ G H w f => ?_
    obtain ⟨k_14, h⟩ := ckS h
    obtain ⟨d_17, e_18, h⟩ := bS h
    obtain ⟨self'19, e_20, h⟩ := bS h
    replace e_20 := Option.some.inj e_20
    refine q_fld (C := C_Web) (F := (fS fE "places" rInt)) (a := ((), self'10)) (n := "_worth_at") (ss := (rXD wo (kP kI kI) rInt)) w f rfl cl_Web na_Web__worth_at (fno_S (n := "_worth_at") (m := "places") (fno_E (n := "_worth_at")) (by decide +kernel)) (fun H fs a h => Nat.lt_of_le_of_lt ((fl_S fl_E) H fs a h) (by decide)) (fun rd => isE (Eo.er (o := (oXD wo (kP kI kI) rInt)) (eo_xdc (s := rInt) (E := (kP kI kI)) (f := (fun (y'12 : Int × Int × Int) => some true)) (kf := (fun (y'12 : Int × Int × Int) => (some ((y'12.1, y'12.2.1))))) (m := (fun (y'12 : Int × Int × Int) => (some (y'12.2.2)))) (Nat.le_of_ble_eq_true rfl) ref_P rd (src_list (er_bor (Eo.er (o := (oV (rTri rInt rInt rInt))) (eo_sortL (f := fun c : Int × Int × Int => [c.1, c.2.1, c.2.2]) ti_Q (er_b rd 2 rfl) (fun _ _ h => nomatch h))))) (tg_t (K := K) tg_n tg_n tg_n) (by decide) (of_decide_eq_true k_14) e_18 (fun y'12 _ ψ σ2 l rd => ⟨fun _ g_13 => by exact (isT et_yes (Option.some.inj g_13)), fun _ g_15 => by exact isE (er_pair (er_v rd 3 rfl) (er_v rd 4 rfl)) (Option.some.inj g_15), fun _ g_16 => by exact isE (er_v rd 6 rfl) (Option.some.inj g_16)⟩))) e_20) fun σ G H w f => ?_
    refine d_if (b := (decide ((((((), self'10), self'19).2).length : Int) < (steps'.length : Int)))) w f (fun rd => (et_test (er_cmp (f := fun i j => decide (i < j)) (er_xlen (Nat.le_of_ble_eq_true rfl) (er_xb (er_fldI (F := (fS (fS fE "places" rInt) "_worth_at" (rXD wo (kP kI kI) rInt))) (get := fun a => a.2) (a := (((), self'10), self'19)) rd 0 rfl cl_Web na_Web__worth_at (fg_last (fno_S (n := "_worth_at") (m := "places") (fno_E (n := "_worth_at")) (by decide +kernel)))))) (er_lenL (er_b rd 2 rfl))))) (fun b_21 H w f => ?_) (fun b_21 H w f => ?_)
    · replace h := ifT h b_21
      cases h
      exact d_raise0 w gl_BadWeb (LE _ rfl)
    · replace h := ifF h b_21
      refine d_next w f fun σ G H w f => ?_
      cases h
      exact endI (Q := Q) w f rfl hF (L _ rfl)
abbrev s_Web_steps : Stmt := inClass (topS 5) 2
theorem sc_Web_steps : FnScope ["self", "worth", "u", "v"] ["self"] (defScope s_Web_steps) := ⟨rfl, rfl, rfl, by decide +kernel, rfl, by decide +kernel, by decide +kernel⟩
def w_Web_steps (wo : World) (C_Web : Addr) : (Fm → List V → Prop) → (List (Int × Int × Int)) → Prop := fun P c => ∃ (self' : PF.Ty_Web), P = (HC (pr (rIns C_Web (F_Web wo))) self' HN) ∧ PF.Web_steps self' = some c
set_option maxHeartbeats 8000000 in
theorem ok_Web_steps {P : Program} {wo : World} {K : PySem.W.Frag} {mg : Str → Option Value} {base : Heap} {f : Addr} {fd : FuncData} {C_Web : Addr} (D : MetAt K "steps" "Web.steps" s_Web_steps ["self"] f fd) (cl_Web : Cls K C_Web) (na_Web__worth_at : NoAttr K C_Web "_worth_at") : FnOk P wo K mg base CX0 1 f fd ["self"] (spO (oV (rTri rInt rInt rInt)) (w_Web_steps wo C_Web)) := by
  refine D.F.ok sc_Web_steps (fun vs H Q E h => ?_) (fun cdv A outer s H0 vs Q E hr h => ?_)
  · obtain ⟨φ, Pp, b, _, _, ⟨_, rfl, _⟩, ⟨v0, _, rfl, k0, rfl⟩, _⟩ := h
    rfl
  obtain ⟨φ, Pp, c0, hφ, _, ⟨self', rfl, h⟩, ⟨v0, _, rfl, k0, rfl⟩, L⟩ := h
  refine ⟨_, (pss_one (ps_ret (pe_lc (own := [("worth", 1), ("u", 2), ("v", 3)]) (g := gTup K 2 (gCons (gTup K 2 (gCons (gName 2) (gCons (gName 3) gNil))) (gCons (gName 1) gNil))) rfl sc_Web_steps.nd (XD.pi_itemsX (pe_fldK (K := K) (pv 0) rfl)) (blkOk_by (own := [("worth", 1), ("u", 2), ("v", 3)]) (N := ["self", "worth", "u", "v"]) (sc := defScope s_Web_steps) (by decide +kernel)) (fun _ _ _ _ _ => (pg_tupK (K := K) (by rfl) (pgs_cons (pg_tupK (K := K) (by rfl) (pgs_cons (pg_name (i := 2) sc_Web_steps.nd rfl (by first | exact Or.inl rfl | exact Or.inr rfl)) (pgs_cons (pg_name (i := 3) sc_Web_steps.nd rfl (by first | exact Or.inl rfl | exact Or.inr rfl)) pgs_nil))) (pgs_cons (pg_name (i := 1) sc_Web_steps.nd rfl (by first | exact Or.inl rfl | exact Or.inr rfl)) pgs_nil)))) (fun _ _ _ _ _ => pts_nil) (fun _ _ _ _ _ => (pe_tup (pa_cons (pv 2) (pa_cons (pv 3) (pa_cons (pv 1) pa_nil)))))))), ?_⟩
  have w := Wd.begin hφ
  have f := Args.fits hφ (.va (r := (rIns C_Web (F_Web wo))) (a := self') k0 .nil) 3
  unfold PF.Web_steps at h
  obtain ⟨k_2, h⟩ := ckS h
  refine d_retO (o := (oV (rTri rInt rInt rInt))) w f (fun rd => (eo_lc (ss := (rTri rInt rInt rInt)) (f := fun (y'1 : (Int × Int) × Int) => some true) (m := fun (y'1 : (Int × Int) × Int) => (some ((y'1.1.1, y'1.1.2, y'1.2)))) rd (src_xitems (er_xb (er_fld (F := (F_Web wo)) (get := fun a => a.2) (a := self') cl_Web na_Web__worth_at (fg_last (fno_S (n := "_worth_at") (m := "places") (fno_E (n := "_worth_at")) (by decide +kernel))) (er_v rd 0 rfl)))) (tg_p' (K := K) (tg_p' (K := K) tg_n tg_n) tg_n) (by decide) (of_decide_eq_true k_2) (compM_tot1 _) (fun y'1 _ ψ σ2 l rd => ⟨fun _ g_3 => by exact (isT et_yes (Option.some.inj g_3)), fun _ g_4 => by exact isE (er_tri (er_v rd 2 rfl) (er_v rd 3 rfl) (er_v rd 1 rfl)) (Option.some.inj g_4)⟩))) ?_
  cases h
  exact L
abbrev s_Web___invert__ : Stmt := inClass (topS 5) 3
theorem sc_Web___invert__ : FnScope ["self", "worth", "u", "v"] ["self"] (defScope s_Web___invert__) := ⟨rfl, rfl, rfl, by decide +kernel, rfl, by decide +kernel, by decide +kernel⟩
def w_Web___invert__ (wo : World) (C_Web : Addr) : (Fm → List V → Prop) → PF.Ty_Web → Prop := fun P c => ∃ (self' : PF.Ty_Web), P = (HC (pr (rIns C_Web (F_Web wo))) self' HN) ∧ PF.Web___invert__ self' = some c
set_option maxHeartbeats 8000000 in
theorem ok_Web___invert__ {P : Program} {wo : World} {K : PySem.W.Frag} {mg : Str → Option Value} {base : Heap} {f : Addr} {fd : FuncData} {f_Web___init__ : Addr} {fd_Web___init__ : FuncData} {C_Web : Addr} (D : MetAt K "__invert__" "Web.__invert__" s_Web___invert__ ["self"] f fd) (D_Web___init__ : MetAt K "__init__" "Web.__init__" s_Web___init__ ["self", "places", "steps"] f_Web___init__ fd_Web___init__) (G_Web___init__ : FnOk P wo K mg base CX0 1 f_Web___init__ fd_Web___init__ ["self", "places", "steps"] (spI C_Web (F_Web wo) (w_Web___init__ wo C_Web))) (cl_Web : Cls K C_Web) (na_Web_places : NoAttr K C_Web "places") (na_Web__worth_at : NoAttr K C_Web "_worth_at") (mk_Web : Mk K C_Web f_Web___init__) (gl_Web : mg "Web" = some (.ref C_Web)) : FnOk P wo K mg base CX0 3 f fd ["self"] (spO (oPr (rIns C_Web (F_Web wo))) (w_Web___invert__ wo C_Web)) := by
  refine D.F.ok sc_Web___invert__ (fun vs H Q E h => ?_) (fun cdv A outer s H0 vs Q E hr h => ?_)
  · obtain ⟨φ, Pp, b, _, _, ⟨_, rfl, _⟩, ⟨v0, _, rfl, k0, rfl⟩, _⟩ := h
    rfl
  obtain ⟨φ, Pp, c0, hφ, _, ⟨self', rfl, h⟩, ⟨v0, _, rfl, k0, rfl⟩, L⟩ := h
  refine ⟨_, (pss_one (ps_ret (pe_make mk_Web G_Web___init__ (hr.mono (by decide)) (by rfl) gl_Web D_Web___init__.b .nil pass0 (pa_cons (pe_fldK (K := K) (pv 0) rfl) (pa_cons (pe_lc (own := [("worth", 1), ("u", 2), ("v", 3)]) (g := gTup K 2 (gCons (gTup K 2 (gCons (gName 2) (gCons (gName 3) gNil))) (gCons (gName 1) gNil))) rfl sc_Web___invert__.nd (XD.pi_itemsX (pe_fldK (K := K) (pv 0) rfl)) (blkOk_by (own := [("worth", 1), ("u", 2), ("v", 3)]) (N := ["self", "worth", "u", "v"]) (sc := defScope s_Web___invert__) (by decide +kernel)) (fun _ _ _ _ _ => (pg_tupK (K := K) (by rfl) (pgs_cons (pg_tupK (K := K) (by rfl) (pgs_cons (pg_name (i := 2) sc_Web___invert__.nd rfl (by first | exact Or.inl rfl | exact Or.inr rfl)) (pgs_cons (pg_name (i := 3) sc_Web___invert__.nd rfl (by first | exact Or.inl rfl | exact Or.inr rfl)) pgs_nil))) (pgs_cons (pg_name (i := 1) sc_Web___invert__.nd rfl (by first | exact Or.inl rfl | exact Or.inr rfl)) pgs_nil)))) (fun _ _ _ _ _ => pts_nil) (fun _ _ _ _ _ => (pe_tup (pa_cons (pv 3) (pa_cons (pv 2) (pa_cons (pv 1) pa_nil)))))) pa_nil))))), ?_⟩
  have w := Wd.begin hφ
  have f := Args.fits hφ (.va (r := (rIns C_Web (F_Web wo))) (a := self') k0 .nil) 3
  unfold PF.Web___invert__ at h
  obtain ⟨k_2, h⟩ := ckS h
  obtain ⟨x_5, e_6, h⟩ := bS h
  refine d_ret (rr := (rIns C_Web (F_Web wo))) w f (fun rd => (er_make (W := w_Web___init__ wo C_Web) (ea_cons (er_fld (F := (F_Web wo)) (get := fun a => a.1.2) (a := self') cl_Web na_Web_places (fg_S (fg_last (fno_E (n := "places")))) (er_v rd 0 rfl)) (ea_cons (er_bor (Eo.er (o := (oV (rTri rInt rInt rInt))) (eo_lc (ss := (rTri rInt rInt rInt)) (f := fun (y'1 : (Int × Int) × Int) => some true) (m := fun (y'1 : (Int × Int) × Int) => (some ((y'1.1.2, y'1.1.1, y'1.2)))) rd (src_xitems (er_xb (er_fld (F := (F_Web wo)) (get := fun a => a.2) (a := self') cl_Web na_Web__worth_at (fg_last (fno_S (n := "_worth_at") (m := "places") (fno_E (n := "_worth_at")) (by decide +kernel))) (er_v rd 0 rfl)))) (tg_p' (K := K) (tg_p' (K := K) tg_n tg_n) tg_n) (by decide) (of_decide_eq_true k_2) (compM_tot1 _) (fun y'1 _ ψ σ2 l rd => ⟨fun _ g_3 => by exact (isT et_yes (Option.some.inj g_3)), fun _ g_4 => by exact isE (er_tri (er_v rd 3 rfl) (er_v rd 2 rfl) (er_v rd 1 rfl)) (Option.some.inj g_4)⟩)))) ea0)) ⟨_, _, rfl, e_6⟩)) ?_
  cases h
  exact L
abbrev s_Web_after : Stmt := inClass (topS 5) 4
theorem sc_Web_after : FnScope ["self", "place", "worth", "u", "v"] ["self", "place"] (defScope s_Web_after) := ⟨rfl, rfl, rfl, by decide +kernel, rfl, by decide +kernel, by decide +kernel⟩
def w_Web_after (wo : World) (C_Web : Addr) : (Fm → List V → Prop) → (List (Int × Int)) → Prop := fun P c => ∃ (self' : PF.Ty_Web) (place' : Int), P = (HC (pr (rIns C_Web (F_Web wo))) self' (HC (pr rInt) place' HN)) ∧ PF.Web_after self' place' = some c
set_option maxHeartbeats 8000000 in
theorem ok_Web_after {P : Program} {wo : World} {K : PySem.W.Frag} {mg : Str → Option Value} {base : Heap} {f : Addr} {fd : FuncData} {C_Web : Addr} (D : MetAt K "after" "Web.after" s_Web_after ["self", "place"] f fd) (cl_Web : Cls K C_Web) (na_Web__worth_at : NoAttr K C_Web "_worth_at") : FnOk P wo K mg base CX0 1 f fd ["self", "place"] (spO (oV (rPair rInt rInt)) (w_Web_after wo C_Web)) := by
  refine D.F.ok sc_Web_after (fun vs H Q E h => ?_) (fun cdv A outer s H0 vs Q E hr h => ?_)
  · obtain ⟨φ, Pp, b, _, _, ⟨_, _, rfl, _⟩, ⟨v0, _, rfl, k0, v1, _, rfl, k1, rfl⟩, _⟩ := h
    rfl
  obtain ⟨φ, Pp, c0, hφ, _, ⟨self', place', rfl, h⟩, ⟨v0, _, rfl, k0, v1, _, rfl, k1, rfl⟩, L⟩ := h
  refine ⟨_, (pss_one (ps_ret (pe_lc (own := [("worth", 2), ("u", 3), ("v", 4)]) (g := gTup K 2 (gCons (gTup K 2 (gCons (gName 3) (gCons (gName 4) gNil))) (gCons (gName 2) gNil))) rfl sc_Web_after.nd (XD.pi_itemsX (pe_fldK (K := K) (pv 0) rfl)) (blkOk_by (own := [("worth", 2), ("u", 3), ("v", 4)]) (N := ["self", "place", "worth", "u", "v"]) (sc := defScope s_Web_after) (by decide +kernel)) (fun _ _ _ _ _ => (pg_tupK (K := K) (by rfl) (pgs_cons (pg_tupK (K := K) (by rfl) (pgs_cons (pg_name (i := 3) sc_Web_after.nd rfl (by first | exact Or.inl rfl | exact Or.inr rfl)) (pgs_cons (pg_name (i := 4) sc_Web_after.nd rfl (by first | exact Or.inl rfl | exact Or.inr rfl)) pgs_nil))) (pgs_cons (pg_name (i := 2) sc_Web_after.nd rfl (by first | exact Or.inl rfl | exact Or.inr rfl)) pgs_nil)))) (fun _ _ _ _ _ => (pts_one (pt_cmpR op_eq (pv 3) (pv 1) (nomark _)))) (fun _ _ _ _ _ => (pe_tup (pa_cons (pv 4) (pa_cons (pv 2) pa_nil))))))), ?_⟩
  have w := Wd.begin hφ
  have f := Args.fits hφ (.va (r := (rIns C_Web (F_Web wo))) (a := self') k0 (.va (r := rInt) (a := place') k1 .nil)) 3
  unfold PF.Web_after at h
  obtain ⟨k_2, h⟩ := ckS h
  refine d_retO (o := (oV (rPair rInt rInt))) w f (fun rd => (eo_lc (ss := (rPair rInt rInt)) (f := fun (y'1 : (Int × Int) × Int) => (some ((decide (y'1.1.1 = place'))))) (m := fun (y'1 : (Int × Int) × Int) => (some ((y'1.1.2, y'1.2)))) rd (src_xitems (er_xb (er_fld (F := (F_Web wo)) (get := fun a => a.2) (a := self') cl_Web na_Web__worth_at (fg_last (fno_S (n := "_worth_at") (m := "places") (fno_E (n := "_worth_at")) (by decide +kernel))) (er_v rd 0 rfl)))) (tg_p' (K := K) (tg_p' (K := K) tg_n tg_n) tg_n) (by decide) (of_decide_eq_true k_2) (compM_tot _) (fun y'1 _ ψ σ2 l rd => ⟨fun _ g_3 => by exact isT (et_test (er_eqI (er_v rd 3 rfl) (er_v rd 1 rfl))) (Option.some.inj g_3), fun _ g_4 => by exact isE (er_pair (er_v rd 4 rfl) (er_v rd 2 rfl)) (Option.some.inj g_4)⟩))) ?_
  cases h
  exact L
abbrev s_Web_before : Stmt := inClass (topS 5) 5
theorem sc_Web_before : FnScope ["self", "place", "worth", "u", "v"] ["self", "place"] (defScope s_Web_before) := ⟨rfl, rfl, rfl, by decide +kernel, rfl, by decide +kernel, by decide +kernel⟩
def w_Web_before (wo : World) (C_Web : Addr) : (Fm → List V → Prop) → (List (Int × Int)) → Prop := fun P c => ∃ (self' : PF.Ty_Web) (place' : Int), P = (HC (pr (rIns C_Web (F_Web wo))) self' (HC (pr rInt) place' HN)) ∧ PF.Web_before self' place' = some c
set_option maxHeartbeats 8000000 in
theorem ok_Web_before {P : Program} {wo : World} {K : PySem.W.Frag} {mg : Str → Option Value} {base : Heap} {f : Addr} {fd : FuncData} {C_Web : Addr} (D : MetAt K "before" "Web.before" s_Web_before ["self", "place"] f fd) (cl_Web : Cls K C_Web) (na_Web__worth_at : NoAttr K C_Web "_worth_at") : FnOk P wo K mg base CX0 1 f fd ["self", "place"] (spO (oV (rPair rInt rInt)) (w_Web_before wo C_Web)) := by
  refine D.F.ok sc_Web_before (fun vs H Q E h => ?_) (fun cdv A outer s H0 vs Q E hr h => ?_)
  · obtain ⟨φ, Pp, b, _, _, ⟨_, _, rfl, _⟩, ⟨v0, _, rfl, k0, v1, _, rfl, k1, rfl⟩, _⟩ := h
    rfl
  obtain ⟨φ, Pp, c0, hφ, _, ⟨self', place', rfl, h⟩, ⟨v0, _, rfl, k0, v1, _, rfl, k1, rfl⟩, L⟩ := h
  refine ⟨_, (pss_one (ps_ret (pe_lc (own := [("worth", 2), ("u", 3), ("v", 4)]) (g := gTup K 2 (gCons (gTup K 2 (gCons (gName 3) (gCons (gName 4) gNil))) (gCons (gName 2) gNil))) rfl sc_Web_before.nd (XD.pi_itemsX (pe_fldK (K := K) (pv 0) rfl)) (blkOk_by (own := [("worth", 2), ("u", 3), ("v", 4)]) (N := ["self", "place", "worth", "u", "v"]) (sc := defScope s_Web_before) (by decide +kernel)) (fun _ _ _ _ _ => (pg_tupK (K := K) (by rfl) (pgs_cons (pg_tupK (K := K) (by rfl) (pgs_cons (pg_name (i := 3) sc_Web_before.nd rfl (by first | exact Or.inl rfl | exact Or.inr rfl)) (pgs_cons (pg_name (i := 4) sc_Web_before.nd rfl (by first | exact Or.inl rfl | exact Or.inr rfl)) pgs_nil))) (pgs_cons (pg_name (i := 2) sc_Web_before.nd rfl (by first | exact Or.inl rfl | exact Or.inr rfl)) pgs_nil)))) (fun _ _ _ _ _ => (pts_one (pt_cmpR op_eq (pv 4) (pv 1) (nomark _)))) (fun _ _ _ _ _ => (pe_tup (pa_cons (pv 3) (pa_cons (pv 2) pa_nil))))))), ?_⟩
  have w := Wd.begin hφ
  have f := Args.fits hφ (.va (r := (rIns C_Web (F_Web wo))) (a := self') k0 (.va (r := rInt) (a := place') k1 .nil)) 3
  unfold PF.Web_before at h
  obtain ⟨k_2, h⟩ := ckS h
  refine d_retO (o := (oV (rPair rInt rInt))) w f (fun rd => (eo_lc (ss := (rPair rInt rInt)) (f := fun (y'1 : (Int × Int) × Int) => (some ((decide (y'1.1.2 = place'))))) (m := fun (y'1 : (Int × Int) × Int) => (some ((y'1.1.1, y'1.2)))) rd (src_xitems (er_xb (er_fld (F := (F_Web wo)) (get := fun a => a.2) (a := self') cl_Web na_Web__worth_at (fg_last (fno_S (n := "_worth_at") (m := "places") (fno_E (n := "_worth_at")) (by decide +kernel))) (er_v rd 0 rfl)))) (tg_p' (K := K) (tg_p' (K := K) tg_n tg_n) tg_n) (by decide) (of_decide_eq_true k_2) (compM_tot _) (fun y'1 _ ψ σ2 l rd => ⟨fun _ g_3 => by exact isT (et_test (er_eqI (er_v rd 4 rfl) (er_v rd 1 rfl))) (Option.some.inj g_3), fun _ g_4 => by exact isE (er_pair (er_v rd 3 rfl) (er_v rd 2 rfl)) (Option.some.inj g_4)⟩))) ?_
  cases h
  exact L
abbrev s_Web_worth_of : Stmt := inClass (topS 5) 6
theorem sc_Web_worth_of : FnScope ["self", "u", "v"] ["self", "u", "v"] (defScope s_Web_worth_of) := ⟨rfl, rfl, rfl, by decide +kernel, rfl, by decide +kernel, by decide +kernel⟩
def w_Web_worth_of (wo : World) (C_Web : Addr) : (Fm → List V → Prop) → (Option Int) → Prop := fun P c => ∃ (self' : PF.Ty_Web) (u' : Int) (v' : Int), P = (HC (pr (rIns C_Web (F_Web wo))) self' (HC (pr rInt) u' (HC (pr rInt) v' HN))) ∧ PF.Web_worth_of self' u' v' = some c
set_option maxHeartbeats 8000000 in
theorem ok_Web_worth_of {P : Program} {wo : World} {K : PySem.W.Frag} {mg : Str → Option Value} {base : Heap} {f : Addr} {fd : FuncData} {C_Web : Addr} (D : MetAt K "worth_of" "Web.worth_of" s_Web_worth_of ["self", "u", "v"] f fd) (cl_Web : Cls K C_Web) (na_Web__worth_at : NoAttr K C_Web "_worth_at") : FnOk P wo K mg base CX0 1 f fd ["self", "u", "v"] (spO (oPr (rOpt rInt)) (w_Web_worth_of wo C_Web)) := by
  refine D.F.ok sc_Web_worth_of (fun vs H Q E h => ?_) (fun cdv A outer s H0 vs Q E hr h => ?_)
  · obtain ⟨φ, Pp, b, _, _, ⟨_, _, _, rfl, _⟩, ⟨v0, _, rfl, k0, v1, _, rfl, k1, v2, _, rfl, k2, rfl⟩, _⟩ := h
    rfl
  obtain ⟨φ, Pp, c0, hφ, _, ⟨self', u', v', rfl, h⟩, ⟨v0, _, rfl, k0, v1, _, rfl, k1, v2, _, rfl, k2, rfl⟩, L⟩ := h
  refine ⟨_, (pss_one (ps_ret (XD.pe_bmX (r := XD.rGetX wo) PySem.F.plainAttrs_dict PySem.F.slot_dict_get PySem.F.type_dict_get (XD.mt_getX (inX_room hr)) (pe_fldK (K := K) (pv 0) rfl) (pa_cons (pe_tup (pa_cons (pv 1) (pa_cons (pv 2) pa_nil))) pa_nil)))), ?_⟩
  have w := Wd.begin hφ
  have f := Args.fits hφ (.va (r := (rIns C_Web (F_Web wo))) (a := self') k0 (.va (r := rInt) (a := u') k1 (.va (r := rInt) (a := v') k2 .nil))) 0
  unfold PF.Web_worth_of at h
  refine d_ret (rr := (rOpt rInt)) w f (fun rd => (er_xgetN (Nat.le_of_ble_eq_true rfl) ref_P (er_xb (er_fld (F := (F_Web wo)) (get := fun a => a.2) (a := self') cl_Web na_Web__worth_at (fg_last (fno_S (n := "_worth_at") (m := "places") (fno_E (n := "_worth_at")) (by decide +kernel))) (er_v rd 0 rfl))) (er_pair (er_v rd 1 rfl) (er_v rd 2 rfl)))) ?_
  cases h
  exact L
abbrev s_Web__step_worths : Stmt := inClass (topS 5) 10
theorem sc_Web__step_worths : FnScope ["self", "way", "step"] ["self", "way"] (defScope s_Web__step_worths) := ⟨rfl, rfl, rfl, by decide +kernel, rfl, by decide +kernel, by decide +kernel⟩
def w_Web__step_worths (wo : World) (C_Web : Addr) : (Fm → List V → Prop) → (List (Option Int)) → Prop := fun P c => ∃ (self' : PF.Ty_Web) (way' : List Int), P = (HC (pr (rIns C_Web (F_Web wo))) self' (HC (pr (rTup rInt)) way' HN)) ∧ PF.Web__step_worths self' way' = some c
set_option maxHeartbeats 8000000 in
theorem ok_Web__step_worths {P : Program} {wo : World} {K : PySem.W.Frag} {mg : Str → Option Value} {base : Heap} {f : Addr} {fd : FuncData} {C_Web : Addr} (D : MetAt K "_step_worths" "Web._step_worths" s_Web__step_worths ["self", "way"] f fd) (mB_zip : mg "zip" = none) (cl_Web : Cls K C_Web) (na_Web__worth_at : NoAttr K C_Web "_worth_at") : FnOk P wo K mg base CX0 1 f fd ["self", "way"] (spO (oV (rOpt rInt)) (w_Web__step_worths wo C_Web)) := by
  refine D.F.ok sc_Web__step_worths (fun vs H Q E h => ?_) (fun cdv A outer s H0 vs Q E hr h => ?_)
  · obtain ⟨φ, Pp, b, _, _, ⟨_, _, rfl, _⟩, ⟨v0, _, rfl, k0, v1, _, rfl, k1, rfl⟩, _⟩ := h
    rfl
  obtain ⟨φ, Pp, c0, hφ, _, ⟨self', way', rfl, h⟩, ⟨v0, _, rfl, k0, v1, _, rfl, k1, rfl⟩, L⟩ := h
  refine ⟨_, (pss_one (ps_ret (pe_lc (own := [("step", 2)]) (g := gName 2) rfl sc_Web__step_worths.nd (ZNm.pi_zipN (K := K) (by rfl) mB_zip (pa_cons (pv 1) (pa_cons (pe_slice (r := rSlA K) sl_tupA (pv 1) (po_some pe_int) po_none) pa_nil))) (blkOk_by (own := [("step", 2)]) (N := ["self", "way", "step"]) (sc := defScope s_Web__step_worths) (by decide +kernel)) (fun _ _ _ _ _ => (pg_name (i := 2) sc_Web__step_worths.nd rfl (by first | exact Or.inl rfl | exact Or.inr rfl))) (fun _ _ _ _ _ => pts_nil) (fun _ _ _ _ _ => (XD.pe_bmX (r := XD.rGetX wo) PySem.F.plainAttrs_dict PySem.F.slot_dict_get PySem.F.type_dict_get (XD.mt_getX (inX_room hr)) (pe_fldK (K := K) (pv 0) rfl) (pa_cons (pv 2) pa_nil)))))), ?_⟩
  have w := Wd.begin hφ
  have f := Args.fits hφ (.va (r := (rIns C_Web (F_Web wo))) (a := self') k0 (.va (r := (rTup rInt)) (a := way') k1 .nil)) 1
  unfold PF.Web__step_worths at h
  obtain ⟨k_2, h⟩ := ckS h
  refine d_retO (o := (oV (rOpt rInt))) w f (fun rd => (eo_lc (ss := (rOpt rInt)) (f := fun (y'1 : Int × Int) => some true) (m := fun (y'1 : Int × Int) => (some ((getX self'.2 y'1)))) rd (src_zipN (er_v rd 1 rfl) (er_slT (rr := rInt) (er_v rd 1 rfl) (eop_part er_int) eop_none)) tg_n (by decide) (of_decide_eq_true k_2) (compM_tot1 _) (fun y'1 _ ψ σ2 l rd => ⟨fun _ g_3 => by exact (isT et_yes (Option.some.inj g_3)), fun _ g_4 => by exact isE (er_xgetN (Nat.le_of_ble_eq_true rfl) ref_P (er_xb (er_fld (F := (F_Web wo)) (get := fun a => a.2) (a := self') cl_Web na_Web__worth_at (fg_last (fno_S (n := "_worth_at") (m := "places") (fno_E (n := "_worth_at")) (by decide +kernel))) (er_v rd 0 rfl))) (er_v rd 2 rfl)) (Option.some.inj g_4)⟩))) ?_
  cases h
  exact L
abbrev s_Web_is_way : Stmt := inClass (topS 5) 7
theorem sc_Web_is_way : FnScope ["self", "way"] ["self", "way"] (defScope s_Web_is_way) := ⟨rfl, rfl, rfl, by decide +kernel, rfl, by decide +kernel, by decide +kernel⟩
def w_Web_is_way (wo : World) (C_Web : Addr) : (Fm → List V → Prop) → Bool → Prop := fun P c => ∃ (self' : PF.Ty_Web) (way' : List Int), P = (HC (pr (rIns C_Web (F_Web wo))) self' (HC (pr (rTup rInt)) way' HN)) ∧ PF.Web_is_way self' way' = some c
set_option maxHeartbeats 8000000 in
theorem ok_Web_is_way {P : Program} {wo : World} {K : PySem.W.Frag} {mg : Str → Option Value} {base : Heap} {f : Addr} {fd : FuncData} {f_Web__step_worths : Addr} {fd_Web__step_worths : FuncData} {C_Web : Addr} (D : MetAt K "is_way" "Web.is_way" s_Web_is_way ["self", "way"] f fd) (D_Web__step_worths : MetAt K "_step_worths" "Web._step_worths" s_Web__step_worths ["self", "way"] f_Web__step_worths fd_Web__step_worths) (G_Web__step_worths : FnOk P wo K mg base CX0 1 f_Web__step_worths fd_Web__step_worths ["self", "way"] (spO (oV (rOpt rInt)) (w_Web__step_worths wo C_Web))) (mB_len : mg "len" = none) (mB_set : mg "set" = none) (cl_Web : Cls K C_Web) (na_Web_places : NoAttr K C_Web "places") (me_Web__step_worths : Meth K C_Web "_step_worths" f_Web__step_worths) : FnOk P wo K mg base CX0 2 f fd ["self", "way"] (spO (oPr rBl) (w_Web_is_way wo C_Web)) := by
  refine D.F.ok sc_Web_is_way (fun vs H Q E h => ?_) (fun cdv A outer s H0 vs Q E hr h => ?_)
  · obtain ⟨φ, Pp, b, _, _, ⟨_, _, rfl, _⟩, ⟨v0, _, rfl, k0, v1, _, rfl, k1, rfl⟩, _⟩ := h
    rfl
  obtain ⟨φ, Pp, c0, hφ, _, ⟨self', way', rfl, h⟩, ⟨v0, _, rfl, k0, v1, _, rfl, k1, rfl⟩, L⟩ := h
  refine ⟨_, (pss_cons (ps_if (PW.pt (pw_or (pt_not (pt_tru (K := K) (pv 1) (by intro _; rfl))) (pw_or1 (pt_cmpR op_lt (L2.pe_lenSetT rfl (by rfl) mB_len (by rfl) mB_set (pv 1)) (pe_callB (r := rLenQ K) call_len_seq (by rfl) mB_len (by decide +kernel) (pa_cons (pv 1) pa_nil)) (nomark _)))))
    (pss_one (ps_ret pe_bl))
    pss_nil)
  (pss_one (ps_ret (pe_and (pe_chain op_le op_lt pe_int (pe_ix (r := rIxT K) ix_tup (pv 1) pe_int (fun _ _ => rfl)) (pe_fldK (K := K) (pv 0) rfl)) (pe_one (pe_cmpR (r := rNotInD K) (op_notInD (inD_room hr)) pe_non (pe_meth (pv 0) cl_Web me_Web__step_worths G_Web__step_worths (hr.mono (by decide)) D_Web__step_worths.b .nil pass0 (pa_cons (pv 1) pa_nil)) (by rfl))))))), ?_⟩
  have w := Wd.begin hφ
  have f := Args.fits hφ (.va (r := (rIns C_Web (F_Web wo))) (a := self') k0 (.va (r := (rTup rInt)) (a := way') k1 .nil)) 0
  unfold PF.Web_is_way at h
  obtain ⟨b_3, e_4, h⟩ := bS h
  refine q_if (b := b_3) w f (fun rd => (et_or (et_not (et_tup (er_v rd 1 rfl))) (fun _ g_2 => by obtain ⟨k_1, g_2⟩ := ckS g_2; exact isT (et_test (er_cmp (f := fun i j => decide (i < j)) (er_lenSetT (er_v rd 1 rfl) (of_decide_eq_true k_1)) (er_lenT (er_v rd 1 rfl)))) (Option.some.inj g_2)) e_4)) (fun b_5 H w f => ?_) (fun b_5 H w f => ?_)
  · replace h := ifT h b_5
    refine d_ret (rr := rBl) w f (fun rd => er_bl) ?_
    cases h
    exact L
  · replace h := ifF h b_5
    refine d_next w f fun σ G H w f => ?_
    try dsimp only
    obtain ⟨x_6, e_7, h⟩ := bS h
    obtain ⟨b_11, e_12, h⟩ := bS h
    refine d_ret (rr := rBl) w f (fun rd => (er_andV (er_chain (f := fun i j => decide (i ≤ j)) (g := fun i j => decide (i < j)) er_int (er_ixT (er_v rd 1 rfl) er_int e_7) (er_fld (F := (F_Web wo)) (get := fun a => a.1.2) (a := self') cl_Web na_Web_places (fg_S (fg_last (fno_E (n := "places")))) (er_v rd 0 rfl))) (fun _ g_10 => by obtain ⟨x_8, e_9, g_10⟩ := bS g_10; exact isE (er_niD (eaP (eOpt eInt fun _ => ⟨rfl, rfl⟩)) (eaP (eOpt eInt fun _ => ⟨rfl, rfl⟩)) (Nat.le_of_ble_eq_true rfl) (Nat.le_of_ble_eq_true rfl) er_nonO (er_bor (Eo.er (o := (oV (rOpt rInt))) (eo_meth (o := (oV (rOpt rInt))) (W := w_Web__step_worths wo C_Web) (F := (F_Web wo)) (a := self') (fno_S (n := "_step_worths") (m := "_worth_at") (fno_S (n := "_step_worths") (m := "places") (fno_E (n := "_step_worths")) (by decide +kernel)) (by decide +kernel)) (er_v rd 0 rfl) (ea_cons (er_v rd 1 rfl) ea0) ⟨_, _, rfl, e_9⟩)))) (Option.some.inj g_10)) e_12)) ?_
    cases h
    exact L
abbrev s_Web_way_worth : Stmt := inClass (topS 5) 8
theorem sc_Web_way_worth : FnScope ["self", "way"] ["self", "way"] (defScope s_Web_way_worth) := ⟨rfl, rfl, rfl, by decide +kernel, rfl, by decide +kernel, by decide +kernel⟩
def w_Web_way_worth (wo : World) (C_Web : Addr) : (Fm → List V → Prop) → Int → Prop := fun P c => ∃ (self' : PF.Ty_Web) (way' : List Int), P = (HC (pr (rIns C_Web (F_Web wo))) self' (HC (pr (rTup rInt)) way' HN)) ∧ PF.Web_way_worth self' way' = some c
set_option maxHeartbeats 8000000 in
theorem ok_Web_way_worth {P : Program} {wo : World} {K : PySem.W.Frag} {mg : Str → Option Value} {base : Heap} {f : Addr} {fd : FuncData} {f_Web_is_way : Addr} {fd_Web_is_way : FuncData} {f_Web__step_worths : Addr} {fd_Web__step_worths : FuncData} {C_Web : Addr} (D : MetAt K "way_worth" "Web.way_worth" s_Web_way_worth ["self", "way"] f fd) (D_Web_is_way : MetAt K "is_way" "Web.is_way" s_Web_is_way ["self", "way"] f_Web_is_way fd_Web_is_way) (D_Web__step_worths : MetAt K "_step_worths" "Web._step_worths" s_Web__step_worths ["self", "way"] f_Web__step_worths fd_Web__step_worths) (G_Web_is_way : FnOk P wo K mg base CX0 2 f_Web_is_way fd_Web_is_way ["self", "way"] (spO (oPr rBl) (w_Web_is_way wo C_Web))) (G_Web__step_worths : FnOk P wo K mg base CX0 1 f_Web__step_worths fd_Web__step_worths ["self", "way"] (spO (oV (rOpt rInt)) (w_Web__step_worths wo C_Web))) (mB_sum : mg "sum" = none) (me_Web_is_way : Meth K C_Web "is_way" f_Web_is_way) (cl_Web : Cls K C_Web) (me_Web__step_worths : Meth K C_Web "_step_worths" f_Web__step_worths) : FnOk P wo K mg base CX0 3 f fd ["self", "way"] (spO (oPr rInt) (w_Web_way_worth wo C_Web)) := by
  refine D.F.ok sc_Web_way_worth (fun vs H Q E h => ?_) (fun cdv A outer s H0 vs Q E hr h => ?_)
  · obtain ⟨φ, Pp, b, _, _, ⟨_, _, rfl, _⟩, ⟨v0, _, rfl, k0, v1, _, rfl, k1, rfl⟩, _⟩ := h
    rfl
  obtain ⟨φ, Pp, c0, hφ, _, ⟨self', way', rfl, h⟩, ⟨v0, _, rfl, k0, v1, _, rfl, k1, rfl⟩, L⟩ := h
  refine ⟨_, (pss_cons (ps_if (pt_not (pt_val (pe_meth (pv 0) cl_Web me_Web_is_way G_Web_is_way (hr.mono (by decide)) D_Web_is_way.b .nil pass0 (pa_cons (pv 1) pa_nil))))
    pss_never
    pss_nil)
  (pss_one (ps_ret (pe_callB (r := rSum K) (cr_sum rfl) (by rfl) mB_sum (by decide +kernel) (pa_cons (pe_meth (pv 0) cl_Web me_Web__step_worths G_Web__step_worths (hr.mono (by decide)) D_Web__step_worths.b .nil pass0 (pa_cons (pv 1) pa_nil)) pa_nil))))), ?_⟩
  have w := Wd.begin hφ
  have f := Args.fits hφ (.va (r := (rIns C_Web (F_Web wo))) (a := self') k0 (.va (r := (rTup rInt)) (a := way') k1 .nil)) 0
  unfold PF.Web_way_worth at h
  obtain ⟨x_1, e_2, h⟩ := bS h
  refine q_if (b := (!x_1)) w f (fun rd => (et_not (et_B (er_methP (W := w_Web_is_way wo C_Web) (F := (F_Web wo)) (a := self') (fno_S (n := "is_way") (m := "_worth_at") (fno_S (n := "is_way") (m := "places") (fno_E (n := "is_way")) (by decide +kernel)) (by decide +kernel)) (er_v rd 0 rfl) (ea_cons (er_v rd 1 rfl) ea0) ⟨_, _, rfl, e_2⟩)))) (fun b_3 H w f => ?_) (fun b_3 H w f => ?_)
  · replace h := ifT h b_3
    cases h
  · replace h := ifF h b_3
    refine d_next w f fun σ G H w f => ?_
    try dsimp only
    obtain ⟨x_4, e_5, h⟩ := bS h
    obtain ⟨ns_6, e_7, h⟩ := bS h
    refine d_ret (rr := rInt) w f (fun rd => (er_sumOpt (er_bor (Eo.er (o := (oV (rOpt rInt))) (eo_meth (o := (oV (rOpt rInt))) (W := w_Web__step_worths wo C_Web) (F := (F_Web wo)) (a := self') (fno_S (n := "_step_worths") (m := "_worth_at") (fno_S (n := "_step_worths") (m := "places") (fno_E (n := "_step_worths")) (by decide +kernel)) (by decide +kernel)) (er_v rd 0 rfl) (ea_cons (er_v rd 1 rfl) ea0) ⟨_, _, rfl, e_5⟩))) e_7)) ?_
    cases h
    exact L
def w_Web_way_worthX (wo : World) (C_Web : Addr) : (Fm → List V → Prop) → (Int ⊕ ErrV) → Prop := fun P c => ∃ (self' : PF.Ty_Web) (way' : List Int), P = (HC (pr (rIns C_Web (F_Web wo))) self' (HC (pr (rTup rInt)) way' HN)) ∧ PF.Web_way_worthX self' way' = some c
set_option maxHeartbeats 8000000 in
theorem ok_Web_way_worthX {P : Program} {wo : World} {K : PySem.W.Frag} {mg : Str → Option Value} {base : Heap} {f : Addr} {fd : FuncData} {f_Web_is_way : Addr} {fd_Web_is_way : FuncData} {f_Web__step_worths : Addr} {fd_Web__step_worths : FuncData} {C_Web : Addr} {C_BadWeb : Addr} (D : MetAt K "way_worth" "Web.way_worth" s_Web_way_worth ["self", "way"] f fd) (D_Web_is_way : MetAt K "is_way" "Web.is_way" s_Web_is_way ["self", "way"] f_Web_is_way fd_Web_is_way) (D_Web__step_worths : MetAt K "_step_worths" "Web._step_worths" s_Web__step_worths ["self", "way"] f_Web__step_worths fd_Web__step_worths) (G_Web_is_way : FnOk P wo K mg base CX0 2 f_Web_is_way fd_Web_is_way ["self", "way"] (spO (oPr rBl) (w_Web_is_way wo C_Web))) (G_Web__step_worths : FnOk P wo K mg base CX0 1 f_Web__step_worths fd_Web__step_worths ["self", "way"] (spO (oV (rOpt rInt)) (w_Web__step_worths wo C_Web))) (mB_sum : mg "sum" = none) (me_Web_is_way : Meth K C_Web "is_way" f_Web_is_way) (cl_Web : Cls K C_Web) (gl_BadWeb : mg "BadWeb" = some (.ref C_BadWeb)) (xi_BadWeb : PySem.W.excIn K C_BadWeb [.type "ValueError", .type "Exception", .type "BaseException", .type "object"] "ValueError.__new__" = true) (kp_BadWeb : PySem.W.keepIn K (.ref C_BadWeb) = true) (ty_BadWeb : PySem.W.typeIn K (.ref C_BadWeb) = some (.type "type")) (EC_BadWeb : ExcC K C_BadWeb) (me_Web__step_worths : Meth K C_Web "_step_worths" f_Web__step_worths) : FnOk P wo K mg base (L2.CX P wo) 3 f fd ["self", "way"] (spX mg (oPr rInt) (w_Web_way_worthX wo C_Web)) := by
  refine D.F.okX sc_Web_way_worth (fun vs H Q E h => ?_) (fun cdv A outer s H0 vs Q E hr h => ?_)
  · obtain ⟨φ, Pp, b, _, _, ⟨_, _, rfl, _⟩, ⟨v0, _, rfl, k0, v1, _, rfl, k1, rfl⟩, _⟩ := h
    rfl
  obtain ⟨φ, Pp, c0, hφ, _, ⟨self', way', rfl, h⟩, ⟨v0, _, rfl, k0, v1, _, rfl, k1, rfl⟩, L, LE⟩ := h
  refine ⟨_, (pss_cons (ps_if (pt_not (pt_val (pe_meth (pv 0) cl_Web me_Web_is_way G_Web_is_way (hr.mono (by decide)) D_Web_is_way.b .nil pass0 (pa_cons (pv 1) pa_nil))))
    (pss_one (ps_raise rfl (takes_of rfl rfl rfl rfl) (pmk_own PySem.F.excBase_ValueError xi_BadWeb gl_BadWeb kp_BadWeb (raises_own EC_BadWeb.hs ty_BadWeb) (by exact rfl))))
    pss_nil)
  (pss_one (ps_ret (pe_callB (r := rSum K) (cr_sum rfl) (by rfl) mB_sum (by decide +kernel) (pa_cons (pe_meth (pv 0) cl_Web me_Web__step_worths G_Web__step_worths (hr.mono (by decide)) D_Web__step_worths.b .nil pass0 (pa_cons (pv 1) pa_nil)) pa_nil))))), ?_⟩
  have w := Wd.begin hφ
  have f := Args.fits hφ (.va (r := (rIns C_Web (F_Web wo))) (a := self') k0 (.va (r := (rTup rInt)) (a := way') k1 .nil)) 0
  unfold PF.Web_way_worthX at h
  obtain ⟨x_1, e_2, h⟩ := bS h
  refine q_if (b := (!x_1)) w f (fun rd => (et_not (et_B (er_methP (W := w_Web_is_way wo C_Web) (F := (F_Web wo)) (a := self') (fno_S (n := "is_way") (m := "_worth_at") (fno_S (n := "is_way") (m := "places") (fno_E (n := "is_way")) (by decide +kernel)) (by decide +kernel)) (er_v rd 0 rfl) (ea_cons (er_v rd 1 rfl) ea0) ⟨_, _, rfl, e_2⟩)))) (fun b_3 H w f => ?_) (fun b_3 H w f => ?_)
  · replace h := ifT h b_3
    cases h
    exact d_raise0 w gl_BadWeb (LE _ rfl)
  · replace h := ifF h b_3
    refine d_next w f fun σ G H w f => ?_
    try dsimp only
    obtain ⟨x_4, e_5, h⟩ := bS h
    obtain ⟨ns_6, e_7, h⟩ := bS h
    refine d_ret (rr := rInt) w f (fun rd => (er_sumOpt (er_bor (Eo.er (o := (oV (rOpt rInt))) (eo_meth (o := (oV (rOpt rInt))) (W := w_Web__step_worths wo C_Web) (F := (F_Web wo)) (a := self') (fno_S (n := "_step_worths") (m := "_worth_at") (fno_S (n := "_step_worths") (m := "places") (fno_E (n := "_step_worths")) (by decide +kernel)) (by decide +kernel)) (er_v rd 0 rfl) (ea_cons (er_v rd 1 rfl) ea0) ⟨_, _, rfl, e_5⟩))) e_7)) ?_
    cases h
    exact L
abbrev s_Web_all_ways : Stmt := inClass (topS 5) 9
theorem sc_Web_all_ways : GScope ["self", "count", "ways", "way", "place", "v", "_"] ["self", "count"] (defScope s_Web_all_ways) := ⟨rfl, rfl, rfl, by decide +kernel, rfl, by decide +kernel, by decide +kernel⟩
def w_Web_all_ways (wo : World) (C_Web : Addr) : (Fm → List V → Prop) → (List (List Int)) → Prop := fun P c => ∃ (self' : PF.Ty_Web) (count' : Int), P = (HC (pr (rIns C_Web (F_Web wo))) self' (HC (pr rInt) count' HN)) ∧ PF.Web_all_ways self' count' = some c
set_option maxHeartbeats 8000000 in
theorem ok_Web_all_ways {P : Program} {wo : World} {K : PySem.W.Frag} {mg : Str → Option Value} {base : Heap} {f : Addr} {fd : FuncData} {f_Web_after : Addr} {fd_Web_after : FuncData} {C_Web : Addr} (D : MetAt K "all_ways" "Web.all_ways" s_Web_all_ways ["self", "count"] f fd) (D_Web_after : MetAt K "after" "Web.after" s_Web_after ["self", "place"] f_Web_after fd_Web_after) (G_Web_after : FnOk P wo K mg base CX0 1 f_Web_after fd_Web_after ["self", "place"] (spO (oV (rPair rInt rInt)) (w_Web_after wo C_Web))) (mB_len : mg "len" = none) (mB_range : mg "range" = none) (cl_Web : Cls K C_Web) (na_Web_places : NoAttr K C_Web "places") (me_Web_after : Meth K C_Web "after" f_Web_after) : GFn P wo K mg base 2 f fd ["self", "count"] (spGQ (rTup rInt) (w_Web_all_ways wo C_Web)) := by
  obtain ⟨oc, od, kV, doc, pm, an, cdv, ct, osl, rfl, lk, hcd⟩ := D.F.ex
  refine gfn_of lk hcd sc_Web_all_ways (fun vs H Q E h => ?_) (fun A outer s H0 vs Q E pn hr h => ?_)
  · obtain ⟨φ, Pp, b, _, _, ⟨_, _, rfl, _⟩, ⟨v0, _, rfl, k0, v1, _, rfl, k1, rfl⟩, _⟩ := h
    rfl
  obtain ⟨φ, Pp, c0, hφ, _, ⟨self', count', rfl, h⟩, ⟨v0, _, rfl, k0, v1, _, rfl, k1, rfl⟩, L⟩ := h
  refine ⟨_, (gss_cons (gs_ps (ps_setLc (i := 2) (own := [("place", 4)]) (g := gName 4) rfl sc_Web_all_ways.nd rfl rfl (sw_true rfl rfl rfl (by decide +kernel)) (pi_range1 (by rfl) mB_range (pa_cons (pe_fldK (K := K) (pv 0) rfl) pa_nil)) (blkOk_by (own := [("place", 4)]) (N := ["self", "count", "ways", "way", "place", "v", "_"]) (sc := defScope s_Web_all_ways) (by decide +kernel)) (fun _ _ _ _ _ => (pg_name (i := 4) sc_Web_all_ways.nd rfl (by first | exact Or.inl rfl | exact Or.inr rfl))) (fun _ _ _ _ _ => pts_nil) (fun _ _ _ _ _ => (pe_tup (pa_cons (pv 4) pa_nil)))))
  (gss_cons (gs_ps (ps_while owns_gcx (PW.pt (pw_and (pt_tru (K := K) (pv 2) (by intro _; rfl)) (pw_and1 (pt_cmpR op_lt (pe_callB (r := rLenQ K) call_len_seq (by rfl) mB_len (by decide +kernel) (pa_cons (pe_ix (r := rIxL K) ix_list (pv 2) pe_int (fun _ _ => rfl)) pa_nil)) (pv 1) (nomark _)))))
    (pss_one (ps_setLc2 (i := 2) (own := [("way", 3), ("v", 5), ("_", 6)]) (g := gName 3) (g1 := gTup K 2 (gCons (gName 5) (gCons (gName 6) gNil))) (vs1 := [5, 6]) rfl sc_Web_all_ways.nd rfl rfl (sw_true rfl rfl rfl (by decide +kernel)) (pi_listK (K := K) (pv 2)) (blkOk_by (own := [("way", 3), ("v", 5), ("_", 6)]) (N := ["self", "count", "ways", "way", "place", "v", "_"]) (sc := defScope s_Web_all_ways) (by decide +kernel)) (by decide) (fun _ _ _ _ _ => (pg_name (i := 3) sc_Web_all_ways.nd rfl (by first | exact Or.inl rfl | exact Or.inr rfl))) (fun _ _ _ _ _ => pts_nil) (fun _ _ _ _ _ => (pi_listK (K := K) (pe_meth (pv 0) cl_Web me_Web_after G_Web_after (hr.mono (by decide)) D_Web_after.b .nil pass0 (pa_cons (pe_ix (r := rIxT K) ix_tup (pv 3) (pe_un un_neg pe_int) (fun _ _ => rfl)) pa_nil)))) (fun _ _ _ _ _ => (pg_tupK (K := K) (by rfl) (pgs_cons (pg_name (i := 5) sc_Web_all_ways.nd rfl (by first | exact Or.inl rfl | exact Or.inr rfl)) (pgs_cons (pg_name (i := 6) sc_Web_all_ways.nd rfl (by first | exact Or.inl rfl | exact Or.inr rfl)) pgs_nil)))) (fun _ _ _ _ _ => (pts_one (pt_cmpR (r := rIn K true) op_notIn_seq (pv 5) (pv 3) (by rfl)))) (fun _ _ _ _ _ => (pe_op (r := rCatA K) op_catA (pv 3) (pe_tup (pa_cons (pv 5) pa_nil))))))))
  (gss_cons (gs_for owns_gcx rfl (pi_listK (K := K) (pv 2)) (pg_name (i := 3) sc_Web_all_ways.nd rfl (by first | exact Or.inl rfl | exact Or.inr rfl)) (gss_cons (gs_if (pt_cmpR op_eq (pe_callB (r := rLenQ K) call_len_seq (by rfl) mB_len (by decide +kernel) (pa_cons (pv 3) pa_nil)) (pv 1) (nomark _)) (gss_cons (gs_yield (pv 3)) gss_nil) gss_nil) gss_nil)) gss_nil))), ?_⟩
  have w := Wd.begin hφ
  have f := Args.fits hφ (.va (r := (rIns C_Web (F_Web wo))) (a := self') k0 (.va (r := rInt) (a := count') k1 .nil)) 5
  unfold PF.Web_all_ways at h
  show tGThen _ _ _ _ _ _
  refine g_then ?_
  obtain ⟨k_1, h⟩ := ckS h
  obtain ⟨k_3, h⟩ := ckS h
  obtain ⟨ways'6, e_7, h⟩ := bS h
  replace e_7 := Option.some.inj e_7
  refine q_asgO (o := (oV (rTup rInt))) w f (fun rd => isO (eo_lc (ss := (rTup rInt)) (f := fun (y'2 : Int) => some true) (m := fun (y'2 : Int) => (some (([y'2] : List Int)))) rd (src_rng1 (er_fld (F := (F_Web wo)) (get := fun a => a.1.2) (a := self') cl_Web na_Web_places (fg_S (fg_last (fno_E (n := "places")))) (er_v rd 0 rfl)) k_1) tg_n (by decide) (of_decide_eq_true k_3) (compM_tot1 _) (fun y'2 _ ψ σ2 l rd => ⟨fun _ g_4 => by exact (isT et_yes (Option.some.inj g_4)), fun _ g_5 => by exact isE (er_tup (rr := rInt) (eal_cons (er_v rd 4 rfl) eal_nil) (by exact Nat.le_of_ble_eq_true rfl)) (Option.some.inj g_5)⟩)) e_7) fun σ G H w f => ?_
  show tGThen _ _ _ _ _ _
  refine g_then ?_
  obtain ⟨c_32, e_33, n_34, r_35⟩ := afterS h
  refine q_while (rv := (fun (_ : List (List Int)) (_ : V) (_ : Hp) => False)) (fun (s'8 : (List (List Int))) => [.va (rIns C_Web (F_Web wo)) self', .va rInt count', .ow (oV (rTup rInt)) s'8, .un, .un, .un, .un]) w f e_33 (weak_eq (weak_eq (weak_eq (weak_un (weak_un (weak_un (weak_un weak_nil))))))) (fun s'8 _ g_14 σ φ rd => by obtain ⟨b_12, e_13, g_14⟩ := bS g_14; exact isT (et_and (et_lst (er_o (o := (oV (rTup rInt))) (a := s'8) rd 2 rfl)) (fun _ g_11 => by obtain ⟨x_9, e_10, g_11⟩ := bS g_11; exact isT (et_test (er_cmp (f := fun i j => decide (i < j)) (er_lenT (er_ixL (er_o (o := (oV (rTup rInt))) (a := s'8) rd 2 rfl) er_int e_10)) (er_v rd 1 rfl))) (Option.some.inj g_11)) e_13) (Option.some.inj g_14)) (fun s'8 c' h Gb D' σ G H w f L => ?_) (fun r e => by cases r_35 r e; exact (fun _ _ z => z.elim)) (fun s'8 e σ G H w f => ?_)
  · obtain ⟨xs_27, e_28, h⟩ := bS h
    obtain ⟨k_29, h⟩ := ckS h
    obtain ⟨ways'30, e_31, h⟩ := bS h
    replace e_31 := Option.some.inj e_31
    refine d_asgO (o := (oV (rTup rInt))) w f (fun rd => isO (eo_lc2 (ss := (rTup rInt)) (f := (fun (y'15 : List Int) => some true)) (cs := (fun (y'15 : List Int) => ((L2.atI y'15 (-(1 : Int))).bind fun x_17 => (PF.Web_after self' x_17).bind fun x_19 => some (x_19)))) (f1 := (fun (y'15 : List Int) (z'21 : Int × Int) => (some ((!decide (z'21.1 ∈ y'15)))))) (m := (fun (y'15 : List Int) (z'21 : Int × Int) => ((chk (decide (y'15.length + ([z'21.1] : List Int).length ≤ 100000))).bind fun _ => some ((y'15 ++ ([z'21.1] : List Int)))))) rd (src_list (er_o (o := (oV (rTup rInt))) (a := s'8) rd 2 rfl)) tg_n (tg_p' (K := K) tg_n tg_n) (by decide) (by decide) (of_decide_eq_true k_29) e_28 (fun y'15 _ ψ σ2 l rd => ⟨fun _ g_23 => by exact (isT et_yes (Option.some.inj g_23)), fun _ g_24 => by obtain ⟨x_17, e_18, g_24⟩ := bS g_24; obtain ⟨x_19, e_20, g_24⟩ := bS g_24; exact isS (src_list (er_bor (Eo.er (o := (oV (rPair rInt rInt))) (eo_meth (o := (oV (rPair rInt rInt))) (W := w_Web_after wo C_Web) (F := (F_Web wo)) (a := self') (fno_S (n := "after") (m := "_worth_at") (fno_S (n := "after") (m := "places") (fno_E (n := "after")) (by decide +kernel)) (by decide +kernel)) (er_v rd 0 rfl) (ea_cons (er_ixT (er_v rd 3 rfl) (er_neg er_int) e_18) ea0) ⟨_, _, rfl, e_20⟩)))) (Option.some.inj g_24), fun z'21 ψ σ2 l rd => ⟨fun _ g_25 => by exact isT (et_test (er_niT (er_v rd 5 rfl) (er_v rd 3 rfl))) (Option.some.inj g_25), fun _ g_26 => by obtain ⟨k_22, g_26⟩ := ckS g_26; exact isE (er_catT (rr := rInt) (er_v rd 3 rfl) (er_tup (rr := rInt) (eal_cons (er_v rd 5 rfl) eal_nil) (by exact Nat.le_of_ble_eq_true rfl)) (of_decide_eq_true k_22)) (Option.some.inj g_26)⟩⟩)) e_31) fun σ G H w f => ?_
    cases h
    exact L _ _ _ w (f.weak (weak_eq (weak_eq (weak_eq (weak_un (weak_un (weak_un (weak_un weak_nil))))))))
  replace h := n_34 s'8 e
  obtain ⟨G, w', eG, f⟩ := f.freeze w.toWd 2 rfl
  replace w : WB _ _ _ G _ := ⟨w', w.bs.trans eG⟩
  obtain ⟨k_38, h⟩ := ckS h
  show tGThen _ _ _ _ _ _
  refine g_last ?_
  refine g_yields (s := (rTup rInt)) (p := fun (y'37 : List Int) => (decide ((y'37.length : Int) = count'))) (m := fun (y'37 : List Int) => y'37) w f (fun rd => (src_list (er_bor (er_v rd 2 rfl)))) tg_n (fun _ => (weak_eq (weak_eq (weak_eq (weak_un (weak_un (weak_un (weak_un weak_nil)))))))) (of_decide_eq_true k_38) (fun y'37 _ σ G H w f => have rd := f.rd w.up; ⟨(et_test (er_eqI (er_lenT (er_v rd 3 rfl)) (er_v rd 1 rfl))), (er_v rd 3 rfl)⟩) (fun vs σ' H2 e hal => ?_)
  cases h
  exact L vs H2 e hal
abbrev s_law_cell : Stmt := topS 7
theorem sc_law_cell : FnScope ["script", "k"] ["script", "k"] (defScope s_law_cell) := ⟨rfl, rfl, rfl, by decide +kernel, rfl, by decide +kernel, by decide +kernel⟩
def w_law_cell (K : PySem.W.Frag) : (Fm → List V → Prop) → Int → Prop := fun P c => ∃ (script' : List Int) (k' : Int), P = (HC (pr (rFro K)) script' (HC (pr rInt) k' HN)) ∧ PF.law_cell script' k' = some c
set_option maxHeartbeats 8000000 in
theorem ok_law_cell {P : Program} {wo : World} {K : PySem.W.Frag} {mg : Str → Option Value} {base : Heap} {f : Addr} {fd : FuncData}  (D : DefAt K mg "_law_cell" s_law_cell ["script", "k"] f fd) (mB_len : mg "len" = none) : FnOk P wo K mg base CX0 1 f fd ["script", "k"] (spO (oPr rInt) (w_law_cell K)) := by
  refine D.F.ok sc_law_cell (fun vs H Q E h => ?_) (fun cdv A outer s H0 vs Q E hr h => ?_)
  · obtain ⟨φ, Pp, b, _, _, ⟨_, _, rfl, _⟩, ⟨v0, _, rfl, k0, v1, _, rfl, k1, rfl⟩, _⟩ := h
    rfl
  obtain ⟨φ, Pp, c0, hφ, _, ⟨script', k', rfl, h⟩, ⟨v0, _, rfl, k0, v1, _, rfl, k1, rfl⟩, L⟩ := h
  refine ⟨_, (pss_cons (ps_if (pt_cmpR op_lt (pv 1) (pe_callB (r := rLenQ K) call_len_seq (by rfl) mB_len (by decide +kernel) (pa_cons (pv 0) pa_nil)) (nomark _))
    (pss_one (ps_ret (pe_ix (r := rIxL K) ix_list (pv 0) (pv 1) (fun _ _ => rfl))))
    pss_nil)
  (pss_one (ps_ret (pe_op op_add (pe_op op_mul pe_int (pv 1)) pe_int)))), ?_⟩
  have w := Wd.begin hφ
  have f := Args.fits hφ (.va (r := (rFro K)) (a := script') k0 (.va (r := rInt) (a := k') k1 .nil)) 0
  unfold PF.law_cell at h
  refine q_if (b := (decide (k' < (script'.length : Int)))) w f (fun rd => (et_test (er_cmp (f := fun i j => decide (i < j)) (er_v rd 1 rfl) (er_lenF (er_v rd 0 rfl))))) (fun b_1 H w f => ?_) (fun b_1 H w f => ?_)
  · replace h := ifT h b_1
    obtain ⟨x_2, e_3, h⟩ := bS h
    refine d_ret (rr := rInt) w f (fun rd => (er_ixF (er_v rd 0 rfl) (er_v rd 1 rfl) e_3)) ?_
    cases h
    exact L
  · replace h := ifF h b_1
    refine d_next w f fun σ G H w f => ?_
    try dsimp only
    refine d_ret (rr := rInt) w f (fun rd => (er_I0 (er_I (C := CMul) er_int (er_v rd 1 rfl) (Or.inl (by decide))) er_int)) ?_
    cases h
    exact L
abbrev s_law_draws : Stmt := topS 8
theorem sc_law_draws : FnScope ["cell", "limits", "rest", "state", "drawn", "limit"] ["cell", "limits"] (defScope s_law_draws) := ⟨rfl, rfl, rfl, by decide +kernel, rfl, by decide +kernel, by decide +kernel⟩
def w_law_draws : (Fm → List V → Prop) → (List Int) → Prop := fun P c => ∃ (cell' : Int) (limits' : List Int), P = (HC (pr rInt) cell' (HC (rB (pr rInt)) limits' HN)) ∧ PF.law_draws cell' limits' = some c
set_option maxHeartbeats 8000000 in
theorem ok_law_draws {P : Program} {wo : World} {K : PySem.W.Frag} {mg : Str → Option Value} {base : Heap} {f : Addr} {fd : FuncData}  (D : DefAt K mg "_law_draws" s_law_draws ["cell", "limits"] f fd) (mB_int : mg "int" = none) : FnOk P wo K mg base CX0 1 f fd ["cell", "limits"] (spO (oV rInt) (w_law_draws)) := by
  refine D.F.ok sc_law_draws (fun vs H Q E h => ?_) (fun cdv A outer s H0 vs Q E hr h => ?_)
  · obtain ⟨φ, Pp, b, _, _, ⟨_, _, rfl, _⟩, ⟨v0, _, rfl, k0, v1, _, rfl, k1, rfl⟩, _⟩ := h
    rfl
  obtain ⟨φ, Pp, c0, hφ, _, ⟨cell', limits', rfl, h⟩, ⟨v0, _, rfl, k0, v1, _, rfl, k1, rfl⟩, L⟩ := h
  refine ⟨_, (pss_cons (ps_set (i := 2) sc_law_draws.nd rfl (by first | exact Or.inl rfl | exact Or.inr rfl) pe_int)
  (pss_cut (ps_if (pt_cmpR op_ge (pv 0) (pe_op op_pow pe_int pe_int) (nomark _))
    (pss_one (ps_set (i := 2) sc_law_draws.nd rfl (by first | exact Or.inl rfl | exact Or.inr rfl) (pe_op op_sub (pv 0) (pe_op op_pow pe_int pe_int))))
    pss_nil)
  (pss_cons (ps_set (i := 3) sc_law_draws.nd rfl (by first | exact Or.inl rfl | exact Or.inr rfl) (pe_op op_mod (pe_op op_mul (pe_callTy (r := rInt1) call_int1 (by rfl) mB_int (by decide +kernel) (pa_cons (pv 0) pa_nil)) pe_int) pe_int))
  (pss_cons (ps_set (i := 4) sc_law_draws.nd rfl (by first | exact Or.inl rfl | exact Or.inr rfl) (pe_lst pa_nil))
  (pss_cons (ps_for PassesOwn.never rfl (pi_listK (K := K) (pv 1)) (pg_name (i := 5) sc_law_draws.nd rfl (by first | exact Or.inl rfl | exact Or.inr rfl))
    (pss_cons (ps_set (i := 3) sc_law_draws.nd rfl (by first | exact Or.inl rfl | exact Or.inr rfl) (pe_op op_mod (pe_op op_add (pe_op op_mul (pv 3) pe_int) pe_int) pe_int))
  (pss_one (ps_if (pt_cmpR op_gt (pv 2) pe_int (nomark _))
    (pss_cons (ps_expr (pe_bm PySem.F.plainAttrs_list PySem.F.slot_list_append PySem.F.type_list_append mt_append (pv 4) (pa_cons (pe_op op_mod (pv 2) (pv 5)) pa_nil)))
  (pss_one (ps_set (i := 2) sc_law_draws.nd rfl (by first | exact Or.inl rfl | exact Or.inr rfl) (pe_op op_fdivW (pv 2) (pv 5)))))
    (pss_one (ps_expr (pe_bm PySem.F.plainAttrs_list PySem.F.slot_list_append PySem.F.type_list_append mt_append (pv 4) (pa_cons (pe_op op_mod (pe_op op_fdivW (pv 3) pe_int) (pv 5)) pa_nil))))))))
  (pss_one (ps_ret (pv 4)))))))), ?_⟩
  have w := Wd.begin hφ
  have f := Args.fits hφ (.va (r := rInt) (a := cell') k0 (.bo (r := (rB (pr rInt))) (a := limits') k1 .nil)) 4
  unfold PF.law_draws at h
  obtain ⟨rest'1, e_2, h⟩ := bS h
  replace e_2 := Option.some.inj e_2
  refine q_asg (rr := rInt) w f (fun rd => isE er_int e_2) fun σ G H w f => ?_
  obtain ⟨c_7, e_8, n_9, r_10⟩ := thenS h
  refine d_cut (sh := (fun (s'3 : Int) => [.va rInt cell', .bo (rB (pr rInt)) limits', .va rInt s'3, .un, .un, .un])) w (Out0 (rvO (oV rInt) φ.F H0)) (fun _ _ _ x => x) (fun D' L => ?_) (fun r e => by cases r_10 r e; exact L) (fun s'3 e σ G H w f => ?_)
  · clear h; have h := e_8
    refine d_if (b := (decide (cell' ≥ ((10 : Int) ^ (18 : Int).toNat)))) w f (fun rd => (et_test (er_cmp (f := fun i j => decide (i ≥ j)) (er_v rd 0 rfl) (er_I (C := CPow) er_int er_int ⟨by decide, by decide, by decide⟩)))) (fun b_4 H w f => ?_) (fun b_4 H w f => ?_)
    · replace h := ifT h b_4
      obtain ⟨rest'5, e_6, h⟩ := bS h
      replace e_6 := Option.some.inj e_6
      refine d_asg (rr := rInt) w f (fun rd => isE (er_I0 (er_v rd 0 rfl) (er_I (C := CPow) er_int er_int ⟨by decide, by decide, by decide⟩)) e_6) fun σ G H w f => ?_
      cases h
      exact L _ _ _ w (f.weak (weak_eq (weak_eq (weak_eq (weak_un (weak_un (weak_un weak_nil)))))))
    · replace h := ifF h b_4
      refine d_next w f fun σ G H w f => ?_
      cases h
      exact L _ _ _ w (f.weak (weak_eq (weak_eq (weak_eq (weak_un (weak_un (weak_un weak_nil)))))))
  replace h := n_9 s'3 e
  obtain ⟨state'11, e_12, h⟩ := bS h
  replace e_12 := Option.some.inj e_12
  refine q_asg (rr := rInt) w f (fun rd => isE (er_I (er_I (C := CMul) (er_int1 (er_v rd 0 rfl)) er_int (Or.inr (by decide))) er_int (by decide)) e_12) fun σ G H w f => ?_
  obtain ⟨drawn'13, e_14, h⟩ := bS h
  replace e_14 := Option.some.inj e_14
  refine q_asgO (o := (oV rInt)) w f (fun rd => isO (eo_lst (rr := rInt) eal_nil (by exact Nat.le_of_ble_eq_true rfl)) e_14) fun σ G H w f => ?_
  obtain ⟨c_31, e_32, n_33, r_34⟩ := afterS h
  refine q_for (rv := (rvO (oV rInt) φ.F H0)) (fun (s'15 : Int × (List Int) × Int) => [.va rInt cell', .bo (rB (pr rInt)) limits', .va rInt s'15.2.2, .va rInt s'15.1, .ow (oV rInt) s'15.2.1, .un]) w f (fun rd => (src_list (er_b rd 1 rfl))) tg_n e_32 (weak_eq (weak_eq (weak_eq (weak_eq (weak_eq (weak_un weak_nil)))))) (fun y'16 s'15 c' _ h Gb D' σ G H w f L => ?_) (fun r e => by cases r_34 r e; exact L) (fun s'15 e σ G H w f => ?_)
  · obtain ⟨state'17, e_18, h⟩ := bS h
    replace e_18 := Option.some.inj e_18
    refine q_asg (rr := rInt) w f (fun rd => isE (er_I (er_I0 (er_I (C := CMul) (er_v rd 3 rfl) er_int (Or.inr (by decide))) er_int) er_int (by decide)) e_18) fun σ G H w f => ?_
    refine d_if (b := (decide (s'15.2.2 > (0 : Int)))) w f (fun rd => (et_test (er_cmp (f := fun i j => decide (i > j)) (er_v rd 2 rfl) er_int))) (fun b_19 H w f => ?_) (fun b_19 H w f => ?_)
    · replace h := ifT h b_19
      obtain ⟨k_20, h⟩ := ckS h
      obtain ⟨k_21, h⟩ := ckS h
      obtain ⟨drawn'22, e_23, h⟩ := bS h
      replace e_23 := Option.some.inj e_23
      refine q_app (rr := rInt) (i := 4) w f rfl (of_decide_eq_true k_21) (fun rd => (er_I (er_v rd 2 rfl) (er_v rd 5 rfl) (of_decide_eq_true k_20))) e_23 fun σ G H w f => ?_
      obtain ⟨k_24, h⟩ := ckS h
      obtain ⟨rest'25, e_26, h⟩ := bS h
      replace e_26 := Option.some.inj e_26
      refine d_asg (rr := rInt) w f (fun rd => isE (er_I (C := CDivW) (er_v rd 2 rfl) (er_v rd 5 rfl) (divOk_C k_24)) e_26) fun σ G H w f => ?_
      cases h
      exact L _ _ _ w (f.weak (weak_eq (weak_eq (weak_eq (weak_eq (weak_eq (weak_un weak_nil)))))))
    · replace h := ifF h b_19
      obtain ⟨k_27, h⟩ := ckS h
      obtain ⟨k_28, h⟩ := ckS h
      obtain ⟨drawn'29, e_30, h⟩ := bS h
      replace e_30 := Option.some.inj e_30
      refine d_app (rr := rInt) (i := 4) w f rfl (of_decide_eq_true k_28) (fun rd => (er_I (er_I (C := CDivW) (er_v rd 3 rfl) er_int ⟨by decide, by decide +kernel⟩) (er_v rd 5 rfl) (of_decide_eq_true k_27))) e_30 fun σ G H w f => ?_
      cases h
      exact L _ _ _ w (f.weak (weak_eq (weak_eq (weak_eq (weak_eq (weak_eq (weak_un weak_nil)))))))
  replace h := n_33 s'15 e
  refine d_retV w f (i := 4) rfl ?_
  cases h
  exact L
abbrev s_law_steps : Stmt := topS 9
theorem sc_law_steps : FnScope ["script", "places", "share", "large", "made", "u", "drawn", "v", "worth"] ["script", "places", "share", "large"] (defScope s_law_steps) := ⟨rfl, rfl, rfl, by decide +kernel, rfl, by decide +kernel, by decide +kernel⟩
def w_law_steps (K : PySem.W.Frag) : (Fm → List V → Prop) → (List (Int × Int × Int)) → Prop := fun P c => ∃ (script' : List Int) (places' : Int) (share' : Int) (large' : Bool), P = (HC (pr (rFro K)) script' (HC (pr rInt) places' (HC (pr rInt) share' (HC (pr rBl) large' HN)))) ∧ PF.law_steps script' places' share' large' = some c
set_option maxHeartbeats 8000000 in
theorem ok_law_steps {P : Program} {wo : World} {K : PySem.W.Frag} {mg : Str → Option Value} {base : Heap} {f : Addr} {fd : FuncData} {f_law_cell : Addr} {fd_law_cell : FuncData} {f_law_draws : Addr} {fd_law_draws : FuncData} (D : DefAt K mg "_law_steps" s_law_steps ["script", "places", "share", "large"] f fd) (D_law_cell : DefAt K mg "_law_cell" s_law_cell ["script", "k"] f_law_cell fd_law_cell) (D_law_draws : DefAt K mg "_law_draws" s_law_draws ["cell", "limits"] f_law_draws fd_law_draws) (G_law_cell : FnOk P wo K mg base CX0 1 f_law_cell fd_law_cell ["script", "k"] (spO (oPr rInt) (w_law_cell K))) (G_law_draws : FnOk P wo K mg base CX0 1 f_law_draws fd_law_draws ["cell", "limits"] (spO (oV rInt) (w_law_draws))) (mB_range : mg "range" = none) : FnOk P wo K mg base CX0 2 f fd ["script", "places", "share", "large"] (spO (oV (rTri rInt rInt rInt)) (w_law_steps K)) := by
  refine D.F.ok sc_law_steps (fun vs H Q E h => ?_) (fun cdv A outer s H0 vs Q E hr h => ?_)
  · obtain ⟨φ, Pp, b, _, _, ⟨_, _, _, _, rfl, _⟩, ⟨v0, _, rfl, k0, v1, _, rfl, k1, v2, _, rfl, k2, v3, _, rfl, k3, rfl⟩, _⟩ := h
    rfl
  obtain ⟨φ, Pp, c0, hφ, _, ⟨script', places', share', large', rfl, h⟩, ⟨v0, _, rfl, k0, v1, _, rfl, k1, v2, _, rfl, k2, v3, _, rfl, k3, rfl⟩, L⟩ := h
  refine ⟨_, (pss_cons (ps_set (i := 4) sc_law_steps.nd rfl (by first | exact Or.inl rfl | exact Or.inr rfl) (pe_lst pa_nil))
  (pss_cons (ps_for PassesOwn.never rfl (pi_range1 (by rfl) mB_range (pa_cons (pv 1) pa_nil)) (pg_name (i := 5) sc_law_steps.nd rfl (by first | exact Or.inl rfl | exact Or.inr rfl))
    (pss_cons (ps_set (i := 6) sc_law_steps.nd rfl (by first | exact Or.inl rfl | exact Or.inr rfl) (pe_call G_law_draws (hr.mono (by decide)) (by rfl) D_law_draws.g D_law_draws.F.kp D_law_draws.b .nil pass0 (pa_cons (pe_call G_law_cell (hr.mono (by decide)) (by rfl) D_law_cell.g D_law_cell.F.kp D_law_cell.b .nil pass0 (pa_cons (pv 0) (pa_cons (pe_op op_add pe_int (pv 5)) pa_nil))) (pa_cons (pe_op op_rep (pe_lst (pa_cons pe_int (pa_cons pe_int pa_nil))) (pv 1)) pa_nil))))
  (pss_one (ps_for PassesOwn.never rfl (pi_range1 (by rfl) mB_range (pa_cons (pv 1) pa_nil)) (pg_name (i := 7) sc_law_steps.nd rfl (by first | exact Or.inl rfl | exact Or.inr rfl))
    (pss_one (ps_if (PW.pt (pw_and (pt_cmpR op_ne (pv 5) (pv 7) (nomark _)) (pw_and1 (pt_cmpR op_lt (pe_ix (r := rIxL K) ix_list (pv 6) (pe_op op_mul pe_int (pv 7)) (fun _ _ => rfl)) (pv 2) (nomark _)))))
    (pss_cons (ps_set (i := 8) sc_law_steps.nd rfl (by first | exact Or.inl rfl | exact Or.inr rfl) (pe_op op_sub (pe_ix (r := rIxL K) ix_list (pv 6) (pe_op op_add (pe_op op_mul pe_int (pv 7)) pe_int) (fun _ _ => rfl)) pe_int))
  (pss_cut (ps_if (pt_val (pv 3))
    (pss_one (ps_set (i := 8) sc_law_steps.nd rfl (by first | exact Or.inl rfl | exact Or.inr rfl) (pe_op op_add (pe_op op_mul (pv 8) (pe_op op_add (pe_op op_pow pe_int pe_int) (pv 5))) (pv 7))))
    pss_nil)
  (pss_one (ps_expr (pe_bm PySem.F.plainAttrs_list PySem.F.slot_list_append PySem.F.type_list_append mt_append (pv 4) (pa_cons (pe_tup (pa_cons (pv 5) (pa_cons (pv 7) (pa_cons (pv 8) pa_nil)))) pa_nil))))))
    pss_nil))))))
  (pss_one (ps_ret (pv 4))))), ?_⟩
  have w := Wd.begin hφ
  have f := Args.fits hφ (.va (r := (rFro K)) (a := script') k0 (.va (r := rInt) (a := places') k1 (.va (r := rInt) (a := share') k2 (.va (r := rBl) (a := large') k3 .nil)))) 5
  unfold PF.law_steps at h
  obtain ⟨made'1, e_2, h⟩ := bS h
  replace e_2 := Option.some.inj e_2
  refine q_asgO (o := (oV (rTri rInt rInt rInt))) w f (fun rd => isO (eo_lst (rr := (rTri rInt rInt rInt)) eal_nil (by exact Nat.le_of_ble_eq_true rfl)) e_2) fun σ G H w f => ?_
  obtain ⟨k_3, h⟩ := ckS h
  obtain ⟨c_43, e_44, n_45, r_46⟩ := afterS h
  refine q_forR (rv := (rvO (oV (rTri rInt rInt rInt)) φ.F H0)) (fun (s'4 : (List (Int × Int × Int))) => [.va (rFro K) script', .va rInt places', .va rInt share', .va rBl large', .ow (oV (rTri rInt rInt rInt)) s'4, .un, .un, .un, .un]) w f (fun rd => (srcI_rng1 (er_v rd 1 rfl) k_3)) tg_n e_44 (weak_eq (weak_eq (weak_eq (weak_eq (weak_eq (weak_un (weak_un (weak_un (weak_un weak_nil))))))))) (fun y'5 s'4 c' _ h Gb D' σ G H w f L => ?_) (fun r e => by cases r_46 r e; exact L) (fun s'4 e σ G H w f => ?_)
  · obtain ⟨x_6, e_7, h⟩ := bS h
    obtain ⟨k_8, h⟩ := ckS h
    obtain ⟨x_9, e_10, h⟩ := bS h
    obtain ⟨drawn'11, e_12, h⟩ := bS h
    replace e_12 := Option.some.inj e_12
    refine q_asgO (o := (oV rInt)) w f (fun rd => isO (eo_call (o := (oV rInt)) (W := w_law_draws) (ea_cons (er_callP (W := w_law_cell K) (ea_cons (er_v rd 0 rfl) (ea_cons (er_I0 er_int (er_v rd 5 rfl)) ea0)) ⟨_, _, rfl, e_7⟩) (ea_cons (er_bor (Eo.er (o := (oV rInt)) (eo_rep (rr := rInt) (er_bor (Eo.er (o := (oV rInt)) (eo_lst (rr := rInt) (eal_cons er_int (eal_cons er_int eal_nil)) (by exact Nat.le_of_ble_eq_true rfl)))) (er_v rd 1 rfl) (repOk_b k_8) (repOk_l k_8)))) ea0)) ⟨_, _, rfl, e_10⟩) e_12) fun σ G H w f => ?_
    obtain ⟨k_13, h⟩ := ckS h
    obtain ⟨c_38, e_39, n_40, r_41⟩ := afterS h
    refine d_forR (rv := (rvO (oV (rTri rInt rInt rInt)) φ.F H0)) (fun (s'14 : (List (Int × Int × Int))) => [.va (rFro K) script', .va rInt places', .va rInt share', .va rBl large', .ow (oV (rTri rInt rInt rInt)) s'14, .va rInt y'5, .ow (oV rInt) drawn'11, .un, .un]) w f (fun rd => (srcI_rng1 (er_v rd 1 rfl) k_13)) tg_n e_39 (weak_eq (weak_eq (weak_eq (weak_eq (weak_eq (weak_eq (weak_eq (weak_un (weak_un weak_nil))))))))) (fun y'15 s'14 c' _ h Gb D' σ G H w f L => ?_) (fun r e => by cases r_41 r e; exact L) (fun s'14 e σ G H w f => ?_)
    · obtain ⟨b_19, e_20, h⟩ := bS h
      refine d_if (b := b_19) w f (fun rd => (et_and (et_test (er_neI (er_v rd 5 rfl) (er_v rd 7 rfl))) (fun _ g_18 => by obtain ⟨x_16, e_17, g_18⟩ := bS g_18; exact isT (et_test (er_cmp (f := fun i j => decide (i < j)) (er_ixL (er_o (o := (oV rInt)) (a := drawn'11) rd 6 rfl) (er_I (C := CMul) er_int (er_v rd 7 rfl) (Or.inl (by decide))) e_17) (er_v rd 2 rfl))) (Option.some.inj g_18)) e_20)) (fun b_21 H w f => ?_) (fun b_21 H w f => ?_)
      · replace h := ifT h b_21
        obtain ⟨x_22, e_23, h⟩ := bS h
        obtain ⟨worth'24, e_25, h⟩ := bS h
        replace e_25 := Option.some.inj e_25
        refine q_asg (rr := rInt) w f (fun rd => isE (er_I0 (er_ixL (er_o (o := (oV rInt)) (a := drawn'11) rd 6 rfl) (er_I0 (er_I (C := CMul) er_int (er_v rd 7 rfl) (Or.inl (by decide))) er_int) e_23) er_int) e_25) fun σ G H w f => ?_
        obtain ⟨c_31, e_32, n_33, r_34⟩ := thenS h
        refine d_cut (sh := (fun (s'26 : Int) => [.va (rFro K) script', .va rInt places', .va rInt share', .va rBl large', .ow (oV (rTri rInt rInt rInt)) s'14, .va rInt y'5, .ow (oV rInt) drawn'11, .va rInt y'15, .va rInt s'26])) w (Out1 Gb φ.F H0 _ (rvO (oV (rTri rInt rInt rInt)) φ.F H0)) (fun _ _ o x => by cases o <;> exact x) (fun D' L => ?_) (fun r e => by cases r_34 r e; exact lands_out L) (fun s'26 e σ G H w f => ?_)
        · clear h; have h := e_32
          refine d_if (b := large') w f (fun rd => (et_B (er_v rd 3 rfl))) (fun b_27 H w f => ?_) (fun b_27 H w f => ?_)
          · replace h := ifT h b_27
            obtain ⟨k_28, h⟩ := ckS h
            obtain ⟨worth'29, e_30, h⟩ := bS h
            replace e_30 := Option.some.inj e_30
            refine d_asg (rr := rInt) w f (fun rd => isE (er_I0 (er_I (C := CMul) (er_v rd 8 rfl) (er_I0 (er_I (C := CPow) er_int er_int ⟨by decide, by decide, by decide⟩) (er_v rd 5 rfl)) (mulOk_C k_28)) (er_v rd 7 rfl)) e_30) fun σ G H w f => ?_
            cases h
            exact L _ _ _ w (f.weak (weak_eq (weak_eq (weak_eq (weak_eq (weak_eq (weak_eq (weak_eq (weak_eq (weak_eq weak_nil))))))))))
          · replace h := ifF h b_27
            refine d_next w f fun σ G H w f => ?_
            cases h
            exact L _ _ _ w (f.weak (weak_eq (weak_eq (weak_eq (weak_eq (weak_eq (weak_eq (weak_eq (weak_eq (weak_eq weak_nil))))))))))
        replace h := n_33 s'26 e
        obtain ⟨k_35, h⟩ := ckS h
        obtain ⟨made'36, e_37, h⟩ := bS h
        replace e_37 := Option.some.inj e_37
        refine d_app (rr := (rTri rInt rInt rInt)) (i := 4) w f rfl (of_decide_eq_true k_35) (fun rd => (er_tri (er_v rd 5 rfl) (er_v rd 7 rfl) (er_v rd 8 rfl))) e_37 fun σ G H w f => ?_
        cases h
        exact L _ _ _ w (f.weak (weak_eq (weak_eq (weak_eq (weak_eq (weak_eq (weak_eq (weak_eq (weak_un (weak_un weak_nil))))))))))
      · replace h := ifF h b_21
        refine d_next w f fun σ G H w f => ?_
        cases h
        exact L _ _ _ w (f.weak (weak_eq (weak_eq (weak_eq (weak_eq (weak_eq (weak_eq (weak_eq (weak_un (weak_un weak_nil))))))))))
    replace h := n_40 s'14 e
    cases h
    exact L _ _ _ w (f.weak (weak_eq (weak_eq (weak_eq (weak_eq (weak_eq (weak_un (weak_un (weak_un (weak_un weak_nil))))))))))
  replace h := n_45 s'4 e
  refine d_retV w f (i := 4) rfl ?_
  cases h
  exact L
abbrev s_law_step : Stmt := topS 10
theorem sc_law_step : FnScope ["due", "u", "v", "row"] ["due", "u", "v"] (defScope s_law_step) := ⟨rfl, rfl, rfl, by decide +kernel, rfl, by decide +kernel, by decide +kernel⟩
def w_law_step : (Fm → List V → Prop) → (Option Int) → Prop := fun P c => ∃ (due' : List (Int × Int × Int)) (u' : Int) (v' : Int), P = (HC (rB (pr (rTri rInt rInt rInt))) due' (HC (pr rInt) u' (HC (pr rInt) v' HN))) ∧ PF.law_step due' u' v' = some c
set_option maxHeartbeats 8000000 in
theorem ok_law_step {P : Program} {wo : World} {K : PySem.W.Frag} {mg : Str → Option Value} {base : Heap} {f : Addr} {fd : FuncData}  (D : DefAt K mg "_law_step" s_law_step ["due", "u", "v"] f fd)  : FnOk P wo K mg base CX0 1 f fd ["due", "u", "v"] (spO (oPr (rOpt rInt)) (w_law_step)) := by
  refine D.F.ok sc_law_step (fun vs H Q E h => ?_) (fun cdv A outer s H0 vs Q E hr h => ?_)
  · obtain ⟨φ, Pp, b, _, _, ⟨_, _, _, rfl, _⟩, ⟨v0, _, rfl, k0, v1, _, rfl, k1, v2, _, rfl, k2, rfl⟩, _⟩ := h
    rfl
  obtain ⟨φ, Pp, c0, hφ, _, ⟨due', u', v', rfl, h⟩, ⟨v0, _, rfl, k0, v1, _, rfl, k1, v2, _, rfl, k2, rfl⟩, L⟩ := h
  refine ⟨_, (pss_cons (ps_for PassesOwn.never rfl (pi_listK (K := K) (pv 0)) (pg_name (i := 3) sc_law_step.nd rfl (by first | exact Or.inl rfl | exact Or.inr rfl))
    (pss_one (ps_if (PW.pt (pw_and (pt_cmpR op_eq (pe_ix (r := rIxT K) ix_tup (pv 3) pe_int (fun _ _ => rfl)) (pv 1) (nomark _)) (pw_and1 (pt_cmpR op_eq (pe_ix (r := rIxT K) ix_tup (pv 3) pe_int (fun _ _ => rfl)) (pv 2) (nomark _)))))
    (pss_one (ps_ret (pe_ix (r := rIxT K) ix_tup (pv 3) pe_int (fun _ _ => rfl))))
    pss_nil)))
  (pss_one (ps_ret pe_non))), ?_⟩
  have w := Wd.begin hφ
  have f := Args.fits hφ (.bo (r := (rB (pr (rTri rInt rInt rInt)))) (a := due') k0 (.va (r := rInt) (a := u') k1 (.va (r := rInt) (a := v') k2 .nil))) 1
  unfold PF.law_step at h
  obtain ⟨c_4, e_5, n_6, r_7⟩ := afterS h
  refine q_for (rv := (rvO (oPr (rOpt rInt)) φ.F H0)) (fun (s'1 : Unit) => [.bo (rB (pr (rTri rInt rInt rInt))) due', .va rInt u', .va rInt v', .un]) w f (fun rd => (src_list (er_b rd 0 rfl))) tg_n e_5 (weak_eq (weak_eq (weak_eq (weak_un weak_nil)))) (fun y'2 s'1 c' _ h Gb D' σ G H w f L => ?_) (fun r e => by cases r_7 r e; exact L) (fun s'1 e σ G H w f => ?_)
  · refine d_if (b := ((decide (y'2.1 = u')) && (decide (y'2.2.1 = v')))) w f (fun rd => (et_andT (et_test (er_eqI (er_t0 (er_v rd 3 rfl)) (er_v rd 1 rfl))) (et_test (er_eqI (er_t1 (er_v rd 3 rfl)) (er_v rd 2 rfl))))) (fun b_3 H w f => ?_) (fun b_3 H w f => ?_)
    · replace h := ifT h b_3
      refine d_ret (rr := (rOpt rInt)) w f (fun rd => (er_some (er_t2 (er_v rd 3 rfl)))) ?_
      cases h
      exact L
    · replace h := ifF h b_3
      refine d_next w f fun σ G H w f => ?_
      cases h
      exact L _ _ _ w (f.weak (weak_eq (weak_eq (weak_eq (weak_un weak_nil)))))
  replace h := n_6 s'1 e
  refine d_ret (rr := (rOpt rInt)) w f (fun rd => er_nonO) ?_
  cases h
  exact L
abbrev s_law_walk : Stmt := topS 11
theorem sc_law_walk : FnScope ["due", "places", "way", "total", "k", "step"] ["due", "places", "way"] (defScope s_law_walk) := ⟨rfl, rfl, rfl, by decide +kernel, rfl, by decide +kernel, by decide +kernel⟩
def w_law_walk : (Fm → List V → Prop) → (Option Int) → Prop := fun P c => ∃ (due' : List (Int × Int × Int)) (places' : Int) (way' : List Int), P = (HC (rB (pr (rTri rInt rInt rInt))) due' (HC (pr rInt) places' (HC (pr (rTup rInt)) way' HN))) ∧ PF.law_walk due' places' way' = some c
set_option maxHeartbeats 8000000 in
theorem ok_law_walk {P : Program} {wo : World} {K : PySem.W.Frag} {mg : Str → Option Value} {base : Heap} {f : Addr} {fd : FuncData} {f_law_step : Addr} {fd_law_step : FuncData} (D : DefAt K mg "_law_walk" s_law_walk ["due", "places", "way"] f fd) (D_law_step : DefAt K mg "_law_step" s_law_step ["due", "u", "v"] f_law_step fd_law_step) (G_law_step : FnOk P wo K mg base CX0 1 f_law_step fd_law_step ["due", "u", "v"] (spO (oPr (rOpt rInt)) (w_law_step))) (mB_len : mg "len" = none) (mB_range : mg "range" = none) : FnOk P wo K mg base CX0 2 f fd ["due", "places", "way"] (spO (oPr (rOpt rInt)) (w_law_walk)) := by
  refine D.F.ok sc_law_walk (fun vs H Q E h => ?_) (fun cdv A outer s H0 vs Q E hr h => ?_)
  · obtain ⟨φ, Pp, b, _, _, ⟨_, _, _, rfl, _⟩, ⟨v0, _, rfl, k0, v1, _, rfl, k1, v2, _, rfl, k2, rfl⟩, _⟩ := h
    rfl
  obtain ⟨φ, Pp, c0, hφ, _, ⟨due', places', way', rfl, h⟩, ⟨v0, _, rfl, k0, v1, _, rfl, k1, v2, _, rfl, k2, rfl⟩, L⟩ := h
  refine ⟨_, (pss_cons (ps_set (i := 3) sc_law_walk.nd rfl (by first | exact Or.inl rfl | exact Or.inr rfl) pe_int)
  (pss_cons (ps_for PassesOwn.never rfl (pi_range1 (by rfl) mB_range (pa_cons (pe_callB (r := rLenQ K) call_len_seq (by rfl) mB_len (by decide +kernel) (pa_cons (pv 2) pa_nil)) pa_nil)) (pg_name (i := 4) sc_law_walk.nd rfl (by first | exact Or.inl rfl | exact Or.inr rfl))
    (pss_cons (ps_if (PW.pt (pw_or (pt_cmpR op_lt (pe_ix (r := rIxT K) ix_tup (pv 2) (pv 4) (fun _ _ => rfl)) pe_int (nomark _)) (pw_or (pt_cmpR op_ge (pe_ix (r := rIxT K) ix_tup (pv 2) (pv 4) (fun _ _ => rfl)) (pv 1) (nomark _)) (pw_or1 (pt_cmpR (r := rIn K false) op_in_seq (pe_ix (r := rIxT K) ix_tup (pv 2) (pv 4) (fun _ _ => rfl)) (pe_slice (r := rSlA K) sl_tupA (pv 2) po_none (po_some (pv 4))) (by rfl))))))
    (pss_one (ps_ret pe_non))
    pss_nil)
  (pss_one (ps_if (pt_cmpR op_gt (pv 4) pe_int (nomark _))
    (pss_cons (ps_set (i := 5) sc_law_walk.nd rfl (by first | exact Or.inl rfl | exact Or.inr rfl) (pe_call G_law_step (hr.mono (by decide)) (by rfl) D_law_step.g D_law_step.F.kp D_law_step.b .nil pass0 (pa_cons (pv 0) (pa_cons (pe_ix (r := rIxT K) ix_tup (pv 2) (pe_op op_sub (pv 4) pe_int) (fun _ _ => rfl)) (pa_cons (pe_ix (r := rIxT K) ix_tup (pv 2) (pv 4) (fun _ _ => rfl)) pa_nil)))))
  (pss_cons (ps_if (pt_cmpR (r := rIsNq) op_isN (pv 5) pe_non (nomark _))
    (pss_one (ps_ret pe_non))
    pss_nil)
  (pss_one (ps_set (i := 3) sc_law_walk.nd rfl (by first | exact Or.inl rfl | exact Or.inr rfl) (pe_op op_add (pv 3) (pv 5))))))
    pss_nil))))
  (pss_cons (ps_if (pt_cmpR op_eq (pe_callB (r := rLenQ K) call_len_seq (by rfl) mB_len (by decide +kernel) (pa_cons (pv 2) pa_nil)) pe_int (nomark _))
    (pss_one (ps_ret pe_non))
    pss_nil)
  (pss_one (ps_ret (pv 3)))))), ?_⟩
  have w := Wd.begin hφ
  have f := Args.fits hφ (.bo (r := (rB (pr (rTri rInt rInt rInt)))) (a := due') k0 (.va (r := rInt) (a := places') k1 (.va (r := (rTup rInt)) (a := way') k2 .nil))) 3
  unfold PF.law_walk at h
  obtain ⟨total'1, e_2, h⟩ := bS h
  replace e_2 := Option.some.inj e_2
  refine q_asg (rr := rInt) w f (fun rd => isE er_int e_2) fun σ G H w f => ?_
  obtain ⟨k_3, h⟩ := ckS h
  obtain ⟨c_33, e_34, n_35, r_36⟩ := afterS h
  refine q_forR (rv := (rvO (oPr (rOpt rInt)) φ.F H0)) (fun (s'4 : Int) => [.bo (rB (pr (rTri rInt rInt rInt))) due', .va rInt places', .va (rTup rInt) way', .va rInt s'4, .un, .un]) w f (fun rd => (srcI_rng1 (er_lenT (er_v rd 2 rfl)) k_3)) tg_n e_34 (weak_eq (weak_eq (weak_eq (weak_eq (weak_un (weak_un weak_nil)))))) (fun y'5 s'4 c' _ h Gb D' σ G H w f L => ?_) (fun r e => by cases r_36 r e; exact L) (fun s'4 e σ G H w f => ?_)
  · obtain ⟨x_6, e_7, h⟩ := bS h
    obtain ⟨b_16, e_17, h⟩ := bS h
    refine q_if (b := b_16) w f (fun rd => (et_or (et_test (er_cmp (f := fun i j => decide (i < j)) (er_ixT (er_v rd 2 rfl) (er_v rd 4 rfl) e_7) er_int)) (fun _ g_15 => by obtain ⟨x_8, e_9, g_15⟩ := bS g_15; obtain ⟨b_13, e_14, g_15⟩ := bS g_15; exact isT (et_or (et_test (er_cmp (f := fun i j => decide (i ≥ j)) (er_ixT (er_v rd 2 rfl) (er_v rd 4 rfl) e_9) (er_v rd 1 rfl))) (fun _ g_12 => by obtain ⟨x_10, e_11, g_12⟩ := bS g_12; exact isT (et_test (er_inT (er_ixT (er_v rd 2 rfl) (er_v rd 4 rfl) e_11) (er_slT (rr := rInt) (er_v rd 2 rfl) eop_none (eop_part (er_v rd 4 rfl))))) (Option.some.inj g_12)) e_14) (Option.some.inj g_15)) e_17)) (fun b_18 H w f => ?_) (fun b_18 H w f => ?_)
    · replace h := ifT h b_18
      refine d_ret (rr := (rOpt rInt)) w f (fun rd => er_nonO) ?_
      cases h
      exact L
    · replace h := ifF h b_18
      refine d_next w f fun σ G H w f => ?_
      try dsimp only
      refine d_if (b := (decide (y'5 > (0 : Int)))) w f (fun rd => (et_test (er_cmp (f := fun i j => decide (i > j)) (er_v rd 4 rfl) er_int))) (fun b_19 H w f => ?_) (fun b_19 H w f => ?_)
      · replace h := ifT h b_19
        obtain ⟨x_20, e_21, h⟩ := bS h
        obtain ⟨x_22, e_23, h⟩ := bS h
        obtain ⟨x_24, e_25, h⟩ := bS h
        obtain ⟨step'26, e_27, h⟩ := bS h
        replace e_27 := Option.some.inj e_27
        refine q_asg (rr := (rOpt rInt)) w f (fun rd => isE (er_callP (W := w_law_step) (ea_cons (er_b rd 0 rfl) (ea_cons (er_ixT (er_v rd 2 rfl) (er_I0 (er_v rd 4 rfl) er_int) e_21) (ea_cons (er_ixT (er_v rd 2 rfl) (er_v rd 4 rfl) e_23) ea0))) ⟨_, _, _, rfl, e_25⟩) e_27) fun σ G H w f => ?_
        rcases noneS (step'26) h with ⟨n_29, h⟩ | ⟨step'28, s_30, h⟩
        · replace f := f.at 5 (s' := .va (rOpt rInt) none) rfl (by rw [n_29])
          refine q_ifT w f (fun rd => et_test (er_isN (rr := rInt) sol_int (er_v rd 5 rfl))) fun H w f => ?_
          refine d_ret (rr := (rOpt rInt)) w f (fun rd => er_nonO) ?_
          cases h
          exact L
        · replace f := f.at 5 (s' := .va (rOpt rInt) (some step'28)) rfl (by rw [s_30])
          refine q_ifF w f (fun rd => et_test (er_isN (rr := rInt) sol_int (er_v rd 5 rfl))) fun H w f => ?_
          replace f := f.someV 5 rfl
          refine d_next w f fun σ G H w f => ?_
          try dsimp only
          obtain ⟨total'31, e_32, h⟩ := bS h
          replace e_32 := Option.some.inj e_32
          refine d_asg (rr := rInt) w f (fun rd => isE (er_I0 (er_v rd 3 rfl) (er_v rd 5 rfl)) e_32) fun σ G H w f => ?_
          cases h
          exact L _ _ _ w (f.weak (weak_eq (weak_eq (weak_eq (weak_eq (weak_un (weak_un weak_nil)))))))
      · replace h := ifF h b_19
        refine d_next w f fun σ G H w f => ?_
        cases h
        exact L _ _ _ w (f.weak (weak_eq (weak_eq (weak_eq (weak_eq (weak_un (weak_un weak_nil)))))))
  replace h := n_35 s'4 e
  refine q_if (b := (decide ((way'.length : Int) = (0 : Int)))) w f (fun rd => (et_test (er_eqI (er_lenT (er_v rd 2 rfl)) er_int))) (fun b_38 H w f => ?_) (fun b_38 H w f => ?_)
  · replace h := ifT h b_38
    refine d_ret (rr := (rOpt rInt)) w f (fun rd => er_nonO) ?_
    cases h
    exact L
  · replace h := ifF h b_38
    refine d_next w f fun σ G H w f => ?_
    try dsimp only
    refine d_ret (rr := (rOpt rInt)) w f (fun rd => (er_some (er_v rd 3 rfl))) ?_
    cases h
    exact L
abbrev s_law_ways : Stmt := topS 12
theorem sc_law_ways : FnScope ["due", "places", "count", "found", "k", "longer", "way", "row", "place"] ["due", "places", "count"] (defScope s_law_ways) := ⟨rfl, rfl, rfl, by decide +kernel, rfl, by decide +kernel, by decide +kernel⟩
def w_law_ways : (Fm → List V → Prop) → (List (List Int)) → Prop := fun P c => ∃ (due' : List (Int × Int × Int)) (places' : Int) (count' : Int), P = (HC (rB (pr (rTri rInt rInt rInt))) due' (HC (pr rInt) places' (HC (pr rInt) count' HN))) ∧ PF.law_ways due' places' count' = some c
set_option maxHeartbeats 8000000 in
theorem ok_law_ways {P : Program} {wo : World} {K : PySem.W.Frag} {mg : Str → Option Value} {base : Heap} {f : Addr} {fd : FuncData}  (D : DefAt K mg "_law_ways" s_law_ways ["due", "places", "count"] f fd) (mB_list : mg "list" = none) (mB_range : mg "range" = none) : FnOk P wo K mg base CX0 1 f fd ["due", "places", "count"] (spO (oV (rTup rInt)) (w_law_ways)) := by
  refine D.F.ok sc_law_ways (fun vs H Q E h => ?_) (fun cdv A outer s H0 vs Q E hr h => ?_)
  · obtain ⟨φ, Pp, b, _, _, ⟨_, _, _, rfl, _⟩, ⟨v0, _, rfl, k0, v1, _, rfl, k1, v2, _, rfl, k2, rfl⟩, _⟩ := h
    rfl
  obtain ⟨φ, Pp, c0, hφ, _, ⟨due', places', count', rfl, h⟩, ⟨v0, _, rfl, k0, v1, _, rfl, k1, v2, _, rfl, k2, rfl⟩, L⟩ := h
  refine ⟨_, (pss_cons (ps_set (i := 3) sc_law_ways.nd rfl (by first | exact Or.inl rfl | exact Or.inr rfl) (pe_lst pa_nil))
  (pss_cut (ps_if (pt_cmpR op_gt (pv 2) pe_int (nomark _))
    (pss_one (ps_setLc (i := 3) (own := [("place", 8)]) (g := gName 8) rfl sc_law_ways.nd rfl rfl (sw_true rfl rfl rfl (by decide +kernel)) (pi_range1 (by rfl) mB_range (pa_cons (pv 1) pa_nil)) (blkOk_by (own := [("place", 8)]) (N := ["due", "places", "count", "found", "k", "longer", "way", "row", "place"]) (sc := defScope s_law_ways) (by decide +kernel)) (fun _ _ _ _ _ => (pg_name (i := 8) sc_law_ways.nd rfl (by first | exact Or.inl rfl | exact Or.inr rfl))) (fun _ _ _ _ _ => pts_nil) (fun _ _ _ _ _ => (pe_tup (pa_cons (pv 8) pa_nil)))))
    pss_nil)
  (pss_cons (ps_for PassesOwn.never rfl (pi_range1 (by rfl) mB_range (pa_cons (pe_op op_sub (pv 2) pe_int) pa_nil)) (pg_name (i := 4) sc_law_ways.nd rfl (by first | exact Or.inl rfl | exact Or.inr rfl))
    (pss_cons (ps_set (i := 5) sc_law_ways.nd rfl (by first | exact Or.inl rfl | exact Or.inr rfl) (pe_lst pa_nil))
  (pss_cons (ps_for PassesOwn.never rfl (pi_listK (K := K) (pv 3)) (pg_name (i := 6) sc_law_ways.nd rfl (by first | exact Or.inl rfl | exact Or.inr rfl))
    (pss_one (ps_for PassesOwn.never rfl (pi_listK (K := K) (pv 0)) (pg_name (i := 7) sc_law_ways.nd rfl (by first | exact Or.inl rfl | exact Or.inr rfl))
    (pss_one (ps_if (PW.pt (pw_and (pt_cmpR op_eq (pe_ix (r := rIxT K) ix_tup (pv 7) pe_int (fun _ _ => rfl)) (pe_ix (r := rIxT K) ix_tup (pv 6) (pe_un un_neg pe_int) (fun _ _ => rfl)) (nomark _)) (pw_and1 (pt_cmpR (r := rIn K true) op_notIn_seq (pe_ix (r := rIxT K) ix_tup (pv 7) pe_int (fun _ _ => rfl)) (pv 6) (by rfl)))))
    (pss_one (ps_expr (pe_bm PySem.F.plainAttrs_list PySem.F.slot_list_append PySem.F.type_list_append mt_append (pv 5) (pa_cons (pe_op (r := rCatA K) op_catA (pv 6) (pe_tup (pa_cons (pe_ix (r := rIxT K) ix_tup (pv 7) pe_int (fun _ _ => rfl)) pa_nil))) pa_nil))))
    pss_nil)))))
  (pss_one (ps_set (i := 3) sc_law_ways.nd rfl (by first | exact Or.inl rfl | exact Or.inr rfl) (pe_callTy (r := rLstQ K) call_list_of (by rfl) mB_list (by decide +kernel) (pa_cons (pv 5) pa_nil)))))))
  (pss_one (ps_ret (pv 3)))))), ?_⟩
  have w := Wd.begin hφ
  have f := Args.fits hφ (.bo (r := (rB (pr (rTri rInt rInt rInt)))) (a := due') k0 (.va (r := rInt) (a := places') k1 (.va (r := rInt) (a := count') k2 .nil))) 6
  unfold PF.law_ways at h
  obtain ⟨found'1, e_2, h⟩ := bS h
  replace e_2 := Option.some.inj e_2
  refine q_asgO (o := (oV (rTup rInt))) w f (fun rd => isO (eo_lst (rr := (rTup rInt)) eal_nil (by exact Nat.le_of_ble_eq_true rfl)) e_2) fun σ G H w f => ?_
  obtain ⟨c_12, e_13, n_14, r_15⟩ := thenS h
  refine d_cut (sh := (fun (s'3 : (List (List Int))) => [.bo (rB (pr (rTri rInt rInt rInt))) due', .va rInt places', .va rInt count', .ow (oV (rTup rInt)) s'3, .un, .un, .un, .un, .un])) w (Out0 (rvO (oV (rTup rInt)) φ.F H0)) (fun _ _ _ x => x) (fun D' L => ?_) (fun r e => by cases r_15 r e; exact L) (fun s'3 e σ G H w f => ?_)
  · clear h; have h := e_13
    refine d_if (b := (decide (count' > (0 : Int)))) w f (fun rd => (et_test (er_cmp (f := fun i j => decide (i > j)) (er_v rd 2 rfl) er_int))) (fun b_4 H w f => ?_) (fun b_4 H w f => ?_)
    · replace h := ifT h b_4
      obtain ⟨k_5, h⟩ := ckS h
      obtain ⟨k_7, h⟩ := ckS h
      obtain ⟨found'10, e_11, h⟩ := bS h
      replace e_11 := Option.some.inj e_11
      refine d_asgO (o := (oV (rTup rInt))) w f (fun rd => isO (eo_lc (ss := (rTup rInt)) (f := fun (y'6 : Int) => some true) (m := fun (y'6 : Int) => (some (([y'6] : List Int)))) rd (src_rng1 (er_v rd 1 rfl) k_5) tg_n (by decide) (of_decide_eq_true k_7) (compM_tot1 _) (fun y'6 _ ψ σ2 l rd => ⟨fun _ g_8 => by exact (isT et_yes (Option.some.inj g_8)), fun _ g_9 => by exact isE (er_tup (rr := rInt) (eal_cons (er_v rd 8 rfl) eal_nil) (by exact Nat.le_of_ble_eq_true rfl)) (Option.some.inj g_9)⟩)) e_11) fun σ G H w f => ?_
      cases h
      exact L _ _ _ w (f.weak (weak_eq (weak_eq (weak_eq (weak_eq (weak_un (weak_un (weak_un (weak_un (weak_un weak_nil))))))))))
    · replace h := ifF h b_4
      refine d_next w f fun σ G H w f => ?_
      cases h
      exact L _ _ _ w (f.weak (weak_eq (weak_eq (weak_eq (weak_eq (weak_un (weak_un (weak_un (weak_un (weak_un weak_nil))))))))))
  replace h := n_14 s'3 e
  obtain ⟨k_16, h⟩ := ckS h
  obtain ⟨c_44, e_45, n_46, r_47⟩ := afterS h
  refine q_forR (rv := (rvO (oV (rTup rInt)) φ.F H0)) (fun (s'17 : (List (List Int))) => [.bo (rB (pr (rTri rInt rInt rInt))) due', .va rInt places', .va rInt count', .ow (oV (rTup rInt)) s'17, .un, .un, .un, .un, .un]) w f (fun rd => (srcI_rng1 (er_I0 (er_v rd 2 rfl) er_int) k_16)) tg_n e_45 (weak_eq (weak_eq (weak_eq (weak_eq (weak_un (weak_un (weak_un (weak_un (weak_un weak_nil))))))))) (fun y'18 s'17 c' _ h Gb D' σ G H w f L => ?_) (fun r e => by cases r_47 r e; exact L) (fun s'17 e σ G H w f => ?_)
  · obtain ⟨longer'19, e_20, h⟩ := bS h
    replace e_20 := Option.some.inj e_20
    refine q_asgO (o := (oV (rTup rInt))) w f (fun rd => isO (eo_lst (rr := (rTup rInt)) eal_nil (by exact Nat.le_of_ble_eq_true rfl)) e_20) fun σ G H w f => ?_
    obtain ⟨G, w', eG, f⟩ := f.freeze w.toWd 3 rfl
    replace w : WB _ _ _ G _ := ⟨w', w.bs.trans eG⟩
    obtain ⟨c_37, e_38, n_39, r_40⟩ := afterS h
    refine q_for (rv := (rvO (oV (rTup rInt)) φ.F H0)) (fun (s'21 : (List (List Int))) => [.bo (rB (pr (rTri rInt rInt rInt))) due', .va rInt places', .va rInt count', .va (rLst (rTup rInt)) s'17, .va rInt y'18, .ow (oV (rTup rInt)) s'21, .un, .un, .un]) w f (fun rd => (src_list (er_bor (er_v rd 3 rfl)))) tg_n e_38 (weak_eq (weak_eq (weak_eq (weak_eq (weak_eq (weak_eq (weak_un (weak_un (weak_un weak_nil))))))))) (fun y'22 s'21 c' _ h Gb D' σ G H w f L => ?_) (fun r e => by cases r_40 r e; exact L) (fun s'21 e σ G H w f => ?_)
    · obtain ⟨c_32, e_33, n_34, r_35⟩ := afterS h
      refine d_for (rv := (rvO (oV (rTup rInt)) φ.F H0)) (fun (s'23 : (List (List Int))) => [.bo (rB (pr (rTri rInt rInt rInt))) due', .va rInt places', .va rInt count', .va (rLst (rTup rInt)) s'17, .va rInt y'18, .ow (oV (rTup rInt)) s'23, .va (rTup rInt) y'22, .un, .un]) w f (fun rd => (src_list (er_b rd 0 rfl))) tg_n e_33 (weak_eq (weak_eq (weak_eq (weak_eq (weak_eq (weak_eq (weak_eq (weak_un (weak_un weak_nil))))))))) (fun y'24 s'23 c' _ h Gb D' σ G H w f L => ?_) (fun r e => by cases r_35 r e; exact L) (fun s'23 e σ G H w f => ?_)
      · obtain ⟨x_25, e_26, h⟩ := bS h
        refine d_if (b := ((decide (y'24.1 = x_25)) && (!decide (y'24.2.1 ∈ y'22)))) w f (fun rd => (et_andT (et_test (er_eqI (er_t0 (er_v rd 7 rfl)) (er_ixT (er_v rd 6 rfl) (er_neg er_int) e_26))) (et_test (er_niT (er_t1 (er_v rd 7 rfl)) (er_v rd 6 rfl))))) (fun b_27 H w f => ?_) (fun b_27 H w f => ?_)
        · replace h := ifT h b_27
          obtain ⟨k_28, h⟩ := ckS h
          obtain ⟨k_29, h⟩ := ckS h
          obtain ⟨longer'30, e_31, h⟩ := bS h
          replace e_31 := Option.some.inj e_31
          refine d_app (rr := (rTup rInt)) (i := 5) w f rfl (of_decide_eq_true k_29) (fun rd => (er_catT (rr := rInt) (er_v rd 6 rfl) (er_tup (rr := rInt) (eal_cons (er_t1 (er_v rd 7 rfl)) eal_nil) (by exact Nat.le_of_ble_eq_true rfl)) (of_decide_eq_true k_28))) e_31 fun σ G H w f => ?_
          cases h
          exact L _ _ _ w (f.weak (weak_eq (weak_eq (weak_eq (weak_eq (weak_eq (weak_eq (weak_eq (weak_un (weak_un weak_nil))))))))))
        · replace h := ifF h b_27
          refine d_next w f fun σ G H w f => ?_
          cases h
          exact L _ _ _ w (f.weak (weak_eq (weak_eq (weak_eq (weak_eq (weak_eq (weak_eq (weak_eq (weak_un (weak_un weak_nil))))))))))
      replace h := n_34 s'23 e
      cases h
      exact L _ _ _ w (f.weak (weak_eq (weak_eq (weak_eq (weak_eq (weak_eq (weak_eq (weak_un (weak_un (weak_un weak_nil))))))))))
    replace h := n_39 s'21 e
    obtain ⟨found'42, e_43, h⟩ := bS h
    replace e_43 := Option.some.inj e_43
    refine d_asgO (o := (oV (rTup rInt))) w f (fun rd => isO (eo_listL (rr := (rTup rInt)) (er_o (o := (oV (rTup rInt))) (a := s'21) rd 5 rfl)) e_43) fun σ G H w f => ?_
    cases h
    exact L _ _ _ w (f.weak (weak_eq (weak_eq (weak_eq (weak_eq (weak_un (weak_un (weak_un (weak_un (weak_un weak_nil))))))))))
  replace h := n_46 s'17 e
  refine d_retV w f (i := 3) rfl ?_
  cases h
  exact L
abbrev s_law_tuple : Stmt := topS 13
theorem sc_law_tuple : FnScope ["due", "places", "drawn", "way", "k", "following", "x", "row"] ["due", "places", "drawn"] (defScope s_law_tuple) := ⟨rfl, rfl, rfl, by decide +kernel, rfl, by decide +kernel, by decide +kernel⟩
def w_law_tuple : (Fm → List V → Prop) → (List Int) → Prop := fun P c => ∃ (due' : List (Int × Int × Int)) (places' : Int) (drawn' : List Int), P = (HC (rB (pr (rTri rInt rInt rInt))) due' (HC (pr rInt) places' (HC (rB (pr rInt)) drawn' HN))) ∧ PF.law_tuple due' places' drawn' = some c
set_option maxHeartbeats 8000000 in
theorem ok_law_tuple {P : Program} {wo : World} {K : PySem.W.Frag} {mg : Str → Option Value} {base : Heap} {f : Addr} {fd : FuncData}  (D : DefAt K mg "_law_tuple" s_law_tuple ["due", "places", "drawn"] f fd) (mB_len : mg "len" = none) (mB_range : mg "range" = none) (mB_tuple : mg "tuple" = none) : FnOk P wo K mg base CX0 1 f fd ["due", "places", "drawn"] (spO (oPr (rTup rInt)) (w_law_tuple)) := by
  refine D.F.ok sc_law_tuple (fun vs H Q E h => ?_) (fun cdv A outer s H0 vs Q E hr h => ?_)
  · obtain ⟨φ, Pp, b, _, _, ⟨_, _, _, rfl, _⟩, ⟨v0, _, rfl, k0, v1, _, rfl, k1, v2, _, rfl, k2, rfl⟩, _⟩ := h
    rfl
  obtain ⟨φ, Pp, c0, hφ, _, ⟨due', places', drawn', rfl, h⟩, ⟨v0, _, rfl, k0, v1, _, rfl, k1, v2, _, rfl, k2, rfl⟩, L⟩ := h
  refine ⟨_, (pss_cons (ps_if (pt_cmpR op_eq (pe_ix (r := rIxL K) ix_list (pv 2) pe_int (fun _ _ => rfl)) pe_int (nomark _))
    (pss_one (ps_ret (pe_callTy (r := rTupQ K) call_tuple_of (by rfl) mB_tuple (by decide +kernel) (pa_cons (pe_lc (own := [("x", 6)]) (g := gName 6) rfl sc_law_tuple.nd (pi_listK (K := K) (pe_slice (r := rSlL K) sl_list (pv 2) (po_some pe_int) (po_some (pe_op op_add pe_int (pe_ix (r := rIxL K) ix_list (pv 2) pe_int (fun _ _ => rfl)))))) (blkOk_by (own := [("x", 6)]) (N := ["due", "places", "drawn", "way", "k", "following", "x", "row"]) (sc := defScope s_law_tuple) (by decide +kernel)) (fun _ _ _ _ _ => (pg_name (i := 6) sc_law_tuple.nd rfl (by first | exact Or.inl rfl | exact Or.inr rfl))) (fun _ _ _ _ _ => pts_nil) (fun _ _ _ _ _ => (pe_op op_sub (pe_op op_mod (pv 6) (pe_op op_add (pv 1) pe_int)) pe_int))) pa_nil))))
    pss_nil)
  (pss_cons (ps_if (pt_cmpR op_eq (pv 1) pe_int (nomark _))
    (pss_one (ps_ret (pe_tup pa_nil)))
    pss_nil)
  (pss_cons (ps_set (i := 3) sc_law_tuple.nd rfl (by first | exact Or.inl rfl | exact Or.inr rfl) (pe_tup (pa_cons (pe_op op_mod (pe_ix (r := rIxL K) ix_list (pv 2) pe_int (fun _ _ => rfl)) (pv 1)) pa_nil)))
  (pss_cons (ps_for PassesOwn.never rfl (pi_range1 (by rfl) mB_range (pa_cons (pe_ix (r := rIxL K) ix_list (pv 2) pe_int (fun _ _ => rfl)) pa_nil)) (pg_name (i := 4) sc_law_tuple.nd rfl (by first | exact Or.inl rfl | exact Or.inr rfl))
    (pss_cons (ps_setLc (i := 5) (own := [("row", 7)]) (g := gName 7) rfl sc_law_tuple.nd rfl rfl (sw_true rfl rfl rfl (by decide +kernel)) (pi_listK (K := K) (pv 0)) (blkOk_by (own := [("row", 7)]) (N := ["due", "places", "drawn", "way", "k", "following", "x", "row"]) (sc := defScope s_law_tuple) (by decide +kernel)) (fun _ _ _ _ _ => (pg_name (i := 7) sc_law_tuple.nd rfl (by first | exact Or.inl rfl | exact Or.inr rfl))) (fun _ _ _ _ _ => (pts_one (PW.pt (pw_and (pt_cmpR op_eq (pe_ix (r := rIxT K) ix_tup (pv 7) pe_int (fun _ _ => rfl)) (pe_ix (r := rIxT K) ix_tup (pv 3) (pe_un un_neg pe_int) (fun _ _ => rfl)) (nomark _)) (pw_and1 (PW.pt (pw_or (pt_cmpR op_eq (pe_ix (r := rIxL K) ix_list (pv 2) pe_int (fun _ _ => rfl)) pe_int (nomark _)) (pw_or1 (pt_cmpR (r := rIn K true) op_notIn_seq (pe_ix (r := rIxT K) ix_tup (pv 7) pe_int (fun _ _ => rfl)) (pv 3) (by rfl)))))))))) (fun _ _ _ _ _ => (pe_ix (r := rIxT K) ix_tup (pv 7) pe_int (fun _ _ => rfl))))
  (pss_one (ps_if (pt_cmpR op_gt (pe_callB (r := rLenQ K) call_len_seq (by rfl) mB_len (by decide +kernel) (pa_cons (pv 5) pa_nil)) pe_int (nomark _))
    (pss_one (ps_set (i := 3) sc_law_tuple.nd rfl (by first | exact Or.inl rfl | exact Or.inr rfl) (pe_op (r := rCatA K) op_catA (pv 3) (pe_tup (pa_cons (pe_ix (r := rIxL K) ix_list (pv 5) (pe_op op_mod (pe_ix (r := rIxL K) ix_list (pv 2) (pe_op op_add pe_int (pv 4)) (fun _ _ => rfl)) (pe_callB (r := rLenQ K) call_len_seq (by rfl) mB_len (by decide +kernel) (pa_cons (pv 5) pa_nil))) (fun _ _ => rfl)) pa_nil)))))
    pss_nil))))
  (pss_one (ps_ret (pv 3))))))), ?_⟩
  have w := Wd.begin hφ
  have f := Args.fits hφ (.bo (r := (rB (pr (rTri rInt rInt rInt)))) (a := due') k0 (.va (r := rInt) (a := places') k1 (.bo (r := (rB (pr rInt))) (a := drawn') k2 .nil))) 5
  unfold PF.law_tuple at h
  obtain ⟨x_1, e_2, h⟩ := bS h
  refine q_if (b := (decide (x_1 = (0 : Int)))) w f (fun rd => (et_test (er_eqI (er_ixL (er_b rd 2 rfl) er_int e_2) er_int))) (fun b_3 H w f => ?_) (fun b_3 H w f => ?_)
  · replace h := ifT h b_3
    obtain ⟨x_4, e_5, h⟩ := bS h
    obtain ⟨k_7, h⟩ := ckS h
    obtain ⟨xs_11, e_12, h⟩ := bS h
    refine d_ret (rr := (rTup rInt)) w f (fun rd => (er_tupOf (rr := rInt) (er_bor (Eo.er (o := (oV rInt)) (eo_lc (ss := rInt) (f := fun (y'6 : Int) => some true) (m := fun (y'6 : Int) => ((chk (decide ((0 : Int) < (places' + (2 : Int))))).bind fun _ => some (((y'6 % (places' + (2 : Int))) - (1 : Int))))) rd (src_list (er_bor (Eo.er (o := (oV rInt)) (eo_sl (rr := rInt) (er_b rd 2 rfl) (eop_part er_int) (eop_part (er_I0 er_int (er_ixL (er_b rd 2 rfl) er_int e_5))))))) tg_n (by decide) (of_decide_eq_true k_7) e_12 (fun y'6 _ ψ σ2 l rd => ⟨fun _ g_9 => by exact (isT et_yes (Option.some.inj g_9)), fun _ g_10 => by obtain ⟨k_8, g_10⟩ := ckS g_10; exact isE (er_I0 (er_I (er_v rd 6 rfl) (er_I0 (er_v rd 1 rfl) er_int) (of_decide_eq_true k_8)) er_int) (Option.some.inj g_10)⟩)))))) ?_
    cases h
    exact L
  · replace h := ifF h b_3
    refine d_next w f fun σ G H w f => ?_
    try dsimp only
    refine q_if (b := (decide (places' = (0 : Int)))) w f (fun rd => (et_test (er_eqI (er_v rd 1 rfl) er_int))) (fun b_13 H w f => ?_) (fun b_13 H w f => ?_)
    · replace h := ifT h b_13
      refine d_ret (rr := (rTup rInt)) w f (fun rd => (er_tup (rr := rInt) eal_nil (by exact Nat.le_of_ble_eq_true rfl))) ?_
      cases h
      exact L
    · replace h := ifF h b_13
      refine d_next w f fun σ G H w f => ?_
      try dsimp only
      obtain ⟨x_14, e_15, h⟩ := bS h
      obtain ⟨k_16, h⟩ := ckS h
      obtain ⟨way'17, e_18, h⟩ := bS h
      replace e_18 := Option.some.inj e_18
      refine q_asg (rr := (rTup rInt)) w f (fun rd => isE (er_tup (rr := rInt) (eal_cons (er_I (er_ixL (er_b rd 2 rfl) er_int e_15) (er_v rd 1 rfl) (of_decide_eq_true k_16)) eal_nil) (by exact Nat.le_of_ble_eq_true rfl)) e_18) fun σ G H w f => ?_
      obtain ⟨x_19, e_20, h⟩ := bS h
      obtain ⟨k_21, h⟩ := ckS h
      obtain ⟨c_48, e_49, n_50, r_51⟩ := afterS h
      refine q_forR (rv := (rvO (oPr (rTup rInt)) φ.F H0)) (fun (s'22 : (List Int)) => [.bo (rB (pr (rTri rInt rInt rInt))) due', .va rInt places', .bo (rB (pr rInt)) drawn', .va (rTup rInt) s'22, .un, .un, .un, .un]) w f (fun rd => (srcI_rng1 (er_ixL (er_b rd 2 rfl) er_int e_20) k_21)) tg_n e_49 (weak_eq (weak_eq (weak_eq (weak_eq (weak_un (weak_un (weak_un (weak_un weak_nil)))))))) (fun y'23 s'22 c' _ h Gb D' σ G H w f L => ?_) (fun r e => by cases r_51 r e; exact L) (fun s'22 e σ G H w f => ?_)
      · obtain ⟨k_25, h⟩ := ckS h
        obtain ⟨xs_35, e_36, h⟩ := bS h
        obtain ⟨following'37, e_38, h⟩ := bS h
        replace e_38 := Option.some.inj e_38
        refine q_asgO (o := (oV rInt)) w f (fun rd => isO (eo_lc (ss := rInt) (f := fun (y'24 : Int × Int × Int) => ((L2.atI s'22 (-(1 : Int))).bind fun x_26 => ((if (decide (y'24.1 = x_26)) = true then ((L2.atI drawn' (0 : Int)).bind fun x_28 => some (((decide (x_28 = (1 : Int))) || (!decide (y'24.2.1 ∈ s'22))))) else some false)).bind fun b_31 => some (b_31))) (m := fun (y'24 : Int × Int × Int) => (some (y'24.2.1))) rd (src_list (er_b rd 0 rfl)) tg_n (by decide) (of_decide_eq_true k_25) e_36 (fun y'24 _ ψ σ2 l rd => ⟨fun _ g_33 => by obtain ⟨x_26, e_27, g_33⟩ := bS g_33; obtain ⟨b_31, e_32, g_33⟩ := bS g_33; exact isT (et_and (et_test (er_eqI (er_t0 (er_v rd 7 rfl)) (er_ixT (er_v rd 3 rfl) (er_neg er_int) e_27))) (fun _ g_30 => by obtain ⟨x_28, e_29, g_30⟩ := bS g_30; exact isT (et_orT (et_test (er_eqI (er_ixL (er_b rd 2 rfl) er_int e_29) er_int)) (et_test (er_niT (er_t1 (er_v rd 7 rfl)) (er_v rd 3 rfl)))) (Option.some.inj g_30)) e_32) (Option.some.inj g_33), fun _ g_34 => by exact isE (er_t1 (er_v rd 7 rfl)) (Option.some.inj g_34)⟩)) e_38) fun σ G H w f => ?_
        refine d_if (b := (decide ((following'37.length : Int) > (0 : Int)))) w f (fun rd => (et_test (er_cmp (f := fun i j => decide (i > j)) (er_lenL (er_o (o := (oV rInt)) (a := following'37) rd 5 rfl)) er_int))) (fun b_39 H w f => ?_) (fun b_39 H w f => ?_)
        · replace h := ifT h b_39
          obtain ⟨x_40, e_41, h⟩ := bS h
          obtain ⟨k_42, h⟩ := ckS h
          obtain ⟨x_43, e_44, h⟩ := bS h
          obtain ⟨k_45, h⟩ := ckS h
          obtain ⟨way'46, e_47, h⟩ := bS h
          replace e_47 := Option.some.inj e_47
          refine d_asg (rr := (rTup rInt)) w f (fun rd => isE (er_catT (rr := rInt) (er_v rd 3 rfl) (er_tup (rr := rInt) (eal_cons (er_ixL (er_o (o := (oV rInt)) (a := following'37) rd 5 rfl) (er_I (er_ixL (er_b rd 2 rfl) (er_I0 er_int (er_v rd 4 rfl)) e_41) (er_lenL (er_o (o := (oV rInt)) (a := following'37) rd 5 rfl)) (of_decide_eq_true k_42)) e_44) eal_nil) (by exact Nat.le_of_ble_eq_true rfl)) (of_decide_eq_true k_45)) e_47) fun σ G H w f => ?_
          cases h
          exact L _ _ _ w (f.weak (weak_eq (weak_eq (weak_eq (weak_eq (weak_un (weak_un (weak_un (weak_un weak_nil)))))))))
        · replace h := ifF h b_39
          refine d_next w f fun σ G H w f => ?_
          cases h
          exact L _ _ _ w (f.weak (weak_eq (weak_eq (weak_eq (weak_eq (weak_un (weak_un (weak_un (weak_un weak_nil)))))))))
      replace h := n_50 s'22 e
      refine d_ret (rr := (rTup rInt)) w f (fun rd => (er_v rd 3 rfl)) ?_
      cases h
      exact L
abbrev s_law_refused : Stmt := topS 14
theorem sc_law_refused : FnScope ["places", "rows", "e"] ["places", "rows"] (defScope s_law_refused) := ⟨rfl, rfl, rfl, by decide +kernel, rfl, by decide +kernel, by decide +kernel⟩
def w_law_refused : (Fm → List V → Prop) → Bool → Prop := fun P c => ∃ (places' : Int) (rows' : List (Int × Int × Int)), P = (HC (pr rInt) places' (HC (rB (pr (rTri rInt rInt rInt))) rows' HN)) ∧ PF.law_refused places' rows' = some c
set_option maxHeartbeats 8000000 in
theorem ok_law_refused {P : Program} {wo : World} {K : PySem.W.Frag} {mg : Str → Option Value} {base : Heap} {f : Addr} {fd : FuncData} {f_Web___init__ : Addr} {fd_Web___init__ : FuncData} {C_ServeError : Addr} {C_Web : Addr} {C_BadWeb : Addr} {C_BadTable : Addr} (D : DefAt K mg "_law_refused" s_law_refused ["places", "rows"] f fd) (D_Web___init__ : MetAt K "__init__" "Web.__init__" s_Web___init__ ["self", "places", "steps"] f_Web___init__ fd_Web___init__) (G_Web___init__X : FnOk P wo K mg base (L2.CX P wo) 1 f_Web___init__ fd_Web___init__ ["self", "places", "steps"] (spIX mg C_Web (F_Web wo) (w_Web___init__X wo C_Web))) (mB_ValueError : mg "ValueError" = none) (mB_isinstance : mg "isinstance" = none) (gl_ServeError : mg "ServeError" = some (.ref C_ServeError)) (mk_Web : Mk K C_Web f_Web___init__) (EC_BadWeb : ExcC K C_BadWeb) (gl_BadWeb : mg "BadWeb" = some (.ref C_BadWeb)) (kt_BadWeb_BadWeb : PySem.W.kitOne K (.ref C_BadWeb) (.ref C_BadWeb) = some true) (kt_BadWeb_ValueError : PySem.W.kitOne K (.ref C_BadWeb) (.type "ValueError") = some true) (gl_BadTable : mg "BadTable" = some (.ref C_BadTable)) (kt_BadWeb_BadTable : PySem.W.kitOne K (.ref C_BadWeb) (.ref C_BadTable) = some false) (em_BadWeb_ServeError : PySem.W.exmOne K (.ref C_BadWeb) (.ref C_ServeError) = some true) (gl_Web : mg "Web" = some (.ref C_Web)) : FnOk P wo K mg base CX0 3 f fd ["places", "rows"] (spO (oPr rBl) (w_law_refused)) := by
  refine D.F.ok sc_law_refused (fun vs H Q E h => ?_) (fun cdv A outer s H0 vs Q E hr h => ?_)
  · obtain ⟨φ, Pp, b, _, _, ⟨_, _, rfl, _⟩, ⟨v0, _, rfl, k0, v1, _, rfl, k1, rfl⟩, _⟩ := h
    rfl
  obtain ⟨φ, Pp, c0, hφ, _, ⟨places', rows', rfl, h⟩, ⟨v0, _, rfl, k0, v1, _, rfl, k1, rfl⟩, L⟩ := h
  refine ⟨_, (pss_cons (ps_try_as (i := 2) rfl rfl sc_law_refused.nd rfl rfl ⟨rfl, by decide, Or.inl gl_ServeError⟩ takes0 (fun W pn xe tk _ => (pss_one (ps_expr (L2.pe_makeS mk_Web G_Web___init__X (hr.mono (by decide)) (by rfl) gl_Web D_Web___init__.b .nil (fun σ => passAt tk σ) (pa_cons (pv 0) (pa_cons (pv 1) pa_nil)))))) (fun a oe cls d pn hz hf => (pss_one (ps_ret (pe_and (pe_callB (call_isH EC_BadWeb hz hf) (by rfl) mB_isinstance (by decide +kernel) (pa_cons (pv 2) (pa_cons (pe_glob (v := .ref C_BadWeb) (by rfl) gl_BadWeb rfl) pa_nil))) (pe_and (pe_callB (call_isH EC_BadWeb hz hf) (by rfl) mB_isinstance (by decide +kernel) (pa_cons (pv 2) (pa_cons (pe_bltn (v := .ty "ValueError") (by rfl) mB_ValueError (by decide +kernel) rfl) pa_nil))) (pe_one (pe_not (pe_callB (call_isH EC_BadWeb hz hf) (by rfl) mB_isinstance (by decide +kernel) (pa_cons (pv 2) (pa_cons (pe_glob (v := .ref C_BadTable) (by rfl) gl_BadTable rfl) pa_nil)))))))))))
  (pss_one (ps_ret pe_bl))), ?_⟩
  have w := Wd.begin hφ
  have f := Args.fits hφ (.va (r := rInt) (a := places') k0 (.bo (r := (rB (pr (rTri rInt rInt rInt)))) (a := rows') k1 .nil)) 1
  unfold PF.law_refused at h
  refine q_blk ?_
  rcases xS h with ⟨err_3, e_2, h⟩ | ⟨x_1, e_2, h⟩
  · refine Ee.at_ (mg := mg) w f (fun rd => (ee_makeSX (C := C_Web) (F := (F_Web wo)) (W := w_Web___init__X wo C_Web) (ea_cons (er_v rd 0 rfl) (ea_cons (er_b rd 1 rfl) ea0)) ⟨_, _, rfl, e_2⟩)) (fun cls d H2 w f is => ?_) _
    replace h := err0_S h
    obtain ⟨rfl, h⟩ := h
    obtain ⟨rfl, rfl⟩ := is.bare gl_BadWeb
    refine ⟨true, em_BadWeb_ServeError, fun _ a ha => ?_, fun z => by cases z⟩
    replace f := f.setAt 2 a
    refine d_ret (rr := rBl) w f (fun rd => (er_andVT (er_isH (vAt rd 2 rfl) (fun u hu => hu) kt_BadWeb_BadWeb) (er_andVT (er_isH (vAt rd 2 rfl) (fun u hu => hu) kt_BadWeb_ValueError) (er_notV (er_isH (vAt rd 2 rfl) (fun u hu => hu) kt_BadWeb_BadTable))))) ?_
    cases h
    exact L
  refine d_drop w f (fun rd => (er_makeSX (C := C_Web) (F := (F_Web wo)) (W := w_Web___init__X wo C_Web) (ea_cons (er_v rd 0 rfl) (ea_cons (er_b rd 1 rfl) ea0)) ⟨_, _, rfl, e_2⟩)) fun σ G H w f => ?_
  try dsimp only
  refine d_ret (rr := rBl) w f (fun rd => er_bl) ?_
  cases h
  exact L
abbrev s_law_no_way : Stmt := topS 15
theorem sc_law_no_way : FnScope ["web", "way", "e"] ["web", "way"] (defScope s_law_no_way) := ⟨rfl, rfl, rfl, by decide +kernel, rfl, by decide +kernel, by decide +kernel⟩
def w_law_no_way (wo : World) (C_Web : Addr) : (Fm → List V → Prop) → Bool → Prop := fun P c => ∃ (web' : PF.Ty_Web) (way' : List Int), P = (HC (pr (rIns C_Web (F_Web wo))) web' (HC (pr (rTup rInt)) way' HN)) ∧ PF.law_no_way web' way' = some c
set_option maxHeartbeats 8000000 in
theorem ok_law_no_way {P : Program} {wo : World} {K : PySem.W.Frag} {mg : Str → Option Value} {base : Heap} {f : Addr} {fd : FuncData} {f_Web_way_worth : Addr} {fd_Web_way_worth : FuncData} {C_ServeError : Addr} {C_BadWeb : Addr} {C_BadTable : Addr} {C_Web : Addr} (D : DefAt K mg "_law_no_way" s_law_no_way ["web", "way"] f fd) (D_Web_way_worth : MetAt K "way_worth" "Web.way_worth" s_Web_way_worth ["self", "way"] f_Web_way_worth fd_Web_way_worth) (G_Web_way_worthX : FnOk P wo K mg base (L2.CX P wo) 3 f_Web_way_worth fd_Web_way_worth ["self", "way"] (spX mg (oPr rInt) (w_Web_way_worthX wo C_Web))) (mB_isinstance : mg "isinstance" = none) (gl_ServeError : mg "ServeError" = some (.ref C_ServeError)) (me_Web_way_worth : Meth K C_Web "way_worth" f_Web_way_worth) (EC_BadWeb : ExcC K C_BadWeb) (gl_BadWeb : mg "BadWeb" = some (.ref C_BadWeb)) (kt_BadWeb_BadWeb : PySem.W.kitOne K (.ref C_BadWeb) (.ref C_BadWeb) = some true) (gl_BadTable : mg "BadTable" = some (.ref C_BadTable)) (kt_BadWeb_BadTable : PySem.W.kitOne K (.ref C_BadWeb) (.ref C_BadTable) = some false) (em_BadWeb_ServeError : PySem.W.exmOne K (.ref C_BadWeb) (.ref C_ServeError) = some true) (cl_Web : Cls K C_Web) : FnOk P wo K mg base CX0 4 f fd ["web", "way"] (spO (oPr rBl) (w_law_no_way wo C_Web)) := by
  refine D.F.ok sc_law_no_way (fun vs H Q E h => ?_) (fun cdv A outer s H0 vs Q E hr h => ?_)
  · obtain ⟨φ, Pp, b, _, _, ⟨_, _, rfl, _⟩, ⟨v0, _, rfl, k0, v1, _, rfl, k1, rfl⟩, _⟩ := h
    rfl
  obtain ⟨φ, Pp, c0, hφ, _, ⟨web', way', rfl, h⟩, ⟨v0, _, rfl, k0, v1, _, rfl, k1, rfl⟩, L⟩ := h
  refine ⟨_, (pss_cons (ps_try_as (i := 2) rfl rfl sc_law_no_way.nd rfl rfl ⟨rfl, by decide, Or.inl gl_ServeError⟩ takes0 (fun W pn xe tk _ => (pss_one (ps_expr (pe_methS (pv 0) cl_Web me_Web_way_worth G_Web_way_worthX (hr.mono (by decide)) D_Web_way_worth.b .nil (fun σ => passAt tk σ) (pa_cons (pv 1) pa_nil))))) (fun a oe cls d pn hz hf => (pss_one (ps_ret (pe_and (pe_callB (call_isH EC_BadWeb hz hf) (by rfl) mB_isinstance (by decide +kernel) (pa_cons (pv 2) (pa_cons (pe_glob (v := .ref C_BadWeb) (by rfl) gl_BadWeb rfl) pa_nil))) (pe_one (pe_not (pe_callB (call_isH EC_BadWeb hz hf) (by rfl) mB_isinstance (by decide +kernel) (pa_cons (pv 2) (pa_cons (pe_glob (v := .ref C_BadTable) (by rfl) gl_BadTable rfl) pa_nil))))))))))
  (pss_one (ps_ret pe_bl))), ?_⟩
  have w := Wd.begin hφ
  have f := Args.fits hφ (.va (r := (rIns C_Web (F_Web wo))) (a := web') k0 (.va (r := (rTup rInt)) (a := way') k1 .nil)) 1
  unfold PF.law_no_way at h
  refine q_blk ?_
  rcases xS h with ⟨err_3, e_2, h⟩ | ⟨x_1, e_2, h⟩
  · refine Ee.at_ (mg := mg) w f (fun rd => (ee_methSX (o := (oPr rInt)) (W := w_Web_way_worthX wo C_Web) (F := (F_Web wo)) (c := web') (fno_S (n := "way_worth") (m := "_worth_at") (fno_S (n := "way_worth") (m := "places") (fno_E (n := "way_worth")) (by decide +kernel)) (by decide +kernel)) (er_v rd 0 rfl) (ea_cons (er_v rd 1 rfl) ea0) ⟨_, _, rfl, e_2⟩)) (fun cls d H2 w f is => ?_) _
    replace h := err0_S h
    obtain ⟨rfl, h⟩ := h
    obtain ⟨rfl, rfl⟩ := is.bare gl_BadWeb
    refine ⟨true, em_BadWeb_ServeError, fun _ a ha => ?_, fun z => by cases z⟩
    replace f := f.setAt 2 a
    refine d_ret (rr := rBl) w f (fun rd => (er_andVT (er_isH (vAt rd 2 rfl) (fun u hu => hu) kt_BadWeb_BadWeb) (er_notV (er_isH (vAt rd 2 rfl) (fun u hu => hu) kt_BadWeb_BadTable)))) ?_
    cases h
    exact L
  refine d_drop w f (fun rd => (er_methSX (W := w_Web_way_worthX wo C_Web) (F := (F_Web wo)) (c := web') (fno_S (n := "way_worth") (m := "_worth_at") (fno_S (n := "way_worth") (m := "places") (fno_E (n := "way_worth")) (by decide +kernel)) (by decide +kernel)) (er_v rd 0 rfl) (ea_cons (er_v rd 1 rfl) ea0) ⟨_, _, rfl, e_2⟩)) fun σ G H w f => ?_
  try dsimp only
  refine d_ret (rr := rBl) w f (fun rd => er_bl) ?_
  cases h
  exact L
abbrev s_law_right : Stmt := topS 16
theorem sc_law_right : FnScope ["web", "places", "due", "place", "after", "before", "u", "v", "told", "row"] ["web", "places", "due"] (defScope s_law_right) := ⟨rfl, rfl, rfl, by decide +kernel, rfl, by decide +kernel, by decide +kernel⟩
def w_law_right (wo : World) (C_Web : Addr) : (Fm → List V → Prop) → Bool → Prop := fun P c => ∃ (web' : PF.Ty_Web) (places' : Int) (due' : List (Int × Int × Int)), P = (HC (pr (rIns C_Web (F_Web wo))) web' (HC (pr rInt) places' (HC (rB (pr (rTri rInt rInt rInt))) due' HN))) ∧ PF.law_right web' places' due' = some c
set_option maxHeartbeats 8000000 in
theorem ok_law_right {P : Program} {wo : World} {K : PySem.W.Frag} {mg : Str → Option Value} {base : Heap} {f : Addr} {fd : FuncData} {f_Web_steps : Addr} {fd_Web_steps : FuncData} {f_Web_after : Addr} {fd_Web_after : FuncData} {f_Web_before : Addr} {fd_Web_before : FuncData} {f_Web_worth_of : Addr} {fd_Web_worth_of : FuncData} {f_law_step : Addr} {fd_law_step : FuncData} {C_Web : Addr} {u_Web_MOST_PLACES : Value} {mc_Web : Value} {p_Web_steps : Addr} (D : DefAt K mg "_law_right" s_law_right ["web", "places", "due"] f fd) (D_Web_steps : MetAt K "steps" "Web.steps" s_Web_steps ["self"] f_Web_steps fd_Web_steps) (D_Web_after : MetAt K "after" "Web.after" s_Web_after ["self", "place"] f_Web_after fd_Web_after) (D_Web_before : MetAt K "before" "Web.before" s_Web_before ["self", "place"] f_Web_before fd_Web_before) (D_Web_worth_of : MetAt K "worth_of" "Web.worth_of" s_Web_worth_of ["self", "u", "v"] f_Web_worth_of fd_Web_worth_of) (D_law_step : DefAt K mg "_law_step" s_law_step ["due", "u", "v"] f_law_step fd_law_step) (G_Web_steps : FnOk P wo K mg base CX0 1 f_Web_steps fd_Web_steps ["self"] (spO (oV (rTri rInt rInt rInt)) (w_Web_steps wo C_Web))) (G_Web_after : FnOk P wo K mg base CX0 1 f_Web_after fd_Web_after ["self", "place"] (spO (oV (rPair rInt rInt)) (w_Web_after wo C_Web))) (G_Web_before : FnOk P wo K mg base CX0 1 f_Web_before fd_Web_before ["self", "place"] (spO (oV (rPair rInt rInt)) (w_Web_before wo C_Web))) (G_Web_worth_of : FnOk P wo K mg base CX0 1 f_Web_worth_of fd_Web_worth_of ["self", "u", "v"] (spO (oPr (rOpt rInt)) (w_Web_worth_of wo C_Web))) (G_law_step : FnOk P wo K mg base CX0 1 f_law_step fd_law_step ["due", "u", "v"] (spO (oPr (rOpt rInt)) (w_law_step))) (mB_bool : mg "bool" = none) (mB_isinstance : mg "isinstance" = none) (mB_range : mg "range" = none) (cl_Web : Cls K C_Web) (na_Web_places : NoAttr K C_Web "places") (cr_Web : CRead K C_Web mc_Web) (cv_Web_MOST_PLACES : CVal K C_Web mc_Web "MOST_PLACES" (.int 12) u_Web_MOST_PLACES) (gl_Web : mg "Web" = some (.ref C_Web)) (pr_Web_steps : PropOf K C_Web "steps" p_Web_steps f_Web_steps) (me_Web_after : Meth K C_Web "after" f_Web_after) (me_Web_before : Meth K C_Web "before" f_Web_before) (me_Web_worth_of : Meth K C_Web "worth_of" f_Web_worth_of) : FnOk P wo K mg base CX0 3 f fd ["web", "places", "due"] (spO (oPr rBl) (w_law_right wo C_Web)) := by
  refine D.F.ok sc_law_right (fun vs H Q E h => ?_) (fun cdv A outer s H0 vs Q E hr h => ?_)
  · obtain ⟨φ, Pp, b, _, _, ⟨_, _, _, rfl, _⟩, ⟨v0, _, rfl, k0, v1, _, rfl, k1, v2, _, rfl, k2, rfl⟩, _⟩ := h
    rfl
  obtain ⟨φ, Pp, c0, hφ, _, ⟨web', places', due', rfl, h⟩, ⟨v0, _, rfl, k0, v1, _, rfl, k1, v2, _, rfl, k2, rfl⟩, L⟩ := h
  refine ⟨_, (pss_cons (ps_if (PW.pt (pw_or (pt_cmpR op_ne (pe_fldK (K := K) (pv 0) rfl) (pv 1) (nomark _)) (pw_or (pt_val (pe_callB (r := rIsi K) call_isi (by rfl) mB_isinstance (by decide +kernel) (pa_cons (pe_fldK (K := K) (pv 0) rfl) (pa_cons (pe_bltn (v := .ty "bool") (by rfl) mB_bool (by decide +kernel) rfl) pa_nil)))) (pw_or (pt_cmpR op_ne (pe_cvalK (K := K) (pe_glob (v := .ref C_Web) (by rfl) gl_Web rfl)) pe_int (nomark _)) (pw_or1 (pt_cmpR (r := rNeD K) (op_neD hr.units) (pe_prop (pv 0) cl_Web pr_Web_steps G_Web_steps (hr.mono (by decide)) D_Web_steps.b .nil pass0 rfl) (pv 2) (nomark _)))))))
    (pss_one (ps_ret pe_bl))
    pss_nil)
  (pss_cons (ps_for PassesOwn.never rfl (pi_range1 (by rfl) mB_range (pa_cons (pv 1) pa_nil)) (pg_name (i := 3) sc_law_right.nd rfl (by first | exact Or.inl rfl | exact Or.inr rfl))
    (pss_cons (ps_setLc (i := 4) (own := [("row", 9)]) (g := gName 9) rfl sc_law_right.nd rfl rfl (sw_true rfl rfl rfl (by decide +kernel)) (pi_listK (K := K) (pv 2)) (blkOk_by (own := [("row", 9)]) (N := ["web", "places", "due", "place", "after", "before", "u", "v", "told", "row"]) (sc := defScope s_law_right) (by decide +kernel)) (fun _ _ _ _ _ => (pg_name (i := 9) sc_law_right.nd rfl (by first | exact Or.inl rfl | exact Or.inr rfl))) (fun _ _ _ _ _ => (pts_one (pt_cmpR op_eq (pe_ix (r := rIxT K) ix_tup (pv 9) pe_int (fun _ _ => rfl)) (pv 3) (nomark _)))) (fun _ _ _ _ _ => (pe_tup (pa_cons (pe_ix (r := rIxT K) ix_tup (pv 9) pe_int (fun _ _ => rfl)) (pa_cons (pe_ix (r := rIxT K) ix_tup (pv 9) pe_int (fun _ _ => rfl)) pa_nil)))))
  (pss_cons (ps_setLc (i := 5) (own := [("row", 9)]) (g := gName 9) rfl sc_law_right.nd rfl rfl (sw_true rfl rfl rfl (by decide +kernel)) (pi_listK (K := K) (pv 2)) (blkOk_by (own := [("row", 9)]) (N := ["web", "places", "due", "place", "after", "before", "u", "v", "told", "row"]) (sc := defScope s_law_right) (by decide +kernel)) (fun _ _ _ _ _ => (pg_name (i := 9) sc_law_right.nd rfl (by first | exact Or.inl rfl | exact Or.inr rfl))) (fun _ _ _ _ _ => (pts_one (pt_cmpR op_eq (pe_ix (r := rIxT K) ix_tup (pv 9) pe_int (fun _ _ => rfl)) (pv 3) (nomark _)))) (fun _ _ _ _ _ => (pe_tup (pa_cons (pe_ix (r := rIxT K) ix_tup (pv 9) pe_int (fun _ _ => rfl)) (pa_cons (pe_ix (r := rIxT K) ix_tup (pv 9) pe_int (fun _ _ => rfl)) pa_nil)))))
  (pss_one (ps_if (PW.pt (pw_or (pt_cmpR (r := rNeD K) (op_neD hr.units) (pe_meth (pv 0) cl_Web me_Web_after G_Web_after (hr.mono (by decide)) D_Web_after.b .nil pass0 (pa_cons (pv 3) pa_nil)) (pv 4) (nomark _)) (pw_or1 (pt_cmpR (r := rNeD K) (op_neD hr.units) (pe_meth (pv 0) cl_Web me_Web_before G_Web_before (hr.mono (by decide)) D_Web_before.b .nil pass0 (pa_cons (pv 3) pa_nil)) (pv 5) (nomark _)))))
    (pss_one (ps_ret pe_bl))
    pss_nil)))))
  (pss_cons (ps_for PassesOwn.never rfl (pi_range2 (by rfl) mB_range (pa_cons (pe_un un_neg pe_int) (pa_cons (pe_op op_add (pv 1) pe_int) pa_nil))) (pg_name (i := 6) sc_law_right.nd rfl (by first | exact Or.inl rfl | exact Or.inr rfl))
    (pss_one (ps_for PassesOwn.never rfl (pi_range2 (by rfl) mB_range (pa_cons (pe_un un_neg pe_int) (pa_cons (pe_op op_add (pv 1) pe_int) pa_nil))) (pg_name (i := 7) sc_law_right.nd rfl (by first | exact Or.inl rfl | exact Or.inr rfl))
    (pss_cons (ps_set (i := 8) sc_law_right.nd rfl (by first | exact Or.inl rfl | exact Or.inr rfl) (pe_meth (pv 0) cl_Web me_Web_worth_of G_Web_worth_of (hr.mono (by decide)) D_Web_worth_of.b .nil pass0 (pa_cons (pv 6) (pa_cons (pv 7) pa_nil))))
  (pss_one (ps_if (PW.pt (pw_or (pt_val (pe_callB (r := rIsi K) call_isi (by rfl) mB_isinstance (by decide +kernel) (pa_cons (pv 8) (pa_cons (pe_bltn (v := .ty "bool") (by rfl) mB_bool (by decide +kernel) rfl) pa_nil)))) (pw_or1 (pt_cmpR (r := rNeD K) (op_neD hr.units) (pv 8) (pe_call G_law_step (hr.mono (by decide)) (by rfl) D_law_step.g D_law_step.F.kp D_law_step.b .nil pass0 (pa_cons (pv 2) (pa_cons (pv 6) (pa_cons (pv 7) pa_nil)))) (nomark _)))))
    (pss_one (ps_ret pe_bl))
    pss_nil))))))
  (pss_one (ps_ret pe_bl))))), ?_⟩
  have w := Wd.begin hφ
  have f := Args.fits hφ (.va (r := (rIns C_Web (F_Web wo))) (a := web') k0 (.va (r := rInt) (a := places') k1 (.bo (r := (rB (pr (rTri rInt rInt rInt)))) (a := due') k2 .nil))) 7
  unfold PF.law_right at h
  obtain ⟨b_10, e_11, h⟩ := bS h
  refine q_if (b := b_10) w f (fun rd => (et_or (et_test (er_neI (er_fld (F := (F_Web wo)) (get := fun a => a.1.2) (a := web') cl_Web na_Web_places (fg_S (fg_last (fno_E (n := "places")))) (er_v rd 0 rfl)) (er_v rd 1 rfl))) (fun _ g_9 => by obtain ⟨b_7, e_8, g_9⟩ := bS g_9; exact isT (et_or (et_B (er_isi (n := "bool") (ty := "int") (k := false) (er_fld (F := (F_Web wo)) (get := fun a => a.1.2) (a := web') cl_Web na_Web_places (fg_S (fg_last (fno_E (n := "places")))) (er_v rd 0 rfl)) (tyP fun _ _ h => ty_int h) (by rfl))) (fun _ g_6 => by obtain ⟨b_4, e_5, g_6⟩ := bS g_6; exact isT (et_or (et_test (er_neI (er_cval cr_Web cv_Web_MOST_PLACES) er_int)) (fun _ g_3 => by obtain ⟨x_1, e_2, g_3⟩ := bS g_3; exact isT (et_test (er_neD (K := K) (eaP (eLst (eTri eInt eInt eInt))) (eaB (eaP (eTri eInt eInt eInt))) (Nat.le_of_ble_eq_true rfl) (Nat.le_of_ble_eq_true rfl) (Eo.er (o := (oV (rTri rInt rInt rInt))) (eo_prop (o := (oV (rTri rInt rInt rInt))) (W := w_Web_steps wo C_Web) (F := (F_Web wo)) (a := web') (er_v rd 0 rfl) ⟨_, rfl, e_2⟩)) (er_b rd 2 rfl))) (Option.some.inj g_3)) e_5) (Option.some.inj g_6)) e_8) (Option.some.inj g_9)) e_11)) (fun b_12 H w f => ?_) (fun b_12 H w f => ?_)
  · replace h := ifT h b_12
    refine d_ret (rr := rBl) w f (fun rd => er_bl) ?_
    cases h
    exact L
  · replace h := ifF h b_12
    refine d_next w f fun σ G H w f => ?_
    try dsimp only
    obtain ⟨k_13, h⟩ := ckS h
    obtain ⟨c_36, e_37, n_38, r_39⟩ := afterS h
    refine q_forR (rv := (rvO (oPr rBl) φ.F H0)) (fun (s'14 : Unit) => [.va (rIns C_Web (F_Web wo)) web', .va rInt places', .bo (rB (pr (rTri rInt rInt rInt))) due', .un, .un, .un, .un, .un, .un, .un]) w f (fun rd => (srcI_rng1 (er_v rd 1 rfl) k_13)) tg_n e_37 (weak_eq (weak_eq (weak_eq (weak_un (weak_un (weak_un (weak_un (weak_un (weak_un (weak_un weak_nil)))))))))) (fun y'15 s'14 c' _ h Gb D' σ G H w f L => ?_) (fun r e => by cases r_39 r e; exact L) (fun s'14 e σ G H w f => ?_)
    · obtain ⟨k_17, h⟩ := ckS h
      obtain ⟨after'20, e_21, h⟩ := bS h
      replace e_21 := Option.some.inj e_21
      refine q_asgO (o := (oV (rPair rInt rInt))) w f (fun rd => isO (eo_lc (ss := (rPair rInt rInt)) (f := fun (y'16 : Int × Int × Int) => (some ((decide (y'16.1 = y'15))))) (m := fun (y'16 : Int × Int × Int) => (some ((y'16.2.1, y'16.2.2)))) rd (src_list (er_b rd 2 rfl)) tg_n (by decide) (of_decide_eq_true k_17) (compM_tot _) (fun y'16 _ ψ σ2 l rd => ⟨fun _ g_18 => by exact isT (et_test (er_eqI (er_t0 (er_v rd 9 rfl)) (er_v rd 3 rfl))) (Option.some.inj g_18), fun _ g_19 => by exact isE (er_pair (er_t1 (er_v rd 9 rfl)) (er_t2 (er_v rd 9 rfl))) (Option.some.inj g_19)⟩)) e_21) fun σ G H w f => ?_
      obtain ⟨k_23, h⟩ := ckS h
      obtain ⟨before'26, e_27, h⟩ := bS h
      replace e_27 := Option.some.inj e_27
      refine q_asgO (o := (oV (rPair rInt rInt))) w f (fun rd => isO (eo_lc (ss := (rPair rInt rInt)) (f := fun (y'22 : Int × Int × Int) => (some ((decide (y'22.2.1 = y'15))))) (m := fun (y'22 : Int × Int × Int) => (some ((y'22.1, y'22.2.2)))) rd (src_list (er_b rd 2 rfl)) tg_n (by decide) (of_decide_eq_true k_23) (compM_tot _) (fun y'22 _ ψ σ2 l rd => ⟨fun _ g_24 => by exact isT (et_test (er_eqI (er_t1 (er_v rd 9 rfl)) (er_v rd 3 rfl))) (Option.some.inj g_24), fun _ g_25 => by exact isE (er_pair (er_t0 (er_v rd 9 rfl)) (er_t2 (er_v rd 9 rfl))) (Option.some.inj g_25)⟩)) e_27) fun σ G H w f => ?_
      obtain ⟨x_28, e_29, h⟩ := bS h
      obtain ⟨b_33, e_34, h⟩ := bS h
      refine d_if (b := b_33) w f (fun rd => (et_or (et_test (er_neD (K := K) (eaP (eLst (ePair eInt eInt))) (eaB (eaP (ePair eInt eInt))) (Nat.le_of_ble_eq_true rfl) (Nat.le_of_ble_eq_true rfl) (Eo.er (o := (oV (rPair rInt rInt))) (eo_meth (o := (oV (rPair rInt rInt))) (W := w_Web_after wo C_Web) (F := (F_Web wo)) (a := web') (fno_S (n := "after") (m := "_worth_at") (fno_S (n := "after") (m := "places") (fno_E (n := "after")) (by decide +kernel)) (by decide +kernel)) (er_v rd 0 rfl) (ea_cons (er_v rd 3 rfl) ea0) ⟨_, _, rfl, e_29⟩)) (er_o (o := (oV (rPair rInt rInt))) (a := after'20) rd 4 rfl))) (fun _ g_32 => by obtain ⟨x_30, e_31, g_32⟩ := bS g_32; exact isT (et_test (er_neD (K := K) (eaP (eLst (ePair eInt eInt))) (eaB (eaP (ePair eInt eInt))) (Nat.le_of_ble_eq_true rfl) (Nat.le_of_ble_eq_true rfl) (Eo.er (o := (oV (rPair rInt rInt))) (eo_meth (o := (oV (rPair rInt rInt))) (W := w_Web_before wo C_Web) (F := (F_Web wo)) (a := web') (fno_S (n := "before") (m := "_worth_at") (fno_S (n := "before") (m := "places") (fno_E (n := "before")) (by decide +kernel)) (by decide +kernel)) (er_v rd 0 rfl) (ea_cons (er_v rd 3 rfl) ea0) ⟨_, _, rfl, e_31⟩)) (er_o (o := (oV (rPair rInt rInt))) (a := before'26) rd 5 rfl))) (Option.some.inj g_32)) e_34)) (fun b_35 H w f => ?_) (fun b_35 H w f => ?_)
      · replace h := ifT h b_35
        refine d_ret (rr := rBl) w f (fun rd => er_bl) ?_
        cases h
        exact L
      · replace h := ifF h b_35
        refine d_next w f fun σ G H w f => ?_
        cases h
        exact L _ _ _ w (f.weak (weak_eq (weak_eq (weak_eq (weak_un (weak_un (weak_un (weak_un (weak_un (weak_un (weak_un weak_nil)))))))))))
    replace h := n_38 s'14 e
    obtain ⟨k_41, h⟩ := ckS h
    obtain ⟨c_62, e_63, n_64, r_65⟩ := afterS h
    refine q_forR (rv := (rvO (oPr rBl) φ.F H0)) (fun (s'42 : Unit) => [.va (rIns C_Web (F_Web wo)) web', .va rInt places', .bo (rB (pr (rTri rInt rInt rInt))) due', .un, .un, .un, .un, .un, .un, .un]) w f (fun rd => (srcI_rng2 (er_neg er_int) (er_I0 (er_v rd 1 rfl) er_int) (by decide) k_41)) tg_n e_63 (weak_eq (weak_eq (weak_eq (weak_un (weak_un (weak_un (weak_un (weak_un (weak_un (weak_un weak_nil)))))))))) (fun y'43 s'42 c' _ h Gb D' σ G H w f L => ?_) (fun r e => by cases r_65 r e; exact L) (fun s'42 e σ G H w f => ?_)
    · obtain ⟨k_44, h⟩ := ckS h
      obtain ⟨c_57, e_58, n_59, r_60⟩ := afterS h
      refine d_forR (rv := (rvO (oPr rBl) φ.F H0)) (fun (s'45 : Unit) => [.va (rIns C_Web (F_Web wo)) web', .va rInt places', .bo (rB (pr (rTri rInt rInt rInt))) due', .un, .un, .un, .va rInt y'43, .un, .un, .un]) w f (fun rd => (srcI_rng2 (er_neg er_int) (er_I0 (er_v rd 1 rfl) er_int) (by decide) k_44)) tg_n e_58 (weak_eq (weak_eq (weak_eq (weak_un (weak_un (weak_un (weak_eq (weak_un (weak_un (weak_un weak_nil)))))))))) (fun y'46 s'45 c' _ h Gb D' σ G H w f L => ?_) (fun r e => by cases r_60 r e; exact L) (fun s'45 e σ G H w f => ?_)
      · obtain ⟨x_47, e_48, h⟩ := bS h
        obtain ⟨told'49, e_50, h⟩ := bS h
        replace e_50 := Option.some.inj e_50
        refine q_asg (rr := (rOpt rInt)) w f (fun rd => isE (er_methP (W := w_Web_worth_of wo C_Web) (F := (F_Web wo)) (a := web') (fno_S (n := "worth_of") (m := "_worth_at") (fno_S (n := "worth_of") (m := "places") (fno_E (n := "worth_of")) (by decide +kernel)) (by decide +kernel)) (er_v rd 0 rfl) (ea_cons (er_v rd 6 rfl) (ea_cons (er_v rd 7 rfl) ea0)) ⟨_, _, _, rfl, e_48⟩) e_50) fun σ G H w f => ?_
        obtain ⟨b_54, e_55, h⟩ := bS h
        refine d_if (b := b_54) w f (fun rd => (et_or (et_B (er_isiOF (n := "bool") (ty := "int") (er_v rd 8 rfl) (fun _ _ _ h => ty_int h) (by rfl) (by rfl))) (fun _ g_53 => by obtain ⟨x_51, e_52, g_53⟩ := bS g_53; exact isT (et_test (er_neD (K := K) (eaP (eOpt eInt fun _ => ⟨rfl, rfl⟩)) (eaP (eOpt eInt fun _ => ⟨rfl, rfl⟩)) (Nat.le_of_ble_eq_true rfl) (Nat.le_of_ble_eq_true rfl) (er_v rd 8 rfl) (er_callP (W := w_law_step) (ea_cons (er_b rd 2 rfl) (ea_cons (er_v rd 6 rfl) (ea_cons (er_v rd 7 rfl) ea0))) ⟨_, _, _, rfl, e_52⟩))) (Option.some.inj g_53)) e_55)) (fun b_56 H w f => ?_) (fun b_56 H w f => ?_)
        · replace h := ifT h b_56
          refine d_ret (rr := rBl) w f (fun rd => er_bl) ?_
          cases h
          exact L
        · replace h := ifF h b_56
          refine d_next w f fun σ G H w f => ?_
          cases h
          exact L _ _ _ w (f.weak (weak_eq (weak_eq (weak_eq (weak_un (weak_un (weak_un (weak_eq (weak_un (weak_un (weak_un weak_nil)))))))))))
      replace h := n_59 s'45 e
      cases h
      exact L _ _ _ w (f.weak (weak_eq (weak_eq (weak_eq (weak_un (weak_un (weak_un (weak_un (weak_un (weak_un (weak_un weak_nil)))))))))))
    replace h := n_64 s'42 e
    refine d_ret (rr := rBl) w f (fun rd => er_bl) ?_
    cases h
    exact L
abbrev s_law_all_right : Stmt := topS 17
theorem sc_law_all_right : FnScope ["web", "places", "due", "most", "count", "told", "way"] ["web", "places", "due", "most"] (defScope s_law_all_right) := ⟨rfl, rfl, rfl, by decide +kernel, rfl, by decide +kernel, by decide +kernel⟩
def w_law_all_right (wo : World) (C_Web : Addr) : (Fm → List V → Prop) → Bool → Prop := fun P c => ∃ (web' : PF.Ty_Web) (places' : Int) (due' : List (Int × Int × Int)) (most' : Int), P = (HC (pr (rIns C_Web (F_Web wo))) web' (HC (pr rInt) places' (HC (rB (pr (rTri rInt rInt rInt))) due' (HC (pr rInt) most' HN)))) ∧ PF.law_all_right web' places' due' most' = some c
set_option maxHeartbeats 8000000 in
theorem ok_law_all_right {P : Program} {wo : World} {K : PySem.W.Frag} {mg : Str → Option Value} {base : Heap} {f : Addr} {fd : FuncData} {f_Web_all_ways : Addr} {fd_Web_all_ways : FuncData} {f_law_ways : Addr} {fd_law_ways : FuncData} {C_Web : Addr} (D : DefAt K mg "_law_all_right" s_law_all_right ["web", "places", "due", "most"] f fd) (D_Web_all_ways : MetAt K "all_ways" "Web.all_ways" s_Web_all_ways ["self", "count"] f_Web_all_ways fd_Web_all_ways) (D_law_ways : DefAt K mg "_law_ways" s_law_ways ["due", "places", "count"] f_law_ways fd_law_ways) (G_Web_all_ways : GFn P wo K mg base 2 f_Web_all_ways fd_Web_all_ways ["self", "count"] (spGQ (rTup rInt) (w_Web_all_ways wo C_Web))) (G_law_ways : FnOk P wo K mg base CX0 1 f_law_ways fd_law_ways ["due", "places", "count"] (spO (oV (rTup rInt)) (w_law_ways))) (mB_isinstance : mg "isinstance" = none) (mB_list : mg "list" = none) (mB_range : mg "range" = none) (mB_tuple : mg "tuple" = none) (me_Web_all_ways : Meth K C_Web "all_ways" f_Web_all_ways) (cl_Web : Cls K C_Web) : FnOk P wo K mg base CX0 6 f fd ["web", "places", "due", "most"] (spO (oPr rBl) (w_law_all_right wo C_Web)) := by
  refine D.F.ok sc_law_all_right (fun vs H Q E h => ?_) (fun cdv A outer s H0 vs Q E hr h => ?_)
  · obtain ⟨φ, Pp, b, _, _, ⟨_, _, _, _, rfl, _⟩, ⟨v0, _, rfl, k0, v1, _, rfl, k1, v2, _, rfl, k2, v3, _, rfl, k3, rfl⟩, _⟩ := h
    rfl
  obtain ⟨φ, Pp, c0, hφ, _, ⟨web', places', due', most', rfl, h⟩, ⟨v0, _, rfl, k0, v1, _, rfl, k1, v2, _, rfl, k2, v3, _, rfl, k3, rfl⟩, L⟩ := h
  refine ⟨_, (pss_cons (ps_for PassesOwn.never rfl (pi_range1 (by rfl) mB_range (pa_cons (pe_op op_add (pv 3) pe_int) pa_nil)) (pg_name (i := 4) sc_law_all_right.nd rfl (by first | exact Or.inl rfl | exact Or.inr rfl))
    (pss_cons (ps_set (i := 5) sc_law_all_right.nd rfl (by first | exact Or.inl rfl | exact Or.inr rfl) (pe_listG (pgen_meth (pv 0) cl_Web me_Web_all_ways G_Web_all_ways (hr.mono (by decide)) D_Web_all_ways.b .nil (pa_cons (pv 4) pa_nil)) passG0 (fun _ _ _ h => h.elim) (hr.mono (by decide)) (by rfl) mB_list (by rfl)))
  (pss_cons (ps_if (pt_cmpR (r := rNeD K) (op_neD hr.units) (pv 5) (pe_call G_law_ways (hr.mono (by decide)) (by rfl) D_law_ways.g D_law_ways.F.kp D_law_ways.b .nil pass0 (pa_cons (pv 2) (pa_cons (pv 1) (pa_cons (pv 4) pa_nil)))) (nomark _))
    (pss_one (ps_ret pe_bl))
    pss_nil)
  (pss_one (ps_if (pt_cmpR (r := rIn K false) op_in_seq pe_bl (pe_lc (own := [("way", 6)]) (g := gName 6) rfl sc_law_all_right.nd (pi_listK (K := K) (pv 5)) (blkOk_by (own := [("way", 6)]) (N := ["web", "places", "due", "most", "count", "told", "way"]) (sc := defScope s_law_all_right) (by decide +kernel)) (fun _ _ _ _ _ => (pg_name (i := 6) sc_law_all_right.nd rfl (by first | exact Or.inl rfl | exact Or.inr rfl))) (fun _ _ _ _ _ => pts_nil) (fun _ _ _ _ _ => (pe_callB (r := rIsi K) call_isi (by rfl) mB_isinstance (by decide +kernel) (pa_cons (pv 6) (pa_cons (pe_bltn (v := .ty "tuple") (by rfl) mB_tuple (by decide +kernel) rfl) pa_nil))))) (by rfl))
    (pss_one (ps_ret pe_bl))
    pss_nil)))))
  (pss_one (ps_ret pe_bl))), ?_⟩
  have w := Wd.begin hφ
  have f := Args.fits hφ (.va (r := (rIns C_Web (F_Web wo))) (a := web') k0 (.va (r := rInt) (a := places') k1 (.bo (r := (rB (pr (rTri rInt rInt rInt)))) (a := due') k2 (.va (r := rInt) (a := most') k3 .nil)))) 3
  unfold PF.law_all_right at h
  obtain ⟨k_1, h⟩ := ckS h
  obtain ⟨c_16, e_17, n_18, r_19⟩ := afterS h
  refine q_forR (rv := (rvO (oPr rBl) φ.F H0)) (fun (s'2 : Unit) => [.va (rIns C_Web (F_Web wo)) web', .va rInt places', .bo (rB (pr (rTri rInt rInt rInt))) due', .va rInt most', .un, .un, .un]) w f (fun rd => (srcI_rng1 (er_I0 (er_v rd 3 rfl) er_int) k_1)) tg_n e_17 (weak_eq (weak_eq (weak_eq (weak_eq (weak_un (weak_un (weak_un weak_nil))))))) (fun y'3 s'2 c' _ h Gb D' σ G H w f L => ?_) (fun r e => by cases r_19 r e; exact L) (fun s'2 e σ G H w f => ?_)
  · obtain ⟨x_4, e_5, h⟩ := bS h
    obtain ⟨told'6, e_7, h⟩ := bS h
    replace e_7 := Option.some.inj e_7
    refine q_asgO (o := (oV (rTup rInt))) w f (fun rd => isO (eo_listMG (W := w_Web_all_ways wo C_Web) (F := (F_Web wo)) (s := (rTup rInt)) (a := web') (fno_S (n := "all_ways") (m := "_worth_at") (fno_S (n := "all_ways") (m := "places") (fno_E (n := "all_ways")) (by decide +kernel)) (by decide +kernel)) (er_v rd 0 rfl) (ea_cons (er_v rd 4 rfl) ea0) ⟨_, _, rfl, e_5⟩) e_7) fun σ G H w f => ?_
    obtain ⟨x_8, e_9, h⟩ := bS h
    refine q_if (b := (!decide (told'6 = x_8))) w f (fun rd => (et_test (er_neD (K := K) (eaB (eaP (eTup eInt))) (eaP (eLst (eTup eInt))) (Nat.le_of_ble_eq_true rfl) (Nat.le_of_ble_eq_true rfl) (er_o (o := (oV (rTup rInt))) (a := told'6) rd 5 rfl) (Eo.er (o := (oV (rTup rInt))) (eo_call (o := (oV (rTup rInt))) (W := w_law_ways) (ea_cons (er_b rd 2 rfl) (ea_cons (er_v rd 1 rfl) (ea_cons (er_v rd 4 rfl) ea0))) ⟨_, _, _, rfl, e_9⟩))))) (fun b_10 H w f => ?_) (fun b_10 H w f => ?_)
    · replace h := ifT h b_10
      refine d_ret (rr := rBl) w f (fun rd => er_bl) ?_
      cases h
      exact L
    · replace h := ifF h b_10
      refine d_next w f fun σ G H w f => ?_
      try dsimp only
      obtain ⟨k_12, h⟩ := ckS h
      refine d_if (b := (decide (false ∈ (told'6.map fun (y'11 : List Int) => true)))) w f (fun rd => (et_test (er_inLB er_bl (er_bor (Eo.er (o := (oV rBl)) (eo_lc (ss := rBl) (f := fun (y'11 : List Int) => some true) (m := fun (y'11 : List Int) => (some (true))) rd (src_list (er_o (o := (oV (rTup rInt))) (a := told'6) rd 5 rfl)) tg_n (by decide) (of_decide_eq_true k_12) (compM_tot1 _) (fun y'11 _ ψ σ2 l rd => ⟨fun _ g_13 => by exact (isT et_yes (Option.some.inj g_13)), fun _ g_14 => by exact isE (er_isi (n := "tuple") (ty := "tuple") (k := true) (er_v rd 6 rfl) (tyP fun _ _ h => ty_tup h) (by rfl)) (Option.some.inj g_14)⟩))))))) (fun b_15 H w f => ?_) (fun b_15 H w f => ?_)
      · replace h := ifT h b_15
        refine d_ret (rr := rBl) w f (fun rd => er_bl) ?_
        cases h
        exact L
      · replace h := ifF h b_15
        refine d_next w f fun σ G H w f => ?_
        cases h
        exact L _ _ _ w (f.weak (weak_eq (weak_eq (weak_eq (weak_eq (weak_un (weak_un (weak_un weak_nil))))))))
  replace h := n_18 s'2 e
  refine d_ret (rr := rBl) w f (fun rd => er_bl) ?_
  cases h
  exact L
abbrev s_law_tuples_right : Stmt := topS 18
theorem sc_law_tuples_right : FnScope ["script", "web", "places", "due", "k", "drawn", "way", "total", "told", "worth"] ["script", "web", "places", "due"] (defScope s_law_tuples_right) := ⟨rfl, rfl, rfl, by decide +kernel, rfl, by decide +kernel, by decide +kernel⟩
def w_law_tuples_right (K : PySem.W.Frag) (wo : World) (C_Web : Addr) : (Fm → List V → Prop) → Bool → Prop := fun P c => ∃ (script' : List Int) (web' : PF.Ty_Web) (places' : Int) (due' : List (Int × Int × Int)), P = (HC (pr (rFro K)) script' (HC (pr (rIns C_Web (F_Web wo))) web' (HC (pr rInt) places' (HC (rB (pr (rTri rInt rInt rInt))) due' HN)))) ∧ PF.law_tuples_right script' web' places' due' = some c
set_option maxHeartbeats 8000000 in
theorem ok_law_tuples_right {P : Program} {wo : World} {K : PySem.W.Frag} {mg : Str → Option Value} {base : Heap} {f : Addr} {fd : FuncData} {f_law_cell : Addr} {fd_law_cell : FuncData} {f_law_draws : Addr} {fd_law_draws : FuncData} {f_law_tuple : Addr} {fd_law_tuple : FuncData} {f_law_walk : Addr} {fd_law_walk : FuncData} {f_Web_is_way : Addr} {fd_Web_is_way : FuncData} {f_law_no_way : Addr} {fd_law_no_way : FuncData} {f_Web_way_worth : Addr} {fd_Web_way_worth : FuncData} {C_Web : Addr} (D : DefAt K mg "_law_tuples_right" s_law_tuples_right ["script", "web", "places", "due"] f fd) (D_law_cell : DefAt K mg "_law_cell" s_law_cell ["script", "k"] f_law_cell fd_law_cell) (D_law_draws : DefAt K mg "_law_draws" s_law_draws ["cell", "limits"] f_law_draws fd_law_draws) (D_law_tuple : DefAt K mg "_law_tuple" s_law_tuple ["due", "places", "drawn"] f_law_tuple fd_law_tuple) (D_law_walk : DefAt K mg "_law_walk" s_law_walk ["due", "places", "way"] f_law_walk fd_law_walk) (D_Web_is_way : MetAt K "is_way" "Web.is_way" s_Web_is_way ["self", "way"] f_Web_is_way fd_Web_is_way) (D_law_no_way : DefAt K mg "_law_no_way" s_law_no_way ["web", "way"] f_law_no_way fd_law_no_way) (D_Web_way_worth : MetAt K "way_worth" "Web.way_worth" s_Web_way_worth ["self", "way"] f_Web_way_worth fd_Web_way_worth) (G_law_cell : FnOk P wo K mg base CX0 1 f_law_cell fd_law_cell ["script", "k"] (spO (oPr rInt) (w_law_cell K))) (G_law_draws : FnOk P wo K mg base CX0 1 f_law_draws fd_law_draws ["cell", "limits"] (spO (oV rInt) (w_law_draws))) (G_law_tuple : FnOk P wo K mg base CX0 1 f_law_tuple fd_law_tuple ["due", "places", "drawn"] (spO (oPr (rTup rInt)) (w_law_tuple))) (G_law_walk : FnOk P wo K mg base CX0 2 f_law_walk fd_law_walk ["due", "places", "way"] (spO (oPr (rOpt rInt)) (w_law_walk))) (G_Web_is_way : FnOk P wo K mg base CX0 2 f_Web_is_way fd_Web_is_way ["self", "way"] (spO (oPr rBl) (w_Web_is_way wo C_Web))) (G_law_no_way : FnOk P wo K mg base CX0 4 f_law_no_way fd_law_no_way ["web", "way"] (spO (oPr rBl) (w_law_no_way wo C_Web))) (G_Web_way_worth : FnOk P wo K mg base CX0 3 f_Web_way_worth fd_Web_way_worth ["self", "way"] (spO (oPr rInt) (w_Web_way_worth wo C_Web))) (mB_bool : mg "bool" = none) (mB_int : mg "int" = none) (mB_isinstance : mg "isinstance" = none) (mB_range : mg "range" = none) (me_Web_is_way : Meth K C_Web "is_way" f_Web_is_way) (cl_Web : Cls K C_Web) (me_Web_way_worth : Meth K C_Web "way_worth" f_Web_way_worth) : FnOk P wo K mg base CX0 5 f fd ["script", "web", "places", "due"] (spO (oPr rBl) (w_law_tuples_right K wo C_Web)) := by
  refine D.F.ok sc_law_tuples_right (fun vs H Q E h => ?_) (fun cdv A outer s H0 vs Q E hr h => ?_)
  · obtain ⟨φ, Pp, b, _, _, ⟨_, _, _, _, rfl, _⟩, ⟨v0, _, rfl, k0, v1, _, rfl, k1, v2, _, rfl, k2, v3, _, rfl, k3, rfl⟩, _⟩ := h
    rfl
  obtain ⟨φ, Pp, c0, hφ, _, ⟨script', web', places', due', rfl, h⟩, ⟨v0, _, rfl, k0, v1, _, rfl, k1, v2, _, rfl, k2, v3, _, rfl, k3, rfl⟩, L⟩ := h
  refine ⟨_, (pss_cons (ps_for PassesOwn.never rfl (pi_range1 (by rfl) mB_range (pa_cons pe_int pa_nil)) (pg_name (i := 4) sc_law_tuples_right.nd rfl (by first | exact Or.inl rfl | exact Or.inr rfl))
    (pss_cons (ps_set (i := 5) sc_law_tuples_right.nd rfl (by first | exact Or.inl rfl | exact Or.inr rfl) (pe_call G_law_draws (hr.mono (by decide)) (by rfl) D_law_draws.g D_law_draws.F.kp D_law_draws.b .nil pass0 (pa_cons (pe_call G_law_cell (hr.mono (by decide)) (by rfl) D_law_cell.g D_law_cell.F.kp D_law_cell.b .nil pass0 (pa_cons (pv 0) (pa_cons (pe_op op_add pe_int (pv 4)) pa_nil))) (pa_cons (pe_lst (pa_cons pe_int (pa_cons pe_int (pa_cons pe_int (pa_cons pe_int (pa_cons pe_int (pa_cons pe_int (pa_cons pe_int (pa_cons pe_int pa_nil))))))))) pa_nil))))
  (pss_cons (ps_set (i := 6) sc_law_tuples_right.nd rfl (by first | exact Or.inl rfl | exact Or.inr rfl) (pe_call G_law_tuple (hr.mono (by decide)) (by rfl) D_law_tuple.g D_law_tuple.F.kp D_law_tuple.b .nil pass0 (pa_cons (pv 3) (pa_cons (pv 2) (pa_cons (pv 5) pa_nil)))))
  (pss_cons (ps_set (i := 7) sc_law_tuples_right.nd rfl (by first | exact Or.inl rfl | exact Or.inr rfl) (pe_call G_law_walk (hr.mono (by decide)) (by rfl) D_law_walk.g D_law_walk.F.kp D_law_walk.b .nil pass0 (pa_cons (pv 3) (pa_cons (pv 2) (pa_cons (pv 6) pa_nil)))))
  (pss_cons (ps_set (i := 8) sc_law_tuples_right.nd rfl (by first | exact Or.inl rfl | exact Or.inr rfl) (pe_meth (pv 1) cl_Web me_Web_is_way G_Web_is_way (hr.mono (by decide)) D_Web_is_way.b .nil pass0 (pa_cons (pv 6) pa_nil)))
  (pss_cons (ps_if (PW.pt (pw_or (pt_not (pt_val (pe_callB (r := rIsi K) call_isi (by rfl) mB_isinstance (by decide +kernel) (pa_cons (pv 8) (pa_cons (pe_bltn (v := .ty "bool") (by rfl) mB_bool (by decide +kernel) rfl) pa_nil))))) (pw_or1 (pt_cmpR op_ne (pv 8) (pe_cmpR (r := rNotNq) op_notN (pv 7) pe_non (nomark _)) (nomark _)))))
    (pss_one (ps_ret pe_bl))
    pss_nil)
  (pss_one (ps_if (pt_cmpR (r := rIsNq) op_isN (pv 7) pe_non (nomark _))
    (pss_one (ps_if (pt_not (pt_val (pe_call G_law_no_way (hr.mono (by decide)) (by rfl) D_law_no_way.g D_law_no_way.F.kp D_law_no_way.b .nil pass0 (pa_cons (pv 1) (pa_cons (pv 6) pa_nil)))))
    (pss_one (ps_ret pe_bl))
    pss_nil))
    (pss_cons (ps_set (i := 9) sc_law_tuples_right.nd rfl (by first | exact Or.inl rfl | exact Or.inr rfl) (pe_meth (pv 1) cl_Web me_Web_way_worth G_Web_way_worth (hr.mono (by decide)) D_Web_way_worth.b .nil pass0 (pa_cons (pv 6) pa_nil)))
  (pss_one (ps_if (PW.pt (pw_or (pt_not (pt_val (pe_callB (r := rIsi K) call_isi (by rfl) mB_isinstance (by decide +kernel) (pa_cons (pv 9) (pa_cons (pe_bltn (v := .ty "int") (by rfl) mB_int (by decide +kernel) rfl) pa_nil))))) (pw_or (pt_val (pe_callB (r := rIsi K) call_isi (by rfl) mB_isinstance (by decide +kernel) (pa_cons (pv 9) (pa_cons (pe_bltn (v := .ty "bool") (by rfl) mB_bool (by decide +kernel) rfl) pa_nil)))) (pw_or1 (pt_cmpR op_ne (pv 9) (pv 7) (nomark _))))))
    (pss_one (ps_ret pe_bl))
    pss_nil)))))))))))
  (pss_one (ps_ret pe_bl))), ?_⟩
  have w := Wd.begin hφ
  have f := Args.fits hφ (.va (r := (rFro K)) (a := script') k0 (.va (r := (rIns C_Web (F_Web wo))) (a := web') k1 (.va (r := rInt) (a := places') k2 (.bo (r := (rB (pr (rTri rInt rInt rInt)))) (a := due') k3 .nil)))) 6
  unfold PF.law_tuples_right at h
  obtain ⟨c_33, e_34, n_35, r_36⟩ := afterS h
  refine q_forR (rv := (rvO (oPr rBl) φ.F H0)) (fun (s'1 : Unit) => [.va (rFro K) script', .va (rIns C_Web (F_Web wo)) web', .va rInt places', .bo (rB (pr (rTri rInt rInt rInt))) due', .un, .un, .un, .un, .un, .un]) w f (fun rd => (srcI_rng1 er_int (by decide))) tg_n e_34 (weak_eq (weak_eq (weak_eq (weak_eq (weak_un (weak_un (weak_un (weak_un (weak_un (weak_un weak_nil)))))))))) (fun y'2 s'1 c' _ h Gb D' σ G H w f L => ?_) (fun r e => by cases r_36 r e; exact L) (fun s'1 e σ G H w f => ?_)
  · obtain ⟨x_3, e_4, h⟩ := bS h
    obtain ⟨x_5, e_6, h⟩ := bS h
    obtain ⟨drawn'7, e_8, h⟩ := bS h
    replace e_8 := Option.some.inj e_8
    refine q_asgO (o := (oV rInt)) w f (fun rd => isO (eo_call (o := (oV rInt)) (W := w_law_draws) (ea_cons (er_callP (W := w_law_cell K) (ea_cons (er_v rd 0 rfl) (ea_cons (er_I0 er_int (er_v rd 4 rfl)) ea0)) ⟨_, _, rfl, e_4⟩) (ea_cons (er_bor (Eo.er (o := (oV rInt)) (eo_lst (rr := rInt) (eal_cons er_int (eal_cons er_int (eal_cons er_int (eal_cons er_int (eal_cons er_int (eal_cons er_int (eal_cons er_int (eal_cons er_int eal_nil)))))))) (by exact Nat.le_of_ble_eq_true rfl)))) ea0)) ⟨_, _, rfl, e_6⟩) e_8) fun σ G H w f => ?_
    obtain ⟨x_9, e_10, h⟩ := bS h
    obtain ⟨way'11, e_12, h⟩ := bS h
    replace e_12 := Option.some.inj e_12
    refine q_asg (rr := (rTup rInt)) w f (fun rd => isE (er_callP (W := w_law_tuple) (ea_cons (er_b rd 3 rfl) (ea_cons (er_v rd 2 rfl) (ea_cons (er_o (o := (oV rInt)) (a := drawn'7) rd 5 rfl) ea0))) ⟨_, _, _, rfl, e_10⟩) e_12) fun σ G H w f => ?_
    obtain ⟨x_13, e_14, h⟩ := bS h
    obtain ⟨total'15, e_16, h⟩ := bS h
    replace e_16 := Option.some.inj e_16
    refine q_asg (rr := (rOpt rInt)) w f (fun rd => isE (er_callP (W := w_law_walk) (ea_cons (er_b rd 3 rfl) (ea_cons (er_v rd 2 rfl) (ea_cons (er_v rd 6 rfl) ea0))) ⟨_, _, _, rfl, e_14⟩) e_16) fun σ G H w f => ?_
    obtain ⟨x_17, e_18, h⟩ := bS h
    obtain ⟨told'19, e_20, h⟩ := bS h
    replace e_20 := Option.some.inj e_20
    refine q_asg (rr := rBl) w f (fun rd => isE (er_methP (W := w_Web_is_way wo C_Web) (F := (F_Web wo)) (a := web') (fno_S (n := "is_way") (m := "_worth_at") (fno_S (n := "is_way") (m := "places") (fno_E (n := "is_way")) (by decide +kernel)) (by decide +kernel)) (er_v rd 1 rfl) (ea_cons (er_v rd 6 rfl) ea0) ⟨_, _, rfl, e_18⟩) e_20) fun σ G H w f => ?_
    refine q_if (b := ((!true) || (!decide (told'19 = (!total'15.isNone))))) w f (fun rd => (et_orT (et_not (et_B (er_isi (n := "bool") (ty := "bool") (k := true) (er_v rd 8 rfl) (tyP fun _ _ h => ty_bl h) (by rfl)))) (et_test (er_neB (er_v rd 8 rfl) (er_notN (rr := rInt) sol_int (er_v rd 7 rfl)))))) (fun b_21 H w f => ?_) (fun b_21 H w f => ?_)
    · replace h := ifT h b_21
      refine d_ret (rr := rBl) w f (fun rd => er_bl) ?_
      cases h
      exact L
    · replace h := ifF h b_21
      refine d_next w f fun σ G H w f => ?_
      try dsimp only
      rcases noneS (total'15) h with ⟨n_23, h⟩ | ⟨total'22, s_24, h⟩
      · replace f := f.at 7 (s' := .va (rOpt rInt) none) rfl (by rw [n_23])
        refine d_ifT w f (fun rd => et_test (er_isN (rr := rInt) sol_int (er_v rd 7 rfl))) fun H w f => ?_
        obtain ⟨x_25, e_26, h⟩ := bS h
        refine d_if (b := (!x_25)) w f (fun rd => (et_not (et_B (er_callP (W := w_law_no_way wo C_Web) (ea_cons (er_v rd 1 rfl) (ea_cons (er_v rd 6 rfl) ea0)) ⟨_, _, rfl, e_26⟩)))) (fun b_27 H w f => ?_) (fun b_27 H w f => ?_)
        · replace h := ifT h b_27
          refine d_ret (rr := rBl) w f (fun rd => er_bl) ?_
          cases h
          exact L
        · replace h := ifF h b_27
          refine d_next w f fun σ G H w f => ?_
          cases h
          exact L _ _ _ w (f.weak (weak_eq (weak_eq (weak_eq (weak_eq (weak_un (weak_un (weak_un (weak_un (weak_un (weak_un weak_nil)))))))))))
      · replace f := f.at 7 (s' := .va (rOpt rInt) (some total'22)) rfl (by rw [s_24])
        refine d_ifF w f (fun rd => et_test (er_isN (rr := rInt) sol_int (er_v rd 7 rfl))) fun H w f => ?_
        replace f := f.someV 7 rfl
        obtain ⟨x_28, e_29, h⟩ := bS h
        obtain ⟨worth'30, e_31, h⟩ := bS h
        replace e_31 := Option.some.inj e_31
        refine q_asg (rr := rInt) w f (fun rd => isE (er_methP (W := w_Web_way_worth wo C_Web) (F := (F_Web wo)) (a := web') (fno_S (n := "way_worth") (m := "_worth_at") (fno_S (n := "way_worth") (m := "places") (fno_E (n := "way_worth")) (by decide +kernel)) (by decide +kernel)) (er_v rd 1 rfl) (ea_cons (er_v rd 6 rfl) ea0) ⟨_, _, rfl, e_29⟩) e_31) fun σ G H w f => ?_
        refine d_if (b := ((!true) || (false || (!decide (worth'30 = total'22))))) w f (fun rd => (et_orT (et_not (et_B (er_isi (n := "int") (ty := "int") (k := true) (er_v rd 9 rfl) (tyP fun _ _ h => ty_int h) (by rfl)))) (et_orT (et_B (er_isi (n := "bool") (ty := "int") (k := false) (er_v rd 9 rfl) (tyP fun _ _ h => ty_int h) (by rfl))) (et_test (er_neI (er_v rd 9 rfl) (er_v rd 7 rfl)))))) (fun b_32 H w f => ?_) (fun b_32 H w f => ?_)
        · replace h := ifT h b_32
          refine d_ret (rr := rBl) w f (fun rd => er_bl) ?_
          cases h
          exact L
        · replace h := ifF h b_32
          refine d_next w f fun σ G H w f => ?_
          cases h
          exact L _ _ _ w (f.weak (weak_eq (weak_eq (weak_eq (weak_eq (weak_un (weak_un (weak_un (weak_un (weak_un (weak_un weak_nil)))))))))))
  replace h := n_35 s'1 e
  refine d_ret (rr := rBl) w f (fun rd => er_bl) ?_
  cases h
  exact L
abbrev s_law_bad_right : Stmt := topS 19
theorem sc_law_bad_right : FnScope ["places", "made", "drawn", "inside", "bad", "twice", "row", "at", "rows", "given"] ["places", "made", "drawn"] (defScope s_law_bad_right) := ⟨rfl, rfl, rfl, by decide +kernel, rfl, by decide +kernel, by decide +kernel⟩
def w_law_bad_right : (Fm → List V → Prop) → Bool → Prop := fun P c => ∃ (places' : Int) (made' : List (Int × Int × Int)) (drawn' : List Int), P = (HC (pr rInt) places' (HC (rB (pr (rTri rInt rInt rInt))) made' (HC (rB (pr rInt)) drawn' HN))) ∧ PF.law_bad_right places' made' drawn' = some c
set_option maxHeartbeats 8000000 in
theorem ok_law_bad_right {P : Program} {wo : World} {K : PySem.W.Frag} {mg : Str → Option Value} {base : Heap} {f : Addr} {fd : FuncData} {f_law_refused : Addr} {fd_law_refused : FuncData} (D : DefAt K mg "_law_bad_right" s_law_bad_right ["places", "made", "drawn"] f fd) (D_law_refused : DefAt K mg "_law_refused" s_law_refused ["places", "rows"] f_law_refused fd_law_refused) (G_law_refused : FnOk P wo K mg base CX0 3 f_law_refused fd_law_refused ["places", "rows"] (spO (oPr rBl) (w_law_refused))) (mB_len : mg "len" = none) (mB_list : mg "list" = none) (mB_max : mg "max" = none) : FnOk P wo K mg base CX0 4 f fd ["places", "made", "drawn"] (spO (oPr rBl) (w_law_bad_right)) := by
  refine D.F.ok sc_law_bad_right (fun vs H Q E h => ?_) (fun cdv A outer s H0 vs Q E hr h => ?_)
  · obtain ⟨φ, Pp, b, _, _, ⟨_, _, _, rfl, _⟩, ⟨v0, _, rfl, k0, v1, _, rfl, k1, v2, _, rfl, k2, rfl⟩, _⟩ := h
    rfl
  obtain ⟨φ, Pp, c0, hφ, _, ⟨places', made', drawn', rfl, h⟩, ⟨v0, _, rfl, k0, v1, _, rfl, k1, v2, _, rfl, k2, rfl⟩, L⟩ := h
  refine ⟨_, (pss_cons (ps_if (PW.pt (pw_or (pt_not (pt_val (pe_call G_law_refused (hr.mono (by decide)) (by rfl) D_law_refused.g D_law_refused.F.kp D_law_refused.b .nil pass0 (pa_cons (pe_op op_sub (pe_op op_sub pe_int pe_int) (pe_ix (r := rIxL K) ix_list (pv 2) pe_int (fun _ _ => rfl))) (pa_cons (pe_lst pa_nil) pa_nil))))) (pw_or1 (pt_not (pt_val (pe_call G_law_refused (hr.mono (by decide)) (by rfl) D_law_refused.g D_law_refused.F.kp D_law_refused.b .nil pass0 (pa_cons (pe_op op_add pe_int (pe_ix (r := rIxL K) ix_list (pv 2) pe_int (fun _ _ => rfl))) (pa_cons (pe_lst pa_nil) pa_nil))))))))
    (pss_one (ps_ret pe_bl))
    pss_nil)
  (pss_cons (ps_set (i := 3) sc_law_bad_right.nd rfl (by first | exact Or.inl rfl | exact Or.inr rfl) (pe_op op_mod (pe_ix (r := rIxL K) ix_list (pv 2) pe_int (fun _ _ => rfl)) (pe_callB (r := _root_.Q.rMax2) (call_max2 rfl) (by rfl) mB_max (by decide +kernel) (pa_cons pe_int (pa_cons (pv 0) pa_nil)))))
  (pss_cons (ps_set (i := 4) sc_law_bad_right.nd rfl (by first | exact Or.inl rfl | exact Or.inr rfl) (pe_lst (pa_cons (pe_tup (pa_cons (pv 0) (pa_cons (pv 3) (pa_cons pe_int pa_nil)))) (pa_cons (pe_tup (pa_cons (pv 3) (pa_cons (pv 0) (pa_cons pe_int pa_nil)))) (pa_cons (pe_tup (pa_cons (pe_op op_sub pe_int pe_int) (pa_cons (pv 3) (pa_cons pe_int pa_nil)))) (pa_cons (pe_tup (pa_cons (pv 3) (pa_cons (pe_op op_sub pe_int pe_int) (pa_cons pe_int pa_nil)))) (pa_cons (pe_tup (pa_cons (pv 3) (pa_cons (pv 3) (pa_cons pe_int pa_nil)))) pa_nil)))))))
  (pss_cut (ps_if (pt_cmpR op_gt (pe_callB (r := rLenQ K) call_len_seq (by rfl) mB_len (by decide +kernel) (pa_cons (pv 1) pa_nil)) pe_int (nomark _))
    (pss_cons (ps_set (i := 5) sc_law_bad_right.nd rfl (by first | exact Or.inl rfl | exact Or.inr rfl) (pe_ix (r := rIxL K) ix_list (pv 1) (pe_op op_mod (pe_ix (r := rIxL K) ix_list (pv 2) pe_int (fun _ _ => rfl)) (pe_callB (r := rLenQ K) call_len_seq (by rfl) mB_len (by decide +kernel) (pa_cons (pv 1) pa_nil))) (fun _ _ => rfl)))
  (pss_one (ps_set (i := 4) sc_law_bad_right.nd rfl (by first | exact Or.inl rfl | exact Or.inr rfl) (pe_op (r := rCat) op_cat (pv 4) (pe_lst (pa_cons (pv 5) (pa_cons (pe_tup (pa_cons (pe_ix (r := rIxT K) ix_tup (pv 5) pe_int (fun _ _ => rfl)) (pa_cons (pe_ix (r := rIxT K) ix_tup (pv 5) pe_int (fun _ _ => rfl)) (pa_cons (pe_op op_add (pe_ix (r := rIxT K) ix_tup (pv 5) pe_int (fun _ _ => rfl)) pe_int) pa_nil)))) pa_nil)))))))
    pss_nil)
  (pss_cons (ps_for PassesOwn.never rfl (pi_listK (K := K) (pv 4)) (pg_name (i := 6) sc_law_bad_right.nd rfl (by first | exact Or.inl rfl | exact Or.inr rfl))
    (pss_cons (ps_set (i := 7) sc_law_bad_right.nd rfl (by first | exact Or.inl rfl | exact Or.inr rfl) (pe_op op_mod (pe_ix (r := rIxL K) ix_list (pv 2) pe_int (fun _ _ => rfl)) (pe_op op_add (pe_callB (r := rLenQ K) call_len_seq (by rfl) mB_len (by decide +kernel) (pa_cons (pv 1) pa_nil)) pe_int)))
  (pss_cons (ps_set (i := 8) sc_law_bad_right.nd rfl (by first | exact Or.inl rfl | exact Or.inr rfl) (pe_op (r := rCat) op_cat (pe_op (r := rCat) op_cat (pe_slice (r := rSlL K) sl_list (pv 1) po_none (po_some (pv 7))) (pe_lst (pa_cons (pv 6) pa_nil))) (pe_slice (r := rSlL K) sl_list (pv 1) (po_some (pv 7)) po_none)))
  (pss_cons (ps_set (i := 9) sc_law_bad_right.nd rfl (by first | exact Or.inl rfl | exact Or.inr rfl) (pe_callTy (r := rLstQ K) call_list_of (by rfl) mB_list (by decide +kernel) (pa_cons (pv 8) pa_nil)))
  (pss_one (ps_if (PW.pt (pw_or (pt_not (pt_val (pe_call G_law_refused (hr.mono (by decide)) (by rfl) D_law_refused.g D_law_refused.F.kp D_law_refused.b .nil pass0 (pa_cons (pv 0) (pa_cons (pv 9) pa_nil))))) (pw_or1 (pt_cmpR (r := rNeD K) (op_neD hr.units) (pv 9) (pv 8) (nomark _)))))
    (pss_one (ps_ret pe_bl))
    pss_nil))))))
  (pss_one (ps_ret pe_bl))))))), ?_⟩
  have w := Wd.begin hφ
  have f := Args.fits hφ (.va (r := rInt) (a := places') k0 (.bo (r := (rB (pr (rTri rInt rInt rInt)))) (a := made') k1 (.bo (r := (rB (pr rInt))) (a := drawn') k2 .nil))) 7
  unfold PF.law_bad_right at h
  obtain ⟨x_1, e_2, h⟩ := bS h
  obtain ⟨x_3, e_4, h⟩ := bS h
  obtain ⟨b_10, e_11, h⟩ := bS h
  refine q_if (b := b_10) w f (fun rd => (et_or (et_not (et_B (er_callP (W := w_law_refused) (ea_cons (er_I0 (er_I0 er_int er_int) (er_ixL (er_b rd 2 rfl) er_int e_2)) (ea_cons (er_bor (Eo.er (o := (oV (rTri rInt rInt rInt))) (eo_lst (rr := (rTri rInt rInt rInt)) eal_nil (by exact Nat.le_of_ble_eq_true rfl)))) ea0)) ⟨_, _, rfl, e_4⟩))) (fun _ g_9 => by obtain ⟨x_5, e_6, g_9⟩ := bS g_9; obtain ⟨x_7, e_8, g_9⟩ := bS g_9; exact isT (et_not (et_B (er_callP (W := w_law_refused) (ea_cons (er_I0 er_int (er_ixL (er_b rd 2 rfl) er_int e_6)) (ea_cons (er_bor (Eo.er (o := (oV (rTri rInt rInt rInt))) (eo_lst (rr := (rTri rInt rInt rInt)) eal_nil (by exact Nat.le_of_ble_eq_true rfl)))) ea0)) ⟨_, _, rfl, e_8⟩))) (Option.some.inj g_9)) e_11)) (fun b_12 H w f => ?_) (fun b_12 H w f => ?_)
  · replace h := ifT h b_12
    refine d_ret (rr := rBl) w f (fun rd => er_bl) ?_
    cases h
    exact L
  · replace h := ifF h b_12
    refine d_next w f fun σ G H w f => ?_
    try dsimp only
    obtain ⟨x_13, e_14, h⟩ := bS h
    obtain ⟨k_15, h⟩ := ckS h
    obtain ⟨inside'16, e_17, h⟩ := bS h
    replace e_17 := Option.some.inj e_17
    refine q_asg (rr := rInt) w f (fun rd => isE (er_I (er_ixL (er_b rd 2 rfl) er_int e_14) (er_max2 er_int (er_v rd 0 rfl)) (of_decide_eq_true k_15)) e_17) fun σ G H w f => ?_
    obtain ⟨bad'18, e_19, h⟩ := bS h
    replace e_19 := Option.some.inj e_19
    refine q_asgO (o := (oV (rTri rInt rInt rInt))) w f (fun rd => isO (eo_lst (rr := (rTri rInt rInt rInt)) (eal_cons (er_tri (er_v rd 0 rfl) (er_v rd 3 rfl) er_int) (eal_cons (er_tri (er_v rd 3 rfl) (er_v rd 0 rfl) er_int) (eal_cons (er_tri (er_I0 er_int er_int) (er_v rd 3 rfl) er_int) (eal_cons (er_tri (er_v rd 3 rfl) (er_I0 er_int er_int) er_int) (eal_cons (er_tri (er_v rd 3 rfl) (er_v rd 3 rfl) er_int) eal_nil))))) (by exact Nat.le_of_ble_eq_true rfl)) e_19) fun σ G H w f => ?_
    obtain ⟨c_32, e_33, n_34, r_35⟩ := thenS h
    refine d_cut (sh := (fun (s'20 : (List (Int × Int × Int))) => [.va rInt places', .bo (rB (pr (rTri rInt rInt rInt))) made', .bo (rB (pr rInt)) drawn', .va rInt inside'16, .ow (oV (rTri rInt rInt rInt)) s'20, .un, .un, .un, .un, .un])) w (Out0 (rvO (oPr rBl) φ.F H0)) (fun _ _ _ x => x) (fun D' L => ?_) (fun r e => by cases r_35 r e; exact L) (fun s'20 e σ G H w f => ?_)
    · clear h; have h := e_33
      refine d_if (b := (decide ((made'.length : Int) > (0 : Int)))) w f (fun rd => (et_test (er_cmp (f := fun i j => decide (i > j)) (er_lenL (er_b rd 1 rfl)) er_int))) (fun b_21 H w f => ?_) (fun b_21 H w f => ?_)
      · replace h := ifT h b_21
        obtain ⟨x_22, e_23, h⟩ := bS h
        obtain ⟨k_24, h⟩ := ckS h
        obtain ⟨x_25, e_26, h⟩ := bS h
        obtain ⟨twice'27, e_28, h⟩ := bS h
        replace e_28 := Option.some.inj e_28
        refine q_asg (rr := (rTri rInt rInt rInt)) w f (fun rd => isE (er_ixL (er_b rd 1 rfl) (er_I (er_ixL (er_b rd 2 rfl) er_int e_23) (er_lenL (er_b rd 1 rfl)) (of_decide_eq_true k_24)) e_26) e_28) fun σ G H w f => ?_
        obtain ⟨k_29, h⟩ := ckS h
        obtain ⟨bad'30, e_31, h⟩ := bS h
        replace e_31 := Option.some.inj e_31
        refine d_asgO (o := (oV (rTri rInt rInt rInt))) w f (fun rd => isO (eo_catL (rr := (rTri rInt rInt rInt)) (er_o (o := (oV (rTri rInt rInt rInt))) (a := bad'18) rd 4 rfl) (er_bor (Eo.er (o := (oV (rTri rInt rInt rInt))) (eo_lst (rr := (rTri rInt rInt rInt)) (eal_cons (er_v rd 5 rfl) (eal_cons (er_tri (er_t0 (er_v rd 5 rfl)) (er_t1 (er_v rd 5 rfl)) (er_I0 (er_t2 (er_v rd 5 rfl)) er_int)) eal_nil)) (by exact Nat.le_of_ble_eq_true rfl)))) (of_decide_eq_true k_29)) e_31) fun σ G H w f => ?_
        cases h
        exact L _ _ _ w (f.weak (weak_eq (weak_eq (weak_eq (weak_eq (weak_eq (weak_un (weak_un (weak_un (weak_un (weak_un weak_nil)))))))))))
      · replace h := ifF h b_21
        refine d_next w f fun σ G H w f => ?_
        cases h
        exact L _ _ _ w (f.weak (weak_eq (weak_eq (weak_eq (weak_eq (weak_eq (weak_un (weak_un (weak_un (weak_un (weak_un weak_nil)))))))))))
    replace h := n_34 s'20 e
    obtain ⟨G, w', eG, f⟩ := f.freeze w.toWd 4 rfl
    replace w : WB _ _ _ G _ := ⟨w', w.bs.trans eG⟩
    obtain ⟨c_52, e_53, n_54, r_55⟩ := afterS h
    refine q_for (rv := (rvO (oPr rBl) φ.F H0)) (fun (s'36 : Unit) => [.va rInt places', .bo (rB (pr (rTri rInt rInt rInt))) made', .bo (rB (pr rInt)) drawn', .va rInt inside'16, .va (rLst (rTri rInt rInt rInt)) s'20, .un, .un, .un, .un, .un]) w f (fun rd => (src_list (er_bor (er_v rd 4 rfl)))) tg_n e_53 (weak_eq (weak_eq (weak_eq (weak_eq (weak_eq (weak_un (weak_un (weak_un (weak_un (weak_un weak_nil)))))))))) (fun y'37 s'36 c' _ h Gb D' σ G H w f L => ?_) (fun r e => by cases r_55 r e; exact L) (fun s'36 e σ G H w f => ?_)
    · obtain ⟨x_38, e_39, h⟩ := bS h
      obtain ⟨k_40, h⟩ := ckS h
      obtain ⟨at'41, e_42, h⟩ := bS h
      replace e_42 := Option.some.inj e_42
      refine q_asg (rr := rInt) w f (fun rd => isE (er_I (er_ixL (er_b rd 2 rfl) er_int e_39) (er_I0 (er_lenL (er_b rd 1 rfl)) er_int) (of_decide_eq_true k_40)) e_42) fun σ G H w f => ?_
      obtain ⟨k_43, h⟩ := ckS h
      obtain ⟨k_44, h⟩ := ckS h
      obtain ⟨rows'45, e_46, h⟩ := bS h
      replace e_46 := Option.some.inj e_46
      refine q_asgO (o := (oV (rTri rInt rInt rInt))) w f (fun rd => isO (eo_catL (rr := (rTri rInt rInt rInt)) (er_bor (Eo.er (o := (oV (rTri rInt rInt rInt))) (eo_catL (rr := (rTri rInt rInt rInt)) (er_bor (Eo.er (o := (oV (rTri rInt rInt rInt))) (eo_sl (rr := (rTri rInt rInt rInt)) (er_b rd 1 rfl) eop_none (eop_part (er_v rd 7 rfl))))) (er_bor (Eo.er (o := (oV (rTri rInt rInt rInt))) (eo_lst (rr := (rTri rInt rInt rInt)) (eal_cons (er_v rd 6 rfl) eal_nil) (by exact Nat.le_of_ble_eq_true rfl)))) (of_decide_eq_true k_43)))) (er_bor (Eo.er (o := (oV (rTri rInt rInt rInt))) (eo_sl (rr := (rTri rInt rInt rInt)) (er_b rd 1 rfl) (eop_part (er_v rd 7 rfl)) eop_none))) (of_decide_eq_true k_44)) e_46) fun σ G H w f => ?_
      obtain ⟨given'47, e_48, h⟩ := bS h
      replace e_48 := Option.some.inj e_48
      refine q_asgO (o := (oV (rTri rInt rInt rInt))) w f (fun rd => isO (eo_listL (rr := (rTri rInt rInt rInt)) (er_o (o := (oV (rTri rInt rInt rInt))) (a := rows'45) rd 8 rfl)) e_48) fun σ G H w f => ?_
      obtain ⟨x_49, e_50, h⟩ := bS h
      refine d_if (b := ((!x_49) || (!decide (given'47 = rows'45)))) w f (fun rd => (et_orT (et_not (et_B (er_callP (W := w_law_refused) (ea_cons (er_v rd 0 rfl) (ea_cons (er_o (o := (oV (rTri rInt rInt rInt))) (a := given'47) rd 9 rfl) ea0)) ⟨_, _, rfl, e_50⟩))) (et_test (er_neD (K := K) (eaB (eaP (eTri eInt eInt eInt))) (eaB (eaP (eTri eInt eInt eInt))) (Nat.le_of_ble_eq_true rfl) (Nat.le_of_ble_eq_true rfl) (er_o (o := (oV (rTri rInt rInt rInt))) (a := given'47) rd 9 rfl) (er_o (o := (oV (rTri rInt rInt rInt))) (a := rows'45) rd 8 rfl))))) (fun b_51 H w f => ?_) (fun b_51 H w f => ?_)
      · replace h := ifT h b_51
        refine d_ret (rr := rBl) w f (fun rd => er_bl) ?_
        cases h
        exact L
      · replace h := ifF h b_51
        refine d_next w f fun σ G H w f => ?_
        cases h
        exact L _ _ _ w (f.weak (weak_eq (weak_eq (weak_eq (weak_eq (weak_eq (weak_un (weak_un (weak_un (weak_un (weak_un weak_nil)))))))))))
    replace h := n_54 s'36 e
    refine d_ret (rr := rBl) w f (fun rd => er_bl) ?_
    cases h
    exact L
abbrev s_law : Stmt := topS 20
theorem sc_law : FnScope ["script", "drawn", "places", "share", "made", "due", "given", "web", "turned", "other", "told", "row", "step"] ["script"] (defScope s_law) := ⟨rfl, rfl, rfl, by decide +kernel, rfl, by decide +kernel, by decide +kernel⟩
def w_law (K : PySem.W.Frag) : (Fm → List V → Prop) → Bool → Prop := fun P c => ∃ (script' : List Int), P = (HC (pr (rFro K)) script' HN) ∧ PF.law script' = some c
set_option maxHeartbeats 8000000 in
theorem ok_law {P : Program} {wo : World} {K : PySem.W.Frag} {mg : Str → Option Value} {base : Heap} {f : Addr} {fd : FuncData} {f_law_cell : Addr} {fd_law_cell : FuncData} {f_law_draws : Addr} {fd_law_draws : FuncData} {f_law_steps : Addr} {fd_law_steps : FuncData} {f_Web___init__ : Addr} {fd_Web___init__ : FuncData} {f_law_right : Addr} {fd_law_right : FuncData} {f_law_all_right : Addr} {fd_law_all_right : FuncData} {f_Web___invert__ : Addr} {fd_Web___invert__ : FuncData} {f_law_tuples_right : Addr} {fd_law_tuples_right : FuncData} {f_Web_steps : Addr} {fd_Web_steps : FuncData} {f_Web_after : Addr} {fd_Web_after : FuncData} {f_Web_before : Addr} {fd_Web_before : FuncData} {f_law_bad_right : Addr} {fd_law_bad_right : FuncData} {C_Web : Addr} {p_Web_steps : Addr} (D : DefAt K mg "law" s_law ["script"] f fd) (D_law_cell : DefAt K mg "_law_cell" s_law_cell ["script", "k"] f_law_cell fd_law_cell) (D_law_draws : DefAt K mg "_law_draws" s_law_draws ["cell", "limits"] f_law_draws fd_law_draws) (D_law_steps : DefAt K mg "_law_steps" s_law_steps ["script", "places", "share", "large"] f_law_steps fd_law_steps) (D_Web___init__ : MetAt K "__init__" "Web.__init__" s_Web___init__ ["self", "places", "steps"] f_Web___init__ fd_Web___init__) (D_law_right : DefAt K mg "_law_right" s_law_right ["web", "places", "due"] f_law_right fd_law_right) (D_law_all_right : DefAt K mg "_law_all_right" s_law_all_right ["web", "places", "due", "most"] f_law_all_right fd_law_all_right) (D_Web___invert__ : MetAt K "__invert__" "Web.__invert__" s_Web___invert__ ["self"] f_Web___invert__ fd_Web___invert__) (D_law_tuples_right : DefAt K mg "_law_tuples_right" s_law_tuples_right ["script", "web", "places", "due"] f_law_tuples_right fd_law_tuples_right) (D_Web_steps : MetAt K "steps" "Web.steps" s_Web_steps ["self"] f_Web_steps fd_Web_steps) (D_Web_after : MetAt K "after" "Web.after" s_Web_after ["self", "place"] f_Web_after fd_Web_after) (D_Web_before : MetAt K "before" "Web.before" s_Web_before ["self", "place"] f_Web_before fd_Web_before) (D_law_bad_right : DefAt K mg "_law_bad_right" s_law_bad_right ["places", "made", "drawn"] f_law_bad_right fd_law_bad_right) (G_law_cell : FnOk P wo K mg base CX0 1 f_law_cell fd_law_cell ["script", "k"] (spO (oPr rInt) (w_law_cell K))) (G_law_draws : FnOk P wo K mg base CX0 1 f_law_draws fd_law_draws ["cell", "limits"] (spO (oV rInt) (w_law_draws))) (G_law_steps : FnOk P wo K mg base CX0 2 f_law_steps fd_law_steps ["script", "places", "share", "large"] (spO (oV (rTri rInt rInt rInt)) (w_law_steps K))) (G_Web___init__ : FnOk P wo K mg base CX0 1 f_Web___init__ fd_Web___init__ ["self", "places", "steps"] (spI C_Web (F_Web wo) (w_Web___init__ wo C_Web))) (G_law_right : FnOk P wo K mg base CX0 3 f_law_right fd_law_right ["web", "places", "due"] (spO (oPr rBl) (w_law_right wo C_Web))) (G_law_all_right : FnOk P wo K mg base CX0 6 f_law_all_right fd_law_all_right ["web", "places", "due", "most"] (spO (oPr rBl) (w_law_all_right wo C_Web))) (G_Web___invert__ : FnOk P wo K mg base CX0 3 f_Web___invert__ fd_Web___invert__ ["self"] (spO (oPr (rIns C_Web (F_Web wo))) (w_Web___invert__ wo C_Web))) (G_law_tuples_right : FnOk P wo K mg base CX0 5 f_law_tuples_right fd_law_tuples_right ["script", "web", "places", "due"] (spO (oPr rBl) (w_law_tuples_right K wo C_Web))) (G_Web_steps : FnOk P wo K mg base CX0 1 f_Web_steps fd_Web_steps ["self"] (spO (oV (rTri rInt rInt rInt)) (w_Web_steps wo C_Web))) (G_Web_after : FnOk P wo K mg base CX0 1 f_Web_after fd_Web_after ["self", "place"] (spO (oV (rPair rInt rInt)) (w_Web_after wo C_Web))) (G_Web_before : FnOk P wo K mg base CX0 1 f_Web_before fd_Web_before ["self", "place"] (spO (oV (rPair rInt rInt)) (w_Web_before wo C_Web))) (G_law_bad_right : FnOk P wo K mg base CX0 4 f_law_bad_right fd_law_bad_right ["places", "made", "drawn"] (spO (oPr rBl) (w_law_bad_right))) (mB_list : mg "list" = none) (mB_sorted : mg "sorted" = none) (mk_Web : Mk K C_Web f_Web___init__) (gl_Web : mg "Web" = some (.ref C_Web)) (iv_Web___invert__ : Inver K C_Web f_Web___invert__) (cl_Web : Cls K C_Web) (pr_Web_steps : PropOf K C_Web "steps" p_Web_steps f_Web_steps) (me_Web_after : Meth K C_Web "after" f_Web_after) (me_Web_before : Meth K C_Web "before" f_Web_before) : FnOk P wo K mg base CX0 7 f fd ["script"] (spO (oPr rBl) (w_law K)) := by
  refine D.F.ok sc_law (fun vs H Q E h => ?_) (fun cdv A outer s H0 vs Q E hr h => ?_)
  · obtain ⟨φ, Pp, b, _, _, ⟨_, rfl, _⟩, ⟨v0, _, rfl, k0, rfl⟩, _⟩ := h
    rfl
  obtain ⟨φ, Pp, c0, hφ, _, ⟨script', rfl, h⟩, ⟨v0, _, rfl, k0, rfl⟩, L⟩ := h
  refine ⟨_, (pss_cons (ps_set (i := 1) sc_law.nd rfl (by first | exact Or.inl rfl | exact Or.inr rfl) (pe_call G_law_draws (hr.mono (by decide)) (by rfl) D_law_draws.g D_law_draws.F.kp D_law_draws.b .nil pass0 (pa_cons (pe_call G_law_cell (hr.mono (by decide)) (by rfl) D_law_cell.g D_law_cell.F.kp D_law_cell.b .nil pass0 (pa_cons (pv 0) (pa_cons pe_int pa_nil))) (pa_cons (pe_lst (pa_cons pe_int (pa_cons pe_int (pa_cons pe_int (pa_cons pe_int (pa_cons pe_int (pa_cons pe_int (pa_cons pe_int (pa_cons pe_int pa_nil))))))))) pa_nil))))
  (pss_cons (ps_set (i := 2) sc_law.nd rfl (by first | exact Or.inl rfl | exact Or.inr rfl) (pe_ix (r := rIxL K) ix_list (pv 1) pe_int (fun _ _ => rfl)))
  (pss_cons (ps_set (i := 3) sc_law.nd rfl (by first | exact Or.inl rfl | exact Or.inr rfl) (pe_ix (r := rIxL K) ix_list (pv 1) pe_int (fun _ _ => rfl)))
  (pss_cut (ps_if (pt_cmpR op_eq (pv 2) pe_int (nomark _))
    (pss_cons (ps_set (i := 2) sc_law.nd rfl (by first | exact Or.inl rfl | exact Or.inr rfl) pe_int)
  (pss_one (ps_set (i := 3) sc_law.nd rfl (by first | exact Or.inl rfl | exact Or.inr rfl) pe_int)))
    pss_nil)
  (pss_cons (ps_set (i := 4) sc_law.nd rfl (by first | exact Or.inl rfl | exact Or.inr rfl) (pe_call G_law_steps (hr.mono (by decide)) (by rfl) D_law_steps.g D_law_steps.F.kp D_law_steps.b .nil pass0 (pa_cons (pv 0) (pa_cons (pv 2) (pa_cons (pv 3) (pa_cons (pe_cmpR op_eq (pe_ix (r := rIxL K) ix_list (pv 1) pe_int (fun _ _ => rfl)) pe_int (nomark _)) pa_nil))))))
  (pss_cons (ps_set (i := 5) sc_law.nd rfl (by first | exact Or.inl rfl | exact Or.inr rfl) (pe_callTy (r := rLstQ K) call_list_of (by rfl) mB_list (by decide +kernel) (pa_cons (pv 4) pa_nil)))
  (pss_cut (ps_if (pt_cmpR op_eq (pe_ix (r := rIxL K) ix_list (pv 1) pe_int (fun _ _ => rfl)) pe_int (nomark _))
    (pss_one (ps_set (i := 4) sc_law.nd rfl (by first | exact Or.inl rfl | exact Or.inr rfl) (pe_revL (pv 4))))
    pss_nil)
  (pss_cut (ps_if (pt_cmpR op_eq (pe_ix (r := rIxL K) ix_list (pv 1) pe_int (fun _ _ => rfl)) pe_int (nomark _))
    (pss_one (ps_setLc (i := 4) (own := [("row", 11)]) (g := gName 11) rfl sc_law.nd rfl rfl (sw_true rfl rfl rfl (by decide +kernel)) (pi_listK (K := K) (pe_callB (r := rSortedTI K) cr_sortedTI (by rfl) mB_sorted (by decide +kernel) (pa_cons (pe_lc (own := [("step", 12)]) (g := gName 12) rfl sc_law.nd (pi_listK (K := K) (pv 4)) (blkOk_by (own := [("step", 12)]) (N := ["script", "drawn", "places", "share", "made", "due", "given", "web", "turned", "other", "told", "row", "step"]) (sc := defScope s_law) (by decide +kernel)) (fun _ _ _ _ _ => (pg_name (i := 12) sc_law.nd rfl (by first | exact Or.inl rfl | exact Or.inr rfl))) (fun _ _ _ _ _ => pts_nil) (fun _ _ _ _ _ => (pe_tup (pa_cons (pe_ix (r := rIxT K) ix_tup (pv 12) pe_int (fun _ _ => rfl)) (pa_cons (pe_ix (r := rIxT K) ix_tup (pv 12) pe_int (fun _ _ => rfl)) (pa_cons (pe_ix (r := rIxT K) ix_tup (pv 12) pe_int (fun _ _ => rfl)) pa_nil)))))) pa_nil))) (blkOk_by (own := [("row", 11)]) (N := ["script", "drawn", "places", "share", "made", "due", "given", "web", "turned", "other", "told", "row", "step"]) (sc := defScope s_law) (by decide +kernel)) (fun _ _ _ _ _ => (pg_name (i := 11) sc_law.nd rfl (by first | exact Or.inl rfl | exact Or.inr rfl))) (fun _ _ _ _ _ => pts_nil) (fun _ _ _ _ _ => (pe_tup (pa_cons (pe_ix (r := rIxT K) ix_tup (pv 11) pe_int (fun _ _ => rfl)) (pa_cons (pe_ix (r := rIxT K) ix_tup (pv 11) pe_int (fun _ _ => rfl)) (pa_cons (pe_ix (r := rIxT K) ix_tup (pv 11) pe_int (fun _ _ => rfl)) pa_nil)))))))
    pss_nil)
  (pss_cons (ps_set (i := 6) sc_law.nd rfl (by first | exact Or.inl rfl | exact Or.inr rfl) (pe_callTy (r := rLstQ K) call_list_of (by rfl) mB_list (by decide +kernel) (pa_cons (pv 4) pa_nil)))
  (pss_cons (ps_set (i := 7) sc_law.nd rfl (by first | exact Or.inl rfl | exact Or.inr rfl) (pe_make mk_Web G_Web___init__ (hr.mono (by decide)) (by rfl) gl_Web D_Web___init__.b .nil pass0 (pa_cons (pv 2) (pa_cons (pv 6) pa_nil))))
  (pss_cons (ps_if (PW.pt (pw_or (pt_cmpR (r := rNeD K) (op_neD hr.units) (pv 6) (pv 4) (nomark _)) (pw_or1 (pt_not (pt_val (pe_call G_law_right (hr.mono (by decide)) (by rfl) D_law_right.g D_law_right.F.kp D_law_right.b .nil pass0 (pa_cons (pv 7) (pa_cons (pv 2) (pa_cons (pv 5) pa_nil)))))))))
    (pss_one (ps_ret pe_bl))
    pss_nil)
  (pss_cons (ps_if (PW.pt (pw_and (pt_cmpR op_lt (pv 2) pe_int (nomark _)) (pw_and1 (pt_not (pt_val (pe_call G_law_all_right (hr.mono (by decide)) (by rfl) D_law_all_right.g D_law_all_right.F.kp D_law_all_right.b .nil pass0 (pa_cons (pv 7) (pa_cons (pv 2) (pa_cons (pv 5) (pa_cons pe_int pa_nil))))))))))
    (pss_one (ps_ret pe_bl))
    pss_nil)
  (pss_cons (ps_set (i := 8) sc_law.nd rfl (by first | exact Or.inl rfl | exact Or.inr rfl) (pe_inv (pv 7) cl_Web iv_Web___invert__ G_Web___invert__ (hr.mono (by decide)) D_Web___invert__.b .nil pass0))
  (pss_cons (ps_set (i := 9) sc_law.nd rfl (by first | exact Or.inl rfl | exact Or.inr rfl) (pe_callB (r := rSortedTI K) cr_sortedTI (by rfl) mB_sorted (by decide +kernel) (pa_cons (pe_lc (own := [("row", 11)]) (g := gName 11) rfl sc_law.nd (pi_listK (K := K) (pv 5)) (blkOk_by (own := [("row", 11)]) (N := ["script", "drawn", "places", "share", "made", "due", "given", "web", "turned", "other", "told", "row", "step"]) (sc := defScope s_law) (by decide +kernel)) (fun _ _ _ _ _ => (pg_name (i := 11) sc_law.nd rfl (by first | exact Or.inl rfl | exact Or.inr rfl))) (fun _ _ _ _ _ => pts_nil) (fun _ _ _ _ _ => (pe_tup (pa_cons (pe_ix (r := rIxT K) ix_tup (pv 11) pe_int (fun _ _ => rfl)) (pa_cons (pe_ix (r := rIxT K) ix_tup (pv 11) pe_int (fun _ _ => rfl)) (pa_cons (pe_ix (r := rIxT K) ix_tup (pv 11) pe_int (fun _ _ => rfl)) pa_nil)))))) pa_nil)))
  (pss_cons (ps_if (PW.pt (pw_or (pt_not (pt_val (pe_call G_law_right (hr.mono (by decide)) (by rfl) D_law_right.g D_law_right.F.kp D_law_right.b .nil pass0 (pa_cons (pv 8) (pa_cons (pv 2) (pa_cons (pv 9) pa_nil)))))) (pw_or1 (pt_not (pt_val (pe_call G_law_tuples_right (hr.mono (by decide)) (by rfl) D_law_tuples_right.g D_law_tuples_right.F.kp D_law_tuples_right.b .nil pass0 (pa_cons (pv 0) (pa_cons (pv 7) (pa_cons (pv 2) (pa_cons (pv 5) pa_nil))))))))))
    (pss_one (ps_ret pe_bl))
    pss_nil)
  (pss_cons (ps_set (i := 10) sc_law.nd rfl (by first | exact Or.inl rfl | exact Or.inr rfl) (pe_prop (pv 7) cl_Web pr_Web_steps G_Web_steps (hr.mono (by decide)) D_Web_steps.b .nil pass0 rfl))
  (pss_cons (ps_expr (pe_bm PySem.F.plainAttrs_list PySem.F.slot_list_append PySem.F.type_list_append mt_append (pv 10) (pa_cons (pe_tup (pa_cons pe_int (pa_cons pe_int (pa_cons pe_int pa_nil)))) pa_nil)))
  (pss_cons (ps_expr (pe_bm PySem.F.plainAttrs_list PySem.F.slot_list_append PySem.F.type_list_append mt_append (pv 6) (pa_cons (pe_tup (pa_cons pe_int (pa_cons pe_int (pa_cons pe_int pa_nil)))) pa_nil)))
  (pss_cut (ps_if (pt_cmpR op_gt (pv 2) pe_int (nomark _))
    (pss_cons (ps_expr (pe_bm PySem.F.plainAttrs_list PySem.F.slot_list_append PySem.F.type_list_append mt_append (pe_meth (pv 7) cl_Web me_Web_after G_Web_after (hr.mono (by decide)) D_Web_after.b .nil pass0 (pa_cons pe_int pa_nil)) (pa_cons (pe_tup (pa_cons pe_int (pa_cons pe_int pa_nil))) pa_nil)))
  (pss_one (ps_expr (pe_bm PySem.F.plainAttrs_list PySem.F.slot_list_append PySem.F.type_list_append mt_append (pe_meth (pv 7) cl_Web me_Web_before G_Web_before (hr.mono (by decide)) D_Web_before.b .nil pass0 (pa_cons pe_int pa_nil)) (pa_cons (pe_tup (pa_cons pe_int (pa_cons pe_int pa_nil))) pa_nil)))))
    pss_nil)
  (pss_cons (ps_if (PW.pt (pw_or (pt_not (pt_val (pe_call G_law_tuples_right (hr.mono (by decide)) (by rfl) D_law_tuples_right.g D_law_tuples_right.F.kp D_law_tuples_right.b .nil pass0 (pa_cons (pv 0) (pa_cons (pv 8) (pa_cons (pv 2) (pa_cons (pv 9) pa_nil))))))) (pw_or1 (pt_not (pt_val (pe_call G_law_right (hr.mono (by decide)) (by rfl) D_law_right.g D_law_right.F.kp D_law_right.b .nil pass0 (pa_cons (pv 7) (pa_cons (pv 2) (pa_cons (pv 5) pa_nil)))))))))
    (pss_one (ps_ret pe_bl))
    pss_nil)
  (pss_one (ps_ret (pe_call G_law_bad_right (hr.mono (by decide)) (by rfl) D_law_bad_right.g D_law_bad_right.F.kp D_law_bad_right.b .nil pass0 (pa_cons (pv 2) (pa_cons (pv 4) (pa_cons (pe_slice (r := rSlL K) sl_list (pv 1) (po_some pe_int) po_none) pa_nil)))))))))))))))))))))))))), ?_⟩
  have w := Wd.begin hφ
  have f := Args.fits hφ (.va (r := (rFro K)) (a := script') k0 .nil) 12
  unfold PF.law at h
  obtain ⟨x_1, e_2, h⟩ := bS h
  obtain ⟨x_3, e_4, h⟩ := bS h
  obtain ⟨drawn'5, e_6, h⟩ := bS h
  replace e_6 := Option.some.inj e_6
  refine q_asgO (o := (oV rInt)) w f (fun rd => isO (eo_call (o := (oV rInt)) (W := w_law_draws) (ea_cons (er_callP (W := w_law_cell K) (ea_cons (er_v rd 0 rfl) (ea_cons er_int ea0)) ⟨_, _, rfl, e_2⟩) (ea_cons (er_bor (Eo.er (o := (oV rInt)) (eo_lst (rr := rInt) (eal_cons er_int (eal_cons er_int (eal_cons er_int (eal_cons er_int (eal_cons er_int (eal_cons er_int (eal_cons er_int (eal_cons er_int eal_nil)))))))) (by exact Nat.le_of_ble_eq_true rfl)))) ea0)) ⟨_, _, rfl, e_4⟩) e_6) fun σ G H w f => ?_
  obtain ⟨x_7, e_8, h⟩ := bS h
  obtain ⟨places'9, e_10, h⟩ := bS h
  replace e_10 := Option.some.inj e_10
  refine q_asg (rr := rInt) w f (fun rd => isE (er_ixL (er_o (o := (oV rInt)) (a := drawn'5) rd 1 rfl) er_int e_8) e_10) fun σ G H w f => ?_
  obtain ⟨x_11, e_12, h⟩ := bS h
  obtain ⟨share'13, e_14, h⟩ := bS h
  replace e_14 := Option.some.inj e_14
  refine q_asg (rr := rInt) w f (fun rd => isE (er_ixL (er_o (o := (oV rInt)) (a := drawn'5) rd 1 rfl) er_int e_12) e_14) fun σ G H w f => ?_
  obtain ⟨c_21, e_22, n_23, r_24⟩ := thenS h
  refine d_cut (sh := (fun (s'15 : Int × Int) => [.va (rFro K) script', .ow (oV rInt) drawn'5, .va rInt s'15.1, .va rInt s'15.2, .un, .un, .un, .un, .un, .un, .un, .un, .un])) w (Out0 (rvO (oPr rBl) φ.F H0)) (fun _ _ _ x => x) (fun D' L => ?_) (fun r e => by cases r_24 r e; exact L) (fun s'15 e σ G H w f => ?_)
  · clear h; have h := e_22
    refine d_if (b := (decide (places'9 = (7 : Int)))) w f (fun rd => (et_test (er_eqI (er_v rd 2 rfl) er_int))) (fun b_16 H w f => ?_) (fun b_16 H w f => ?_)
    · replace h := ifT h b_16
      obtain ⟨places'17, e_18, h⟩ := bS h
      replace e_18 := Option.some.inj e_18
      refine q_asg (rr := rInt) w f (fun rd => isE er_int e_18) fun σ G H w f => ?_
      obtain ⟨share'19, e_20, h⟩ := bS h
      replace e_20 := Option.some.inj e_20
      refine d_asg (rr := rInt) w f (fun rd => isE er_int e_20) fun σ G H w f => ?_
      cases h
      exact L _ _ _ w (f.weak (weak_eq (weak_eq (weak_eq (weak_eq (weak_un (weak_un (weak_un (weak_un (weak_un (weak_un (weak_un (weak_un (weak_un weak_nil))))))))))))))
    · replace h := ifF h b_16
      refine d_next w f fun σ G H w f => ?_
      cases h
      exact L _ _ _ w (f.weak (weak_eq (weak_eq (weak_eq (weak_eq (weak_un (weak_un (weak_un (weak_un (weak_un (weak_un (weak_un (weak_un (weak_un weak_nil))))))))))))))
  replace h := n_23 s'15 e
  obtain ⟨x_25, e_26, h⟩ := bS h
  obtain ⟨x_27, e_28, h⟩ := bS h
  obtain ⟨made'29, e_30, h⟩ := bS h
  replace e_30 := Option.some.inj e_30
  refine q_asgO (o := (oV (rTri rInt rInt rInt))) w f (fun rd => isO (eo_call (o := (oV (rTri rInt rInt rInt))) (W := w_law_steps K) (ea_cons (er_v rd 0 rfl) (ea_cons (er_v rd 2 rfl) (ea_cons (er_v rd 3 rfl) (ea_cons (er_eqI (er_ixL (er_o (o := (oV rInt)) (a := drawn'5) rd 1 rfl) er_int e_26) er_int) ea0)))) ⟨_, _, _, _, rfl, e_28⟩) e_30) fun σ G H w f => ?_
  obtain ⟨due'31, e_32, h⟩ := bS h
  replace e_32 := Option.some.inj e_32
  refine q_asgO (o := (oV (rTri rInt rInt rInt))) w f (fun rd => isO (eo_listL (rr := (rTri rInt rInt rInt)) (er_o (o := (oV (rTri rInt rInt rInt))) (a := made'29) rd 4 rfl)) e_32) fun σ G H w f => ?_
  obtain ⟨c_39, e_40, n_41, r_42⟩ := thenS h
  refine d_cut (sh := (fun (s'33 : (List (Int × Int × Int))) => [.va (rFro K) script', .ow (oV rInt) drawn'5, .va rInt s'15.1, .va rInt s'15.2, .ow (oV (rTri rInt rInt rInt)) s'33, .ow (oV (rTri rInt rInt rInt)) due'31, .un, .un, .un, .un, .un, .un, .un])) w (Out0 (rvO (oPr rBl) φ.F H0)) (fun _ _ _ x => x) (fun D' L => ?_) (fun r e => by cases r_42 r e; exact L) (fun s'33 e σ G H w f => ?_)
  · clear h; have h := e_40
    obtain ⟨x_34, e_35, h⟩ := bS h
    refine d_if (b := (decide (x_34 = (1 : Int)))) w f (fun rd => (et_test (er_eqI (er_ixL (er_o (o := (oV rInt)) (a := drawn'5) rd 1 rfl) er_int e_35) er_int))) (fun b_36 H w f => ?_) (fun b_36 H w f => ?_)
    · replace h := ifT h b_36
      obtain ⟨made'37, e_38, h⟩ := bS h
      replace e_38 := Option.some.inj e_38
      refine d_asgO (o := (oV (rTri rInt rInt rInt))) w f (fun rd => isO (eo_revL (K := K) (rr := (rTri rInt rInt rInt)) (er_o (o := (oV (rTri rInt rInt rInt))) (a := made'29) rd 4 rfl)) e_38) fun σ G H w f => ?_
      cases h
      exact L _ _ _ w (f.weak (weak_eq (weak_eq (weak_eq (weak_eq (weak_eq (weak_eq (weak_un (weak_un (weak_un (weak_un (weak_un (weak_un (weak_un weak_nil))))))))))))))
    · replace h := ifF h b_36
      refine d_next w f fun σ G H w f => ?_
      cases h
      exact L _ _ _ w (f.weak (weak_eq (weak_eq (weak_eq (weak_eq (weak_eq (weak_eq (weak_un (weak_un (weak_un (weak_un (weak_un (weak_un (weak_un weak_nil))))))))))))))
  replace h := n_41 s'33 e
  obtain ⟨c_57, e_58, n_59, r_60⟩ := thenS h
  refine d_cut (sh := (fun (s'43 : (List (Int × Int × Int))) => [.va (rFro K) script', .ow (oV rInt) drawn'5, .va rInt s'15.1, .va rInt s'15.2, .ow (oV (rTri rInt rInt rInt)) s'43, .ow (oV (rTri rInt rInt rInt)) due'31, .un, .un, .un, .un, .un, .un, .un])) w (Out0 (rvO (oPr rBl) φ.F H0)) (fun _ _ _ x => x) (fun D' L => ?_) (fun r e => by cases r_60 r e; exact L) (fun s'43 e σ G H w f => ?_)
  · clear h; have h := e_58
    obtain ⟨x_44, e_45, h⟩ := bS h
    refine d_if (b := (decide (x_44 = (2 : Int)))) w f (fun rd => (et_test (er_eqI (er_ixL (er_o (o := (oV rInt)) (a := drawn'5) rd 1 rfl) er_int e_45) er_int))) (fun b_46 H w f => ?_) (fun b_46 H w f => ?_)
    · replace h := ifT h b_46
      obtain ⟨k_48, h⟩ := ckS h
      obtain ⟨k_52, h⟩ := ckS h
      obtain ⟨made'55, e_56, h⟩ := bS h
      replace e_56 := Option.some.inj e_56
      refine d_asgO (o := (oV (rTri rInt rInt rInt))) w f (fun rd => isO (eo_lc (ss := (rTri rInt rInt rInt)) (f := fun (y'51 : Int × Int × Int) => some true) (m := fun (y'51 : Int × Int × Int) => (some ((y'51.2.1, y'51.1, y'51.2.2)))) rd (src_list (er_bor (Eo.er (o := (oV (rTri rInt rInt rInt))) (eo_sortL (f := fun c : Int × Int × Int => [c.1, c.2.1, c.2.2]) ti_Q (er_bor (Eo.er (o := (oV (rTri rInt rInt rInt))) (eo_lc (ss := (rTri rInt rInt rInt)) (f := fun (y'47 : Int × Int × Int) => some true) (m := fun (y'47 : Int × Int × Int) => (some ((y'47.2.1, y'47.1, y'47.2.2)))) rd (src_list (er_o (o := (oV (rTri rInt rInt rInt))) (a := s'33) rd 4 rfl)) tg_n (by decide) (of_decide_eq_true k_48) (compM_tot1 _) (fun y'47 _ ψ σ2 l rd => ⟨fun _ g_49 => by exact (isT et_yes (Option.some.inj g_49)), fun _ g_50 => by exact isE (er_tri (er_t1 (er_v rd 12 rfl)) (er_t0 (er_v rd 12 rfl)) (er_t2 (er_v rd 12 rfl))) (Option.some.inj g_50)⟩)))) (fun _ _ h => nomatch h))))) tg_n (by decide) (of_decide_eq_true k_52) (compM_tot1 _) (fun y'51 _ ψ σ2 l rd => ⟨fun _ g_53 => by exact (isT et_yes (Option.some.inj g_53)), fun _ g_54 => by exact isE (er_tri (er_t1 (er_v rd 11 rfl)) (er_t0 (er_v rd 11 rfl)) (er_t2 (er_v rd 11 rfl))) (Option.some.inj g_54)⟩)) e_56) fun σ G H w f => ?_
      cases h
      exact L _ _ _ w (f.weak (weak_eq (weak_eq (weak_eq (weak_eq (weak_eq (weak_eq (weak_un (weak_un (weak_un (weak_un (weak_un (weak_un (weak_un weak_nil))))))))))))))
    · replace h := ifF h b_46
      refine d_next w f fun σ G H w f => ?_
      cases h
      exact L _ _ _ w (f.weak (weak_eq (weak_eq (weak_eq (weak_eq (weak_eq (weak_eq (weak_un (weak_un (weak_un (weak_un (weak_un (weak_un (weak_un weak_nil))))))))))))))
  replace h := n_59 s'43 e
  obtain ⟨given'61, e_62, h⟩ := bS h
  replace e_62 := Option.some.inj e_62
  refine q_asgO (o := (oV (rTri rInt rInt rInt))) w f (fun rd => isO (eo_listL (rr := (rTri rInt rInt rInt)) (er_o (o := (oV (rTri rInt rInt rInt))) (a := s'43) rd 4 rfl)) e_62) fun σ G H w f => ?_
  obtain ⟨x_63, e_64, h⟩ := bS h
  obtain ⟨web'65, e_66, h⟩ := bS h
  replace e_66 := Option.some.inj e_66
  refine q_asg (rr := (rIns C_Web (F_Web wo))) w f (fun rd => isE (er_make (W := w_Web___init__ wo C_Web) (ea_cons (er_v rd 2 rfl) (ea_cons (er_o (o := (oV (rTri rInt rInt rInt))) (a := given'61) rd 6 rfl) ea0)) ⟨_, _, rfl, e_64⟩) e_66) fun σ G H w f => ?_
  obtain ⟨b_70, e_71, h⟩ := bS h
  refine q_if (b := b_70) w f (fun rd => (et_or (et_test (er_neD (K := K) (eaB (eaP (eTri eInt eInt eInt))) (eaB (eaP (eTri eInt eInt eInt))) (Nat.le_of_ble_eq_true rfl) (Nat.le_of_ble_eq_true rfl) (er_o (o := (oV (rTri rInt rInt rInt))) (a := given'61) rd 6 rfl) (er_o (o := (oV (rTri rInt rInt rInt))) (a := s'43) rd 4 rfl))) (fun _ g_69 => by obtain ⟨x_67, e_68, g_69⟩ := bS g_69; exact isT (et_not (et_B (er_callP (W := w_law_right wo C_Web) (ea_cons (er_v rd 7 rfl) (ea_cons (er_v rd 2 rfl) (ea_cons (er_o (o := (oV (rTri rInt rInt rInt))) (a := due'31) rd 5 rfl) ea0))) ⟨_, _, _, rfl, e_68⟩))) (Option.some.inj g_69)) e_71)) (fun b_72 H w f => ?_) (fun b_72 H w f => ?_)
  · replace h := ifT h b_72
    refine d_ret (rr := rBl) w f (fun rd => er_bl) ?_
    cases h
    exact L
  · replace h := ifF h b_72
    refine d_next w f fun σ G H w f => ?_
    try dsimp only
    obtain ⟨b_76, e_77, h⟩ := bS h
    refine q_if (b := b_76) w f (fun rd => (et_and (et_test (er_cmp (f := fun i j => decide (i < j)) (er_v rd 2 rfl) er_int)) (fun _ g_75 => by obtain ⟨x_73, e_74, g_75⟩ := bS g_75; exact isT (et_not (et_B (er_callP (W := w_law_all_right wo C_Web) (ea_cons (er_v rd 7 rfl) (ea_cons (er_v rd 2 rfl) (ea_cons (er_o (o := (oV (rTri rInt rInt rInt))) (a := due'31) rd 5 rfl) (ea_cons er_int ea0)))) ⟨_, _, _, _, rfl, e_74⟩))) (Option.some.inj g_75)) e_77)) (fun b_78 H w f => ?_) (fun b_78 H w f => ?_)
    · replace h := ifT h b_78
      refine d_ret (rr := rBl) w f (fun rd => er_bl) ?_
      cases h
      exact L
    · replace h := ifF h b_78
      refine d_next w f fun σ G H w f => ?_
      try dsimp only
      obtain ⟨x_79, e_80, h⟩ := bS h
      obtain ⟨turned'81, e_82, h⟩ := bS h
      replace e_82 := Option.some.inj e_82
      refine q_asg (rr := (rIns C_Web (F_Web wo))) w f (fun rd => isE (er_prop (W := w_Web___invert__ wo C_Web) (F := (F_Web wo)) (a := web'65) (er_v rd 7 rfl) ⟨_, rfl, e_80⟩) e_82) fun σ G H w f => ?_
      obtain ⟨k_84, h⟩ := ckS h
      obtain ⟨other'87, e_88, h⟩ := bS h
      replace e_88 := Option.some.inj e_88
      refine q_asgO (o := (oV (rTri rInt rInt rInt))) w f (fun rd => isO (eo_sortL (f := fun c : Int × Int × Int => [c.1, c.2.1, c.2.2]) ti_Q (er_bor (Eo.er (o := (oV (rTri rInt rInt rInt))) (eo_lc (ss := (rTri rInt rInt rInt)) (f := fun (y'83 : Int × Int × Int) => some true) (m := fun (y'83 : Int × Int × Int) => (some ((y'83.2.1, y'83.1, y'83.2.2)))) rd (src_list (er_o (o := (oV (rTri rInt rInt rInt))) (a := due'31) rd 5 rfl)) tg_n (by decide) (of_decide_eq_true k_84) (compM_tot1 _) (fun y'83 _ ψ σ2 l rd => ⟨fun _ g_85 => by exact (isT et_yes (Option.some.inj g_85)), fun _ g_86 => by exact isE (er_tri (er_t1 (er_v rd 11 rfl)) (er_t0 (er_v rd 11 rfl)) (er_t2 (er_v rd 11 rfl))) (Option.some.inj g_86)⟩)))) (fun _ _ h => nomatch h)) e_88) fun σ G H w f => ?_
      obtain ⟨x_89, e_90, h⟩ := bS h
      obtain ⟨b_94, e_95, h⟩ := bS h
      refine q_if (b := b_94) w f (fun rd => (et_or (et_not (et_B (er_callP (W := w_law_right wo C_Web) (ea_cons (er_v rd 8 rfl) (ea_cons (er_v rd 2 rfl) (ea_cons (er_o (o := (oV (rTri rInt rInt rInt))) (a := other'87) rd 9 rfl) ea0))) ⟨_, _, _, rfl, e_90⟩))) (fun _ g_93 => by obtain ⟨x_91, e_92, g_93⟩ := bS g_93; exact isT (et_not (et_B (er_callP (W := w_law_tuples_right K wo C_Web) (ea_cons (er_v rd 0 rfl) (ea_cons (er_v rd 7 rfl) (ea_cons (er_v rd 2 rfl) (ea_cons (er_o (o := (oV (rTri rInt rInt rInt))) (a := due'31) rd 5 rfl) ea0)))) ⟨_, _, _, _, rfl, e_92⟩))) (Option.some.inj g_93)) e_95)) (fun b_96 H w f => ?_) (fun b_96 H w f => ?_)
      · replace h := ifT h b_96
        refine d_ret (rr := rBl) w f (fun rd => er_bl) ?_
        cases h
        exact L
      · replace h := ifF h b_96
        refine d_next w f fun σ G H w f => ?_
        try dsimp only
        obtain ⟨x_97, e_98, h⟩ := bS h
        obtain ⟨told'99, e_100, h⟩ := bS h
        replace e_100 := Option.some.inj e_100
        refine q_asgO (o := (oV (rTri rInt rInt rInt))) w f (fun rd => isO (eo_prop (o := (oV (rTri rInt rInt rInt))) (W := w_Web_steps wo C_Web) (F := (F_Web wo)) (a := web'65) (er_v rd 7 rfl) ⟨_, rfl, e_98⟩) e_100) fun σ G H w f => ?_
        obtain ⟨k_101, h⟩ := ckS h
        obtain ⟨told'102, e_103, h⟩ := bS h
        replace e_103 := Option.some.inj e_103
        refine q_app (rr := (rTri rInt rInt rInt)) (i := 10) w f rfl (of_decide_eq_true k_101) (fun rd => (er_tri er_int er_int er_int)) e_103 fun σ G H w f => ?_
        obtain ⟨k_104, h⟩ := ckS h
        obtain ⟨given'105, e_106, h⟩ := bS h
        replace e_106 := Option.some.inj e_106
        refine q_app (rr := (rTri rInt rInt rInt)) (i := 6) w f rfl (of_decide_eq_true k_104) (fun rd => (er_tri er_int er_int er_int)) e_106 fun σ G H w f => ?_
        obtain ⟨c_115, e_116, n_117, r_118⟩ := thenS h
        refine d_cut (sh := (fun (s'107 : Unit) => [.va (rFro K) script', .ow (oV rInt) drawn'5, .va rInt s'15.1, .va rInt s'15.2, .ow (oV (rTri rInt rInt rInt)) s'43, .ow (oV (rTri rInt rInt rInt)) due'31, .ow (oV (rTri rInt rInt rInt)) given'105, .va (rIns C_Web (F_Web wo)) web'65, .va (rIns C_Web (F_Web wo)) turned'81, .ow (oV (rTri rInt rInt rInt)) other'87, .ow (oV (rTri rInt rInt rInt)) told'102, .un, .un])) w (Out0 (rvO (oPr rBl) φ.F H0)) (fun _ _ _ x => x) (fun D' L => ?_) (fun r e => by cases r_118 r e; exact L) (fun s'107 e σ G H w f => ?_)
        · clear h; have h := e_116
          refine d_if (b := (decide (s'15.1 > (0 : Int)))) w f (fun rd => (et_test (er_cmp (f := fun i j => decide (i > j)) (er_v rd 2 rfl) er_int))) (fun b_108 H w f => ?_) (fun b_108 H w f => ?_)
          · replace h := ifT h b_108
            obtain ⟨x_109, e_110, h⟩ := bS h
            obtain ⟨k_111, h⟩ := ckS h
            refine q_drop w f (fun rd => er_appTmp (rr := (rPair rInt rInt)) (eo_meth (o := (oV (rPair rInt rInt))) (W := w_Web_after wo C_Web) (F := (F_Web wo)) (a := web'65) (fno_S (n := "after") (m := "_worth_at") (fno_S (n := "after") (m := "places") (fno_E (n := "after")) (by decide +kernel)) (by decide +kernel)) (er_v rd 7 rfl) (ea_cons er_int ea0) ⟨_, _, rfl, e_110⟩) (of_decide_eq_true k_111) (er_pair er_int er_int)) fun σ G H w f => ?_
            obtain ⟨x_112, e_113, h⟩ := bS h
            obtain ⟨k_114, h⟩ := ckS h
            refine d_drop w f (fun rd => er_appTmp (rr := (rPair rInt rInt)) (eo_meth (o := (oV (rPair rInt rInt))) (W := w_Web_before wo C_Web) (F := (F_Web wo)) (a := web'65) (fno_S (n := "before") (m := "_worth_at") (fno_S (n := "before") (m := "places") (fno_E (n := "before")) (by decide +kernel)) (by decide +kernel)) (er_v rd 7 rfl) (ea_cons er_int ea0) ⟨_, _, rfl, e_113⟩) (of_decide_eq_true k_114) (er_pair er_int er_int)) fun σ G H w f => ?_
            cases h
            exact L _ _ _ w (f.weak (weak_eq (weak_eq (weak_eq (weak_eq (weak_eq (weak_eq (weak_eq (weak_eq (weak_eq (weak_eq (weak_eq (weak_un (weak_un weak_nil))))))))))))))
          · replace h := ifF h b_108
            refine d_next w f fun σ G H w f => ?_
            cases h
            exact L _ _ _ w (f.weak (weak_eq (weak_eq (weak_eq (weak_eq (weak_eq (weak_eq (weak_eq (weak_eq (weak_eq (weak_eq (weak_eq (weak_un (weak_un weak_nil))))))))))))))
        replace h := n_117 s'107 e
        obtain ⟨x_119, e_120, h⟩ := bS h
        obtain ⟨b_124, e_125, h⟩ := bS h
        refine q_if (b := b_124) w f (fun rd => (et_or (et_not (et_B (er_callP (W := w_law_tuples_right K wo C_Web) (ea_cons (er_v rd 0 rfl) (ea_cons (er_v rd 8 rfl) (ea_cons (er_v rd 2 rfl) (ea_cons (er_o (o := (oV (rTri rInt rInt rInt))) (a := other'87) rd 9 rfl) ea0)))) ⟨_, _, _, _, rfl, e_120⟩))) (fun _ g_123 => by obtain ⟨x_121, e_122, g_123⟩ := bS g_123; exact isT (et_not (et_B (er_callP (W := w_law_right wo C_Web) (ea_cons (er_v rd 7 rfl) (ea_cons (er_v rd 2 rfl) (ea_cons (er_o (o := (oV (rTri rInt rInt rInt))) (a := due'31) rd 5 rfl) ea0))) ⟨_, _, _, rfl, e_122⟩))) (Option.some.inj g_123)) e_125)) (fun b_126 H w f => ?_) (fun b_126 H w f => ?_)
        · replace h := ifT h b_126
          refine d_ret (rr := rBl) w f (fun rd => er_bl) ?_
          cases h
          exact L
        · replace h := ifF h b_126
          refine d_next w f fun σ G H w f => ?_
          try dsimp only
          obtain ⟨x_127, e_128, h⟩ := bS h
          refine d_ret (rr := rBl) w f (fun rd => (er_callP (W := w_law_bad_right) (ea_cons (er_v rd 2 rfl) (ea_cons (er_o (o := (oV (rTri rInt rInt rInt))) (a := s'43) rd 4 rfl) (ea_cons (er_bor (Eo.er (o := (oV rInt)) (eo_sl (rr := rInt) (er_o (o := (oV rInt)) (a := drawn'5) rd 1 rfl) (eop_part er_int) eop_none))) ea0))) ⟨_, _, _, rfl, e_128⟩)) ?_
          cases h
          exact L
end LW
set_option Elab.async false
set_option linter.all false
set_option maxHeartbeats 1000000
namespace K98
open DL
def low (t : List Int) : Int := match t.getLast? with
  | some x => x + 1
  | none => 0
def step (c : Nat) (found : List (List Int)) : List (List Int) := found.flatMap fun t => ((rng 0 c).filter fun x => decide (low t ≤ x)).map fun k => t ++ [k]
structure Lot12 (t : List Int) : Prop where
  asc : t.Pairwise (· < ·)
  mem : ∀ x ∈ t, 0 ≤ x ∧ x < 12
theorem Lot12.nil : Lot12 [] := ⟨.nil, fun x hx => by cases hx⟩
end K98
set_option Elab.async false
set_option linter.all false
set_option maxRecDepth 100000
set_option maxHeartbeats 2000000
namespace Pm
open Q DL K98 L2
section
variable {α β γ S R O : Type}
theorem chk_t {b : Bool} {k : Unit → Option β} (h : b = true) : (chk b).bind k = k () := by
  subst h
  rfl
theorem bnd {o : Option α} {a : α} {k : α → Option β} (h : o = some a) : o.bind k = k a := by
  subst h
  rfl
theorem after_nx {o : Option (Ctl S R)} {s : S} {k : S → Option O} {q : R → Option O} (h : o = some (.nx s)) : after o k q = k s := by
  subst h
  rfl
theorem after_rt {o : Option (Ctl S R)} {r : R} {k : S → Option O} {q : R → Option O} (h : o = some (.rt r)) : after o k q = q r := by
  subst h
  rfl
theorem thenJ_l {o : Option (S ⊕ O)} {s : S} {k : S → Option O} (h : o = some (.inl s)) : thenJ o k = k s := by
  subst h
  rfl
theorem loop_at {step : α → S → Option (Ctl S R)} (I : Nat → S → Prop) : ∀ (l : List α) (i : Nat) (s : S), I i s → (∀ k a s, l[k]? = some a → I (i + k) s → ∃ s', step a s = some (.nx s') ∧ I (i + k + 1) s') → ∃ s', loop step l s = some (.nx s') ∧ I (i + l.length) s'
  | [], i, s, h, _ => ⟨s, rfl, h⟩
  | a :: as, i, s, h, hs => by
    obtain ⟨s1, e1, h1⟩ := hs 0 a s rfl h
    obtain ⟨s2, e2, h2⟩ := loop_at I as (i + 1) s1 h1 fun k b t hk ht => by
      have := hs (k + 1) b t (by rw [List.getElem?_cons_succ]; exact hk) (by rw [show i + (k + 1) = i + 1 + k by omega]; exact ht)
      rwa [show i + (k + 1) + 1 = i + 1 + k + 1 by omega] at this
    refine ⟨s2, ?_, by rw [List.length_cons, show i + (as.length + 1) = i + 1 + as.length by omega]; exact h2⟩
    show (match step a s with | none => none | some (.nx s') => loop step as s' | some (.ct s') => loop step as s' | some (.bk s') => some (.nx s') | some (.rt r) => some (.rt r)) = _
    rw [e1]
    exact e2
theorem loop_cons {step : α → S → Option (Ctl S R)} {a : α} {as : List α} {s s1 : S} (h : step a s = some (.nx s1)) : loop step (a :: as) s = loop step as s1 := by
  show (match step a s with | none => none | some (.nx s') => loop step as s' | some (.ct s') => loop step as s' | some (.bk s') => some (.nx s') | some (.rt r) => some (.rt r)) = _
  rw [h]
theorem loop_rt {step : α → S → Option (Ctl S R)} {a : α} {as : List α} {s : S} {r : R} (h : step a s = some (.rt r)) : loop step (a :: as) s = some (.rt r) := by
  show (match step a s with | none => none | some (.nx s') => loop step as s' | some (.ct s') => loop step as s' | some (.bk s') => some (.nx s') | some (.rt r) => some (.rt r)) = _
  rw [h]
theorem after_at {step : α → S → Option (Ctl S R)} {l : List α} {s : S} {k : S → Option O} {q : R → Option O} (G : Option O → Prop) (I : Nat → S → Prop) (h0 : I 0 s) (hs : ∀ k a s, l[k]? = some a → I k s → ∃ s', step a s = some (.nx s') ∧ I (k + 1) s') (h1 : ∀ s', I l.length s' → G (k s')) : G (after (loop step l s) k q) := by
  obtain ⟨s', e, h⟩ := loop_at I l 0 s h0 fun k a s hk hI => by
    obtain ⟨s', h1, h2⟩ := hs k a s hk (by rwa [Nat.zero_add] at hI)
    exact ⟨s', h1, by rwa [Nat.zero_add]⟩
  rw [Nat.zero_add] at h
  rw [after_nx e]
  exact h1 s' h
theorem compM_map {f : α → Option Bool} {m : α → Option β} {g : α → β} : ∀ {l : List α}, (∀ a ∈ l, f a = some true) → (∀ a ∈ l, m a = some (g a)) → compM f m l = some (l.map g)
  | [], _, _ => rfl
  | a :: as, hf, hm => by
    have ih := compM_map (fun b hb => hf b (List.mem_cons_of_mem _ hb)) fun b hb => hm b (List.mem_cons_of_mem _ hb)
    simp only [compM, hf a List.mem_cons_self, hm a List.mem_cons_self, ih]
    rfl
end
theorem at_nat {α : Type} {l : List α} {i : Int} (h0 : 0 ≤ i) (h : i < l.length) : atI l i = l[i.toNat]? := by
  have hn : i.toNat < l.length := by omega
  rw [List.getElem?_eq_getElem hn]
  have := atI_nat (xs := l) (List.getElem?_eq_getElem hn)
  rwa [Int.toNat_of_nonneg h0] at this
theorem at_some {α : Type} {l : List α} {i : Int} (h0 : 0 ≤ i) (h : i < l.length) : ∃ (hn : i.toNat < l.length), atI l i = some l[i.toNat] := ⟨by omega, by rw [at_nat h0 h, List.getElem?_eq_getElem]⟩
theorem small_of {n : Int} (h : -1000000 ≤ n) (h2 : n ≤ 1000000) : small n = true := decide_eq_true ⟨h, h2⟩
theorem mul_ok {i j : Int} (h : -1000000 ≤ i) (h2 : i ≤ 1000000) : mulOk i j = true := decide_eq_true (.inl ⟨by omega, by omega⟩)
theorem div_ok {j : Int} (h : 0 < j) (h2 : j < 2 ^ 64) : divOk j = true := by
  refine decide_eq_true ⟨h, ?_⟩
  have h3 : j.natAbs < 2 ^ 64 := by omega
  have : j.natAbs.log2 < 64 := by
    rw [Nat.log2_lt (by omega)]
    exact h3
  omega
end Pm
set_option Elab.async false
set_option linter.all false
set_option maxRecDepth 100000
set_option maxHeartbeats 2000000
namespace Pm
open Q DL K98 L2 PySem
theorem cell_is (ns : List Int) {k : Int} (hk : 0 ≤ k) : ∃ c, PF.law_cell ns k = some c := by
  unfold PF.law_cell
  by_cases h : k < (ns.length : Int)
  · rw [if_pos (decide_eq_true h)]
    obtain ⟨hn, e⟩ := at_some hk h
    exact ⟨_, by rw [bnd e]⟩
  · rw [if_neg (by simpa using h)]
    exact ⟨_, rfl⟩
def Drawn (d limits : List Int) : Prop := d.length = limits.length ∧ ∀ (i : Nat) (x y : Int), d[i]? = some x → limits[i]? = some y → 0 ≤ x ∧ x < y
theorem draws_is (cell : Int) {limits : List Int} (hl : limits.length ≤ 1000) (h : ∀ x ∈ limits, 0 < x ∧ x < 2 ^ 64) : ∃ d, PF.law_draws cell limits = some d ∧ Drawn d limits := by
  unfold PF.law_draws
  rw [bnd rfl]
  have e : ∃ s : Int, (if (decide (cell ≥ ((10 : Int) ^ (18 : Int).toNat))) = true then
   (some ((cell - ((10 : Int) ^ (18 : Int).toNat)))).bind fun (rest'5 : Int) =>
   some ((.inl rest'5 : Int ⊕ List Int))
   else
   some (.inl 0)) = some (.inl s) := by
    split
    · exact ⟨_, rfl⟩
    · exact ⟨_, rfl⟩
  obtain ⟨s, e⟩ := e
  rw [thenJ_l e, bnd rfl, bnd rfl]
  refine after_at (fun o => ∃ d, o = some d ∧ Drawn d limits) (fun i (s : Int × List Int × Int) => Drawn s.2.1 (limits.take i)) ⟨rfl, fun i x y h => by cases h⟩ (fun i a s hi hs => ?_) fun s' hs => ⟨_, rfl, by rwa [List.take_length] at hs⟩
  obtain ⟨h1, h2⟩ := h a (List.mem_of_getElem? hi)
  have hil := (List.getElem?_eq_some_iff.mp hi).1
  obtain ⟨hd1, hd2⟩ := hs
  rw [List.length_take, Nat.min_eq_left (by omega)] at hd1
  have et : limits.take (i + 1) = limits.take i ++ [a] := by rw [List.take_add_one, hi]; rfl
  have grow : ∀ z, 0 ≤ z → z < a → Drawn (s.2.1 ++ [z]) (limits.take (i + 1)) := fun z hz hz2 => by
    rw [et]
    refine ⟨by rw [List.length_append, List.length_append, hd1, List.length_take, Nat.min_eq_left (by omega)]; rfl, fun j x y hx hy => ?_⟩
    by_cases hj : j < i
    · rw [List.getElem?_append_left (by omega)] at hx
      rw [List.getElem?_append_left (by rw [List.length_take]; omega)] at hy
      exact hd2 j x y hx hy
    · rw [List.getElem?_append_right (by omega)] at hx
      rw [List.getElem?_append_right (by rw [List.length_take]; omega)] at hy
      rw [hd1] at hx
      rw [List.length_take, Nat.min_eq_left (by omega)] at hy
      cases hz3 : j - i with
      | zero =>
        rw [hz3] at hx hy
        cases hx
        cases hy
        exact ⟨hz, hz2⟩
      | succ m =>
        rw [hz3] at hx
        cases hx
  rw [bnd rfl]
  by_cases hr : s.2.2 > 0
  · refine ⟨((s.1 * 16807 + 10007) % 2147483647, s.2.1 ++ [s.2.2 % a], s.2.2 / a), ?_, grow _ (Int.emod_nonneg _ (by omega)) (Int.emod_lt_of_pos _ h1)⟩
    rw [if_pos (decide_eq_true hr), chk_t (decide_eq_true h1), chk_t (decide_eq_true (by rw [hd1]; omega)), bnd rfl, chk_t (div_ok h1 h2), bnd rfl]
  · refine ⟨((s.1 * 16807 + 10007) % 2147483647, s.2.1 ++ [(s.1 * 16807 + 10007) % 2147483647 / 64 % a], s.2.2), ?_, grow _ (Int.emod_nonneg _ (by omega)) (Int.emod_lt_of_pos _ h1)⟩
    rw [if_neg (by simpa using hr), chk_t (decide_eq_true h1), chk_t (decide_eq_true (by rw [hd1]; omega)), bnd rfl]
end Pm
set_option Elab.async false
set_option linter.all false
set_option maxRecDepth 100000
set_option maxHeartbeats 2000000
namespace K06
open DL K98
end K06
set_option Elab.async false
set_option linter.all false
set_option maxRecDepth 100000
set_option maxHeartbeats 1000000
namespace LA97
abbrev Vec := Nat → Int
abbrev Z (x : Int) : Prop := (97 : Int) ∣ x
theorem Z.add {a b : Int} (h : Z a) (k : Z b) : Z (a + b) := Int.dvd_add h k
theorem Z.sub {a b : Int} (h : Z a) (k : Z b) : Z (a - b) := Int.dvd_sub h k
theorem Z.mulL {a : Int} (h : Z a) (b : Int) : Z (b * a) := Int.dvd_mul_of_dvd_right h
theorem Z.zero : Z 0 := ⟨0, rfl⟩
def comb : List (Int × Vec) → Vec
  | [], _ => 0
  | p :: ps, j => p.1 * p.2 j + comb ps j
theorem comb_perm {ps qs : List (Int × Vec)} (h : ps.Perm qs) (j : Nat) : comb ps j = comb qs j := by
  induction h with
  | nil => rfl
  | cons x _ ih =>
    show x.1 * x.2 j + _ = x.1 * x.2 j + _
    rw [ih]
  | swap x y l =>
    show y.1 * y.2 j + (x.1 * x.2 j + comb l j) = x.1 * x.2 j + (y.1 * y.2 j + comb l j)
    omega
  | trans _ _ h1 h2 => rw [h1, h2]
def Indep (w : Nat) (vs : List Vec) : Prop := ∀ ps : List (Int × Vec), ps.map (·.2) = vs → (∀ j, j < w → Z (comb ps j)) → ∀ p ∈ ps, Z p.1
theorem lift_perm {l m : List Vec} (h : l.Perm m) : ∀ qs : List (Int × Vec), qs.map (·.2) = m → ∃ ps : List (Int × Vec), ps.map (·.2) = l ∧ ps.Perm qs := by
  induction h with
  | nil =>
    intro qs e
    exact ⟨qs, e, .refl _⟩
  | cons x _ ih =>
    intro qs e
    cases qs with
    | nil => cases e
    | cons q qs =>
      obtain ⟨e1, e2⟩ := List.cons.inj e
      obtain ⟨ps, h1, h2⟩ := ih qs e2
      exact ⟨q :: ps, by rw [List.map_cons, h1, show q.2 = x from e1], h2.cons q⟩
  | swap x y l =>
    intro qs e
    match qs, e with
    | a :: b :: t, e =>
      obtain ⟨e1, e2⟩ := List.cons.inj e
      obtain ⟨e3, e4⟩ := List.cons.inj e2
      exact ⟨b :: a :: t, by rw [List.map_cons, List.map_cons, e4, show a.2 = x from e1, show b.2 = y from e3], .swap a b t⟩
  | trans _ _ h1 h2 =>
    intro qs e
    obtain ⟨ps, k1, k2⟩ := h2 qs e
    obtain ⟨rs, k3, k4⟩ := h1 ps k1
    exact ⟨rs, k3, k4.trans k2⟩
theorem Indep.perm {w : Nat} {l m : List Vec} (h : l.Perm m) (i : Indep w l) : Indep w m := fun qs e hz p hp => by
  obtain ⟨ps, h1, h2⟩ := lift_perm h qs e
  exact i ps h1 (fun j hj => by rw [comb_perm h2]; exact hz j hj) p (h2.mem_iff.mpr hp)
def Ech (w : Nat) : List Vec → List Vec → Prop
  | [], _ => True
  | r :: rs, post => (∃ c, c < w ∧ ¬ Z (r c) ∧ ∀ s ∈ rs ++ post, Z (s c)) ∧ Ech w rs post
structure Mid (w : Nat) (rows pre post : List Vec) (c : Nat) : Prop where
  ech : Ech w pre post
  low : ∀ s ∈ post, ∀ j, j < c → Z (s j)
  ind : Indep w (pre ++ post) ↔ Indep w rows
structure Bas (w : Nat) (rows : List Vec) (bs : List (Nat × Vec)) : Prop where
  eqv : ∀ tail, Indep w (rows ++ tail) ↔ Indep w (bs.map (·.2) ++ tail)
  ech : bs.Pairwise fun p q => Z (q.2 p.1)
  one : ∀ p ∈ bs, p.1 < w ∧ ¬ Z (p.2 p.1)
inductive Less (w : Nat) (a : List Vec) : Vec → Vec → Prop
  | refl (v : Vec) : Less w a v v
  | step {v u x : Vec} (l : Vec) (c : Int) (hl : l ∈ a) (h : ∀ j, j < w → Z (u j - (v j - c * l j))) (t : Less w a u x) : Less w a v x
end LA97
set_option Elab.async false
set_option linter.all false
set_option maxRecDepth 100000
set_option maxHeartbeats 1000000
namespace LA97
end LA97
set_option Elab.async false
set_option linter.all false
set_option maxRecDepth 100000
set_option maxHeartbeats 1000000
namespace K00
open LA97
abbrev Row := List Int
def vec (r : Row) : Vec := fun j => r.getD j 0
structure Bs (W w : Nat) (bs : List (Nat × Row)) : Prop where
  len : ∀ b ∈ bs, b.2.length = W
  one : ∀ b ∈ bs, b.1 < w ∧ Z (vec b.2 b.1 - 1)
  ech : bs.Pairwise fun p q => Z (vec q.2 p.1)
end K00
set_option Elab.async false
set_option linter.all false
set_option maxRecDepth 100000
set_option maxHeartbeats 1000000
namespace K00
open LA97
end K00
set_option Elab.async false
set_option linter.all false
set_option maxRecDepth 100000
set_option maxHeartbeats 1000000
namespace K00
open LA97
structure Cnt (w : Nat) (rows : List Row) (st : List Row × Nat) (c : Nat) : Prop where
  len : st.1.length = rows.length
  done : st.2 ≤ rows.length
  wid : ∀ r ∈ st.1, r.length = w
  mid : Mid w (rows.map vec) ((st.1.take st.2).map vec) ((st.1.drop st.2).map vec) c
end K00
set_option Elab.async false
set_option linter.all false
set_option maxRecDepth 100000
set_option maxHeartbeats 2000000
namespace Pm
open Q DL K98 L2 PySem K06 K00 LA97
end Pm
set_option Elab.async false
set_option linter.all false
set_option maxRecDepth 100000
set_option maxHeartbeats 1000000
namespace K03
open LA97 K00 DL
def ext (n : Nat) (os : List (List Int)) : List (List Int) := os.flatMap fun o => ((rng 0 n).filter fun k => !decide (k ∈ o)).map fun k => o ++ [k]
def ordK (n : Nat) : Nat → List (List Int)
  | 0 => [[]]
  | k + 1 => ext n (ordK n k)
def ords (n : Nat) : List (List Int) := ordK n n
structure Ord (n k : Nat) (o : List Int) : Prop where
  len : o.length = k
  nd : o.Nodup
  low : ∀ x ∈ o, 0 ≤ x ∧ x < (n : Int)
def inv : List Int → Nat
  | [] => 0
  | x :: t => (t.filter fun y => decide (y < x)).length + inv t
def sg (o : List Int) : Int := 1 - 2 * ((inv o % 2 : Nat) : Int)
def tm : List Row → List Int → Int
  | r :: rs, c :: o => vec r c.toNat * tm rs o
  | _, _ => 1
def sumZ {α : Type} (f : α → Int) : List α → Int
  | [] => 0
  | a :: l => f a + sumZ f l
theorem sumZ_perm {α : Type} {f : α → Int} {l m : List α} (h : l.Perm m) : sumZ f l = sumZ f m := by
  induction h with
  | nil => rfl
  | cons x _ ih =>
    show f x + _ = f x + _
    rw [ih]
  | swap x y l =>
    show f y + (f x + sumZ f l) = f x + (f y + sumZ f l)
    omega
  | trans _ _ h1 h2 => rw [h1, h2]
theorem sumZ_map {α β : Type} {f : β → Int} {g : α → β} {l : List α} : sumZ f (l.map g) = sumZ (fun a => f (g a)) l := by
  induction l with
  | nil => rfl
  | cons a l ih =>
    show f (g a) + _ = f (g a) + _
    rw [ih]
theorem sumZ_cong {α : Type} {f g : α → Int} {l : List α} (H : ∀ a ∈ l, Z (f a - g a)) : Z (sumZ f l - sumZ g l) := by
  induction l with
  | nil => exact Z.zero
  | cons a l ih =>
    have e : sumZ f (a :: l) - sumZ g (a :: l) = (f a - g a) + (sumZ f l - sumZ g l) := by
      show f a + sumZ f l - (g a + sumZ g l) = _
      omega
    rw [e]
    exact (H a List.mem_cons_self).add (ih fun b hb => H b (List.mem_cons_of_mem _ hb))
def Dt (n : Nat) (rows : List Row) : Int := sumZ (fun o => sg o * tm rows o) (ords n)
inductive Cg (n : Nat) : List Row → List Row → Prop
  | nil : Cg n [] []
  | cons {a b : Row} {p q : List Row} (h : ∀ j, j < n → Z (vec a j - vec b j)) (t : Cg n p q) : Cg n (a :: p) (b :: q)
theorem Cg.refl {n : Nat} : ∀ rows : List Row, Cg n rows rows
  | [] => .nil
  | a :: p => .cons (fun j _ => by rw [Int.sub_self]; exact Z.zero) (Cg.refl p)
theorem Cg.app {n : Nat} {p q r s : List Row} (h : Cg n p q) (k : Cg n r s) : Cg n (p ++ r) (q ++ s) := by
  induction h with
  | nil => exact k
  | cons a _ ih => exact .cons a ih
def pm (k : Nat) : Int := if k % 2 = 0 then 1 else -1
end K03
set_option Elab.async false
set_option linter.all false
set_option maxRecDepth 100000
set_option maxHeartbeats 1000000
namespace K03
open LA97 K00 DL
theorem sumZ_filter {α : Type} {f : α → Int} {p : α → Bool} {l : List α} (h : ∀ a ∈ l, p a = false → Z (f a)) : Z (sumZ f l - sumZ f (l.filter p)) := by
  induction l with
  | nil => exact Z.zero
  | cons a l ih =>
    have ih := ih fun b hb => h b (List.mem_cons_of_mem _ hb)
    rw [List.filter_cons]
    cases hp : p a with
    | true =>
      rw [if_pos rfl]
      have e : sumZ f (a :: l) - sumZ f (a :: l.filter p) = sumZ f l - sumZ f (l.filter p) := by
        show f a + sumZ f l - (f a + sumZ f (l.filter p)) = _
        omega
      rw [e]
      exact ih
    | false =>
      rw [if_neg (by decide)]
      have e : sumZ f (a :: l) - sumZ f (l.filter p) = f a + (sumZ f l - sumZ f (l.filter p)) := by
        show f a + sumZ f l - sumZ f (l.filter p) = _
        omega
      rw [e]
      exact (h a List.mem_cons_self hp).add ih
def up (t : List Int) : List Int := 0 :: t.map (· + 1)
def H : List Int → Nat → Int
  | [], 0 => 1
  | [], _ + 1 => 0
  | _ :: _, 0 => 1
  | y :: Y, k + 1 => y * H (y :: Y) k + H Y (k + 1)
end K03
set_option Elab.async false
set_option linter.all false
set_option maxRecDepth 100000
set_option maxHeartbeats 4000000
namespace K02
open LA97 K03
abbrev Vc := Nat → Int
def unit (j : Nat) : Vc := fun i => if i = j then 1 else 0
structure Ch (n : Nat) (cs : Nat → List (List Nat)) : Prop where
  nd : ∀ k, (cs k).Nodup
  mem : ∀ k C, C ∈ cs k ↔ C.length = k ∧ C.Pairwise (· < ·) ∧ ∀ x ∈ C, x < n
def mn : List Vc → List Nat → Int
  | [], _ => 1
  | r :: rs, C => sumZ (fun t => pm (C.length - 1 - t) * r (C.getD t 0) * mn rs (C.eraseIdx t)) (List.range C.length)
structure Alt (n k : Nat) (F : List Vc → Int) : Prop where
  lin : ∀ (p q : List Vc) (r u v : Vc) (x y : Int), (p ++ r :: q).length = k → (∀ j, j < n → r j = x * u j + y * v j) → Z (F (p ++ r :: q) - (x * F (p ++ u :: q) + y * F (p ++ v :: q)))
  alt : ∀ (p m q : List Vc) (a : Vc), (p ++ a :: (m ++ a :: q)).length = k → Z (F (p ++ a :: (m ++ a :: q)))
section
variable {n k : Nat} {F : List Vc → Int}
theorem sumZ_flat {α β : Type} {f : β → Int} {g : α → List β} : ∀ l : List α, sumZ f (l.flatMap g) = sumZ (fun a => sumZ f (g a)) l
  | [] => rfl
  | a :: l => by
    have app : ∀ (p q : List β), sumZ f (p ++ q) = sumZ f p + sumZ f q := fun p q => by
      induction p with
      | nil => show sumZ f q = 0 + sumZ f q; omega
      | cons b p ih => show f b + sumZ f (p ++ q) = (f b + sumZ f p) + sumZ f q; rw [ih]; omega
    rw [List.flatMap_cons, app, sumZ_flat l]
    rfl
theorem Alt.snoc (A : Alt n (k + 1) F) (e : Vc) : Alt n k fun rs => F (rs ++ [e]) where
  lin := fun p q r u v x y hl hr => by
    have h := A.lin p (q ++ [e]) r u v x y (by simp at hl ⊢; omega) hr
    simpa using h
  alt := fun p m q a hl => by
    have h := A.alt p m (q ++ [e]) a (by simp at hl ⊢; omega)
    simpa using h
theorem Alt.swap (A : Alt n k F) (p q : List Vc) (a b : Vc) (hl : (p ++ a :: b :: q).length = k) : Z (F (p ++ a :: b :: q) + F (p ++ b :: a :: q)) := by
  have l2 : ∀ x y : Vc, (p ++ x :: (y :: q)).length = k := fun x y => by simpa using hl
  have l1 : ∀ x y : Vc, ((p ++ [x]) ++ y :: q).length = k := fun x y => by simpa using hl
  let s : Vc := fun j => a j + b j
  have h0 : Z (F (p ++ s :: ([] ++ s :: q))) := A.alt p [] q s (by simpa using hl)
  have h1 := A.lin p (s :: q) s a b 1 1 (l2 s s) fun j _ => by show a j + b j = 1 * a j + 1 * b j; omega
  have h2 := A.lin (p ++ [a]) q s a b 1 1 (l1 a s) fun j _ => by show a j + b j = 1 * a j + 1 * b j; omega
  have h3 := A.lin (p ++ [b]) q s a b 1 1 (l1 b s) fun j _ => by show a j + b j = 1 * a j + 1 * b j; omega
  have ha : Z (F (p ++ a :: ([] ++ a :: q))) := A.alt p [] q a (by simpa using hl)
  have hb : Z (F (p ++ b :: ([] ++ b :: q))) := A.alt p [] q b (by simpa using hl)
  simp only [List.append_assoc, List.singleton_append, List.nil_append, Int.one_mul] at h0 h1 h2 h3 ha hb
  unfold Z at *
  omega
theorem Alt.move (A : Alt n k F) : ∀ (q p : List Vc) (a : Vc), (p ++ (q ++ [a])).length = k → Z (F (p ++ (q ++ [a])) - pm q.length * F (p ++ a :: q))
  | [], p, a, _ => by
    show Z (F (p ++ [a]) - pm 0 * F (p ++ [a]))
    rw [show pm 0 = 1 from rfl, Int.one_mul, Int.sub_self]
    exact Z.zero
  | b :: q, p, a, hl => by
    have h1 := Alt.move A q (p ++ [b]) a (by simpa using hl)
    have h2 := A.swap p q b a (by simp at hl ⊢; omega)
    simp only [List.append_assoc, List.singleton_append, List.cons_append, List.nil_append] at h1 ⊢
    have hp : pm (b :: q).length = - pm q.length := by
      unfold pm
      rw [List.length_cons]
      split <;> split <;> omega
    rw [hp]
    have hc : pm q.length = 1 ∨ pm q.length = -1 := by
      unfold pm
      split
      · exact Or.inl rfl
      · exact Or.inr rfl
    unfold Z at *
    rcases hc with hc | hc <;> rw [hc] at h1 ⊢
    · omega
    · omega
theorem Alt.units (A : Alt n k F) (p q : List Vc) (r : Vc) (hl : (p ++ r :: q).length = k) : Z (F (p ++ r :: q) - sumZ (fun j => r j * F (p ++ unit j :: q)) (List.range n)) := by
  have lr : ∀ x : Vc, (p ++ x :: q).length = k := fun x => by simpa using hl
  -- the row cut to its first m numbers
  have key : ∀ m, m ≤ n → Z (F (p ++ (fun i => if i < m then r i else 0) :: q) - sumZ (fun j => r j * F (p ++ unit j :: q)) (List.range m)) := fun m => by
    induction m with
    | zero =>
      intro _
      have h := A.lin p q (fun i => if i < 0 then r i else 0) r r 0 0 (lr _) fun j _ => by
        show (if j < 0 then r j else 0) = 0 * r j + 0 * r j
        rw [if_neg (Nat.not_lt_zero j)]
        omega
      show Z (_ - 0)
      unfold Z at *
      omega
    | succ m ih =>
      intro hm
      have h1 := ih (by omega)
      have h2 := A.lin p q (fun i => if i < m + 1 then r i else 0) (fun i => if i < m then r i else 0) (unit m) 1 (r m) (lr _) fun j _ => by
        show (if j < m + 1 then r j else 0) = 1 * (if j < m then r j else 0) + r m * (if j = m then 1 else 0)
        by_cases h : j < m
        · rw [if_pos (by omega), if_pos h, if_neg (by omega)]
          omega
        · by_cases e : j = m
          · rw [e, if_pos (by omega), if_neg (by omega), if_pos rfl]
            omega
          · rw [if_neg (by omega), if_neg h, if_neg e]
            omega
      have app : sumZ (fun j => r j * F (p ++ unit j :: q)) (List.range (m + 1)) = sumZ (fun j => r j * F (p ++ unit j :: q)) (List.range m) + r m * F (p ++ unit m :: q) := by
        have gen : ∀ (l : List Nat) (f : Nat → Int), sumZ f (l ++ [m]) = sumZ f l + f m := fun l f => by
          induction l with
          | nil => show f m + 0 = 0 + f m; omega
          | cons b l ih => show f b + sumZ f (l ++ [m]) = (f b + sumZ f l) + f m; rw [ih]; omega
        rw [List.range_succ]
        exact gen _ _
      rw [app]
      rw [Int.one_mul] at h2
      unfold Z at *
      omega
  have h1 := key n (Nat.le_refl n)
  have h2 := A.lin p q r (fun i => if i < n then r i else 0) r 1 0 hl fun j hj => by
    show r j = 1 * (if j < n then r j else 0) + 0 * r j
    rw [if_pos hj]
    omega
  rw [Int.one_mul, Int.zero_mul] at h2
  unfold Z at *
  omega
theorem sumZ_fil {α : Type} {f : α → Int} {p : α → Bool} {l : List α} (h : ∀ a ∈ l, p a = false → Z (f a)) : Z (sumZ f l - sumZ f (l.filter p)) := K03.sumZ_filter h
theorem sumZ_mul {α : Type} {f : α → Int} {x : Int} {l : List α} : sumZ (fun a => x * f a) l = x * sumZ f l := by
  induction l with
  | nil => show (0 : Int) = x * 0; omega
  | cons a l ih =>
    show x * f a + sumZ (fun a => x * f a) l = x * (f a + sumZ f l)
    rw [ih, Int.mul_add]
theorem split_at {j : Nat} : ∀ {C : List Nat}, C.Pairwise (· < ·) → j ∉ C → ∃ A B, C = A ++ B ∧ (∀ a ∈ A, a < j) ∧ ∀ b ∈ B, j < b
  | [], _, _ => ⟨[], [], rfl, fun a h => absurd h List.not_mem_nil, fun a h => absurd h List.not_mem_nil⟩
  | c :: C, h, hj => by
    obtain ⟨h1, h2⟩ := List.pairwise_cons.mp h
    have hc : j ≠ c := fun e => hj (by rw [e]; exact List.mem_cons_self)
    by_cases hlt : c < j
    · obtain ⟨A, B, rfl, hA, hB⟩ := split_at h2 fun m => hj (List.mem_cons_of_mem _ m)
      refine ⟨c :: A, B, rfl, fun a ha => ?_, hB⟩
      rcases List.mem_cons.mp ha with rfl | ha
      · exact hlt
      · exact hA a ha
    · refine ⟨[], c :: C, rfl, fun a h => absurd h List.not_mem_nil, fun b hb => ?_⟩
      rcases List.mem_cons.mp hb with rfl | hb
      · omega
      · have := h1 b hb
        omega
theorem er_at {A B : List Nat} {j : Nat} : (A ++ j :: B).eraseIdx A.length = A ++ B := by
  rw [List.eraseIdx_eq_take_drop_succ]
  simp
theorem at_split {C : List Nat} {t : Nat} (ht : t < C.length) : C = C.take t ++ C[t] :: C.drop (t + 1) := by
  conv => lhs; rw [← List.take_append_drop t C, List.drop_eq_getElem_cons ht]
theorem asc_eq : ∀ {C D : List Nat}, C.Pairwise (· < ·) → D.Pairwise (· < ·) → (∀ x, x ∈ C ↔ x ∈ D) → C = D
  | [], [], _, _, _ => rfl
  | [], d :: D, _, _, h => absurd ((h d).mpr List.mem_cons_self) List.not_mem_nil
  | c :: C, [], _, _, h => absurd ((h c).mp List.mem_cons_self) List.not_mem_nil
  | c :: C, d :: D, hc, hd, h => by
    obtain ⟨c1, c2⟩ := List.pairwise_cons.mp hc
    obtain ⟨d1, d2⟩ := List.pairwise_cons.mp hd
    have e : c = d := by
      have h1 := (h c).mp List.mem_cons_self
      have h2 := (h d).mpr List.mem_cons_self
      rcases List.mem_cons.mp h1 with h1 | h1
      · exact h1
      rcases List.mem_cons.mp h2 with h2 | h2
      · exact h2.symm
      have := d1 c h1
      have := c1 d h2
      omega
    subst e
    rw [asc_eq c2 d2 fun x => ?_]
    constructor
    · intro hx
      have := c1 x hx
      rcases List.mem_cons.mp ((h x).mp (List.mem_cons_of_mem _ hx)) with e | e
      · omega
      · exact e
    · intro hx
      have := d1 x hx
      rcases List.mem_cons.mp ((h x).mpr (List.mem_cons_of_mem _ hx)) with e | e
      · omega
      · exact e
theorem pairs_perm {cs : Nat → List (List Nat)} (hc : Ch n cs) (k : Nat) :
    (((List.range n).flatMap fun j => (cs k).map fun C => (C, j)).filter fun x => !decide (x.2 ∈ x.1)).Perm (((cs (k + 1)).flatMap fun C => (List.range C.length).map fun t => (C, t)).map fun x => (x.1.eraseIdx x.2, x.1.getD x.2 0)) := by
  refine (List.perm_ext_iff_of_nodup ?_ ?_).mpr fun x => ?_
  · refine List.Pairwise.filter _ ?_
    show List.Pairwise _ _
    rw [List.pairwise_flatMap]
    refine ⟨fun j _ => ?_, (List.nodup_range (n := n)).imp fun {a b} hab x hx y hy e => ?_⟩
    · rw [List.pairwise_map]
      exact (hc.nd k).imp fun {a b} hab e => hab (Prod.mk.inj e).1
    · obtain ⟨_, _, rfl⟩ := List.mem_map.mp hx
      obtain ⟨_, _, rfl⟩ := List.mem_map.mp hy
      exact hab (Prod.mk.inj e).2
  · show List.Pairwise _ _
    rw [List.pairwise_map, List.pairwise_flatMap]
    have good : ∀ C ∈ cs (k + 1), ∀ t, t < C.length → C.getD t 0 = C[t]! ∧ (∀ x, x ∈ C ↔ x = C.getD t 0 ∨ x ∈ C.eraseIdx t) := fun C _ t ht => by
      have e1 : C.getD t 0 = C[t] := by rw [List.getD_eq_getElem?_getD, List.getElem?_eq_getElem ht]; rfl
      refine ⟨by rw [e1, getElem!_pos C t ht], fun x => ?_⟩
      rw [e1, List.eraseIdx_eq_take_drop_succ]
      conv => lhs; rw [at_split ht]
      rw [List.mem_append, List.mem_cons, List.mem_append]
      constructor
      · rintro (h | h | h)
        · exact Or.inr (Or.inl h)
        · exact Or.inl h
        · exact Or.inr (Or.inr h)
      · rintro (h | h | h)
        · exact Or.inr (Or.inl h)
        · exact Or.inl h
        · exact Or.inr (Or.inr h)
    refine ⟨fun C hC => ?_, (hc.nd (k + 1)).imp_of_mem fun {C D} hC hD hCD x hx y hy e => ?_⟩
    · rw [List.pairwise_map]
      refine (List.pairwise_lt_range (n := C.length)).imp_of_mem fun {s t} hs ht hst e => ?_
      have hs := List.mem_range.mp hs
      have ht := List.mem_range.mp ht
      have e2 := (Prod.mk.inj e).2
      have e2 : C.getD s 0 = C.getD t 0 := e2
      rw [List.getD_eq_getElem?_getD, List.getD_eq_getElem?_getD, List.getElem?_eq_getElem hs, List.getElem?_eq_getElem ht] at e2
      have := List.pairwise_iff_getElem.mp ((hc.mem (k + 1) C).mp hC).2.1 s t hs ht hst
      have e2 : C[s] = C[t] := e2
      omega
    · obtain ⟨s, hs, rfl⟩ := List.mem_map.mp hx
      obtain ⟨t, ht, rfl⟩ := List.mem_map.mp hy
      have hs := List.mem_range.mp hs
      have ht := List.mem_range.mp ht
      obtain ⟨e1, e2⟩ := Prod.mk.inj e
      have e1 : C.eraseIdx s = D.eraseIdx t := e1
      have e2 : C.getD s 0 = D.getD t 0 := e2
      refine hCD (asc_eq ((hc.mem (k + 1) C).mp hC).2.1 ((hc.mem (k + 1) D).mp hD).2.1 fun x => ?_)
      rw [(good C hC s hs).2 x, (good D hD t ht).2 x, e1, e2]
  · constructor
    · intro hx
      obtain ⟨hx, hn⟩ := List.mem_filter.mp hx
      obtain ⟨j, hj, hx⟩ := List.mem_flatMap.mp hx
      obtain ⟨C, hC, rfl⟩ := List.mem_map.mp hx
      have hj := List.mem_range.mp hj
      have hn : j ∉ C := by simpa using hn
      obtain ⟨l1, l2, l3⟩ := (hc.mem k C).mp hC
      obtain ⟨A, B, rfl, hA, hB⟩ := split_at l2 hn
      obtain ⟨pA, pB, pAB⟩ := List.pairwise_append.mp l2
      refine List.mem_map.mpr ⟨(A ++ j :: B, A.length), List.mem_flatMap.mpr ⟨A ++ j :: B, (hc.mem (k + 1) _).mpr ⟨?_, ?_, fun x hx => ?_⟩, List.mem_map.mpr ⟨A.length, List.mem_range.mpr ?_, rfl⟩⟩, ?_⟩
      · simp at l1 ⊢
        omega
      · rw [List.pairwise_append]
        refine ⟨pA, List.pairwise_cons.mpr ⟨hB, pB⟩, fun a ha b hb => ?_⟩
        rcases List.mem_cons.mp hb with rfl | hb
        · exact hA a ha
        · exact pAB a ha b hb
      · rcases List.mem_append.mp hx with hx | hx
        · exact l3 x (List.mem_append_left _ hx)
        rcases List.mem_cons.mp hx with rfl | hx
        · exact hj
        · exact l3 x (List.mem_append_right _ hx)
      · simp
      · show ((A ++ j :: B).eraseIdx A.length, (A ++ j :: B).getD A.length 0) = (A ++ B, j)
        rw [er_at, List.getD_eq_getElem?_getD, List.getElem?_append_right (Nat.le_refl _), Nat.sub_self]
        rfl
    · intro hx
      obtain ⟨y, hy, rfl⟩ := List.mem_map.mp hx
      obtain ⟨C, hC, hy⟩ := List.mem_flatMap.mp hy
      obtain ⟨t, ht, rfl⟩ := List.mem_map.mp hy
      have ht := List.mem_range.mp ht
      obtain ⟨l1, l2, l3⟩ := (hc.mem (k + 1) C).mp hC
      have e1 : C.getD t 0 = C[t] := by rw [List.getD_eq_getElem?_getD, List.getElem?_eq_getElem ht]; rfl
      have e2 : C.eraseIdx t = C.take t ++ C.drop (t + 1) := List.eraseIdx_eq_take_drop_succ C t
      have l2' := l2
      rw [at_split ht, List.pairwise_append, List.pairwise_cons] at l2'
      obtain ⟨q1, ⟨q2, q3⟩, q4⟩ := l2'
      refine List.mem_filter.mpr ⟨List.mem_flatMap.mpr ⟨C[t], List.mem_range.mpr (l3 _ (List.getElem_mem ht)), List.mem_map.mpr ⟨C.eraseIdx t, (hc.mem k _).mpr ⟨?_, ?_, fun x hx => ?_⟩, by rw [e1]⟩⟩, ?_⟩
      · rw [List.length_eraseIdx, if_pos ht]
        omega
      · rw [e2, List.pairwise_append]
        exact ⟨q1, q3, fun a ha b hb => q4 a ha b (List.mem_cons_of_mem _ hb)⟩
      · exact l3 x ((List.eraseIdx_sublist C t).subset hx)
      · show (!decide (C.getD t 0 ∈ C.eraseIdx t)) = true
        rw [e1, e2]
        have : C[t] ∉ C.take t ++ C.drop (t + 1) := fun hm => by
          rcases List.mem_append.mp hm with hm | hm
          · have := q4 _ hm C[t] List.mem_cons_self
            omega
          · have := q2 _ hm
            omega
        simpa using this
theorem alg (a m p f : Int) : a * m * (p * f) = f * (p * a * m) := by
  rw [Int.mul_comm f, Int.mul_assoc a m, Int.mul_left_comm m p f, Int.mul_left_comm a p, Int.mul_assoc p a m, Int.mul_assoc p (a * m) f, Int.mul_assoc a m f]
theorem ch_zero {cs : Nat → List (List Nat)} (hc : Ch n cs) : cs 0 = [[]] := by
  have h0 : ([] : List Nat) ∈ cs 0 := (hc.mem 0 []).mpr ⟨rfl, .nil, fun x h => absurd h List.not_mem_nil⟩
  have ha : ∀ C ∈ cs 0, C = [] := fun C h => List.eq_nil_of_length_eq_zero ((hc.mem 0 C).mp h).1
  have nd := hc.nd 0
  cases h : cs 0 with
  | nil => rw [h] at h0; cases h0
  | cons c l =>
    rw [h] at ha nd
    cases l with
    | nil => rw [ha c List.mem_cons_self]
    | cons d l =>
      have e1 := ha c List.mem_cons_self
      have e2 := ha d (List.mem_cons_of_mem _ List.mem_cons_self)
      rw [e1, e2] at nd
      exact absurd List.mem_cons_self (List.nodup_cons.mp nd).1
theorem Alt.minors {cs : Nat → List (List Nat)} (hc : Ch n cs) : ∀ (rs : List Vc) {F : List Vc → Int}, Alt n rs.length F → Z (F rs.reverse - sumZ (fun C => mn rs C * F (C.map unit)) (cs rs.length))
  | [], F, _ => by
    show Z (F [] - sumZ (fun C => mn [] C * F (C.map unit)) (cs 0))
    rw [ch_zero hc]
    show Z (F [] - (1 * F [] + 0))
    rw [Int.one_mul, Int.add_zero, Int.sub_self]
    exact Z.zero
  | r :: rs, F, A => by
    have A : Alt n (rs.length + 1) F := A
    -- the last row by its numbers
    have h1 := A.units rs.reverse [] r (by simp)
    -- each by the other rows' minors
    have h2 : Z (sumZ (fun j => r j * F (rs.reverse ++ [unit j])) (List.range n) - sumZ (fun x => r x.2 * (mn rs x.1 * F (x.1.map unit ++ [unit x.2]))) ((List.range n).flatMap fun j => (cs rs.length).map fun C => (C, j))) := by
      rw [sumZ_flat]
      refine sumZ_cong fun j _ => ?_
      rw [sumZ_map]
      show Z (r j * F (rs.reverse ++ [unit j]) - sumZ (fun C => r j * (mn rs C * F (C.map unit ++ [unit j]))) (cs rs.length))
      rw [sumZ_mul, ← Int.mul_sub]
      exact (Alt.minors hc rs (A.snoc (unit j))).mulL (r j)
    -- no column twice
    have h3 := sumZ_fil (f := fun x : List Nat × Nat => r x.2 * (mn rs x.1 * F (x.1.map unit ++ [unit x.2]))) (p := fun x => !decide (x.2 ∈ x.1)) (l := (List.range n).flatMap fun j => (cs rs.length).map fun C => (C, j)) fun x hx hp => by
      have hm : x.2 ∈ x.1 := by simpa using hp
      obtain ⟨j, _, hx⟩ := List.mem_flatMap.mp hx
      obtain ⟨C, hC, rfl⟩ := List.mem_map.mp hx
      obtain ⟨P, Q, e⟩ := List.append_of_mem hm
      have e : C = P ++ j :: Q := e
      have hl := ((hc.mem _ C).mp hC).1
      have ha := A.alt (P.map unit) (Q.map unit) [] (unit j) (by rw [e] at hl; simp at hl ⊢; omega)
      refine ((Z.mulL ?_ _).mulL _)
      show Z (F (C.map unit ++ [unit j]))
      rw [e, List.map_append, List.map_cons, List.append_assoc]
      exact ha
    rw [sumZ_perm (pairs_perm hc rs.length), sumZ_map] at h3
    have h4 : Z (sumZ (fun x : List Nat × Nat => r (x.1.getD x.2 0) * (mn rs (x.1.eraseIdx x.2) * F ((x.1.eraseIdx x.2).map unit ++ [unit (x.1.getD x.2 0)]))) ((cs (rs.length + 1)).flatMap fun C => (List.range C.length).map fun t => (C, t)) - sumZ (fun C => mn (r :: rs) C * F (C.map unit)) (cs (rs.length + 1))) := by
      rw [sumZ_flat]
      refine sumZ_cong fun C hC => ?_
      rw [sumZ_map]
      have hl := ((hc.mem _ C).mp hC).1
      have e : mn (r :: rs) C * F (C.map unit) = sumZ (fun t => F (C.map unit) * (pm (C.length - 1 - t) * r (C.getD t 0) * mn rs (C.eraseIdx t))) (List.range C.length) := by
        rw [sumZ_mul, Int.mul_comm]
        rfl
      rw [e]
      refine sumZ_cong fun t ht => ?_
      have ht := List.mem_range.mp ht
      have e1 : C.getD t 0 = C[t] := by rw [List.getD_eq_getElem?_getD, List.getElem?_eq_getElem ht]; rfl
      have hm := A.move ((C.drop (t + 1)).map unit) ((C.take t).map unit) (unit C[t]) (by simp; omega)
      have ec : C.map unit = (C.take t).map unit ++ unit C[t] :: (C.drop (t + 1)).map unit := by
        conv => lhs; rw [at_split ht]
        rw [List.map_append, List.map_cons]
      have ee : (C.eraseIdx t).map unit ++ [unit C[t]] = (C.take t).map unit ++ ((C.drop (t + 1)).map unit ++ [unit C[t]]) := by
        rw [List.eraseIdx_eq_take_drop_succ, List.map_append, List.append_assoc]
      rw [List.length_map, List.length_drop, ← ee, ← ec] at hm
      show Z (r (C.getD t 0) * (mn rs (C.eraseIdx t) * F ((C.eraseIdx t).map unit ++ [unit (C.getD t 0)])) - F (C.map unit) * (pm (C.length - 1 - t) * r (C.getD t 0) * mn rs (C.eraseIdx t)))
      rw [e1, show C.length - 1 - t = C.length - (t + 1) by omega]
      have := hm.mulL (r C[t] * mn rs (C.eraseIdx t))
      have e3 : r C[t] * mn rs (C.eraseIdx t) * (F ((C.eraseIdx t).map unit ++ [unit C[t]]) - pm (C.length - (t + 1)) * F (C.map unit)) = r C[t] * (mn rs (C.eraseIdx t) * F ((C.eraseIdx t).map unit ++ [unit C[t]])) - F (C.map unit) * (pm (C.length - (t + 1)) * r C[t] * mn rs (C.eraseIdx t)) := by
        rw [Int.mul_sub]
        congr 1
        · rw [Int.mul_assoc]
        · exact alg _ _ _ _
      rw [e3] at this
      exact this
    show Z (F ((r :: rs).reverse) - sumZ (fun C => mn (r :: rs) C * F (C.map unit)) (cs (rs.length + 1)))
    rw [List.reverse_cons]
    have h1 : Z (F (rs.reverse ++ [r]) - sumZ (fun j => r j * F (rs.reverse ++ [unit j])) (List.range n)) := h1
    have := ((h1.add h2).add h3).add h4
    refine (show ∀ a b c d e : Int, Z (a - b + (b - c) + (c - d) + (d - e)) → Z (a - e) from fun a b c d e h => ?_) _ _ _ _ _ this
    rw [show a - b + (b - c) + (c - d) + (d - e) = a - e by omega] at h
    exact h
end
end K02
set_option Elab.async false
set_option linter.all false
set_option maxRecDepth 100000
set_option maxHeartbeats 4000000
namespace K02
open LA97 K00 K03
def tl (s : Vec) : Vec := fun j => s (j + 1)
def cut (n : Nat) (v : Vec) : Row := (List.range n).map v
def dt (n : Nat) (vs : List Vec) : Int := Dt n (vs.map (cut n))
end K02
set_option Elab.async false
set_option linter.all false
set_option maxRecDepth 100000
set_option maxHeartbeats 2000000
namespace Pm
open PySem hiding step
open Q DL K98 L2 K06 K00 LA97 K03
theorem cut_lo {α : Type} {r : List α} {k : Nat} (h : k ≤ r.length) : cutA r none (some (k : Int)) = r.take k := by
  unfold cutA
  rw [HT.sIx_nat, HT.sIx_none, Nat.sub_zero, List.drop_zero, Nat.min_eq_left h]
theorem cut_hi {α : Type} {r : List α} {k : Nat} (h : k ≤ r.length) : cutA r (some (k : Int)) none = r.drop k := by
  unfold cutA
  rw [HT.sIx_nat, HT.sIx_none, Nat.min_eq_left h]
  exact List.take_of_length_le (by rw [List.length_drop]; exact Nat.le_refl _)
end Pm
set_option Elab.async false
set_option linter.all false
set_option maxRecDepth 100000
set_option maxHeartbeats 4000000
namespace Pm
open PySem hiding step
open Q DL K98 L2
theorem loop_app {α β Q : Type} {step : α → List β → Option (Ctl (List β) Q)} {g : α → List β} {m N : Nat} : ∀ (l : List α) (s0 : List β), s0.length + l.length * m ≤ N → (∀ a ∈ l, (g a).length ≤ m) → (∀ a ∈ l, ∀ s : List β, s.length + m ≤ N → step a s = some (.nx (s ++ g a))) → loop step l s0 = some (.nx (s0 ++ l.flatMap g))
  | [], s0, _, _, _ => by
    rw [List.flatMap_nil, List.append_nil]
    rfl
  | a :: l, s0, h, hg, hs => by
    rw [List.length_cons, Nat.add_mul] at h
    have h1 := hs a List.mem_cons_self s0 (by omega)
    have h2 := hg a List.mem_cons_self
    have ih := loop_app (step := step) (g := g) (m := m) (N := N) l (s0 ++ g a) (by rw [List.length_append]; omega) (fun b hb => hg b (List.mem_cons_of_mem _ hb)) fun b hb => hs b (List.mem_cons_of_mem _ hb)
    unfold loop
    rw [h1]
    show loop step l (s0 ++ g a) = _
    rw [ih, List.flatMap_cons, List.append_assoc]
end Pm
set_option Elab.async false
set_option linter.all false
set_option maxRecDepth 100000
set_option maxHeartbeats 4000000
namespace Pm
open PySem hiding step
open Q DL K98 L2
theorem loop_all {α S R : Type} {step : α → S → Option (Ctl S R)} {r : R} (I : Nat → S → Prop) (good : Nat → Prop) : ∀ (l : List α) (j : Nat) (s : S), I j s → (∀ i a s, l[i]? = some a → I (j + i) s → (good (j + i) → ∃ s', step a s = some (.nx s') ∧ I (j + i + 1) s') ∧ (¬good (j + i) → step a s = some (.rt r))) →
    (∃ s', loop step l s = some (.nx s') ∧ I (j + l.length) s' ∧ ∀ i, i < l.length → good (j + i)) ∨ (loop step l s = some (.rt r) ∧ ∃ i, i < l.length ∧ ¬good (j + i))
  | [], j, s, h, _ => .inl ⟨s, rfl, h, fun i hi => absurd hi (Nat.not_lt_zero _)⟩
  | a :: l, j, s, h, hs => by
    obtain ⟨g1, g2⟩ := hs 0 a s rfl h
    by_cases hg : good (j + 0)
    · obtain ⟨s1, e1, h1⟩ := g1 hg
      rcases loop_all I good l (j + 1) s1 h1 fun i b t hb hI => by
        have := hs (i + 1) b t (by rw [List.getElem?_cons_succ]; exact hb) (by rw [show j + (i + 1) = j + 1 + i by omega]; exact hI)
        rwa [show j + (i + 1) = j + 1 + i by omega] at this with ⟨s2, e2, h2, h3⟩ | ⟨e2, i, hi, hb⟩
      · refine .inl ⟨s2, by rw [loop_cons e1, e2], by rw [List.length_cons, show j + (l.length + 1) = j + 1 + l.length by omega]; exact h2, fun i hi => ?_⟩
        cases i with
        | zero => exact hg
        | succ i =>
          have := h3 i (by rw [List.length_cons] at hi; omega)
          rwa [show j + 1 + i = j + (i + 1) by omega] at this
      · exact .inr ⟨by rw [loop_cons e1, e2], i + 1, by rw [List.length_cons]; omega, by rw [show j + (i + 1) = j + 1 + i by omega]; exact hb⟩
    · exact .inr ⟨loop_rt (g2 hg), 0, by rw [List.length_cons]; omega, hg⟩
end Pm
set_option Elab.async false
set_option linter.all false
set_option maxRecDepth 100000
set_option maxHeartbeats 4000000
namespace Pm
open PySem hiding step
open Q DL K98 L2 SrtT
abbrev Dic := List ((Int × Int) × Int)
def WEB (n : Nat) (D : Dic) : PF.Ty_Web := (((), (n : Int)), D)
theorem at_snoc {α : Type} {l : List α} {a : α} : L2.atI (l ++ [a]) (-(1 : Int)) = some a := by
  unfold L2.atI L2.ixN
  rw [if_neg (by omega), if_pos (by rw [List.length_append, List.length_singleton]; omega)]
  show (l ++ [a])[(-(1 : Int) + ((l ++ [a]).length : Int)).toNat]? = _
  have e : (-(1 : Int) + ((l ++ [a]).length : Int)).toNat = l.length := by
    rw [List.length_append, List.length_singleton]
    omega
  rw [e, List.getElem?_append_right (Nat.le_refl _), Nat.sub_self]
  rfl
def stD (l : List (Int × Int × Int)) : Dic := l.map fun s => ((s.1, s.2.1), s.2.2)
def SOk (n : Nat) (l : List (Int × Int × Int)) : Prop := (∀ s ∈ l, (0 ≤ s.1 ∧ s.1 < (n : Int)) ∧ (0 ≤ s.2.1 ∧ s.2.1 < (n : Int)) ∧ s.1 ≠ s.2.1) ∧ (l.map fun s => (s.1, s.2.1)).Nodup
abbrev stK : Int × Int × Int → List Int := fun c => [c.1, c.2.1, c.2.2]
theorem dc_new : ∀ {l : List (Int × Int × Int)} {acc : Dic}, (acc.map (·.1) ++ l.map fun s => (s.1, s.2.1)).Nodup →
    dcX (fun (_ : Int × Int × Int) => some true) (fun (y : Int × Int × Int) => (some ((y.1, y.2.1)))) (fun (y : Int × Int × Int) => (some (y.2.2))) l acc = some (acc ++ stD l)
  | [], acc, _ => by
    show some acc = some (acc ++ [])
    rw [List.append_nil]
  | s :: l, acc, h => by
    have hn : (acc.find? fun c => decide (c.1 = (s.1, s.2.1))) = none := by
      rw [List.find?_eq_none]
      intro c hc
      rw [List.nodup_append] at h
      have := h.2.2 c.1 (List.mem_map.mpr ⟨c, hc, rfl⟩) (s.1, s.2.1) (by simp)
      simpa using this
    have ep : putX acc (s.1, s.2.1) s.2.2 = acc ++ [((s.1, s.2.1), s.2.2)] := by
      unfold putX getX
      rw [hn]
      rfl
    show dcX _ _ _ l (putX acc (s.1, s.2.1) s.2.2) = _
    rw [ep, dc_new (l := l) (by simpa using h), List.append_assoc]
    rfl
section
variable {n : Nat} {made : List (Int × Int × Int)}
theorem web_is {l : List (Int × Int × Int)} (hn : n ≤ 12) (h : SOk n l) (hl : l.length < 100000) : PF.Web___init__ n l = some (WEB n (stD (sortL stK l))) := by
  have hp := sortL_perm stK l
  unfold PF.Web___init__
  rw [if_neg (by simp; omega)]
  refine after_at (fun o => o = _) (fun _ _ => True) trivial (fun i s u hi _ => ⟨(), ?_, trivial⟩) fun s' _ => ?_
  · obtain ⟨⟨a1, a2⟩, ⟨b1, b2⟩, c1⟩ := h.1 s (List.mem_of_getElem? hi)
    rw [if_neg (by simp; omega)]
  · have hl2 : (sortL stK l).length = l.length := hp.length_eq
    rw [bnd rfl, chk_t (decide_eq_true (by rw [hl2]; exact hl)), bnd (dc_new (l := sortL stK l) (acc := []) (by
      rw [List.map_nil, List.nil_append]
      exact (hp.map _).nodup_iff.mpr h.2)), bnd rfl]
    rw [if_neg (by
      show ¬ decide ((([] ++ stD (sortL stK l)).length : Int) < (l.length : Int)) = true
      unfold stD
      simp [hl2])]
    rfl
theorem at_ex {α : Type} {l : List α} {i : Int} (h0 : 0 ≤ i) (h : i < l.length) : ∃ x, atI l i = some x := by
  obtain ⟨hn, e⟩ := at_some h0 h
  exact ⟨_, e⟩
theorem rep2_len {a b : Int} {n : Nat} : (repL [a, b] (n : Int)).length = 2 * n ∧ ∀ x ∈ repL [a, b] (n : Int), x = a ∨ x = b := by
  unfold repL
  rw [Int.toNat_natCast]
  constructor
  · induction n with
    | zero => rfl
    | succ n ih =>
      rw [List.replicate_succ, List.flatten_cons, List.length_append, ih]
      show 2 + 2 * n = _
      omega
  · intro x hx
    obtain ⟨l, hl, hx⟩ := List.mem_flatten.mp hx
    rw [(List.mem_replicate.mp hl).2] at hx
    simpa using hx
def StO (n i j : Nat) (l : List (Int × Int × Int)) : Prop := SOk n l ∧ (∀ s ∈ l, s.1 < (i : Int) ∨ (s.1 = (i : Int) ∧ s.2.1 < (j : Int))) ∧ l.length ≤ i * n + j
theorem sto_next {n i : Nat} {l : List (Int × Int × Int)} (h : StO n i n l) : StO n (i + 1) 0 l := ⟨h.1, fun s hs => by
  have h1 := (h.1.1 s hs).2.1.2
  rcases h.2.1 s hs with q | ⟨q, _⟩
  · exact .inl (by omega)
  · exact .inl (by omega), by
  have := h.2.2
  rw [Nat.add_mul]
  omega⟩
theorem sto_skip {n i j : Nat} {l : List (Int × Int × Int)} (h : StO n i j l) : StO n i (j + 1) l := ⟨h.1, fun s hs => by
  rcases h.2.1 s hs with q | ⟨q, q2⟩
  · exact .inl q
  · exact .inr ⟨q, by omega⟩, by
  have := h.2.2
  omega⟩
theorem sto_add {n i j : Nat} {l : List (Int × Int × Int)} {w : Int} (h : StO n i j l) (hi : i < n) (hj : j < n) (hne : i ≠ j) : StO n i (j + 1) (l ++ [((i : Int), (j : Int), w)]) := by
  refine ⟨⟨fun s hs => ?_, ?_⟩, fun s hs => ?_, ?_⟩
  · rcases List.mem_append.mp hs with q | q
    · exact h.1.1 s q
    · rw [List.mem_singleton.mp q]
      exact ⟨⟨by show (0 : Int) ≤ (i : Int); omega, by show (i : Int) < _; omega⟩, ⟨by show (0 : Int) ≤ (j : Int); omega, by show (j : Int) < _; omega⟩, by show ¬ (i : Int) = (j : Int); omega⟩
  · rw [List.map_append, List.nodup_append]
    refine ⟨h.1.2, by simp, fun a ha b hb => ?_⟩
    obtain ⟨s, hs, rfl⟩ := List.mem_map.mp ha
    rw [List.mem_singleton.mp hb]
    intro e
    have e1 : s.1 = (i : Int) := congrArg Prod.fst e
    have e2 : s.2.1 = (j : Int) := congrArg Prod.snd e
    rcases h.2.1 s hs with q | ⟨q, q2⟩
    · omega
    · omega
  · rcases List.mem_append.mp hs with q | q
    · rcases h.2.1 s q with q | ⟨q, q2⟩
      · exact .inl q
      · exact .inr ⟨q, by omega⟩
    · rw [List.mem_singleton.mp q]
      exact .inr ⟨rfl, by show (j : Int) < _; omega⟩
  · have := h.2.2
    rw [List.length_append, List.length_singleton]
    omega
theorem sub_lenI {l : List Int} : ∀ {m : List Int}, l.Nodup → (∀ x ∈ l, x ∈ m) → l.length ≤ m.length := by
  induction l with
  | nil => intro m _ _; exact Nat.zero_le _
  | cons a l ih =>
    intro m hn h
    rw [List.nodup_cons] at hn
    have ha := h a List.mem_cons_self
    have := ih (m := m.erase a) hn.2 fun x hx => (List.mem_erase_of_ne fun z => hn.1 (by rw [← z]; exact hx)).mpr (h x (List.mem_cons_of_mem _ hx))
    rw [List.length_erase_of_mem ha] at this
    have hm : 0 < m.length := List.length_pos_of_mem ha
    rw [List.length_cons]
    omega
theorem out_count {n : Nat} {l : List (Int × Int × Int)} (h : SOk n l) (q : Int) : (l.filter fun s => decide (s.1 = q)).length ≤ n := by
  have h1 : ((l.filter fun s => decide (s.1 = q)).map fun s => s.2.1).Nodup := by
    have h2 := h.2
    rw [List.Nodup, List.pairwise_map] at h2 ⊢
    refine (h2.filter _).imp_of_mem fun {a b} ha hb hab e => hab ?_
    have ha := of_decide_eq_true (List.mem_filter.mp ha).2
    have hb := of_decide_eq_true (List.mem_filter.mp hb).2
    rw [ha, hb, e]
  have h2 : ((l.filter fun s => decide (s.1 = q)).map fun s => s.2.1).length ≤ (rng 0 n).length := by
    refine sub_lenI h1 fun x hx => ?_
    obtain ⟨s, hs, rfl⟩ := List.mem_map.mp hx
    have := (h.1 s (List.mem_filter.mp hs).1).2.1
    exact mem_rng.mpr ⟨this.1, by omega⟩
  rwa [List.length_map, rng_len] at h2
def stL (s : Int × Int × Int) : List Int := [s.1, s.2.1, s.2.2]
def StP (n i j : Nat) (l : List (Int × Int × Int)) : Prop := StO n i j l ∧ l.Pairwise fun a b => lexB (stL b) (stL a) = false
theorem stp_next {n i : Nat} {l : List (Int × Int × Int)} (h : StP n i n l) : StP n (i + 1) 0 l := ⟨sto_next h.1, h.2⟩
theorem stp_skip {n i j : Nat} {l : List (Int × Int × Int)} (h : StP n i j l) : StP n i (j + 1) l := ⟨sto_skip h.1, h.2⟩
theorem stp_add {n i j : Nat} {l : List (Int × Int × Int)} {w : Int} (h : StP n i j l) (hi : i < n) (hj : j < n) (hne : i ≠ j) : StP n i (j + 1) (l ++ [((i : Int), (j : Int), w)]) := by
  refine ⟨sto_add h.1 hi hj hne, List.pairwise_append.mpr ⟨h.2, List.pairwise_singleton _ _, fun a ha b hb => ?_⟩⟩
  rw [List.mem_singleton.mp hb]
  show lexB [(i : Int), (j : Int), w] [a.1, a.2.1, a.2.2] = false
  rcases h.1.2.1 a ha with q | ⟨q, q2⟩
  · unfold lexB
    rw [if_neg (by omega)]
    exact decide_eq_false (by omega)
  · unfold lexB
    rw [if_pos q.symm]
    unfold lexB
    rw [if_neg (by omega)]
    exact decide_eq_false (by omega)
theorem steps56 {n : Nat} (hn : n ≤ 12) {share : Int} {large : Bool} (ns : List Int) : ∃ l, PF.law_steps ns (n : Int) share large = some l ∧ SOk n l ∧ l.length ≤ n * n ∧ l.Pairwise fun a b => lexB (stL b) (stL a) = false := by
  unfold PF.law_steps
  rw [bnd rfl, chk_t (small_of (by omega) (by omega)), Int.toNat_natCast]
  refine after_at (fun o => ∃ l, o = some l ∧ SOk n l ∧ l.length ≤ n * n ∧ l.Pairwise fun a b => lexB (stL b) (stL a) = false) (fun i s => StP n i 0 s) ⟨⟨⟨fun s hs => (by cases hs), .nil⟩, fun s hs => (by cases hs), Nat.zero_le _⟩, .nil⟩ (fun i u s hi hI => ?_) fun s' hI => ?_
  · have hlt := (List.getElem?_eq_some_iff.mp hi).1
    rw [rng_len] at hlt
    rw [rng_get hlt, Int.zero_add] at hi
    obtain rfl := Option.some.inj hi
    obtain ⟨cell, ec⟩ := cell_is ns (k := 1 + (i : Int)) (by omega)
    obtain ⟨r1, r2⟩ := rep2_len (a := 6) (b := 7) (n := n)
    have hrep : repOk ([(6 : Int), (7 : Int)] : List Int) (n : Int) = true := decide_eq_true ⟨⟨by omega, by omega⟩, by show 2 * (n : Int).toNat ≤ _; omega⟩
    obtain ⟨d, ed, hd⟩ := draws_is cell (limits := repL [6, 7] (n : Int)) (by omega) (fun x hx => by rcases r2 x hx with rfl | rfl <;> decide)
    rw [bnd ec, chk_t hrep, bnd ed, bnd rfl, chk_t (small_of (by omega) (by omega))]
    refine after_at (fun o => ∃ s', o = some (Ctl.nx s') ∧ StP n (i + 1) 0 s') (fun j t => StP n i j t) hI (fun j v t hj hJ => ?_) fun t hJ => ⟨t, rfl, ?_⟩
    · have hjt := (List.getElem?_eq_some_iff.mp hj).1
      rw [rng_len] at hjt
      rw [rng_get hjt, Int.zero_add] at hj
      obtain rfl := Option.some.inj hj
      have hdl : d.length = 2 * n := hd.1.trans r1
      by_cases hne : (i : Int) = (j : Int)
      · refine ⟨t, ?_, stp_skip hJ⟩
        rw [bnd (a := false) (by rw [if_neg (by simp [hne])]), if_neg (by decide)]
      · obtain ⟨x, ex⟩ := at_ex (l := d) (i := 2 * (j : Int)) (by omega) (by omega)
        obtain ⟨y, ey⟩ := at_ex (l := d) (i := 2 * (j : Int) + 1) (by omega) (by omega)
        rw [bnd (a := decide (x < share)) (by rw [if_pos (by simp [hne]), bnd ex])]
        by_cases hs : x < share
        · have hy : -10 ≤ y - 3 ∧ y - 3 ≤ 10 := by
            obtain ⟨hn2, ey2⟩ := at_some (l := d) (i := 2 * (j : Int) + 1) (by omega) (by omega)
            rw [ey2] at ey
            have hl2 : (2 * (j : Int) + 1).toNat < (repL [(6 : Int), 7] (n : Int)).length := by rw [← hd.1]; exact hn2
            have := hd.2 _ _ _ ((List.getElem?_eq_getElem hn2).trans ey) (List.getElem?_eq_getElem hl2)
            have h7 := r2 _ (List.getElem_mem hl2)
            rcases h7 with h7 | h7 <;> rw [h7] at this <;> omega
          obtain ⟨w, ej⟩ : ∃ w : Int, (if large = true then
             (chk (mulOk (y - 3) (((10 : Int) ^ (12 : Int).toNat) + (i : Int)))).bind fun _ =>
             (some ((((y - 3) * (((10 : Int) ^ (12 : Int).toNat) + (i : Int))) + (j : Int)))).bind fun (worth'29 : Int) =>
             some (.inl worth'29)
             else
             some (.inl (y - 3))) = some (.inl w : Int ⊕ Ctl (List (Int × Int × Int)) (List (Int × Int × Int))) := by
            cases large with
            | true => exact ⟨_, by rw [if_pos rfl, chk_t (mul_ok (by omega) (by omega)), bnd rfl]⟩
            | false => exact ⟨_, by rw [if_neg (by decide)]⟩
          refine ⟨t ++ [((i : Int), (j : Int), w)], ?_, stp_add hJ hlt hjt (by omega)⟩
          have hb := hJ.1.2.2
          have : i * n ≤ 12 * 12 := Nat.mul_le_mul (by omega) hn
          rw [if_pos (decide_eq_true hs), bnd ey, bnd rfl, thenJ_l ej, chk_t (decide_eq_true (by omega)), bnd rfl]
        · refine ⟨t, ?_, stp_skip hJ⟩
          rw [if_neg (by simpa using hs)]
    · rw [rng_len] at hJ
      exact stp_next hJ
  · rw [rng_len] at hI
    exact ⟨s', rfl, hI.1.1, by have := hI.1.2.2; omega, hI.2⟩
def swS (s : Int × Int × Int) : Int × Int × Int := (s.2.1, s.1, s.2.2)
theorem sok_swp (h : SOk n made) : SOk n (made.map swS) := by
  refine ⟨fun s hs => ?_, ?_⟩
  · obtain ⟨t, ht, rfl⟩ := List.mem_map.mp hs
    obtain ⟨h1, h2, h3⟩ := h.1 t ht
    exact ⟨h2, h1, fun e => h3 e.symm⟩
  · have hn := h.2
    rw [List.map_map]
    unfold List.Nodup at hn ⊢
    rw [List.pairwise_map] at hn ⊢
    refine hn.imp fun {a b} k e => k ?_
    have e : (a.2.1, a.1) = (b.2.1, b.1) := e
    have e1 : a.2.1 = b.2.1 := (Prod.mk.inj e).1
    have e2 : a.1 = b.1 := (Prod.mk.inj e).2
    show (a.1, a.2.1) = (b.1, b.2.1)
    rw [e1, e2]
theorem invert_is (hn : n ≤ 12) (h : SOk n made) (hl : made.length < 100000) : PF.Web___invert__ (WEB n (stD made)) = some (WEB n (stD (sortL stK (made.map swS)))) := by
  unfold PF.Web___invert__
  have hlen : (WEB n (stD made)).2.length = made.length := by
    show (stD made).length = _
    unfold stD
    rw [List.length_map]
  have e : (WEB n (stD made)).2.map (fun (y'1 : (Int × Int) × Int) => (y'1.1.2, y'1.1.1, y'1.2)) = made.map swS := by
    show (stD made).map _ = _
    unfold stD
    rw [List.map_map]
    rfl
  rw [chk_t (decide_eq_true (by rw [hlen]; exact hl)), e, show (WEB n (stD made)).1.2 = (n : Int) from rfl, bnd (web_is hn (sok_swp h) (by rw [List.length_map]; exact hl))]
theorem steps_is (hl : made.length < 100000) : PF.Web_steps (WEB n (stD made)) = some made := by
  unfold PF.Web_steps
  have hlen : (WEB n (stD made)).2.length = made.length := by
    show (stD made).length = _
    unfold stD
    rw [List.length_map]
  rw [chk_t (decide_eq_true (by rw [hlen]; exact hl))]
  refine congrArg some ?_
  show (stD made).map _ = _
  unfold stD
  rw [List.map_map]
  exact List.map_id' _
theorem d_len : (stD made).length = made.length := by
  unfold stD
  rw [List.length_map]
theorem after_is {p : Int} (hl : made.length < 100000) : PF.Web_after (WEB n (stD made)) p = some ((made.filter fun s => decide (s.1 = p)).map fun s => (s.2.1, s.2.2)) := by
  unfold PF.Web_after
  rw [chk_t (decide_eq_true (by show (stD made).length < _; rw [d_len]; exact hl))]
  show some (((stD made).filter _).map _) = _
  unfold stD
  rw [List.filter_map, List.map_map]
  rfl
theorem before_is {p : Int} (hl : made.length < 100000) : PF.Web_before (WEB n (stD made)) p = some ((made.filter fun s => decide (s.2.1 = p)).map fun s => (s.1, s.2.2)) := by
  unfold PF.Web_before
  rw [chk_t (decide_eq_true (by show (stD made).length < _; rw [d_len]; exact hl))]
  show some (((stD made).filter _).map _) = _
  unfold stD
  rw [List.filter_map, List.map_map]
  rfl
theorem step_is {u v : Int} : ∀ {l : List (Int × Int × Int)}, PF.law_step l u v = some (getX (stD l) (u, v))
  | [] => rfl
  | s :: l => by
    have ih := step_is (u := u) (v := v) (l := l)
    by_cases h : s.1 = u ∧ s.2.1 = v
    · have e : getX (stD (s :: l)) (u, v) = some s.2.2 := by
        unfold getX stD
        rw [List.map_cons, List.find?_cons_of_pos (by simp [h.1, h.2])]
        rfl
      rw [e]
      unfold PF.law_step
      rw [after_rt (loop_rt (by rw [if_pos (by simp [h.1, h.2])]))]
    · have e : getX (stD (s :: l)) (u, v) = getX (stD l) (u, v) := by
        unfold getX stD
        rw [List.map_cons, List.find?_cons_of_neg (by simpa using h)]
      rw [e, ← ih]
      unfold PF.law_step
      rw [loop_cons (s1 := ()) (by rw [if_neg (by simpa using h)])]
theorem right_is (hn : n ≤ 12) (hl : made.length < 100000) : PF.law_right (WEB n (stD made)) (n : Int) made = some true := by
  unfold PF.law_right
  rw [bnd (a := false) (by
    rw [if_neg (by simp [WEB]), bnd (a := false) (by
      rw [if_neg (by decide), bnd (a := false) (by rw [if_neg (by decide), bnd (steps_is hl), decide_eq_true rfl]; rfl)])]), if_neg (by decide), chk_t (small_of (by omega) (by omega)), Int.toNat_natCast]
  refine after_at (fun o => o = some true) (fun _ _ => True) trivial (fun i p u hi _ => ⟨(), ?_, trivial⟩) fun s' _ => ?_
  · rw [chk_t (decide_eq_true hl), bnd rfl, chk_t (decide_eq_true hl), bnd rfl, bnd (after_is hl), bnd (a := false) (by
      rw [if_neg (by rw [decide_eq_true rfl]; decide), bnd (before_is hl), decide_eq_true rfl]; rfl), if_neg (by decide)]
  · rw [chk_t (small_of (by omega) (by omega))]
    refine after_at (fun o => o = some true) (fun _ _ => True) trivial (fun i p u hi _ => ⟨(), ?_, trivial⟩) fun s' _ => rfl
    rw [chk_t (small_of (by omega) (by omega))]
    refine after_at (fun o => o = some (Ctl.nx ())) (fun _ _ => True) trivial (fun j q u hj _ => ⟨(), ?_, trivial⟩) fun s' _ => rfl
    rw [bnd (show PF.Web_worth_of (WEB n (stD made)) p q = some (getX (stD made) (p, q)) from rfl), bnd rfl, bnd (a := false) (by
      rw [if_neg (by decide), bnd step_is, decide_eq_true rfl]; rfl), if_neg (by decide)]
end
end Pm
set_option Elab.async false
set_option linter.all false
set_option maxRecDepth 100000
set_option maxHeartbeats 4000000
namespace Pm
open PySem hiding step
open Q DL K98 L2 SrtT
def lastI (y : List Int) : Int := (L2.atI y (-(1 : Int))).getD 0
def extW (made : List (Int × Int × Int)) (y : List Int) : List (List Int) := (made.filter fun s => decide (s.1 = lastI y) && !decide (s.2.1 ∈ y)).map fun s => y ++ [s.2.1]
def WS (n : Nat) (made : List (Int × Int × Int)) : Nat → List (List Int)
  | 0 => (rng 0 n).map fun p => ([p] : List Int)
  | k + 1 => (WS n made k).flatMap (extW made)
section
variable {n : Nat} {made : List (Int × Int × Int)}
theorem ws_shape : ∀ (k : Nat), ∀ y ∈ WS n made k, y.length = k + 1
  | 0, y, h => by
    obtain ⟨p, _, rfl⟩ := List.mem_map.mp h
    rfl
  | k + 1, y, h => by
    obtain ⟨z, hz, h⟩ := List.mem_flatMap.mp h
    obtain ⟨s, _, rfl⟩ := List.mem_map.mp h
    rw [List.length_append, ws_shape k z hz]
    rfl
theorem last_at {y : List Int} {k : Nat} (h : y.length = k + 1) : L2.atI y (-(1 : Int)) = some (lastI y) := by
  have hne : y ≠ [] := fun z => by rw [z] at h; cases h
  obtain ⟨l, a, rfl⟩ : ∃ l a, y = l ++ [a] := ⟨y.dropLast, y.getLast hne, (List.dropLast_concat_getLast hne).symm⟩
  unfold lastI
  rw [at_snoc]
  rfl
theorem ext_len (h : SOk n made) (y : List Int) : (extW made y).length ≤ n := by
  refine Nat.le_trans ?_ (out_count h (lastI y))
  unfold extW
  rw [List.length_map]
  have : (made.filter fun s => (decide (s.1 = lastI y) && !decide (s.2.1 ∈ y))) = (made.filter fun s => decide (s.1 = lastI y)).filter fun s => !decide (s.2.1 ∈ y) := by
    rw [List.filter_filter]
    exact List.filter_congr fun s _ => Bool.and_comm _ _
  rw [this]
  exact List.length_filter_le _ _
theorem ws_len (h : SOk n made) (hn : n ≤ 6) : ∀ k, (WS n made k).length ≤ 6 * 6 ^ k
  | 0 => by
    show ((rng 0 n).map _).length ≤ _
    rw [List.length_map, rng_len]
    omega
  | k + 1 => by
    have ih := ws_len h hn k
    have fl : ∀ l : List (List Int), (l.flatMap (extW made)).length ≤ l.length * 6 := fun l => by
      induction l with
      | nil => exact Nat.le_refl _
      | cons a l ih2 =>
        rw [List.flatMap_cons, List.length_append, List.length_cons]
        have := ext_len h a
        omega
    have := fl (WS n made k)
    show ((WS n made k).flatMap _).length ≤ _
    rw [Nat.pow_succ]
    omega
theorem ws_nil {k : Nat} (h : WS n made k = []) : ∀ d, WS n made (k + d) = []
  | 0 => h
  | d + 1 => by
    show (WS n made (k + d)).flatMap _ = []
    rw [ws_nil h d]
    rfl
theorem comp2_flat {α β γ : Type} {f : α → Option Bool} {cs : α → Option (List γ)} {f1 : α → γ → Option Bool} {m : α → γ → Option β} {c : α → List γ} {g : α → List β} : ∀ {l : List α}, (∀ a ∈ l, f a = some true) → (∀ a ∈ l, cs a = some (c a)) → (∀ a ∈ l, compM (f1 a) (m a) (c a) = some (g a)) → comp2 f cs f1 m l = some (l.flatMap g)
  | [], _, _, _ => rfl
  | a :: as, hf, hc, hm => by
    have ih := comp2_flat (fun b hb => hf b (List.mem_cons_of_mem _ hb)) (fun b hb => hc b (List.mem_cons_of_mem _ hb)) fun b hb => hm b (List.mem_cons_of_mem _ hb)
    simp only [comp2, hf a List.mem_cons_self, hc a List.mem_cons_self, hm a List.mem_cons_self, ih]
    rfl
theorem compM_filt {α β : Type} {f : α → Option Bool} {m : α → Option β} {p : α → Bool} {g : α → β} : ∀ {l : List α}, (∀ a ∈ l, f a = some (p a)) → (∀ a ∈ l, m a = some (g a)) → compM f m l = some ((l.filter p).map g)
  | [], _, _ => rfl
  | a :: as, hf, hm => by
    have ih := compM_filt (fun b hb => hf b (List.mem_cons_of_mem _ hb)) fun b hb => hm b (List.mem_cons_of_mem _ hb)
    cases hp : p a with
    | true => simp [compM, hf a List.mem_cons_self, hp, hm a List.mem_cons_self, ih]
    | false => simp [compM, hf a List.mem_cons_self, hp, ih]
theorem grow_is (hl : made.length < 100000) {k : Nat} (hk : k ≤ 5) : comp2 (fun (y'15 : List Int) => some true) (fun (y'15 : List Int) => ((L2.atI y'15 (-(1 : Int))).bind fun x_17 =>
     (PF.Web_after (WEB n (stD made)) x_17).bind fun x_19 =>
     some (x_19))) (fun (y'15 : List Int) (z'21 : Int × Int) => (some ((!decide (z'21.1 ∈ y'15))))) (fun (y'15 : List Int) (z'21 : Int × Int) => ((chk (decide (y'15.length + ([z'21.1] : List Int).length ≤ 100000))).bind fun _ =>
     some ((y'15 ++ ([z'21.1] : List Int))))) (WS n made k) = some (WS n made (k + 1)) := by
  refine comp2_flat (c := fun y => (made.filter fun s => decide (s.1 = lastI y)).map fun s => (s.2.1, s.2.2)) (g := extW made) (fun _ _ => rfl) (fun y hy => ?_) fun y hy => ?_
  · rw [bnd (last_at (ws_shape k y hy)), bnd (after_is hl)]
  · rw [compM_filt (p := fun (z : Int × Int) => !decide (z.1 ∈ y)) (g := fun (z : Int × Int) => y ++ [z.1]) (fun _ _ => rfl) fun z _ => chk_t (decide_eq_true (by rw [ws_shape k y hy]; simp; omega))]
    unfold extW
    rw [List.filter_map, List.map_map, List.filter_filter]
    refine congrArg some ?_
    have : (made.filter fun s => (decide (s.1 = lastI y) && !decide (s.2.1 ∈ y))) = made.filter fun s => (((fun z : Int × Int => !decide (z.1 ∈ y)) ∘ fun s : Int × Int × Int => (s.2.1, s.2.2)) s && decide (s.1 = lastI y)) := List.filter_congr fun s _ => Bool.and_comm _ _
    rw [this]
    rfl
abbrev cnW (count' : Int) : List (List Int) → Option Bool := fun s'8 => (((if (!s'8.isEmpty) = true then ((L2.atI s'8 (0 : Int)).bind fun x_9 =>
 some ((decide ((x_9.length : Int) < count')))) else some false)).bind fun b_12 =>
 some (b_12))
abbrev stW (n : Nat) (made : List (Int × Int × Int)) : List (List Int) → Option (Ctl (List (List Int)) (List (List Int))) := fun s'8 =>
 (comp2 (fun (y'15 : List Int) => some true) (fun (y'15 : List Int) => ((L2.atI y'15 (-(1 : Int))).bind fun x_17 =>
 (PF.Web_after (WEB n (stD made)) x_17).bind fun x_19 =>
 some (x_19))) (fun (y'15 : List Int) (z'21 : Int × Int) => (some ((!decide (z'21.1 ∈ y'15))))) (fun (y'15 : List Int) (z'21 : Int × Int) => ((chk (decide (y'15.length + ([z'21.1] : List Int).length ≤ 100000))).bind fun _ =>
 some ((y'15 ++ ([z'21.1] : List Int))))) s'8).bind fun xs_27 =>
 (chk (decide (xs_27.length < 100000))).bind fun _ =>
 (some (xs_27)).bind fun (ways'30 : List (List Int)) =>
 some (.nx ways'30)
theorem cn_is {k : Nat} {count : Int} (hne : WS n made k ≠ []) : cnW count (WS n made k) = some (decide (((k : Int) + 1) < count)) := by
  cases hw : WS n made k with
  | nil => exact absurd hw hne
  | cons y l =>
    have hy := ws_shape k y (by rw [hw]; exact List.mem_cons_self)
    unfold cnW
    have e : L2.atI (y :: l) (0 : Int) = some y := atI_nat (j := 0) rfl
    rw [bnd (a := decide (((k : Int) + 1) < count)) (by
      rw [if_pos (show (!(y :: l).isEmpty) = true from rfl), bnd e, hy]
      exact congrArg (fun b => some b) (decide_eq_decide.mpr (by omega)))]
theorem wl_stop {S R : Type} {cn : S → Option Bool} {st : S → Option (Ctl S R)} {m : Nat} {s : S} (h : cn s = some false) : wloop cn st (m + 1) s = some (.nx s) := by
  unfold wloop
  rw [h]
theorem wl_go {S R : Type} {cn : S → Option Bool} {st : S → Option (Ctl S R)} {m : Nat} {s s' : S} (h : cn s = some true) (h2 : st s = some (.nx s')) : wloop cn st (m + 1) s = wloop cn st m s' := by
  rw [wloop, h]
  dsimp only
  rw [h2]
theorem loop_ways (h : SOk n made) (hn : n ≤ 6) (hl : made.length < 100000) {c : Nat} (hc : c ≤ 2) : ∀ (d k : Nat), k + d = c → ∀ m, d < m → ∃ r, wloop (cnW ((c + 1 : Nat) : Int)) (stW n made) m (WS n made k) = some (.nx r) ∧ r.length < 100000 ∧ ((r.filter fun (y : List Int) => decide ((y.length : Int) = ((c + 1 : Nat) : Int))).map fun (y : List Int) => y) = WS n made c
  | d, k, hkd, 0, hm => absurd hm (Nat.not_lt_zero _)
  | d, k, hkd, m + 1, hm => by
    have lk : ∀ j, j ≤ 3 → (WS n made j).length < 100000 := fun j hj => by
      have h1 := ws_len h hn j
      have : 6 ^ j ≤ 6 ^ 3 := Nat.pow_le_pow_right (by omega) hj
      omega
    by_cases hne : WS n made k = []
    · refine ⟨[], ?_, by decide, ?_⟩
      · rw [hne]
        exact wl_stop rfl
      · rw [← hkd, ws_nil hne d]
        rfl
    · cases d with
      | zero =>
        obtain rfl : k = c := hkd
        refine ⟨WS n made k, wl_stop ?_, lk _ (by omega), ?_⟩
        · rw [cn_is hne, decide_eq_false (by omega)]
        · rw [List.filter_eq_self.mpr fun y hy => decide_eq_true (by rw [ws_shape k y hy])]
          exact List.map_id' _
      | succ d =>
        obtain ⟨r, e1, e2, e3⟩ := loop_ways h hn hl hc d (k + 1) (by omega) m (by omega)
        refine ⟨r, ?_, e2, e3⟩
        rw [wl_go (s' := WS n made (k + 1)) (by rw [cn_is hne, decide_eq_true (by omega)]) (by
          unfold stW
          rw [bnd (grow_is hl (by omega)), chk_t (decide_eq_true (lk _ (by omega))), bnd rfl]), e1]
theorem all_ways_s (h : SOk n made) (hn : n ≤ 6) (hl : made.length < 100000) {c : Nat} (hc : c ≤ 2) : PF.Web_all_ways (WEB n (stD made)) ((c + 1 : Nat) : Int) = some (WS n made c) := by
  obtain ⟨r, e1, e2, e3⟩ := loop_ways h hn hl hc c 0 (by omega) 1000000 (by omega)
  unfold PF.Web_all_ways
  show (chk (small (n : Int))).bind _ = _
  rw [chk_t (small_of (by omega) (by omega)), chk_t (decide_eq_true (by rw [rng_len]; show (n : Int).toNat < _; omega)), bnd rfl]
  rw [after_nx (s := r) (by exact e1), chk_t (decide_eq_true e2), e3]
theorem all_ways_0 (hn : n ≤ 6) : PF.Web_all_ways (WEB n (stD made)) 0 = some [] := by
  unfold PF.Web_all_ways
  show (chk (small (n : Int))).bind _ = _
  rw [chk_t (small_of (by omega) (by omega)), chk_t (decide_eq_true (by rw [rng_len]; show (n : Int).toNat < _; omega)), bnd rfl]
  have e1 : wloop (cnW 0) (stW n made) 1000000 (WS n made 0) = some (.nx (WS n made 0)) := by
    by_cases hne : WS n made 0 = []
    · rw [hne]
      exact wl_stop rfl
    · exact wl_stop (by rw [cn_is hne, decide_eq_false (by omega)])
  have hlen : (WS n made 0).length = n := by
    show ((rng 0 n).map _).length = _
    rw [List.length_map, rng_len]
  rw [after_nx (s := WS n made 0) (by exact e1), chk_t (decide_eq_true (by rw [hlen]; omega))]
  rw [List.filter_eq_nil_iff.mpr fun y hy => by
    rw [ws_shape 0 y hy]
    decide]
  rfl
theorem flat_if {α β : Type} {p : α → Bool} {g : α → β} : ∀ l : List α, (l.flatMap fun a => if p a = true then [g a] else []) = (l.filter p).map g
  | [] => rfl
  | a :: l => by
    rw [List.flatMap_cons, flat_if l]
    cases hp : p a with
    | true => rw [if_pos rfl, List.filter_cons_of_pos hp]; rfl
    | false => rw [if_neg (by decide), List.filter_cons_of_neg (by rw [hp]; decide)]; rfl
theorem law_ways_s (h : SOk n made) (hn : n ≤ 6) (hl : made.length ≤ 144) {c : Nat} (hc : c ≤ 2) : PF.law_ways made (n : Int) ((c + 1 : Nat) : Int) = some (WS n made c) := by
  unfold PF.law_ways
  rw [bnd rfl, thenJ_l (s := WS n made 0) (by
    rw [if_pos (decide_eq_true (by omega)), chk_t (small_of (by omega) (by omega)), Int.toNat_natCast, chk_t (decide_eq_true (by rw [rng_len]; omega)), bnd rfl]
    rfl), chk_t (small_of (by omega) (by omega))]
  have ec : (((c + 1 : Nat) : Int) - 1).toNat = c := by omega
  rw [ec]
  refine after_at (fun o => o = some (WS n made c)) (fun i s => s = WS n made i) rfl (fun i u s hi hI => ⟨WS n made (i + 1), ?_, rfl⟩) fun s hI => ?_
  · have hlt := (List.getElem?_eq_some_iff.mp hi).1
    rw [rng_len] at hlt
    subst hI
    have h1 := ws_len h hn i
    have h6 : 6 ^ i ≤ 6 ^ 2 := Nat.pow_le_pow_right (by omega) (by omega)
    rw [bnd rfl, after_nx (s := WS n made (i + 1))]
    · rw [bnd rfl]
    · rw [loop_app (g := extW made) (m := 144) (N := 100000) (WS n made i) [] (by rw [List.length_nil]; omega) (fun y _ => Nat.le_trans (ext_len h y) (by omega)) fun y hy s hs => ?_]
      · rfl
      · rw [after_nx (s := s ++ extW made y)]
        rw [loop_app (g := fun s => if (decide (s.1 = lastI y) && !decide (s.2.1 ∈ y)) = true then [y ++ [s.2.1]] else []) (m := 1) (N := 100000) made s (by omega) (fun a _ => by split <;> simp) fun a _ t ht => ?_, flat_if]
        · rfl
        · rw [bnd (last_at (ws_shape i y hy))]
          by_cases hp : (decide (a.1 = lastI y) && !decide (a.2.1 ∈ y)) = true
          · rw [if_pos hp, if_pos hp, chk_t (decide_eq_true (by rw [ws_shape i y hy]; simp; omega)), chk_t (decide_eq_true (by omega)), bnd rfl]
          · rw [if_neg hp, if_neg hp, List.append_nil]
  · rw [rng_len] at hI
    rw [hI]
theorem law_ways_0 : PF.law_ways made (n : Int) 0 = some [] := by
  unfold PF.law_ways
  rw [bnd rfl, thenJ_l (s := []) (by rw [if_neg (by decide)]), chk_t (by decide)]
  rfl
theorem all_right_is (h : SOk n made) (hn : n ≤ 6) (hl : made.length ≤ 144) : PF.law_all_right (WEB n (stD made)) (n : Int) made 3 = some true := by
  unfold PF.law_all_right
  rw [chk_t (by decide)]
  refine after_at (fun o => o = some true) (fun _ _ => True) trivial (fun i p u hi _ => ⟨(), ?_, trivial⟩) fun s' _ => rfl
  have hlt := (List.getElem?_eq_some_iff.mp hi).1
  rw [rng_len] at hlt
  have hlt : i < 4 := hlt
  replace hi : (rng 0 4)[i]? = some p := hi
  rw [rng_get hlt, Int.zero_add] at hi
  obtain rfl := Option.some.inj hi
  obtain ⟨W, e1, e2, e3⟩ : ∃ W, PF.Web_all_ways (WEB n (stD made)) (i : Int) = some W ∧ PF.law_ways made (n : Int) (i : Int) = some W ∧ W.length < 100000 := by
    cases i with
    | zero => exact ⟨[], all_ways_0 hn, law_ways_0, by decide⟩
    | succ c =>
      refine ⟨WS n made c, all_ways_s h hn (by omega) (by omega), law_ways_s h hn hl (by omega), ?_⟩
      have h1 := ws_len h hn c
      have h6 : 6 ^ c ≤ 6 ^ 2 := Nat.pow_le_pow_right (by omega) (by omega)
      omega
  rw [bnd e1, bnd rfl, bnd e2, if_neg (by rw [decide_eq_true rfl]; decide), chk_t (decide_eq_true e3), if_neg (by simp)]
end
end Pm
set_option Elab.async false
set_option linter.all false
set_option maxRecDepth 100000
set_option maxHeartbeats 4000000
namespace Pm
open PySem hiding step
open Q DL K98 L2 SrtT
section
variable {n : Nat} {made : List (Int × Int × Int)}
theorem nub_le : ∀ l : List Int, (L2.nubI l).length ≤ l.length
  | [] => Nat.le_refl _
  | x :: l => by
    have ih := nub_le l
    unfold L2.nubI
    split
    · rw [List.length_cons]; omega
    · rw [List.length_cons, List.length_cons]; omega
theorem nub_eq : ∀ {l : List Int}, l.Nodup → L2.nubI l = l
  | [], _ => rfl
  | x :: l, h => by
    obtain ⟨h1, h2⟩ := List.nodup_cons.mp h
    unfold L2.nubI
    rw [if_neg h1, nub_eq h2]
theorem nub_lt : ∀ {l : List Int}, ¬ l.Nodup → (L2.nubI l).length < l.length
  | [], h => absurd .nil h
  | x :: l, h => by
    unfold L2.nubI
    by_cases hx : x ∈ l
    · rw [if_pos hx, List.length_cons]
      have := nub_le l
      omega
    · rw [if_neg hx, List.length_cons, List.length_cons]
      have := nub_lt (l := l) fun z => h (List.nodup_cons.mpr ⟨hx, z⟩)
      omega
def aW (way : List Int) (k : Nat) : Int := way.getD k 0
def xsW (D : Dic) (way : List Int) : List (Option Int) := (List.zip way (way.drop 1)).map fun p => getX D p
def GoodW (n : Nat) (D : Dic) (way : List Int) (k : Nat) : Prop := (0 ≤ aW way k ∧ aW way k < (n : Int)) ∧ aW way k ∉ way.take k ∧ (0 < k → getX D (aW way (k - 1), aW way k) ≠ none)
def SmW (D : Dic) (way : List Int) : Nat → Int
  | 0 => 0
  | k + 1 => if k = 0 then 0 else SmW D way k + (getX D (aW way (k - 1), aW way k)).getD 0
theorem aw_get {way : List Int} {k : Nat} (h : k < way.length) : way[k]? = some (aW way k) := by
  unfold aW
  rw [List.getD_eq_getElem?_getD, List.getElem?_eq_getElem h]
  rfl
theorem aw_eq {way : List Int} {k : Nat} (h : k < way.length) : way[k] = aW way k := Option.some.inj ((List.getElem?_eq_getElem h).symm.trans (aw_get h))
theorem aw_at {way : List Int} {k : Nat} (h : k < way.length) : L2.atI way (k : Int) = some (aW way k) := atI_nat (aw_get h)
theorem xs_get {D : Dic} {way : List Int} {k : Nat} (h : k + 1 < way.length) : (xsW D way)[k]? = some (getX D (aW way k, aW way (k + 1))) := by
  unfold xsW
  rw [List.getElem?_map]
  have : (List.zip way (way.drop 1))[k]? = some (aW way k, aW way (k + 1)) := by
    rw [List.getElem?_zip_eq_some]
    refine ⟨aw_get (by omega), ?_⟩
    rw [List.getElem?_drop, show 1 + k = k + 1 by omega]
    exact aw_get h
  rw [this]
  rfl
theorem xs_len {D : Dic} {way : List Int} : (xsW D way).length = way.length - 1 := by
  unfold xsW
  rw [List.length_map, List.length_zip, List.length_drop]
  omega
theorem cut_take1 {l : List Int} {j : Nat} (h : j ≤ l.length) : cutA l none (some (j : Int)) = l.take j := cut_lo h
theorem walk_is {way : List Int} (hw : way.length ≤ 900) : (PF.law_walk made (n : Int) way = some (some (SmW (stD made) way way.length)) ∧ way ≠ [] ∧ ∀ k, k < way.length → GoodW n (stD made) way k) ∨ (PF.law_walk made (n : Int) way = some none ∧ (way = [] ∨ ∃ k, k < way.length ∧ ¬ GoodW n (stD made) way k)) := by
  unfold PF.law_walk
  rw [bnd rfl, chk_t (small_of (by omega) (by omega)), Int.toNat_natCast]
  have L := loop_all (r := (none : Option Int)) (fun k s => s = SmW (stD made) way k) (fun k => GoodW n (stD made) way k) (rng 0 way.length) 0 0 rfl (step := (fun (y'5 : Int) (s'4 : Int) =>
 (L2.atI way y'5).bind fun x_6 =>
 ((if (decide (x_6 < (0 : Int))) = true then some true else ((L2.atI way y'5).bind fun x_8 =>
 ((if (decide (x_8 ≥ (n : Int))) = true then some true else ((L2.atI way y'5).bind fun x_10 =>
 some ((decide (x_10 ∈ (cutA way none (some y'5)))))))).bind fun b_13 =>
 some (b_13)))).bind fun b_16 =>
 if b_16 = true then
 some (.rt ((none : Option Int)))
 else
 if (decide (y'5 > (0 : Int))) = true then
 (L2.atI way (y'5 - (1 : Int))).bind fun x_20 =>
 (L2.atI way y'5).bind fun x_22 =>
 (PF.law_step made x_20 x_22).bind fun x_24 =>
 (some (x_24)).bind fun (step'26 : Option Int) =>
 ifNone step'26 (
 some (.rt ((none : Option Int))))
 (fun step'28 =>
 (some ((s'4 + step'28))).bind fun (total'31 : Int) =>
 some (.nx total'31))
 else
 some (.nx s'4) : Int → Int → Option (Ctl Int (Option Int)))) (fun i a s hi hI => ?_)
  rotate_left 1
  · have hlt := (List.getElem?_eq_some_iff.mp hi).1
    rw [rng_len] at hlt
    rw [rng_get hlt, Int.zero_add] at hi
    obtain rfl := Option.some.inj hi
    rw [Nat.zero_add] at hI ⊢
    subst hI
    have hat := aw_at hlt
    have e1 : ∀ b, (decide (aW way i ∈ way.take i)) = b → ((if (decide (aW way i < (0 : Int))) = true then some true else ((L2.atI way (i : Int)).bind fun x_8 =>
       ((if (decide (x_8 ≥ (n : Int))) = true then some true else ((L2.atI way (i : Int)).bind fun x_10 =>
       some ((decide (x_10 ∈ (cutA way none (some (i : Int))))))))).bind fun b_13 =>
       some (b_13)))) = some (!(decide (0 ≤ aW way i ∧ aW way i < (n : Int))) || b) := fun b hb => by
      by_cases h1 : aW way i < 0
      · rw [if_pos (decide_eq_true h1), decide_eq_false (by omega)]
        rfl
      · rw [if_neg (by simpa using h1), bnd hat]
        by_cases h2 : aW way i ≥ (n : Int)
        · rw [if_pos (decide_eq_true h2), bnd rfl, decide_eq_false (by omega)]
          rfl
        · rw [if_neg (by simpa using h2), bnd hat, cut_take1 (by omega), bnd rfl, decide_eq_true (⟨by omega, by omega⟩ : 0 ≤ aW way i ∧ aW way i < (n : Int)), hb]
          rfl
    rw [bnd hat, bnd (e1 _ rfl)]
    by_cases hin : 0 ≤ aW way i ∧ aW way i < (n : Int)
    · by_cases hmem : aW way i ∈ way.take i
      · refine ⟨fun g => absurd hmem g.2.1, fun _ => ?_⟩
        rw [decide_eq_true hmem, if_pos (by simp)]
      · rw [decide_eq_true hin, decide_eq_false hmem, if_neg (by decide)]
        by_cases hk : 0 < i
        · obtain ⟨j, rfl⟩ : ∃ j, i = j + 1 := ⟨i - 1, by omega⟩
          have hj : (((j + 1 : Nat) : Int) - 1) = ((j : Nat) : Int) := by omega
          rw [if_pos (decide_eq_true (by omega)), hj, bnd (aw_at (by omega)), bnd hat, bnd step_is, bnd rfl]
          cases hx : getX (stD made) (aW way j, aW way (j + 1)) with
          | none => exact ⟨fun g => absurd hx (g.2.2 (by omega)), fun _ => rfl⟩
          | some w =>
            refine ⟨fun _ => ⟨_, rfl, ?_⟩, fun g => absurd ⟨hin, hmem, fun _ => by rw [show j + 1 - 1 = j by omega, hx]; exact fun z => nomatch z⟩ g⟩
            show _ = if j + 1 = 0 then 0 else SmW (stD made) way (j + 1) + (getX (stD made) (aW way (j + 1 - 1), aW way (j + 1))).getD 0
            rw [if_neg (by omega), show j + 1 - 1 = j by omega, hx]
            rfl
        · obtain rfl : i = 0 := by omega
          rw [if_neg (by simp)]
          refine ⟨fun _ => ⟨_, rfl, ?_⟩, fun g => absurd ⟨hin, hmem, fun z => absurd z (by omega)⟩ g⟩
          rfl
    · refine ⟨fun g => absurd g.1 hin, fun _ => ?_⟩
      rw [decide_eq_false hin, if_pos (by simp)]
  rcases L with ⟨s', e, hs, hg⟩ | ⟨e, i, hi, hb⟩
  · rw [rng_len, Nat.zero_add] at hs
    rw [after_nx e]
    by_cases h0 : way = []
    · subst h0
      exact .inr ⟨by rw [if_pos (by decide)], .inl rfl⟩
    · refine .inl ⟨?_, h0, fun k hk => ?_⟩
      · have : 0 < way.length := List.length_pos_iff.mpr h0
        rw [if_neg (by simp; omega), hs]
      · have := hg k (by rw [rng_len]; exact hk)
        rwa [Nat.zero_add] at this
  · rw [rng_len] at hi
    rw [Nat.zero_add] at hb
    exact .inr ⟨by rw [after_rt e], .inr ⟨i, hi, hb⟩⟩
theorem step_worths_is {way : List Int} (hw : way.length ≤ 900) (h0 : way ≠ []) : PF.Web__step_worths (WEB n (stD made)) way = some (xsW (stD made) way) := by
  have hp : 0 < way.length := List.length_pos_iff.mpr h0
  have ec : cutA way (some (1 : Int)) none = way.drop 1 := cut_hi (k := 1) (by omega)
  unfold PF.Web__step_worths
  rw [ec, chk_t (decide_eq_true (by rw [List.length_zip]; omega))]
  rfl
theorem good_iff (hs : SOk n made) {way : List Int} (h0 : way ≠ []) : (∀ k, k < way.length → GoodW n (stD made) way k) ↔ way.Nodup ∧ (0 ≤ aW way 0 ∧ aW way 0 < (n : Int)) ∧ none ∉ xsW (stD made) way := by
  have hp : 0 < way.length := List.length_pos_iff.mpr h0
  constructor
  · intro h
    refine ⟨?_, (h 0 hp).1, fun hm => ?_⟩
    · refine List.pairwise_iff_getElem.mpr fun i j hi hj hij e => ?_
      have hg := (h j hj).2.1
      rw [aw_eq hi, aw_eq hj] at e
      refine hg ?_
      rw [← e]
      refine List.mem_of_getElem? (i := i) ?_
      rw [List.getElem?_take_of_lt hij]
      exact aw_get hi
    · obtain ⟨k, hk⟩ := List.mem_iff_getElem?.mp hm
      have hlt := (List.getElem?_eq_some_iff.mp hk).1
      rw [xs_len] at hlt
      rw [xs_get (by omega)] at hk
      have := (h (k + 1) (by omega)).2.2 (by omega)
      rw [show k + 1 - 1 = k by omega] at this
      exact this (Option.some.inj hk)
  · rintro ⟨hn, hr, hx⟩ k hk
    have st : ∀ j, j + 1 < way.length → getX (stD made) (aW way j, aW way (j + 1)) ≠ none := fun j hj z => hx (List.mem_of_getElem? (i := j) (by rw [xs_get hj, z]))
    refine ⟨?_, fun hm => ?_, fun h1 => ?_⟩
    · cases k with
      | zero => exact hr
      | succ j =>
        have := st j hk
        unfold getX at this
        cases hf : (stD made).find? fun c => decide (c.1 = (aW way j, aW way (j + 1))) with
        | none => rw [hf] at this; exact absurd rfl this
        | some c =>
          have hc := List.mem_of_find?_eq_some hf
          have he : decide (c.1 = (aW way j, aW way (j + 1))) = true := List.find?_some (p := fun (c : (Int × Int) × Int) => decide (c.1 = (aW way j, aW way (j + 1)))) hf
          have he := of_decide_eq_true he
          obtain ⟨s, hs2, rfl⟩ := List.mem_map.mp hc
          have := (hs.1 s hs2).2.1
          have e2 : s.2.1 = aW way (j + 1) := (Prod.mk.inj he).2
          rwa [e2] at this
    · obtain ⟨i, hi⟩ := List.mem_iff_getElem?.mp hm
      have hlt := (List.getElem?_eq_some_iff.mp hi).1
      rw [List.length_take] at hlt
      rw [List.getElem?_take_of_lt (by omega)] at hi
      have hiw : i < way.length := by omega
      refine List.pairwise_iff_getElem.mp hn i k hiw hk (by omega) ?_
      rw [aw_eq hk]
      rw [aw_get hiw] at hi
      rw [aw_eq hiw]
      exact Option.some.inj hi
    · have := st (k - 1) (by omega)
      rwa [show k - 1 + 1 = k by omega] at this
theorem is_way_is (hs : SOk n made) {way : List Int} (hw : way.length ≤ 900) : (PF.Web_is_way (WEB n (stD made)) way = some true ∧ way ≠ [] ∧ ∀ k, k < way.length → GoodW n (stD made) way k) ∨ (PF.Web_is_way (WEB n (stD made)) way = some false ∧ (way = [] ∨ ∃ k, k < way.length ∧ ¬ GoodW n (stD made) way k)) := by
  unfold PF.Web_is_way
  by_cases h0 : way = []
  · subst h0
    exact .inr ⟨by rw [bnd (a := true) (by rw [if_pos (by decide)]), if_pos rfl], .inl rfl⟩
  have hp : 0 < way.length := List.length_pos_iff.mpr h0
  have hE : way.isEmpty = false := by
    cases way with
    | nil => exact absurd rfl h0
    | cons a l => rfl
  have bad : ¬ (∀ k, k < way.length → GoodW n (stD made) way k) → way = [] ∨ ∃ k, k < way.length ∧ ¬ GoodW n (stD made) way k := fun h => .inr (by
    refine Classical.byContradiction fun hno => h fun k hk => Classical.byContradiction fun z => hno ⟨k, hk, z⟩)
  have hi := good_iff hs h0
  rw [hE]
  by_cases hn : way.Nodup
  · rw [bnd (a := false) (by rw [if_neg (by decide), chk_t (decide_eq_true (by omega)), nub_eq hn, decide_eq_false (by omega)]), if_neg (by decide), bnd (show L2.atI way (0 : Int) = some (aW way 0) from aw_at hp)]
    show (_ ∧ _ ∧ _) ∨ _
    by_cases hr : 0 ≤ aW way 0 ∧ aW way 0 < (n : Int)
    · by_cases hx : none ∈ xsW (stD made) way
      · refine .inr ⟨?_, bad fun g => (hi.mp g).2.2 hx⟩
        rw [bnd (a := false) (by
          rw [if_pos (by show (decide (0 ≤ aW way 0) && decide (aW way 0 < (n : Int))) = true; simp [hr]), bnd (step_worths_is hw h0), inQ_iff.mpr hx]
          rfl)]
      · refine .inl ⟨?_, h0, hi.mpr ⟨hn, hr, hx⟩⟩
        have hq : inQ none (xsW (stD made) way) = false := by
          cases hq : inQ none (xsW (stD made) way) with
          | false => rfl
          | true => exact absurd (inQ_iff.mp hq) hx
        rw [bnd (a := true) (by
          rw [if_pos (by show (decide (0 ≤ aW way 0) && decide (aW way 0 < (n : Int))) = true; simp [hr]), bnd (step_worths_is hw h0), hq]
          rfl)]
    · refine .inr ⟨?_, bad fun g => hr (hi.mp g).2.1⟩
      rw [bnd (a := false) (by
        rw [if_neg (by show ¬ (decide (0 ≤ aW way 0) && decide (aW way 0 < (n : Int))) = true; simp; omega)])]
  · refine .inr ⟨?_, bad fun g => hn (hi.mp g).1⟩
    have := nub_lt hn
    rw [bnd (a := true) (by rw [if_neg (by decide), chk_t (decide_eq_true (by omega)), decide_eq_true (by omega)]), if_pos rfl]
theorem allI_some : ∀ {xs : List (Option Int)}, none ∉ xs → allI xs = some (xs.map fun o => o.getD 0)
  | [], _ => rfl
  | none :: l, h => absurd List.mem_cons_self h
  | some x :: l, h => by
    unfold allI
    rw [allI_some fun z => h (List.mem_cons_of_mem _ z)]
    rfl
theorem sum_is {D : Dic} {way : List Int} : ∀ k, k + 1 ≤ way.length → (((xsW D way).take k).map fun o => o.getD 0).sum = SmW D way (k + 1)
  | 0, _ => rfl
  | k + 1, h => by
    have ih := sum_is (D := D) (way := way) k (by omega)
    rw [List.take_add_one, xs_get (D := D) (way := way) (k := k) (by omega), List.map_append, List.sum_append, ih]
    show _ = if k + 1 = 0 then 0 else SmW D way (k + 1) + (getX D (aW way (k + 1 - 1), aW way (k + 1))).getD 0
    rw [if_neg (by omega), show k + 1 - 1 = k by omega]
    simp
theorem worth_is (hs : SOk n made) {way : List Int} (hw : way.length ≤ 900) (h0 : way ≠ []) (hg : ∀ k, k < way.length → GoodW n (stD made) way k) : PF.Web_way_worth (WEB n (stD made)) way = some (SmW (stD made) way way.length) := by
  have hp : 0 < way.length := List.length_pos_iff.mpr h0
  rcases is_way_is hs hw with ⟨e, _, _⟩ | ⟨_, b⟩
  · have hx := ((good_iff hs h0).mp hg).2.2
    unfold PF.Web_way_worth
    rw [bnd e, if_neg (by decide), bnd (step_worths_is hw h0), bnd (allI_some hx)]
    have := sum_is (D := stD made) (way := way) (way.length - 1) (by omega)
    rw [List.take_of_length_le (by rw [xs_len]; exact Nat.le_refl _), show way.length - 1 + 1 = way.length by omega] at this
    rw [this]
  · rcases b with b | ⟨k, hk, b⟩
    · exact absurd b h0
    · exact absurd (hg k hk) b
theorem no_way_is (hs : SOk n made) {way : List Int} (hw : way.length ≤ 900) (h : way = [] ∨ ∃ k, k < way.length ∧ ¬ GoodW n (stD made) way k) : PF.law_no_way (WEB n (stD made)) way = some true := by
  rcases is_way_is hs hw with ⟨_, h0, g⟩ | ⟨e, _⟩
  · rcases h with b | ⟨k, hk, b⟩
    · exact absurd b h0
    · exact absurd (g k hk) b
  · have ex : PF.Web_way_worthX (WEB n (stD made)) way = some (.inr ⟨"BadWeb", none⟩) := by
      unfold PF.Web_way_worthX
      rw [bnd e, if_pos (show (!false) = true from rfl)]
    unfold PF.law_no_way
    rw [ex]
    show err0 ⟨"BadWeb", none⟩ "BadWeb" _ = _
    unfold err0
    dsimp only
    rw [if_pos rfl]
    rfl
theorem cut_lenW {l : List Int} {x y : Option Int} : (cutA l x y).length ≤ l.length := by
  unfold cutA
  rw [List.length_take, List.length_drop]
  omega
theorem tuple_is {d : List Int} (hd : Drawn d [3, 5, 16, 16, 16, 16, 16, 16]) (hl : made.length < 100000) : ∃ way, PF.law_tuple made (n : Int) d = some way ∧ way.length ≤ 900 := by
  have hdl : d.length = 8 := hd.1
  unfold PF.law_tuple
  obtain ⟨x0, e0⟩ := at_ex (l := d) (i := 0) (by omega) (by omega)
  obtain ⟨x1, e1⟩ := at_ex (l := d) (i := 1) (by omega) (by omega)
  obtain ⟨x2, e2⟩ := at_ex (l := d) (i := 2) (by omega) (by omega)
  rw [bnd e0]
  by_cases h0 : x0 = 0
  · rw [if_pos (decide_eq_true h0), bnd e1]
    have hc := cut_lenW (l := d) (x := some 2) (y := some (2 + x1))
    rw [chk_t (decide_eq_true (by omega)), bnd (compM_map (g := fun x => x % ((n : Int) + 2) - 1) (fun _ _ => rfl) fun x _ => chk_t (decide_eq_true (by omega)))]
    exact ⟨_, rfl, by rw [List.length_map]; omega⟩
  · rw [if_neg (by simpa using h0)]
    by_cases hn0 : (n : Int) = 0
    · rw [if_pos (decide_eq_true hn0)]
      exact ⟨_, rfl, by decide⟩
    · have hx1 : 0 ≤ x1 ∧ x1 < 5 := by
        have := hd.2 1 x1 5 (by
          have := e1
          rw [at_nat (by omega) (by omega)] at this
          exact this) rfl
        exact this
      rw [if_neg (by simpa using hn0), bnd e2, chk_t (decide_eq_true (by omega)), bnd rfl, bnd e1, chk_t (small_of (by omega) (by omega))]
      refine after_at (fun o => ∃ way : List Int, o = some way ∧ way.length ≤ 900) (fun (i : Nat) (s : List Int) => s.length ≤ i + 1 ∧ 1 ≤ s.length) ⟨Nat.le_refl _, Nat.le_refl _⟩ (fun i u s hi hI => ?_) fun s hI => ⟨s, rfl, ?_⟩
      · have hlt := (List.getElem?_eq_some_iff.mp hi).1
        rw [rng_len] at hlt
        rw [rng_get hlt, Int.zero_add] at hi
        obtain rfl := Option.some.inj hi
        have hlast := last_at (y := s) (k := s.length - 1) (by omega)
        rw [chk_t (decide_eq_true hl), bnd (compM_filt (p := fun (a : Int × Int × Int) => decide (a.1 = lastI s) && (decide (x0 = 1) || !decide (a.2.1 ∈ s))) (g := fun (a : Int × Int × Int) => a.2.1) (fun a _ => by
          rw [bnd hlast]
          by_cases ha : a.1 = lastI s
          · rw [if_pos (decide_eq_true ha), e0, decide_eq_true ha]
            rfl
          · rw [if_neg (by simpa using ha), bnd rfl, decide_eq_false ha]
            rfl) fun _ _ => rfl), bnd rfl]
        generalize ((made.filter fun (a : Int × Int × Int) => decide (a.1 = lastI s) && (decide (x0 = 1) || !decide (a.2.1 ∈ s))).map fun (a : Int × Int × Int) => a.2.1) = fol
        by_cases hf : (fol.length : Int) > 0
        · obtain ⟨y, ey⟩ := at_ex (l := d) (i := 3 + (i : Int)) (by omega) (by omega)
          obtain ⟨z, ez⟩ := at_ex (l := fol) (i := y % (fol.length : Int)) (Int.emod_nonneg _ (by omega)) (Int.emod_lt_of_pos _ hf)
          refine ⟨s ++ [z], ?_, ?_⟩
          · rw [if_pos (decide_eq_true hf), bnd ey, chk_t (decide_eq_true hf), bnd ez, chk_t (decide_eq_true (by simp; omega)), bnd rfl]
          · rw [List.length_append, List.length_singleton]
            omega
        · exact ⟨s, by rw [if_neg (by simpa using hf)], by omega⟩
      · rw [rng_len] at hI
        omega
theorem tuples_right_is (ns : List Int) (hs : SOk n made) (hl : made.length < 100000) : PF.law_tuples_right ns (WEB n (stD made)) (n : Int) made = some true := by
  unfold PF.law_tuples_right
  refine after_at (fun o => o = some true) (fun _ _ => True) trivial (fun i p u hi _ => ⟨(), ?_, trivial⟩) fun s' _ => rfl
  have hlt := (List.getElem?_eq_some_iff.mp hi).1
  rw [rng_len] at hlt
  rw [rng_get hlt, Int.zero_add] at hi
  obtain rfl := Option.some.inj hi
  obtain ⟨c, ec⟩ := cell_is ns (k := 13 + (i : Int)) (by omega)
  obtain ⟨d, ed, hd⟩ := draws_is c (limits := [3, 5, 16, 16, 16, 16, 16, 16]) (by decide) (by decide)
  obtain ⟨way, ew, hw⟩ := tuple_is (n := n) (made := made) hd hl
  rw [bnd ec, bnd ed, bnd rfl, bnd ew, bnd rfl]
  rcases walk_is (n := n) (made := made) hw with ⟨e, h0, g⟩ | ⟨e, b⟩
  · rcases is_way_is hs hw with ⟨e2, _, _⟩ | ⟨_, b⟩
    · rw [bnd e, bnd rfl, bnd e2, bnd rfl, if_neg (by simp)]
      show (PF.Web_way_worth _ _).bind _ = _
      rw [bnd (worth_is hs hw h0 g), bnd rfl, if_neg (by rw [decide_eq_true rfl]; decide)]
    · rcases b with b | ⟨k, hk, b⟩
      · exact absurd b h0
      · exact absurd (g k hk) b
  · rcases is_way_is hs hw with ⟨_, h0, g⟩ | ⟨e2, _⟩
    · rcases b with b | ⟨k, hk, b⟩
      · exact absurd b h0
      · exact absurd (g k hk) b
    · rw [bnd e, bnd rfl, bnd e2, bnd rfl, if_neg (by simp)]
      show (PF.law_no_way _ _).bind _ = _
      rw [bnd (no_way_is hs hw b), if_neg (by decide)]
end
end Pm
set_option Elab.async false
set_option linter.all false
set_option maxRecDepth 100000
set_option maxHeartbeats 4000000
namespace Pm
open PySem hiding step
open Q DL K98 L2 SrtT
section
variable {n : Nat} {made : List (Int × Int × Int)}
abbrev keyS (s : Int × Int × Int) : Int × Int := (s.1, s.2.1)
def Fine (n : Nat) (s : Int × Int × Int) : Prop := (0 ≤ s.1 ∧ s.1 < (n : Int)) ∧ (0 ≤ s.2.1 ∧ s.2.1 < (n : Int)) ∧ s.1 ≠ s.2.1
theorem dc_any : ∀ (l : List (Int × Int × Int)) (acc : Dic), ∃ d, dcX (fun (_ : Int × Int × Int) => some true) (fun (y : Int × Int × Int) => (some ((y.1, y.2.1)))) (fun (y : Int × Int × Int) => (some (y.2.2))) l acc = some d ∧ d.length ≤ acc.length + l.length ∧
    ((acc.map (·.1)).Nodup → ¬ (acc.map (·.1) ++ l.map keyS).Nodup → d.length < acc.length + l.length)
  | [], acc => ⟨acc, rfl, Nat.le_refl _, fun h1 h2 => absurd (by rw [List.map_nil, List.append_nil]; exact h1) h2⟩
  | s :: l, acc => by
    obtain ⟨d, e, h1, h2⟩ := dc_any l (putX acc (s.1, s.2.1) s.2.2)
    refine ⟨d, e, ?_, ?_⟩
    · have := putX_len acc (s.1, s.2.1) s.2.2
      rw [List.length_cons]
      omega
    · intro hn hnd
      rw [List.length_cons]
      by_cases hk : (getX acc (s.1, s.2.1)).isSome = true
      · have ep : (putX acc (s.1, s.2.1) s.2.2).length = acc.length := by
          unfold putX
          rw [if_pos hk, List.length_map]
        omega
      · have ep : putX acc (s.1, s.2.1) s.2.2 = acc ++ [((s.1, s.2.1), s.2.2)] := by
          unfold putX
          rw [if_neg hk]
        have hni : (s.1, s.2.1) ∉ acc.map (·.1) := fun hm => by
          obtain ⟨c, hc, ec⟩ := List.mem_map.mp hm
          refine hk ?_
          unfold getX
          cases hf : acc.find? fun c => decide (c.1 = (s.1, s.2.1)) with
          | some x => rfl
          | none =>
            rw [List.find?_eq_none] at hf
            exact absurd (decide_eq_true ec) (hf c hc)
        rw [ep] at h1 h2
        rw [List.map_append, List.length_append] at h2
        have := h2 (List.nodup_append.mpr ⟨hn, by simp, fun a ha b hb => by
          simp at hb
          rw [hb]
          intro z
          exact hni (z ▸ ha)⟩) (by
          rw [List.append_assoc]
          exact hnd)
        simp at this
        omega
theorem refused_of {p : Int} {rows : List (Int × Int × Int)} (h : PF.Web___init__X p rows = some (.inr ⟨"BadWeb", none⟩)) : PF.law_refused p rows = some true := by
  unfold PF.law_refused
  rw [h]
  show err0 ⟨"BadWeb", none⟩ "BadWeb" _ = _
  unfold err0
  dsimp only
  rw [if_pos rfl]
  rfl
theorem refuse_places {p : Int} {rows : List (Int × Int × Int)} (h : p < 0 ∨ 12 < p) : PF.law_refused p rows = some true := by
  refine refused_of ?_
  unfold PF.Web___init__X
  rw [if_pos (by simp; omega)]
theorem refuse_rows (hn : n ≤ 12) {rows : List (Int × Int × Int)} (hl : rows.length < 100000) (h : (∃ s ∈ rows, ¬ Fine n s) ∨ ¬ (rows.map keyS).Nodup) : PF.law_refused (n : Int) rows = some true := by
  refine refused_of ?_
  unfold PF.Web___init__X
  rw [if_neg (by simp; omega)]
  have L : (∃ s', loop (fun (y'3 : Int × Int × Int) (s'2 : Unit) =>
     if ((!(decide ((0 : Int) ≤ y'3.1) && decide (y'3.1 < (n : Int)))) || ((!(decide ((0 : Int) ≤ y'3.2.1) && decide (y'3.2.1 < (n : Int)))) || (decide (y'3.1 = y'3.2.1)))) = true then
     some (.rt ((.inr (⟨"BadWeb", none⟩ : ErrV))))
     else
     some (.nx ())) rows () = some (.nx s' : Ctl Unit (PF.Ty_Web ⊕ ErrV)) ∧ True ∧ ∀ i, i < rows.length → ∀ s, rows[0 + i]? = some s → Fine n s) ∨ (loop (fun (y'3 : Int × Int × Int) (s'2 : Unit) =>
     if ((!(decide ((0 : Int) ≤ y'3.1) && decide (y'3.1 < (n : Int)))) || ((!(decide ((0 : Int) ≤ y'3.2.1) && decide (y'3.2.1 < (n : Int)))) || (decide (y'3.1 = y'3.2.1)))) = true then
     some (.rt ((.inr (⟨"BadWeb", none⟩ : ErrV))))
     else
     some (.nx ())) rows () = some (.rt (.inr ⟨"BadWeb", none⟩) : Ctl Unit (PF.Ty_Web ⊕ ErrV)) ∧ ∃ i, i < rows.length ∧ ¬ ∀ s, rows[0 + i]? = some s → Fine n s) := by
    refine loop_all (fun _ _ => True) (fun k => ∀ s, rows[k]? = some s → Fine n s) rows 0 () trivial fun i s u hi _ => ⟨fun g => ⟨(), ?_, trivial⟩, fun g => ?_⟩
    · obtain ⟨⟨a1, a2⟩, ⟨b1, b2⟩, c1⟩ := g s (by rw [Nat.zero_add]; exact hi)
      rw [if_neg (by simp; omega)]
    · rw [if_pos]
      refine Classical.byContradiction fun z => g fun s2 hs2 => ?_
      rw [Nat.zero_add, hi] at hs2
      cases hs2
      simp at z
      exact ⟨⟨by omega, by omega⟩, ⟨by omega, by omega⟩, by omega⟩
  rcases L with ⟨s', e, _, hg⟩ | ⟨e, _⟩
  · rw [after_nx e, bnd rfl]
    have hp := sortL_perm stK rows
    have hnd : ¬ ((sortL stK rows).map keyS).Nodup := by
      rcases h with ⟨s, hs, hb⟩ | h
      · obtain ⟨i, hi⟩ := List.mem_iff_getElem?.mp hs
        exact absurd (hg i (List.getElem?_eq_some_iff.mp hi).1 s (by rw [Nat.zero_add]; exact hi)) hb
      · exact fun z => h ((hp.map _).nodup_iff.mp z)
    obtain ⟨d, ed, _, hd⟩ := dc_any (sortL stK rows) []
    have hd := hd .nil (by simpa using hnd)
    rw [hp.length_eq, List.length_nil, Nat.zero_add] at hd
    rw [chk_t (decide_eq_true (by show (sortL stK rows).length < _; rw [hp.length_eq]; exact hl)), bnd (by exact ed), bnd rfl, if_pos (decide_eq_true (by show (d.length : Int) < _; omega))]
  · rw [after_rt e]
theorem ins_refused (hn : n ≤ 12) (hl : made.length ≤ 144) {j : Nat} {row : Int × Int × Int} (h : ¬ Fine n row ∨ keyS row ∈ made.map keyS) : PF.law_refused (n : Int) (made.take j ++ [row] ++ made.drop j) = some true := by
  have hp : (made.take j ++ [row] ++ made.drop j).Perm (row :: made) := by
    rw [List.append_assoc]
    have := (List.perm_middle (a := row) (l₁ := made.take j) (l₂ := made.drop j))
    rw [List.take_append_drop] at this
    exact this
  refine refuse_rows hn (by rw [hp.length_eq, List.length_cons]; omega) ?_
  rcases h with h | h
  · exact .inl ⟨row, by simp, h⟩
  · refine .inr fun z => ?_
    have := (hp.map keyS).nodup_iff.mp z
    rw [List.map_cons, List.nodup_cons] at this
    exact this.1 h
theorem bad_right_is (hn : n ≤ 12) (hl : made.length ≤ 144) {d : List Int} (hd : d.length = 4) (hp : ∀ x ∈ d, 0 ≤ x) : PF.law_bad_right (n : Int) made d = some true := by
  obtain ⟨x0, e0⟩ := at_ex (l := d) (i := 0) (by omega) (by omega)
  obtain ⟨x1, e1⟩ := at_ex (l := d) (i := 1) (by omega) (by omega)
  obtain ⟨x2, e2⟩ := at_ex (l := d) (i := 2) (by omega) (by omega)
  obtain ⟨x3, e3⟩ := at_ex (l := d) (i := 3) (by omega) (by omega)
  have h0 : 0 ≤ x0 := by
    rw [at_nat (by omega) (by omega)] at e0
    exact hp x0 (List.mem_of_getElem? e0)
  unfold PF.law_bad_right
  have hm : (0 : Int) < (if (n : Int) > (1 : Int) then (n : Int) else (1 : Int)) := by split <;> omega
  rw [bnd e0, bnd (refuse_places (.inl (by omega))), bnd (a := false) (by
    rw [if_neg (by decide), bnd e0, bnd (refuse_places (.inr (by omega)))]; rfl), if_neg (by decide), bnd e1, chk_t (decide_eq_true hm), bnd rfl, bnd rfl]
  generalize x1 % (if (n : Int) > (1 : Int) then (n : Int) else (1 : Int)) = w
  have five : ∀ row ∈ ([((n : Int), w, (1 : Int)), (w, (n : Int), (1 : Int)), (((0 : Int) - (1 : Int)), w, (1 : Int)), (w, ((0 : Int) - (1 : Int)), (1 : Int)), (w, w, (1 : Int))] : List (Int × Int × Int)), ¬ Fine n row := by
    intro row hr
    simp only [List.mem_cons, List.not_mem_nil, or_false] at hr
    rcases hr with rfl | rfl | rfl | rfl | rfl
    · exact fun g => absurd g.1.2 (by show ¬ (n : Int) < (n : Int); omega)
    · exact fun g => absurd g.2.1.2 (by show ¬ (n : Int) < (n : Int); omega)
    · exact fun g => absurd g.1.1 (by show ¬ (0 : Int) ≤ 0 - 1; omega)
    · exact fun g => absurd g.2.1.1 (by show ¬ (0 : Int) ≤ 0 - 1; omega)
    · exact fun g => g.2.2 rfl
  have main : ∀ B : List (Int × Int × Int), (∀ row ∈ B, ¬ Fine n row ∨ keyS row ∈ made.map keyS) → after (R := Bool) (loop (fun (y'37 : Int × Int × Int) (s'36 : Unit) =>
     (L2.atI d (3 : Int)).bind fun x_38 =>
     (chk (decide ((0 : Int) < ((made.length : Int) + (1 : Int))))).bind fun _ =>
     (some ((x_38 % ((made.length : Int) + (1 : Int))))).bind fun (at'41 : Int) =>
     (chk (decide ((cutA made none (some at'41)).length + ([y'37] : List (Int × Int × Int)).length ≤ 100000))).bind fun _ =>
     (chk (decide (((cutA made none (some at'41)) ++ ([y'37] : List (Int × Int × Int))).length + (cutA made (some at'41) none).length ≤ 100000))).bind fun _ =>
     (some ((((cutA made none (some at'41)) ++ ([y'37] : List (Int × Int × Int))) ++ (cutA made (some at'41) none)))).bind fun (rows'45 : List (Int × Int × Int)) =>
     (some (rows'45)).bind fun (given'47 : List (Int × Int × Int)) =>
     (PF.law_refused (n : Int) given'47).bind fun x_49 =>
     if ((!x_49) || (!decide (given'47 = rows'45))) = true then
     some (.rt (false))
     else
     some (.nx ())) B ()) (fun (s'36 : Unit) =>
     some (true))
     (fun r => some r) = some true := by
    intro B hB
    refine after_at (fun o => o = some true) (fun _ _ => True) trivial (fun i row u hi _ => ⟨(), ?_, trivial⟩) fun s' _ => rfl
    have hpos : (0 : Int) < ((made.length : Int) + (1 : Int)) := by omega
    have ha := Int.emod_nonneg x3 (b := (made.length : Int) + 1) (by omega)
    have hb := Int.emod_lt_of_pos x3 hpos
    obtain ⟨j, ej⟩ : ∃ j : Nat, x3 % ((made.length : Int) + 1) = (j : Int) := ⟨(x3 % ((made.length : Int) + 1)).toNat, by omega⟩
    rw [ej] at hb
    have ec1 : cutA made none (some (j : Int)) = made.take j := cut_lo (by omega)
    have ec2 : cutA made (some (j : Int)) none = made.drop j := cut_hi (by omega)
    rw [bnd e3, chk_t (decide_eq_true hpos), bnd rfl, ej, ec1, ec2, chk_t (decide_eq_true (by rw [List.length_take]; simp; omega)), chk_t (decide_eq_true (by rw [List.length_append, List.length_take, List.length_drop]; simp; omega)), bnd rfl, bnd rfl,
      bnd (ins_refused hn hl (hB row (List.mem_of_getElem? hi))), if_neg (by simp)]
  by_cases hml : (made.length : Int) > 0
  · obtain ⟨t, et⟩ := at_ex (l := made) (i := x2 % (made.length : Int)) (Int.emod_nonneg _ (by omega)) (Int.emod_lt_of_pos _ hml)
    have ht : t ∈ made := by
      rw [at_nat (Int.emod_nonneg _ (by omega)) (Int.emod_lt_of_pos _ hml)] at et
      exact List.mem_of_getElem? et
    rw [thenJ_l (s := _ ++ [t, (t.1, t.2.1, t.2.2 + 1)]) (by
      rw [if_pos (decide_eq_true hml), bnd e2, chk_t (decide_eq_true hml), bnd et, bnd rfl, chk_t (decide_eq_true (by simp)), bnd rfl])]
    refine main _ fun row hr => ?_
    rcases List.mem_append.mp hr with hr | hr
    · exact .inl (five row hr)
    · refine .inr ?_
      simp only [List.mem_cons, List.not_mem_nil, or_false] at hr
      rcases hr with rfl | rfl
      · exact List.mem_map.mpr ⟨_, ht, rfl⟩
      · exact List.mem_map.mpr ⟨t, ht, rfl⟩
  · rw [thenJ_l (by rw [if_neg (by simpa using hml)])]
    exact main _ fun row hr => .inl (five row hr)
theorem sok_perm {l m : List (Int × Int × Int)} (h : SOk n l) (hp : m.Perm l) : SOk n m := ⟨fun s hs => h.1 s (hp.mem_iff.mp hs), (hp.map _).nodup_iff.mpr h.2⟩
theorem sort_to {due m : List (Int × Int × Int)} (hp : m.Perm due) (h : due.Pairwise fun a b => lexB (stL b) (stL a) = false) : sortL stK m = due := by
  refine lex_uniq (f := stK) (fun a b e => ?_) ((sortL_perm stK m).trans hp) (sortL_up stK m) h
  have e : [a.1, a.2.1, a.2.2] = [b.1, b.2.1, b.2.2] := e
  simp only [List.cons.injEq, and_true] at e
  exact Prod.ext e.1 (Prod.ext e.2.1 e.2.2)
theorem law_is (ns : List Int) : PF.law ns = some true := by
  obtain ⟨c, ec⟩ := cell_is ns (k := 0) (by omega)
  obtain ⟨d, ed, hd⟩ := draws_is c (limits := [8, 6, 3, 3, 40, 40, 40, 40]) (by decide) (by decide)
  have hdl : d.length = 8 := hd.1
  obtain ⟨x0, e0⟩ := at_ex (l := d) (i := 0) (by omega) (by omega)
  obtain ⟨x1, e1⟩ := at_ex (l := d) (i := 1) (by omega) (by omega)
  obtain ⟨x2, e2⟩ := at_ex (l := d) (i := 2) (by omega) (by omega)
  obtain ⟨x3, e3⟩ := at_ex (l := d) (i := 3) (by omega) (by omega)
  have hx0 : 0 ≤ x0 ∧ x0 < 8 := by
    have e := e0
    rw [at_nat (by omega) (by omega)] at e
    exact hd.2 0 x0 8 e rfl
  unfold PF.law
  rw [bnd ec, bnd ed, bnd rfl, bnd e0, bnd rfl, bnd e1, bnd rfl]
  obtain ⟨n, share, en, hn⟩ : ∃ (n : Nat) (share : Int), (if (decide (x0 = (7 : Int))) = true then
     (some ((12 : Int))).bind fun (places'17 : Int) =>
     (some ((1 : Int))).bind fun (share'19 : Int) =>
     some (.inl (places'17, share'19))
     else
     some (.inl (x0, x1))) = some (.inl ((n : Int), share) : (Int × Int) ⊕ Bool) ∧ n ≤ 12 := by
    by_cases h7 : x0 = 7
    · exact ⟨12, 1, by rw [if_pos (decide_eq_true h7)]; rfl, by omega⟩
    · refine ⟨x0.toNat, x1, ?_, by omega⟩
      rw [if_neg (by simpa using h7), Int.toNat_of_nonneg hx0.1]
  rw [thenJ_l en]
  dsimp only
  obtain ⟨due, es, hs, hlen, hup⟩ := steps56 hn (share := share) (large := decide (x2 = 0)) ns
  have hl : due.length ≤ 144 := Nat.le_trans hlen (Nat.mul_le_mul hn hn)
  rw [bnd e2, bnd es, bnd rfl, bnd rfl]
  obtain ⟨m1, em1, hp1⟩ : ∃ m1, ((L2.atI d (3 : Int)).bind fun x_34 =>
     if (decide (x_34 = (1 : Int))) = true then
     (some ((due.reverse))).bind fun (made'37 : List (Int × Int × Int)) =>
     some (.inl made'37)
     else
     some (.inl due)) = some (.inl m1 : List (Int × Int × Int) ⊕ Bool) ∧ m1.Perm due := by
    rw [bnd e3]
    by_cases h : x3 = 1
    · exact ⟨due.reverse, by rw [if_pos (decide_eq_true h)]; rfl, List.reverse_perm _⟩
    · exact ⟨due, by rw [if_neg (by simpa using h)], List.Perm.refl _⟩
  rw [thenJ_l em1]
  obtain ⟨m2, em2, hp2⟩ : ∃ m2, ((L2.atI d (3 : Int)).bind fun x_44 =>
     if (decide (x_44 = (2 : Int))) = true then
     (chk (decide (m1.length < 100000))).bind fun _ =>
     (chk (decide ((sortL (fun c : Int × Int × Int => [c.1, c.2.1, c.2.2]) (m1.map fun (y'47 : Int × Int × Int) => (y'47.2.1, y'47.1, y'47.2.2))).length < 100000))).bind fun _ =>
     (some (((sortL (fun c : Int × Int × Int => [c.1, c.2.1, c.2.2]) (m1.map fun (y'47 : Int × Int × Int) => (y'47.2.1, y'47.1, y'47.2.2))).map fun (y'51 : Int × Int × Int) => (y'51.2.1, y'51.1, y'51.2.2)))).bind fun (made'55 : List (Int × Int × Int)) =>
     some (.inl made'55)
     else
     some (.inl m1)) = some (.inl m2 : List (Int × Int × Int) ⊕ Bool) ∧ m2.Perm due := by
    rw [bnd e3]
    by_cases h : x3 = 2
    · refine ⟨_, by
        rw [if_pos (decide_eq_true h), chk_t (decide_eq_true (by rw [hp1.length_eq]; omega)), chk_t (decide_eq_true (by rw [(sortL_perm _ _).length_eq, List.length_map, hp1.length_eq]; omega)), bnd rfl], ?_⟩
      refine ((sortL_perm stK _).map _).trans ?_
      rw [List.map_map]
      have : m1.map ((fun (y : Int × Int × Int) => (y.2.1, y.1, y.2.2)) ∘ fun (y : Int × Int × Int) => (y.2.1, y.1, y.2.2)) = m1 := List.map_id' m1
      rw [this]
      exact hp1
    · exact ⟨m1, by rw [if_neg (by simpa using h)], hp1⟩
  rw [thenJ_l em2]
  have hml : m2.length ≤ 144 := by rw [hp2.length_eq]; exact hl
  have eweb : PF.Web___init__ (n : Int) m2 = some (WEB n (stD due)) := by
    rw [web_is hn (sok_perm hs hp2) (by omega), sort_to hp2 hup]
  rw [bnd rfl, bnd eweb, bnd rfl, bnd (a := false) (by
    rw [if_neg (by rw [decide_eq_true rfl]; decide), bnd (right_is hn (by omega))]; rfl), if_neg (by decide)]
  rw [bnd (a := false) (by
    by_cases h7 : (n : Int) < 7
    · rw [if_pos (decide_eq_true h7), bnd (all_right_is hs (by omega) hl)]; rfl
    · rw [if_neg (by simpa using h7)]), if_neg (by decide)]
  have hot : SOk n (sortL stK (due.map swS)) := sok_perm (sok_swp hs) (sortL_perm _ _)
  have hol : (sortL stK (due.map swS)).length ≤ 144 := by rw [(sortL_perm _ _).length_eq, List.length_map]; exact hl
  have eo : (sortL (fun c : Int × Int × Int => [c.1, c.2.1, c.2.2]) (due.map fun (y'83 : Int × Int × Int) => (y'83.2.1, y'83.1, y'83.2.2))) = sortL stK (due.map swS) := rfl
  rw [bnd (invert_is hn hs (by omega)), bnd rfl, chk_t (decide_eq_true (by omega)), eo, bnd rfl, bnd (right_is hn (by omega)), bnd (a := false) (by
    rw [if_neg (by decide), bnd (tuples_right_is ns hs (by omega))]; rfl), if_neg (by decide), bnd (steps_is (by omega)), bnd rfl, chk_t (decide_eq_true (by omega)), bnd rfl, chk_t (decide_eq_true (by omega)), bnd rfl]
  rw [thenJ_l (s := ()) (by
    by_cases h0 : (n : Int) > 0
    · have fl : ∀ p : Int × Int × Int → Bool, (due.filter p).length ≤ 144 := fun p => Nat.le_trans (List.length_filter_le _ _) hl
      rw [if_pos (decide_eq_true h0), bnd (after_is (by omega)), chk_t (decide_eq_true (by rw [List.length_map]; have := fl fun s => decide (s.1 = 0); omega)), bnd (before_is (by omega)), chk_t (decide_eq_true (by rw [List.length_map]; have := fl fun s => decide (s.2.1 = 0); omega))]
    · rw [if_neg (by simpa using h0)])]
  have ec4 : cutA d (some (4 : Int)) none = d.drop 4 := cut_hi (k := 4) (by omega)
  rw [bnd (tuples_right_is ns hot (by omega)), bnd (a := false) (by rw [if_neg (by decide), bnd (right_is hn (by omega))]; rfl), if_neg (by decide), ec4, bnd (bad_right_is hn hml (by rw [List.length_drop]; omega) fun x hx => ?_)]
  obtain ⟨i, hi⟩ := List.mem_iff_getElem?.mp (List.mem_of_mem_drop hx)
  have hlt := (List.getElem?_eq_some_iff.mp hi).1
  have hlt2 : i < ([8, 6, 3, 3, 40, 40, 40, 40] : List Int).length := by rw [← hd.1]; exact hlt
  exact (hd.2 i x _ hi (List.getElem?_eq_getElem hlt2)).1
end
end Pm
set_option Elab.async false
set_option linter.all false
set_option maxRecDepth 100000
set_option maxHeartbeats 8000000
namespace LW
open PySem PySem.Spec PyProof.Rows L2 Evl ClX
open DL hiding Ea EaL Er MonoP Src Tgt YD d_for
open Q
def spLaw (K : PySem.W.Frag) : Sp := fun vs H Q _ => ∃ (a : Addr) (ns : List Int), vs = [.ref a] ∧ SqL K H a (ns.map V.int) ∧ ns.length ≤ 63 ∧ ∀ H', Q (.bl true) H'
theorem law_ok {P : Program} {w : World} {K : PySem.W.Frag} {mg : Str → Option Value} {base : Heap} {k : Nat} {f : Addr} {fd : FuncData} (h : FnOk P w K mg base CX0 k f fd ["script"] (spO (oPr rBl) (w_law K))) : FnOk P w K mg base CX0 k f fd ["script"] (spLaw K) := by
  refine h.imp fun vs H Q E ⟨a, ns, hv, hS, hl, q⟩ => ?_
  subst hv
  refine ⟨⟨H, fun _ => none⟩, _, true, ⟨Ex.refl _, fun _ _ z => by cases z⟩, mono_cons mono_nil, ⟨ns, rfl, Pm.law_is ns⟩, ⟨.ref a, [], rfl, ⟨a, rfl, hS⟩, rfl⟩, fun v H2 r => ?_⟩
  obtain ⟨fp, _, _, hr⟩ := r
  cases (show v = V.bl true from hr.2)
  exact q H2
theorem kit_subB {K : PySem.W.Frag} {C S : Addr} {b : Bool} (hcl : PySem.W.isClsIn K S = true) (ht : PySem.W.typeIn K (.ref S) = some (.type "type")) (hs : PySem.W.subIn K (.ref C) (.ref S) = some b) (hC : PySem.W.subIn K (.ref C) (.ref C) = some true) : PySem.W.kitOne K (.ref C) (.ref S) = some b := by
  unfold PySem.W.kitOne
  by_cases e : C = S
  · subst e
    rw [hC] at hs
    rw [if_pos (beq_self_eq_true _)]
    exact hs
  · rw [if_neg (fun z => e (Value.ref.inj (eq_of_beq z)))]
    have hcl : (PySem.W.clsIn K S).isSome = true := hcl
    show (if ((PySem.W.clsIn K S).isSome && PySem.W.typeIn K (.ref S) == some (.type "type")) = true then PySem.W.subIn K (.ref C) (.ref S) else none) = some b
    rw [if_pos (by rw [hcl, ht]; rfl)]
    exact hs
theorem kit_val {K : PySem.W.Frag} {C : Addr} {b : Bool} (hs : PySem.W.subIn K (.ref C) (.type "ValueError") = some b) : PySem.W.kitOne K (.ref C) (.type "ValueError") = some b := by
  unfold PySem.W.kitOne
  rw [if_neg (show ¬ ((Value.ref C == Value.type "ValueError") = true) from fun z => by have h := eq_of_beq z; cases h)]
  show (if PySem.W.kitMeta "ValueError" = true then PySem.W.subIn K (.ref C) (.type "ValueError") else none) = some b
  rw [if_pos (by decide +kernel)]
  exact hs
theorem all_mk {l : PySem.W.OpenLaw} {w : World} {K : PySem.W.Frag} {h : Heap} {mg : Str → Option Value} {fa : Addr} (X : K.In h) (G : h.Ns mainGlobals mg) (hfa : mg "law" = some (.ref fa))
    {C_Web : Addr}
    (aC_Web : PySem.W.nsIn K mainGlobals "Web" = some (some (.ref C_Web)))
    (pg_Web : PySem.W.plainGet K C_Web Str.empty = true)
    (hd_Web : PySem.W.hasDictIn K C_Web = true)
    (po_Web : PySem.W.plainOver K C_Web = true)
    (sa_Web : PySem.W.findIn K (.ref C_Web) "__setattr__" = some (some (.builtin "object.__setattr__")))
    (rd_Web : PySem.W.readsIn K C_Web (.type "type") = true)
    (ga_Web : PySem.W.specialIn K (.ref C_Web) "__getattribute__" = some (some (.builtin "type.__getattribute__")))
    {C_ServeError : Addr}
    {C_BadTable : Addr}
    {C_BadWeb : Addr}
    (aC_ServeError : PySem.W.nsIn K mainGlobals "ServeError" = some (some (.ref C_ServeError)))
    (aC_BadTable : PySem.W.nsIn K mainGlobals "BadTable" = some (some (.ref C_BadTable)))
    (aC_BadWeb : PySem.W.nsIn K mainGlobals "BadWeb" = some (some (.ref C_BadWeb)))
    (ga_BadWeb : PySem.W.findIn K (.ref C_BadWeb) "__getattribute__" = some (some (.builtin "BaseException.__getattribute__")))
    (gg_BadWeb : PySem.W.findIn K (.ref C_BadWeb) "__getattr__" = some none)
    (exC_BadWeb : PySem.W.subIn K (.ref C_BadWeb) (.type "BaseException") = some true)
    (hdC_BadWeb : PySem.W.hasDictIn K C_BadWeb = true)
    (iha_BadWeb : PySem.W.findIn K (.ref C_BadWeb) "__class__" = some (some (.builtin "object.__class__")))
    (ihn_BadWeb : PySem.W.specialIn K (.builtin "object.__class__") "__get__" = some (some (.builtin "getset_descriptor.__get__")))
    (iht_BadWeb : PySem.W.takesIn K (.builtin "object.__class__") = some true)
    (ihm_BadWeb : PySem.W.mroIn K C_BadWeb (.type "object") = some true)
    (xh_BadWeb : PySem.W.excIn K C_BadWeb [.type "ValueError", .type "Exception", .type "BaseException", .type "object"] "ValueError.__new__" = true)
    (kC_BadWeb : PySem.W.keepIn K (.ref C_BadWeb) = true)
    (tyC_BadWeb : PySem.W.typeIn K (.ref C_BadWeb) = some (.type "type"))
    (exC_ServeError : PySem.W.subIn K (.ref C_ServeError) (.type "BaseException") = some true)
    (hdC_ServeError : PySem.W.hasDictIn K C_ServeError = true)
    (tyC_ServeError : PySem.W.typeIn K (.ref C_ServeError) = some (.type "type"))
    (sb_BadWeb_ServeError : PySem.W.subIn K (.ref C_BadWeb) (.ref C_ServeError) = some true)
    (icl_BadTable : PySem.W.isClsIn K C_BadTable = true)
    (tyC_BadTable : PySem.W.typeIn K (.ref C_BadTable) = some (.type "type"))
    (sb_BadWeb_BadTable : PySem.W.subIn K (.ref C_BadWeb) (.ref C_BadTable) = some false)
    (sb_BadWeb_BadWeb : PySem.W.subIn K (.ref C_BadWeb) (.ref C_BadWeb) = some true)
    (icl_BadWeb : PySem.W.isClsIn K C_BadWeb = true)
    (vE_BadWeb : PySem.W.subIn K (.ref C_BadWeb) (.type "ValueError") = some true)
    {tk_cv_Web_MOST_PLACES : Tok}
    (vcv_Web_MOST_PLACES : PySem.W.findCls K (.ref C_Web) (.type "type") "MOST_PLACES" = some (.val (.int 12 tk_cv_Web_MOST_PLACES)))
    (nna_Web_places : PySem.W.findIn K (.ref C_Web) "places" = some none)
    (nna_Web__worth_at : PySem.W.findIn K (.ref C_Web) "_worth_at" = some none)
    {f_law_cell : Addr}
    {od_law_cell : Option Addr}
    {an_law_cell : Option Addr}
    {sl_law_cell : Array (Option Value)}
    {oc_law_cell kV_law_cell dc_law_cell pm_law_cell cd_law_cell ct_law_cell : Value}
    (a_law_cell : PySem.W.nsIn K mainGlobals "_law_cell" = some (some (.ref f_law_cell)))
    (l_law_cell : K.lookup f_law_cell = some ⟨oc_law_cell, od_law_cell, .func (PySem.W.fnOf "_law_cell" "_law_cell" (defArgs s_law_cell) (defBody s_law_cell) (defScope s_law_cell) .none kV_law_cell dc_law_cell pm_law_cell an_law_cell cd_law_cell ct_law_cell), sl_law_cell⟩)
    (c_law_cell : PySem.W.codeIn K cd_law_cell "_law_cell" = true)
    (k_law_cell : PySem.W.keepIn K (.ref f_law_cell) = true)
    {f_law_draws : Addr}
    {od_law_draws : Option Addr}
    {an_law_draws : Option Addr}
    {sl_law_draws : Array (Option Value)}
    {oc_law_draws kV_law_draws dc_law_draws pm_law_draws cd_law_draws ct_law_draws : Value}
    (a_law_draws : PySem.W.nsIn K mainGlobals "_law_draws" = some (some (.ref f_law_draws)))
    (l_law_draws : K.lookup f_law_draws = some ⟨oc_law_draws, od_law_draws, .func (PySem.W.fnOf "_law_draws" "_law_draws" (defArgs s_law_draws) (defBody s_law_draws) (defScope s_law_draws) .none kV_law_draws dc_law_draws pm_law_draws an_law_draws cd_law_draws ct_law_draws), sl_law_draws⟩)
    (c_law_draws : PySem.W.codeIn K cd_law_draws "_law_draws" = true)
    (k_law_draws : PySem.W.keepIn K (.ref f_law_draws) = true)
    {f_law_steps : Addr}
    {od_law_steps : Option Addr}
    {an_law_steps : Option Addr}
    {sl_law_steps : Array (Option Value)}
    {oc_law_steps kV_law_steps dc_law_steps pm_law_steps cd_law_steps ct_law_steps : Value}
    (a_law_steps : PySem.W.nsIn K mainGlobals "_law_steps" = some (some (.ref f_law_steps)))
    (l_law_steps : K.lookup f_law_steps = some ⟨oc_law_steps, od_law_steps, .func (PySem.W.fnOf "_law_steps" "_law_steps" (defArgs s_law_steps) (defBody s_law_steps) (defScope s_law_steps) .none kV_law_steps dc_law_steps pm_law_steps an_law_steps cd_law_steps ct_law_steps), sl_law_steps⟩)
    (c_law_steps : PySem.W.codeIn K cd_law_steps "_law_steps" = true)
    (k_law_steps : PySem.W.keepIn K (.ref f_law_steps) = true)
    {f_Web___init__ : Addr}
    {od_Web___init__ : Option Addr}
    {an_Web___init__ : Option Addr}
    {sl_Web___init__ : Array (Option Value)}
    {oc_Web___init__ kV_Web___init__ dc_Web___init__ pm_Web___init__ cd_Web___init__ ct_Web___init__ : Value}
    (a_Web___init__ : PySem.W.findIn K (.ref C_Web) "__init__" = some (some (.ref f_Web___init__)))
    (i_Web___init__ : PySem.W.isFn K (.ref f_Web___init__) = true)
    (l_Web___init__ : K.lookup f_Web___init__ = some ⟨oc_Web___init__, od_Web___init__, .func (PySem.W.fnOf "__init__" "Web.__init__" (defArgs s_Web___init__) (defBody s_Web___init__) (defScope s_Web___init__) .none kV_Web___init__ dc_Web___init__ pm_Web___init__ an_Web___init__ cd_Web___init__ ct_Web___init__), sl_Web___init__⟩)
    (c_Web___init__ : PySem.W.codeIn K cd_Web___init__ "Web.__init__" = true)
    (k_Web___init__ : PySem.W.keepIn K (.ref f_Web___init__) = true)
    (mkc_Web : PySem.W.makesIn K C_Web = true)
    (kcl_Web : PySem.W.keepIn K (.ref C_Web) = true)
    {f_Web_steps : Addr}
    {od_Web_steps : Option Addr}
    {an_Web_steps : Option Addr}
    {sl_Web_steps : Array (Option Value)}
    {oc_Web_steps kV_Web_steps dc_Web_steps pm_Web_steps cd_Web_steps ct_Web_steps : Value}
    {p_Web_steps : Addr}
    {rest_Web_steps : List Value}
    (a_Web_steps : PySem.W.findIn K (.ref C_Web) "steps" = some (some (.ref p_Web_steps)))
    (pg_Web_steps : PySem.W.specialIn K (.ref p_Web_steps) "__get__" = some (some (.builtin "property.__get__")))
    (pt_Web_steps : PySem.W.takesIn K (.ref p_Web_steps) = some true)
    (r_Web_steps : PySem.W.recIn K p_Web_steps "property" = some (.ref f_Web_steps :: rest_Web_steps))
    (l_Web_steps : K.lookup f_Web_steps = some ⟨oc_Web_steps, od_Web_steps, .func (PySem.W.fnOf "steps" "Web.steps" (defArgs s_Web_steps) (defBody s_Web_steps) (defScope s_Web_steps) .none kV_Web_steps dc_Web_steps pm_Web_steps an_Web_steps cd_Web_steps ct_Web_steps), sl_Web_steps⟩)
    (c_Web_steps : PySem.W.codeIn K cd_Web_steps "Web.steps" = true)
    (k_Web_steps : PySem.W.keepIn K (.ref f_Web_steps) = true)
    {f_Web_after : Addr}
    {od_Web_after : Option Addr}
    {an_Web_after : Option Addr}
    {sl_Web_after : Array (Option Value)}
    {oc_Web_after kV_Web_after dc_Web_after pm_Web_after cd_Web_after ct_Web_after : Value}
    (a_Web_after : PySem.W.findIn K (.ref C_Web) "after" = some (some (.ref f_Web_after)))
    (i_Web_after : PySem.W.isFn K (.ref f_Web_after) = true)
    (l_Web_after : K.lookup f_Web_after = some ⟨oc_Web_after, od_Web_after, .func (PySem.W.fnOf "after" "Web.after" (defArgs s_Web_after) (defBody s_Web_after) (defScope s_Web_after) .none kV_Web_after dc_Web_after pm_Web_after an_Web_after cd_Web_after ct_Web_after), sl_Web_after⟩)
    (c_Web_after : PySem.W.codeIn K cd_Web_after "Web.after" = true)
    (k_Web_after : PySem.W.keepIn K (.ref f_Web_after) = true)
    {f_Web_before : Addr}
    {od_Web_before : Option Addr}
    {an_Web_before : Option Addr}
    {sl_Web_before : Array (Option Value)}
    {oc_Web_before kV_Web_before dc_Web_before pm_Web_before cd_Web_before ct_Web_before : Value}
    (a_Web_before : PySem.W.findIn K (.ref C_Web) "before" = some (some (.ref f_Web_before)))
    (i_Web_before : PySem.W.isFn K (.ref f_Web_before) = true)
    (l_Web_before : K.lookup f_Web_before = some ⟨oc_Web_before, od_Web_before, .func (PySem.W.fnOf "before" "Web.before" (defArgs s_Web_before) (defBody s_Web_before) (defScope s_Web_before) .none kV_Web_before dc_Web_before pm_Web_before an_Web_before cd_Web_before ct_Web_before), sl_Web_before⟩)
    (c_Web_before : PySem.W.codeIn K cd_Web_before "Web.before" = true)
    (k_Web_before : PySem.W.keepIn K (.ref f_Web_before) = true)
    {f_Web_worth_of : Addr}
    {od_Web_worth_of : Option Addr}
    {an_Web_worth_of : Option Addr}
    {sl_Web_worth_of : Array (Option Value)}
    {oc_Web_worth_of kV_Web_worth_of dc_Web_worth_of pm_Web_worth_of cd_Web_worth_of ct_Web_worth_of : Value}
    (a_Web_worth_of : PySem.W.findIn K (.ref C_Web) "worth_of" = some (some (.ref f_Web_worth_of)))
    (i_Web_worth_of : PySem.W.isFn K (.ref f_Web_worth_of) = true)
    (l_Web_worth_of : K.lookup f_Web_worth_of = some ⟨oc_Web_worth_of, od_Web_worth_of, .func (PySem.W.fnOf "worth_of" "Web.worth_of" (defArgs s_Web_worth_of) (defBody s_Web_worth_of) (defScope s_Web_worth_of) .none kV_Web_worth_of dc_Web_worth_of pm_Web_worth_of an_Web_worth_of cd_Web_worth_of ct_Web_worth_of), sl_Web_worth_of⟩)
    (c_Web_worth_of : PySem.W.codeIn K cd_Web_worth_of "Web.worth_of" = true)
    (k_Web_worth_of : PySem.W.keepIn K (.ref f_Web_worth_of) = true)
    {f_law_step : Addr}
    {od_law_step : Option Addr}
    {an_law_step : Option Addr}
    {sl_law_step : Array (Option Value)}
    {oc_law_step kV_law_step dc_law_step pm_law_step cd_law_step ct_law_step : Value}
    (a_law_step : PySem.W.nsIn K mainGlobals "_law_step" = some (some (.ref f_law_step)))
    (l_law_step : K.lookup f_law_step = some ⟨oc_law_step, od_law_step, .func (PySem.W.fnOf "_law_step" "_law_step" (defArgs s_law_step) (defBody s_law_step) (defScope s_law_step) .none kV_law_step dc_law_step pm_law_step an_law_step cd_law_step ct_law_step), sl_law_step⟩)
    (c_law_step : PySem.W.codeIn K cd_law_step "_law_step" = true)
    (k_law_step : PySem.W.keepIn K (.ref f_law_step) = true)
    {f_law_right : Addr}
    {od_law_right : Option Addr}
    {an_law_right : Option Addr}
    {sl_law_right : Array (Option Value)}
    {oc_law_right kV_law_right dc_law_right pm_law_right cd_law_right ct_law_right : Value}
    (a_law_right : PySem.W.nsIn K mainGlobals "_law_right" = some (some (.ref f_law_right)))
    (l_law_right : K.lookup f_law_right = some ⟨oc_law_right, od_law_right, .func (PySem.W.fnOf "_law_right" "_law_right" (defArgs s_law_right) (defBody s_law_right) (defScope s_law_right) .none kV_law_right dc_law_right pm_law_right an_law_right cd_law_right ct_law_right), sl_law_right⟩)
    (c_law_right : PySem.W.codeIn K cd_law_right "_law_right" = true)
    (k_law_right : PySem.W.keepIn K (.ref f_law_right) = true)
    {f_Web_all_ways : Addr}
    {od_Web_all_ways : Option Addr}
    {an_Web_all_ways : Option Addr}
    {sl_Web_all_ways : Array (Option Value)}
    {oc_Web_all_ways kV_Web_all_ways dc_Web_all_ways pm_Web_all_ways cd_Web_all_ways ct_Web_all_ways : Value}
    (a_Web_all_ways : PySem.W.findIn K (.ref C_Web) "all_ways" = some (some (.ref f_Web_all_ways)))
    (i_Web_all_ways : PySem.W.isFn K (.ref f_Web_all_ways) = true)
    (l_Web_all_ways : K.lookup f_Web_all_ways = some ⟨oc_Web_all_ways, od_Web_all_ways, .func (PySem.W.fnOf "all_ways" "Web.all_ways" (defArgs s_Web_all_ways) (defBody s_Web_all_ways) (defScope s_Web_all_ways) .none kV_Web_all_ways dc_Web_all_ways pm_Web_all_ways an_Web_all_ways cd_Web_all_ways ct_Web_all_ways), sl_Web_all_ways⟩)
    (c_Web_all_ways : PySem.W.codeIn K cd_Web_all_ways "Web.all_ways" = true)
    (k_Web_all_ways : PySem.W.keepIn K (.ref f_Web_all_ways) = true)
    {f_law_ways : Addr}
    {od_law_ways : Option Addr}
    {an_law_ways : Option Addr}
    {sl_law_ways : Array (Option Value)}
    {oc_law_ways kV_law_ways dc_law_ways pm_law_ways cd_law_ways ct_law_ways : Value}
    (a_law_ways : PySem.W.nsIn K mainGlobals "_law_ways" = some (some (.ref f_law_ways)))
    (l_law_ways : K.lookup f_law_ways = some ⟨oc_law_ways, od_law_ways, .func (PySem.W.fnOf "_law_ways" "_law_ways" (defArgs s_law_ways) (defBody s_law_ways) (defScope s_law_ways) .none kV_law_ways dc_law_ways pm_law_ways an_law_ways cd_law_ways ct_law_ways), sl_law_ways⟩)
    (c_law_ways : PySem.W.codeIn K cd_law_ways "_law_ways" = true)
    (k_law_ways : PySem.W.keepIn K (.ref f_law_ways) = true)
    {f_law_all_right : Addr}
    {od_law_all_right : Option Addr}
    {an_law_all_right : Option Addr}
    {sl_law_all_right : Array (Option Value)}
    {oc_law_all_right kV_law_all_right dc_law_all_right pm_law_all_right cd_law_all_right ct_law_all_right : Value}
    (a_law_all_right : PySem.W.nsIn K mainGlobals "_law_all_right" = some (some (.ref f_law_all_right)))
    (l_law_all_right : K.lookup f_law_all_right = some ⟨oc_law_all_right, od_law_all_right, .func (PySem.W.fnOf "_law_all_right" "_law_all_right" (defArgs s_law_all_right) (defBody s_law_all_right) (defScope s_law_all_right) .none kV_law_all_right dc_law_all_right pm_law_all_right an_law_all_right cd_law_all_right ct_law_all_right), sl_law_all_right⟩)
    (c_law_all_right : PySem.W.codeIn K cd_law_all_right "_law_all_right" = true)
    (k_law_all_right : PySem.W.keepIn K (.ref f_law_all_right) = true)
    {f_Web___invert__ : Addr}
    {od_Web___invert__ : Option Addr}
    {an_Web___invert__ : Option Addr}
    {sl_Web___invert__ : Array (Option Value)}
    {oc_Web___invert__ kV_Web___invert__ dc_Web___invert__ pm_Web___invert__ cd_Web___invert__ ct_Web___invert__ : Value}
    (a_Web___invert__ : PySem.W.findIn K (.ref C_Web) "__invert__" = some (some (.ref f_Web___invert__)))
    (i_Web___invert__ : PySem.W.isFn K (.ref f_Web___invert__) = true)
    (l_Web___invert__ : K.lookup f_Web___invert__ = some ⟨oc_Web___invert__, od_Web___invert__, .func (PySem.W.fnOf "__invert__" "Web.__invert__" (defArgs s_Web___invert__) (defBody s_Web___invert__) (defScope s_Web___invert__) .none kV_Web___invert__ dc_Web___invert__ pm_Web___invert__ an_Web___invert__ cd_Web___invert__ ct_Web___invert__), sl_Web___invert__⟩)
    (c_Web___invert__ : PySem.W.codeIn K cd_Web___invert__ "Web.__invert__" = true)
    (k_Web___invert__ : PySem.W.keepIn K (.ref f_Web___invert__) = true)
    {f_law_tuple : Addr}
    {od_law_tuple : Option Addr}
    {an_law_tuple : Option Addr}
    {sl_law_tuple : Array (Option Value)}
    {oc_law_tuple kV_law_tuple dc_law_tuple pm_law_tuple cd_law_tuple ct_law_tuple : Value}
    (a_law_tuple : PySem.W.nsIn K mainGlobals "_law_tuple" = some (some (.ref f_law_tuple)))
    (l_law_tuple : K.lookup f_law_tuple = some ⟨oc_law_tuple, od_law_tuple, .func (PySem.W.fnOf "_law_tuple" "_law_tuple" (defArgs s_law_tuple) (defBody s_law_tuple) (defScope s_law_tuple) .none kV_law_tuple dc_law_tuple pm_law_tuple an_law_tuple cd_law_tuple ct_law_tuple), sl_law_tuple⟩)
    (c_law_tuple : PySem.W.codeIn K cd_law_tuple "_law_tuple" = true)
    (k_law_tuple : PySem.W.keepIn K (.ref f_law_tuple) = true)
    {f_law_walk : Addr}
    {od_law_walk : Option Addr}
    {an_law_walk : Option Addr}
    {sl_law_walk : Array (Option Value)}
    {oc_law_walk kV_law_walk dc_law_walk pm_law_walk cd_law_walk ct_law_walk : Value}
    (a_law_walk : PySem.W.nsIn K mainGlobals "_law_walk" = some (some (.ref f_law_walk)))
    (l_law_walk : K.lookup f_law_walk = some ⟨oc_law_walk, od_law_walk, .func (PySem.W.fnOf "_law_walk" "_law_walk" (defArgs s_law_walk) (defBody s_law_walk) (defScope s_law_walk) .none kV_law_walk dc_law_walk pm_law_walk an_law_walk cd_law_walk ct_law_walk), sl_law_walk⟩)
    (c_law_walk : PySem.W.codeIn K cd_law_walk "_law_walk" = true)
    (k_law_walk : PySem.W.keepIn K (.ref f_law_walk) = true)
    {f_Web__step_worths : Addr}
    {od_Web__step_worths : Option Addr}
    {an_Web__step_worths : Option Addr}
    {sl_Web__step_worths : Array (Option Value)}
    {oc_Web__step_worths kV_Web__step_worths dc_Web__step_worths pm_Web__step_worths cd_Web__step_worths ct_Web__step_worths : Value}
    (a_Web__step_worths : PySem.W.findIn K (.ref C_Web) "_step_worths" = some (some (.ref f_Web__step_worths)))
    (i_Web__step_worths : PySem.W.isFn K (.ref f_Web__step_worths) = true)
    (l_Web__step_worths : K.lookup f_Web__step_worths = some ⟨oc_Web__step_worths, od_Web__step_worths, .func (PySem.W.fnOf "_step_worths" "Web._step_worths" (defArgs s_Web__step_worths) (defBody s_Web__step_worths) (defScope s_Web__step_worths) .none kV_Web__step_worths dc_Web__step_worths pm_Web__step_worths an_Web__step_worths cd_Web__step_worths ct_Web__step_worths), sl_Web__step_worths⟩)
    (c_Web__step_worths : PySem.W.codeIn K cd_Web__step_worths "Web._step_worths" = true)
    (k_Web__step_worths : PySem.W.keepIn K (.ref f_Web__step_worths) = true)
    {f_Web_is_way : Addr}
    {od_Web_is_way : Option Addr}
    {an_Web_is_way : Option Addr}
    {sl_Web_is_way : Array (Option Value)}
    {oc_Web_is_way kV_Web_is_way dc_Web_is_way pm_Web_is_way cd_Web_is_way ct_Web_is_way : Value}
    (a_Web_is_way : PySem.W.findIn K (.ref C_Web) "is_way" = some (some (.ref f_Web_is_way)))
    (i_Web_is_way : PySem.W.isFn K (.ref f_Web_is_way) = true)
    (l_Web_is_way : K.lookup f_Web_is_way = some ⟨oc_Web_is_way, od_Web_is_way, .func (PySem.W.fnOf "is_way" "Web.is_way" (defArgs s_Web_is_way) (defBody s_Web_is_way) (defScope s_Web_is_way) .none kV_Web_is_way dc_Web_is_way pm_Web_is_way an_Web_is_way cd_Web_is_way ct_Web_is_way), sl_Web_is_way⟩)
    (c_Web_is_way : PySem.W.codeIn K cd_Web_is_way "Web.is_way" = true)
    (k_Web_is_way : PySem.W.keepIn K (.ref f_Web_is_way) = true)
    {f_Web_way_worth : Addr}
    {od_Web_way_worth : Option Addr}
    {an_Web_way_worth : Option Addr}
    {sl_Web_way_worth : Array (Option Value)}
    {oc_Web_way_worth kV_Web_way_worth dc_Web_way_worth pm_Web_way_worth cd_Web_way_worth ct_Web_way_worth : Value}
    (a_Web_way_worth : PySem.W.findIn K (.ref C_Web) "way_worth" = some (some (.ref f_Web_way_worth)))
    (i_Web_way_worth : PySem.W.isFn K (.ref f_Web_way_worth) = true)
    (l_Web_way_worth : K.lookup f_Web_way_worth = some ⟨oc_Web_way_worth, od_Web_way_worth, .func (PySem.W.fnOf "way_worth" "Web.way_worth" (defArgs s_Web_way_worth) (defBody s_Web_way_worth) (defScope s_Web_way_worth) .none kV_Web_way_worth dc_Web_way_worth pm_Web_way_worth an_Web_way_worth cd_Web_way_worth ct_Web_way_worth), sl_Web_way_worth⟩)
    (c_Web_way_worth : PySem.W.codeIn K cd_Web_way_worth "Web.way_worth" = true)
    (k_Web_way_worth : PySem.W.keepIn K (.ref f_Web_way_worth) = true)
    {f_law_no_way : Addr}
    {od_law_no_way : Option Addr}
    {an_law_no_way : Option Addr}
    {sl_law_no_way : Array (Option Value)}
    {oc_law_no_way kV_law_no_way dc_law_no_way pm_law_no_way cd_law_no_way ct_law_no_way : Value}
    (a_law_no_way : PySem.W.nsIn K mainGlobals "_law_no_way" = some (some (.ref f_law_no_way)))
    (l_law_no_way : K.lookup f_law_no_way = some ⟨oc_law_no_way, od_law_no_way, .func (PySem.W.fnOf "_law_no_way" "_law_no_way" (defArgs s_law_no_way) (defBody s_law_no_way) (defScope s_law_no_way) .none kV_law_no_way dc_law_no_way pm_law_no_way an_law_no_way cd_law_no_way ct_law_no_way), sl_law_no_way⟩)
    (c_law_no_way : PySem.W.codeIn K cd_law_no_way "_law_no_way" = true)
    (k_law_no_way : PySem.W.keepIn K (.ref f_law_no_way) = true)
    {f_law_tuples_right : Addr}
    {od_law_tuples_right : Option Addr}
    {an_law_tuples_right : Option Addr}
    {sl_law_tuples_right : Array (Option Value)}
    {oc_law_tuples_right kV_law_tuples_right dc_law_tuples_right pm_law_tuples_right cd_law_tuples_right ct_law_tuples_right : Value}
    (a_law_tuples_right : PySem.W.nsIn K mainGlobals "_law_tuples_right" = some (some (.ref f_law_tuples_right)))
    (l_law_tuples_right : K.lookup f_law_tuples_right = some ⟨oc_law_tuples_right, od_law_tuples_right, .func (PySem.W.fnOf "_law_tuples_right" "_law_tuples_right" (defArgs s_law_tuples_right) (defBody s_law_tuples_right) (defScope s_law_tuples_right) .none kV_law_tuples_right dc_law_tuples_right pm_law_tuples_right an_law_tuples_right cd_law_tuples_right ct_law_tuples_right), sl_law_tuples_right⟩)
    (c_law_tuples_right : PySem.W.codeIn K cd_law_tuples_right "_law_tuples_right" = true)
    (k_law_tuples_right : PySem.W.keepIn K (.ref f_law_tuples_right) = true)
    {f_law_refused : Addr}
    {od_law_refused : Option Addr}
    {an_law_refused : Option Addr}
    {sl_law_refused : Array (Option Value)}
    {oc_law_refused kV_law_refused dc_law_refused pm_law_refused cd_law_refused ct_law_refused : Value}
    (a_law_refused : PySem.W.nsIn K mainGlobals "_law_refused" = some (some (.ref f_law_refused)))
    (l_law_refused : K.lookup f_law_refused = some ⟨oc_law_refused, od_law_refused, .func (PySem.W.fnOf "_law_refused" "_law_refused" (defArgs s_law_refused) (defBody s_law_refused) (defScope s_law_refused) .none kV_law_refused dc_law_refused pm_law_refused an_law_refused cd_law_refused ct_law_refused), sl_law_refused⟩)
    (c_law_refused : PySem.W.codeIn K cd_law_refused "_law_refused" = true)
    (k_law_refused : PySem.W.keepIn K (.ref f_law_refused) = true)
    {f_law_bad_right : Addr}
    {od_law_bad_right : Option Addr}
    {an_law_bad_right : Option Addr}
    {sl_law_bad_right : Array (Option Value)}
    {oc_law_bad_right kV_law_bad_right dc_law_bad_right pm_law_bad_right cd_law_bad_right ct_law_bad_right : Value}
    (a_law_bad_right : PySem.W.nsIn K mainGlobals "_law_bad_right" = some (some (.ref f_law_bad_right)))
    (l_law_bad_right : K.lookup f_law_bad_right = some ⟨oc_law_bad_right, od_law_bad_right, .func (PySem.W.fnOf "_law_bad_right" "_law_bad_right" (defArgs s_law_bad_right) (defBody s_law_bad_right) (defScope s_law_bad_right) .none kV_law_bad_right dc_law_bad_right pm_law_bad_right an_law_bad_right cd_law_bad_right ct_law_bad_right), sl_law_bad_right⟩)
    (c_law_bad_right : PySem.W.codeIn K cd_law_bad_right "_law_bad_right" = true)
    (k_law_bad_right : PySem.W.keepIn K (.ref f_law_bad_right) = true)
    {f_law : Addr}
    {od_law : Option Addr}
    {an_law : Option Addr}
    {sl_law : Array (Option Value)}
    {oc_law kV_law dc_law pm_law cd_law ct_law : Value}
    (a_law : PySem.W.nsIn K mainGlobals "law" = some (some (.ref f_law)))
    (l_law : K.lookup f_law = some ⟨oc_law, od_law, .func (PySem.W.fnOf "law" "law" (defArgs s_law) (defBody s_law) (defScope s_law) .none kV_law dc_law pm_law an_law cd_law ct_law), sl_law⟩)
    (c_law : PySem.W.codeIn K cd_law "law" = true)
    (k_law : PySem.W.keepIn K (.ref f_law) = true)
    (z_ValueError : PySem.W.nsIn K mainGlobals "ValueError" = some none)
    (z_bool : PySem.W.nsIn K mainGlobals "bool" = some none)
    (z_int : PySem.W.nsIn K mainGlobals "int" = some none)
    (z_isinstance : PySem.W.nsIn K mainGlobals "isinstance" = some none)
    (z_len : PySem.W.nsIn K mainGlobals "len" = some none)
    (z_list : PySem.W.nsIn K mainGlobals "list" = some none)
    (z_max : PySem.W.nsIn K mainGlobals "max" = some none)
    (z_range : PySem.W.nsIn K mainGlobals "range" = some none)
    (z_set : PySem.W.nsIn K mainGlobals "set" = some none)
    (z_sorted : PySem.W.nsIn K mainGlobals "sorted" = some none)
    (z_sum : PySem.W.nsIn K mainGlobals "sum" = some none)
    (z_tuple : PySem.W.nsIn K mainGlobals "tuple" = some none)
    (z_zip : PySem.W.nsIn K mainGlobals "zip" = some none)
    : ∃ fd : FuncData, (∀ (s : Shared) (v : Value), BindsTo s fd ⟨[v], []⟩ [("script", v)]) ∧ ∀ base : Heap, K.In base → base.Ns mainGlobals mg → FnOk l.prog w K mg base CX0 7 fa fd ["script"] (spLaw K) := by
  have e := hfa.symm.trans (PySem.W.mg_of X G a_law)
  cases e
  have cl_Web : Cls K C_Web := ⟨pg_Web, hd_Web, po_Web, sa_Web⟩
  have gl_Web : mg "Web" = some (.ref C_Web) := PySem.W.mg_of X G aC_Web
  have cr_Web : CRead K C_Web (.type "type") := ⟨rd_Web, ga_Web⟩
  have gl_ServeError : mg "ServeError" = some (.ref C_ServeError) := PySem.W.mg_of X G aC_ServeError
  have gl_BadTable : mg "BadTable" = some (.ref C_BadTable) := PySem.W.mg_of X G aC_BadTable
  have gl_BadWeb : mg "BadWeb" = some (.ref C_BadWeb) := PySem.W.mg_of X G aC_BadWeb
  have EC_BadWeb : ExcC K C_BadWeb := ⟨ga_BadWeb, gg_BadWeb, exC_BadWeb, hdC_BadWeb, iha_BadWeb, ihn_BadWeb, iht_BadWeb, ihm_BadWeb⟩
  have xi_BadWeb := xh_BadWeb
  have kp_BadWeb := kC_BadWeb
  have ty_BadWeb := tyC_BadWeb
  have em_BadWeb_ServeError := PySem.W.exm_ref exC_ServeError hdC_ServeError tyC_ServeError sb_BadWeb_ServeError
  have kt_BadWeb_BadTable := kit_subB icl_BadTable tyC_BadTable sb_BadWeb_BadTable sb_BadWeb_BadWeb
  have kt_BadWeb_BadWeb := kit_subB icl_BadWeb tyC_BadWeb sb_BadWeb_BadWeb sb_BadWeb_BadWeb
  have kt_BadWeb_ValueError := kit_val vE_BadWeb
  have cv_Web_MOST_PLACES : CVal K C_Web (.type "type") "MOST_PLACES" (.int 12) (.int 12 tk_cv_Web_MOST_PLACES) := ⟨vcv_Web_MOST_PLACES, ⟨_, rfl⟩⟩
  have na_Web_places : NoAttr K C_Web "places" := nna_Web_places
  have na_Web__worth_at : NoAttr K C_Web "_worth_at" := nna_Web__worth_at
  have F_law_cell := fun_mk (st := s_law_cell) l_law_cell c_law_cell k_law_cell
  have D_law_cell : DefAt K mg "_law_cell" s_law_cell ["script", "k"] _ _ := ⟨F_law_cell, PySem.W.mg_of X G a_law_cell, F_law_cell.binds (ps := ["script", "k"]) fun _ _ _ _ _ _ us hl => match us, hl with | [_, _], _ => rfl⟩
  have F_law_draws := fun_mk (st := s_law_draws) l_law_draws c_law_draws k_law_draws
  have D_law_draws : DefAt K mg "_law_draws" s_law_draws ["cell", "limits"] _ _ := ⟨F_law_draws, PySem.W.mg_of X G a_law_draws, F_law_draws.binds (ps := ["cell", "limits"]) fun _ _ _ _ _ _ us hl => match us, hl with | [_, _], _ => rfl⟩
  have F_law_steps := fun_mk (st := s_law_steps) l_law_steps c_law_steps k_law_steps
  have D_law_steps : DefAt K mg "_law_steps" s_law_steps ["script", "places", "share", "large"] _ _ := ⟨F_law_steps, PySem.W.mg_of X G a_law_steps, F_law_steps.binds (ps := ["script", "places", "share", "large"]) fun _ _ _ _ _ _ us hl => match us, hl with | [_, _, _, _], _ => rfl⟩
  have F_Web___init__ := fun_mk (st := s_Web___init__) l_Web___init__ c_Web___init__ k_Web___init__
  have D_Web___init__ : MetAt K "__init__" "Web.__init__" s_Web___init__ ["self", "places", "steps"] _ _ := ⟨F_Web___init__, F_Web___init__.binds (ps := ["self", "places", "steps"]) fun _ _ _ _ _ _ us hl => match us, hl with | [_, _, _], _ => rfl⟩
  have mk_Web : Mk K C_Web f_Web___init__ := ⟨mkc_Web, a_Web___init__, i_Web___init__, kcl_Web⟩
  have F_Web_steps := fun_mk (st := s_Web_steps) l_Web_steps c_Web_steps k_Web_steps
  have D_Web_steps : MetAt K "steps" "Web.steps" s_Web_steps ["self"] _ _ := ⟨F_Web_steps, F_Web_steps.binds (ps := ["self"]) fun _ _ _ _ _ _ us hl => match us, hl with | [_], _ => rfl⟩
  have pr_Web_steps : PropOf K C_Web "steps" p_Web_steps f_Web_steps := ⟨a_Web_steps, pg_Web_steps, pt_Web_steps, ⟨_, r_Web_steps⟩⟩
  have F_Web_after := fun_mk (st := s_Web_after) l_Web_after c_Web_after k_Web_after
  have D_Web_after : MetAt K "after" "Web.after" s_Web_after ["self", "place"] _ _ := ⟨F_Web_after, F_Web_after.binds (ps := ["self", "place"]) fun _ _ _ _ _ _ us hl => match us, hl with | [_, _], _ => rfl⟩
  have me_Web_after : Meth K C_Web "after" f_Web_after := ⟨a_Web_after, i_Web_after, k_Web_after⟩
  have F_Web_before := fun_mk (st := s_Web_before) l_Web_before c_Web_before k_Web_before
  have D_Web_before : MetAt K "before" "Web.before" s_Web_before ["self", "place"] _ _ := ⟨F_Web_before, F_Web_before.binds (ps := ["self", "place"]) fun _ _ _ _ _ _ us hl => match us, hl with | [_, _], _ => rfl⟩
  have me_Web_before : Meth K C_Web "before" f_Web_before := ⟨a_Web_before, i_Web_before, k_Web_before⟩
  have F_Web_worth_of := fun_mk (st := s_Web_worth_of) l_Web_worth_of c_Web_worth_of k_Web_worth_of
  have D_Web_worth_of : MetAt K "worth_of" "Web.worth_of" s_Web_worth_of ["self", "u", "v"] _ _ := ⟨F_Web_worth_of, F_Web_worth_of.binds (ps := ["self", "u", "v"]) fun _ _ _ _ _ _ us hl => match us, hl with | [_, _, _], _ => rfl⟩
  have me_Web_worth_of : Meth K C_Web "worth_of" f_Web_worth_of := ⟨a_Web_worth_of, i_Web_worth_of, k_Web_worth_of⟩
  have F_law_step := fun_mk (st := s_law_step) l_law_step c_law_step k_law_step
  have D_law_step : DefAt K mg "_law_step" s_law_step ["due", "u", "v"] _ _ := ⟨F_law_step, PySem.W.mg_of X G a_law_step, F_law_step.binds (ps := ["due", "u", "v"]) fun _ _ _ _ _ _ us hl => match us, hl with | [_, _, _], _ => rfl⟩
  have F_law_right := fun_mk (st := s_law_right) l_law_right c_law_right k_law_right
  have D_law_right : DefAt K mg "_law_right" s_law_right ["web", "places", "due"] _ _ := ⟨F_law_right, PySem.W.mg_of X G a_law_right, F_law_right.binds (ps := ["web", "places", "due"]) fun _ _ _ _ _ _ us hl => match us, hl with | [_, _, _], _ => rfl⟩
  have F_Web_all_ways := fun_mk (st := s_Web_all_ways) l_Web_all_ways c_Web_all_ways k_Web_all_ways
  have D_Web_all_ways : MetAt K "all_ways" "Web.all_ways" s_Web_all_ways ["self", "count"] _ _ := ⟨F_Web_all_ways, F_Web_all_ways.binds (ps := ["self", "count"]) fun _ _ _ _ _ _ us hl => match us, hl with | [_, _], _ => rfl⟩
  have me_Web_all_ways : Meth K C_Web "all_ways" f_Web_all_ways := ⟨a_Web_all_ways, i_Web_all_ways, k_Web_all_ways⟩
  have F_law_ways := fun_mk (st := s_law_ways) l_law_ways c_law_ways k_law_ways
  have D_law_ways : DefAt K mg "_law_ways" s_law_ways ["due", "places", "count"] _ _ := ⟨F_law_ways, PySem.W.mg_of X G a_law_ways, F_law_ways.binds (ps := ["due", "places", "count"]) fun _ _ _ _ _ _ us hl => match us, hl with | [_, _, _], _ => rfl⟩
  have F_law_all_right := fun_mk (st := s_law_all_right) l_law_all_right c_law_all_right k_law_all_right
  have D_law_all_right : DefAt K mg "_law_all_right" s_law_all_right ["web", "places", "due", "most"] _ _ := ⟨F_law_all_right, PySem.W.mg_of X G a_law_all_right, F_law_all_right.binds (ps := ["web", "places", "due", "most"]) fun _ _ _ _ _ _ us hl => match us, hl with | [_, _, _, _], _ => rfl⟩
  have F_Web___invert__ := fun_mk (st := s_Web___invert__) l_Web___invert__ c_Web___invert__ k_Web___invert__
  have D_Web___invert__ : MetAt K "__invert__" "Web.__invert__" s_Web___invert__ ["self"] _ _ := ⟨F_Web___invert__, F_Web___invert__.binds (ps := ["self"]) fun _ _ _ _ _ _ us hl => match us, hl with | [_], _ => rfl⟩
  have iv_Web___invert__ : Inver K C_Web f_Web___invert__ := ⟨a_Web___invert__, i_Web___invert__⟩
  have F_law_tuple := fun_mk (st := s_law_tuple) l_law_tuple c_law_tuple k_law_tuple
  have D_law_tuple : DefAt K mg "_law_tuple" s_law_tuple ["due", "places", "drawn"] _ _ := ⟨F_law_tuple, PySem.W.mg_of X G a_law_tuple, F_law_tuple.binds (ps := ["due", "places", "drawn"]) fun _ _ _ _ _ _ us hl => match us, hl with | [_, _, _], _ => rfl⟩
  have F_law_walk := fun_mk (st := s_law_walk) l_law_walk c_law_walk k_law_walk
  have D_law_walk : DefAt K mg "_law_walk" s_law_walk ["due", "places", "way"] _ _ := ⟨F_law_walk, PySem.W.mg_of X G a_law_walk, F_law_walk.binds (ps := ["due", "places", "way"]) fun _ _ _ _ _ _ us hl => match us, hl with | [_, _, _], _ => rfl⟩
  have F_Web__step_worths := fun_mk (st := s_Web__step_worths) l_Web__step_worths c_Web__step_worths k_Web__step_worths
  have D_Web__step_worths : MetAt K "_step_worths" "Web._step_worths" s_Web__step_worths ["self", "way"] _ _ := ⟨F_Web__step_worths, F_Web__step_worths.binds (ps := ["self", "way"]) fun _ _ _ _ _ _ us hl => match us, hl with | [_, _], _ => rfl⟩
  have me_Web__step_worths : Meth K C_Web "_step_worths" f_Web__step_worths := ⟨a_Web__step_worths, i_Web__step_worths, k_Web__step_worths⟩
  have F_Web_is_way := fun_mk (st := s_Web_is_way) l_Web_is_way c_Web_is_way k_Web_is_way
  have D_Web_is_way : MetAt K "is_way" "Web.is_way" s_Web_is_way ["self", "way"] _ _ := ⟨F_Web_is_way, F_Web_is_way.binds (ps := ["self", "way"]) fun _ _ _ _ _ _ us hl => match us, hl with | [_, _], _ => rfl⟩
  have me_Web_is_way : Meth K C_Web "is_way" f_Web_is_way := ⟨a_Web_is_way, i_Web_is_way, k_Web_is_way⟩
  have F_Web_way_worth := fun_mk (st := s_Web_way_worth) l_Web_way_worth c_Web_way_worth k_Web_way_worth
  have D_Web_way_worth : MetAt K "way_worth" "Web.way_worth" s_Web_way_worth ["self", "way"] _ _ := ⟨F_Web_way_worth, F_Web_way_worth.binds (ps := ["self", "way"]) fun _ _ _ _ _ _ us hl => match us, hl with | [_, _], _ => rfl⟩
  have me_Web_way_worth : Meth K C_Web "way_worth" f_Web_way_worth := ⟨a_Web_way_worth, i_Web_way_worth, k_Web_way_worth⟩
  have F_law_no_way := fun_mk (st := s_law_no_way) l_law_no_way c_law_no_way k_law_no_way
  have D_law_no_way : DefAt K mg "_law_no_way" s_law_no_way ["web", "way"] _ _ := ⟨F_law_no_way, PySem.W.mg_of X G a_law_no_way, F_law_no_way.binds (ps := ["web", "way"]) fun _ _ _ _ _ _ us hl => match us, hl with | [_, _], _ => rfl⟩
  have F_law_tuples_right := fun_mk (st := s_law_tuples_right) l_law_tuples_right c_law_tuples_right k_law_tuples_right
  have D_law_tuples_right : DefAt K mg "_law_tuples_right" s_law_tuples_right ["script", "web", "places", "due"] _ _ := ⟨F_law_tuples_right, PySem.W.mg_of X G a_law_tuples_right, F_law_tuples_right.binds (ps := ["script", "web", "places", "due"]) fun _ _ _ _ _ _ us hl => match us, hl with | [_, _, _, _], _ => rfl⟩
  have F_law_refused := fun_mk (st := s_law_refused) l_law_refused c_law_refused k_law_refused
  have D_law_refused : DefAt K mg "_law_refused" s_law_refused ["places", "rows"] _ _ := ⟨F_law_refused, PySem.W.mg_of X G a_law_refused, F_law_refused.binds (ps := ["places", "rows"]) fun _ _ _ _ _ _ us hl => match us, hl with | [_, _], _ => rfl⟩
  have F_law_bad_right := fun_mk (st := s_law_bad_right) l_law_bad_right c_law_bad_right k_law_bad_right
  have D_law_bad_right : DefAt K mg "_law_bad_right" s_law_bad_right ["places", "made", "drawn"] _ _ := ⟨F_law_bad_right, PySem.W.mg_of X G a_law_bad_right, F_law_bad_right.binds (ps := ["places", "made", "drawn"]) fun _ _ _ _ _ _ us hl => match us, hl with | [_, _, _], _ => rfl⟩
  have F_law := fun_mk (st := s_law) l_law c_law k_law
  have D_law : DefAt K mg "law" s_law ["script"] _ _ := ⟨F_law, PySem.W.mg_of X G a_law, F_law.binds (ps := ["script"]) fun _ _ _ _ _ _ us hl => match us, hl with | [_], _ => rfl⟩
  have mB_ValueError := PySem.W.mg_none_of X G z_ValueError
  have mB_bool := PySem.W.mg_none_of X G z_bool
  have mB_int := PySem.W.mg_none_of X G z_int
  have mB_isinstance := PySem.W.mg_none_of X G z_isinstance
  have mB_len := PySem.W.mg_none_of X G z_len
  have mB_list := PySem.W.mg_none_of X G z_list
  have mB_max := PySem.W.mg_none_of X G z_max
  have mB_range := PySem.W.mg_none_of X G z_range
  have mB_set := PySem.W.mg_none_of X G z_set
  have mB_sorted := PySem.W.mg_none_of X G z_sorted
  have mB_sum := PySem.W.mg_none_of X G z_sum
  have mB_tuple := PySem.W.mg_none_of X G z_tuple
  have mB_zip := PySem.W.mg_none_of X G z_zip
  refine ⟨PySem.W.fnOf "law" "law" (defArgs s_law) (defBody s_law) (defScope s_law) .none kV_law dc_law pm_law an_law cd_law ct_law, fun s v => .of_eq rfl, fun base _ _ => ?_⟩
  have G_law_cell := ok_law_cell (P := l.prog) (wo := w) (mg := mg) (base := base) D_law_cell mB_len
  have G_law_draws := ok_law_draws (P := l.prog) (wo := w) (mg := mg) (base := base) D_law_draws mB_int
  have G_law_steps := ok_law_steps (P := l.prog) (wo := w) (mg := mg) (base := base) D_law_steps D_law_cell D_law_draws G_law_cell G_law_draws mB_range
  have G_Web___init__ := ok_Web___init__ (P := l.prog) (wo := w) (mg := mg) (base := base) D_Web___init__ mB_len mB_sorted cr_Web cv_Web_MOST_PLACES gl_Web cl_Web na_Web_places na_Web__worth_at
  have G_Web_steps := ok_Web_steps (P := l.prog) (wo := w) (mg := mg) (base := base) D_Web_steps cl_Web na_Web__worth_at
  have G_Web_after := ok_Web_after (P := l.prog) (wo := w) (mg := mg) (base := base) D_Web_after cl_Web na_Web__worth_at
  have G_Web_before := ok_Web_before (P := l.prog) (wo := w) (mg := mg) (base := base) D_Web_before cl_Web na_Web__worth_at
  have G_Web_worth_of := ok_Web_worth_of (P := l.prog) (wo := w) (mg := mg) (base := base) D_Web_worth_of cl_Web na_Web__worth_at
  have G_law_step := ok_law_step (P := l.prog) (wo := w) (mg := mg) (base := base) D_law_step
  have G_law_right := ok_law_right (P := l.prog) (wo := w) (mg := mg) (base := base) D_law_right D_Web_steps D_Web_after D_Web_before D_Web_worth_of D_law_step G_Web_steps G_Web_after G_Web_before G_Web_worth_of G_law_step mB_bool mB_isinstance mB_range cl_Web na_Web_places cr_Web cv_Web_MOST_PLACES gl_Web pr_Web_steps me_Web_after me_Web_before me_Web_worth_of
  have G_Web_all_ways := ok_Web_all_ways (P := l.prog) (wo := w) (mg := mg) (base := base) D_Web_all_ways D_Web_after G_Web_after mB_len mB_range cl_Web na_Web_places me_Web_after
  have G_law_ways := ok_law_ways (P := l.prog) (wo := w) (mg := mg) (base := base) D_law_ways mB_list mB_range
  have G_law_all_right := ok_law_all_right (P := l.prog) (wo := w) (mg := mg) (base := base) D_law_all_right D_Web_all_ways D_law_ways G_Web_all_ways G_law_ways mB_isinstance mB_list mB_range mB_tuple me_Web_all_ways cl_Web
  have G_Web___invert__ := ok_Web___invert__ (P := l.prog) (wo := w) (mg := mg) (base := base) D_Web___invert__ D_Web___init__ G_Web___init__ cl_Web na_Web_places na_Web__worth_at mk_Web gl_Web
  have G_law_tuple := ok_law_tuple (P := l.prog) (wo := w) (mg := mg) (base := base) D_law_tuple mB_len mB_range mB_tuple
  have G_law_walk := ok_law_walk (P := l.prog) (wo := w) (mg := mg) (base := base) D_law_walk D_law_step G_law_step mB_len mB_range
  have G_Web__step_worths := ok_Web__step_worths (P := l.prog) (wo := w) (mg := mg) (base := base) D_Web__step_worths mB_zip cl_Web na_Web__worth_at
  have G_Web_is_way := ok_Web_is_way (P := l.prog) (wo := w) (mg := mg) (base := base) D_Web_is_way D_Web__step_worths G_Web__step_worths mB_len mB_set cl_Web na_Web_places me_Web__step_worths
  have G_Web_way_worthX := ok_Web_way_worthX (P := l.prog) (wo := w) (mg := mg) (base := base) D_Web_way_worth D_Web_is_way D_Web__step_worths G_Web_is_way G_Web__step_worths mB_sum me_Web_is_way cl_Web gl_BadWeb xi_BadWeb kp_BadWeb ty_BadWeb EC_BadWeb me_Web__step_worths
  have G_law_no_way := ok_law_no_way (P := l.prog) (wo := w) (mg := mg) (base := base) D_law_no_way D_Web_way_worth G_Web_way_worthX mB_isinstance gl_ServeError me_Web_way_worth EC_BadWeb gl_BadWeb kt_BadWeb_BadWeb gl_BadTable kt_BadWeb_BadTable em_BadWeb_ServeError cl_Web
  have G_Web_way_worth := ok_Web_way_worth (P := l.prog) (wo := w) (mg := mg) (base := base) D_Web_way_worth D_Web_is_way D_Web__step_worths G_Web_is_way G_Web__step_worths mB_sum me_Web_is_way cl_Web me_Web__step_worths
  have G_law_tuples_right := ok_law_tuples_right (P := l.prog) (wo := w) (mg := mg) (base := base) D_law_tuples_right D_law_cell D_law_draws D_law_tuple D_law_walk D_Web_is_way D_law_no_way D_Web_way_worth G_law_cell G_law_draws G_law_tuple G_law_walk G_Web_is_way G_law_no_way G_Web_way_worth mB_bool mB_int mB_isinstance mB_range me_Web_is_way cl_Web me_Web_way_worth
  have G_Web___init__X := ok_Web___init__X (P := l.prog) (wo := w) (mg := mg) (base := base) D_Web___init__ mB_len mB_sorted cr_Web cv_Web_MOST_PLACES gl_Web gl_BadWeb xi_BadWeb kp_BadWeb ty_BadWeb EC_BadWeb cl_Web na_Web_places na_Web__worth_at
  have G_law_refused := ok_law_refused (P := l.prog) (wo := w) (mg := mg) (base := base) D_law_refused D_Web___init__ G_Web___init__X mB_ValueError mB_isinstance gl_ServeError mk_Web EC_BadWeb gl_BadWeb kt_BadWeb_BadWeb kt_BadWeb_ValueError gl_BadTable kt_BadWeb_BadTable em_BadWeb_ServeError gl_Web
  have G_law_bad_right := ok_law_bad_right (P := l.prog) (wo := w) (mg := mg) (base := base) D_law_bad_right D_law_refused G_law_refused mB_len mB_list mB_max
  exact law_ok (ok_law (P := l.prog) (wo := w) (mg := mg) (base := base) D_law D_law_cell D_law_draws D_law_steps D_Web___init__ D_law_right D_law_all_right D_Web___invert__ D_law_tuples_right D_Web_steps D_Web_after D_Web_before D_law_bad_right G_law_cell G_law_draws G_law_steps G_Web___init__ G_law_right G_law_all_right G_Web___invert__ G_law_tuples_right G_Web_steps G_Web_after G_Web_before G_law_bad_right mB_list mB_sorted mk_Web gl_Web iv_Web___invert__ cl_Web pr_Web_steps me_Web_after me_Web_before)
end LW
open PySem PySem.W PyProof.Rows
set_option maxHeartbeats 0 in
theorem PySem.Challenge.cw_fewserve_k56_webs_holds : PySem.Challenge.rw_fewserve_k56_webs.Holds := by
  w_on; o_law; k_head; (case hw => w_witness2)
  k_fill
  refine L2.walk_of (l := PySem.Challenge.rw_fewserve_k56_webs) (n := 63) (k := 7) (x := "script") (CX := fun _ => L2.CX0) (sp := fun w => LW.spLaw _) rfl (by decide) rfl ⟨rfl, by decide, by decide⟩ (fun w h Y => PySem.W.kIn_of Y) ?F (fun _ _ a ns hl _ hS => ⟨a, ns, rfl, hS, hl, fun _ => rfl⟩) (fun _ _ _ _ _ h => h)
  case F =>
    intro w mg fa h KX G hmg
    refine' LW.all_mk KX G hmg ?aC_Web ?pg_Web ?hd_Web ?po_Web ?sa_Web ?rd_Web ?ga_Web ?aC_ServeError ?aC_BadTable ?aC_BadWeb ?ga_BadWeb ?gg_BadWeb ?exC_BadWeb ?hdC_BadWeb ?iha_BadWeb ?ihn_BadWeb ?iht_BadWeb ?ihm_BadWeb ?xh_BadWeb ?kC_BadWeb ?tyC_BadWeb ?exC_ServeError ?hdC_ServeError ?tyC_ServeError ?sb_BadWeb_ServeError ?icl_BadTable ?tyC_BadTable ?sb_BadWeb_BadTable ?sb_BadWeb_BadWeb ?icl_BadWeb ?vE_BadWeb ?vcv_Web_MOST_PLACES ?nna_Web_places ?nna_Web__worth_at ?a_law_cell ?l_law_cell ?c_law_cell ?k_law_cell ?a_law_draws ?l_law_draws ?c_law_draws ?k_law_draws ?a_law_steps ?l_law_steps ?c_law_steps ?k_law_steps ?a_Web___init__ ?i_Web___init__ ?l_Web___init__ ?c_Web___init__ ?k_Web___init__ ?mkc_Web ?kcl_Web ?a_Web_steps ?pg_Web_steps ?pt_Web_steps ?r_Web_steps ?l_Web_steps ?c_Web_steps ?k_Web_steps ?a_Web_after ?i_Web_after ?l_Web_after ?c_Web_after ?k_Web_after ?a_Web_before ?i_Web_before ?l_Web_before ?c_Web_before ?k_Web_before ?a_Web_worth_of ?i_Web_worth_of ?l_Web_worth_of ?c_Web_worth_of ?k_Web_worth_of ?a_law_step ?l_law_step ?c_law_step ?k_law_step ?a_law_right ?l_law_right ?c_law_right ?k_law_right ?a_Web_all_ways ?i_Web_all_ways ?l_Web_all_ways ?c_Web_all_ways ?k_Web_all_ways ?a_law_ways ?l_law_ways ?c_law_ways ?k_law_ways ?a_law_all_right ?l_law_all_right ?c_law_all_right ?k_law_all_right ?a_Web___invert__ ?i_Web___invert__ ?l_Web___invert__ ?c_Web___invert__ ?k_Web___invert__ ?a_law_tuple ?l_law_tuple ?c_law_tuple ?k_law_tuple ?a_law_walk ?l_law_walk ?c_law_walk ?k_law_walk ?a_Web__step_worths ?i_Web__step_worths ?l_Web__step_worths ?c_Web__step_worths ?k_Web__step_worths ?a_Web_is_way ?i_Web_is_way ?l_Web_is_way ?c_Web_is_way ?k_Web_is_way ?a_Web_way_worth ?i_Web_way_worth ?l_Web_way_worth ?c_Web_way_worth ?k_Web_way_worth ?a_law_no_way ?l_law_no_way ?c_law_no_way ?k_law_no_way ?a_law_tuples_right ?l_law_tuples_right ?c_law_tuples_right ?k_law_tuples_right ?a_law_refused ?l_law_refused ?c_law_refused ?k_law_refused ?a_law_bad_right ?l_law_bad_right ?c_law_bad_right ?k_law_bad_right ?a_law ?l_law ?c_law ?k_law ?z_ValueError ?z_bool ?z_int ?z_isinstance ?z_len ?z_list ?z_max ?z_range ?z_set ?z_sorted ?z_sum ?z_tuple ?z_zip
    (case aC_Web => k_is)
    (case pg_Web => k_is)
    (case hd_Web => k_is)
    (case po_Web => k_is)
    (case sa_Web => k_is)
    (case rd_Web => k_is)
    (case ga_Web => k_is)
    (case aC_ServeError => k_is)
    (case aC_BadTable => k_is)
    (case aC_BadWeb => k_is)
    (case ga_BadWeb => k_is)
    (case gg_BadWeb => k_is)
    (case exC_BadWeb => k_is)
    (case hdC_BadWeb => k_is)
    (case iha_BadWeb => k_is)
    (case ihn_BadWeb => k_is)
    (case iht_BadWeb => k_is)
    (case ihm_BadWeb => k_is)
    (case xh_BadWeb => k_exc)
    (case kC_BadWeb => k_is)
    (case tyC_BadWeb => k_is)
    (case exC_ServeError => k_is)
    (case hdC_ServeError => k_is)
    (case tyC_ServeError => k_is)
    (case sb_BadWeb_ServeError => first | rfl | decide | k_is)
    (case icl_BadTable => k_is)
    (case tyC_BadTable => k_is)
    (case sb_BadWeb_BadTable => first | rfl | decide | k_is)
    (case sb_BadWeb_BadWeb => first | rfl | decide | k_is)
    (case icl_BadWeb => k_is)
    (case vE_BadWeb => k_is)
    (case vcv_Web_MOST_PLACES => k_is)
    (case nna_Web_places => k_is)
    (case nna_Web__worth_at => k_is)
    (case a_law_cell => k_is)
    (case l_law_cell => k_is)
    (case c_law_cell => k_is)
    (case k_law_cell => k_is)
    (case a_law_draws => k_is)
    (case l_law_draws => k_is)
    (case c_law_draws => k_is)
    (case k_law_draws => k_is)
    (case a_law_steps => k_is)
    (case l_law_steps => k_is)
    (case c_law_steps => k_is)
    (case k_law_steps => k_is)
    (case a_Web___init__ => k_is)
    (case i_Web___init__ => k_is)
    (case l_Web___init__ => k_is)
    (case c_Web___init__ => k_is)
    (case k_Web___init__ => k_is)
    (case mkc_Web => k_is)
    (case kcl_Web => k_is)
    (case a_Web_steps => k_is)
    (case pg_Web_steps => k_is)
    (case pt_Web_steps => k_is)
    (case r_Web_steps => k_is)
    (case l_Web_steps => k_is)
    (case c_Web_steps => k_is)
    (case k_Web_steps => k_is)
    (case a_Web_after => k_is)
    (case i_Web_after => k_is)
    (case l_Web_after => k_is)
    (case c_Web_after => k_is)
    (case k_Web_after => k_is)
    (case a_Web_before => k_is)
    (case i_Web_before => k_is)
    (case l_Web_before => k_is)
    (case c_Web_before => k_is)
    (case k_Web_before => k_is)
    (case a_Web_worth_of => k_is)
    (case i_Web_worth_of => k_is)
    (case l_Web_worth_of => k_is)
    (case c_Web_worth_of => k_is)
    (case k_Web_worth_of => k_is)
    (case a_law_step => k_is)
    (case l_law_step => k_is)
    (case c_law_step => k_is)
    (case k_law_step => k_is)
    (case a_law_right => k_is)
    (case l_law_right => k_is)
    (case c_law_right => k_is)
    (case k_law_right => k_is)
    (case a_Web_all_ways => k_is)
    (case i_Web_all_ways => k_is)
    (case l_Web_all_ways => k_is)
    (case c_Web_all_ways => k_is)
    (case k_Web_all_ways => k_is)
    (case a_law_ways => k_is)
    (case l_law_ways => k_is)
    (case c_law_ways => k_is)
    (case k_law_ways => k_is)
    (case a_law_all_right => k_is)
    (case l_law_all_right => k_is)
    (case c_law_all_right => k_is)
    (case k_law_all_right => k_is)
    (case a_Web___invert__ => k_is)
    (case i_Web___invert__ => k_is)
    (case l_Web___invert__ => k_is)
    (case c_Web___invert__ => k_is)
    (case k_Web___invert__ => k_is)
    (case a_law_tuple => k_is)
    (case l_law_tuple => k_is)
    (case c_law_tuple => k_is)
    (case k_law_tuple => k_is)
    (case a_law_walk => k_is)
    (case l_law_walk => k_is)
    (case c_law_walk => k_is)
    (case k_law_walk => k_is)
    (case a_Web__step_worths => k_is)
    (case i_Web__step_worths => k_is)
    (case l_Web__step_worths => k_is)
    (case c_Web__step_worths => k_is)
    (case k_Web__step_worths => k_is)
    (case a_Web_is_way => k_is)
    (case i_Web_is_way => k_is)
    (case l_Web_is_way => k_is)
    (case c_Web_is_way => k_is)
    (case k_Web_is_way => k_is)
    (case a_Web_way_worth => k_is)
    (case i_Web_way_worth => k_is)
    (case l_Web_way_worth => k_is)
    (case c_Web_way_worth => k_is)
    (case k_Web_way_worth => k_is)
    (case a_law_no_way => k_is)
    (case l_law_no_way => k_is)
    (case c_law_no_way => k_is)
    (case k_law_no_way => k_is)
    (case a_law_tuples_right => k_is)
    (case l_law_tuples_right => k_is)
    (case c_law_tuples_right => k_is)
    (case k_law_tuples_right => k_is)
    (case a_law_refused => k_is)
    (case l_law_refused => k_is)
    (case c_law_refused => k_is)
    (case k_law_refused => k_is)
    (case a_law_bad_right => k_is)
    (case l_law_bad_right => k_is)
    (case c_law_bad_right => k_is)
    (case k_law_bad_right => k_is)
    (case a_law => k_is)
    (case l_law => k_is)
    (case c_law => k_is)
    (case k_law => k_is)
    (case z_ValueError => k_is)
    (case z_bool => k_is)
    (case z_int => k_is)
    (case z_isinstance => k_is)
    (case z_len => k_is)
    (case z_list => k_is)
    (case z_max => k_is)
    (case z_range => k_is)
    (case z_set => k_is)
    (case z_sorted => k_is)
    (case z_sum => k_is)
    (case z_tuple => k_is)
    (case z_zip => k_is)
