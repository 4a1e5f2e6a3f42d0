import PyProof.Rows.All
import Wide.All
import OpenK.AllK
import Wide.FinOn
import HandS.ForMost
import HandS.Base
import HandS.Call
import HandS.List
import HandS.Comp
import HandS.Ends
import HandS.Evl
import HandS.Words
import HandS.IsInst
import HandS.Deep
import HandS.Conv
import HandS.Flow
import HandS.Star
import HandS.TupAny
import HandS.SetFor
import HandS.SortKw
import HandS.Strs
import KE.DataMinMax
import KE.SortData
import HandS.Dict
import HandS.DictComp
import KE.SortCalls
import HandS.ClsMeth
import HandS.Property
import HandS.Style
import HandS.ExcInit
import HandS.ExcField
import HandS.ExcIs
import PyProof.ReprRoads
import PyProof.ReprReads
import HandS.ExcOwn
import KE.KIsAll
import KE.KMatchCls
import HandS.Small
import PyProof.Rows.TupMore
import HandS.HotCalls
import HandS.Text
import HandS.More
import HandS.SuiteRaise
import HandS.RaiseFrom
import HandS.ExcInitHot
import HandS.TupSets
import HandS.OwnEq
import KE.SortKeyHeap
import KE.FramesApart
import HandS.SetKeys
import PyProof.DictMoreH
import KE.KDictSum
import KE.KeyNested
import KE.KDictKeyed
import HandS.Iter
import HandS.TupLen
import PyProof.DictTruth
import HandS.SortInts
import HandS.TupMul
import PyProof.DictDisplay
import HandS.WordsList
import HandS.Exc
import HandS.WordsExc
import HandS.Defaults
import PySem.Challenge.RW_firmvalues_k30_whole_rounds_begin_again
import HandS.Wide
import PyProof.Conv_int_bool
import Flt.Ops
import PyProof.InstNe
set_option Elab.async false
set_option linter.all false
set_option maxRecDepth 100000
set_option maxHeartbeats 8000000
/-! fv: what an expression evaluates to, over a part of the heap that stays -/
namespace Fv
open PySem L2 Evl

/-! ### data in the heap: lists stand in the heap itself, tuples are read -/
mutual
inductive Rp (K : PySem.W.Frag) (H : Hp) : V → PyData → Prop
  | non : Rp K H .non .none
  | bl (b : Bool) : Rp K H (.bl b) (.bool b)
  | int (i : Int) : Rp K H (.int i) (.int i)
  | str (x : Str) : Rp K H (.str x) (.str x)
  | lst {a : Addr} {xs : List V} {ds : List PyData} : H a = some (.lst xs) → RpAll K H xs ds → Rp K H (.ref a) (.list ds)
  | tup {a : Addr} {xs : List V} {ds : List PyData} : H a = some (.tup xs) → RpAll K H xs ds → Rp K H (.ref a) (.tuple ds)
inductive RpAll (K : PySem.W.Frag) (H : Hp) : List V → List PyData → Prop
  | nil : RpAll K H [] []
  | cons {v : V} {vs : List V} {d : PyData} {ds : List PyData} : Rp K H v d → RpAll K H vs ds → RpAll K H (v :: vs) (d :: ds)
end
section
variable {K : PySem.W.Frag} {H H' : Hp}
mutual
theorem Rp.mono (e : Ex H H') : ∀ (d : PyData) (v : V), Rp K H v d → Rp K H' v d
  | .none, _, h => by cases h; exact .non
  | .bool b, _, h => by cases h; exact .bl b
  | .int i, _, h => by cases h; exact .int i
  | .str x, _, h => by cases h; exact .str x
  | .list ds, _, h => by
    cases h with
    | lst hs ha => exact .lst (e _ _ hs) (RpAll.mono e ds _ ha)
  | .tuple ds, _, h => by
    cases h with
    | tup hs ha => exact .tup (e _ _ hs) (RpAll.mono e ds _ ha)
  | .dict _, _, h => by cases h
theorem RpAll.mono (e : Ex H H') : ∀ (ds : List PyData) (vs : List V), RpAll K H vs ds → RpAll K H' vs ds
  | [], _, h => by cases h; exact .nil
  | d :: ds, _, h => by
    cases h with
    | cons h1 h2 => exact .cons (Rp.mono e d _ h1) (RpAll.mono e ds _ h2)
end
mutual
theorem Rp.dp : ∀ (d : PyData) (v : V), Rp K H v d → Dp K H v d
  | .none, _, h => by cases h; exact .non
  | .bool b, _, h => by cases h; exact .bl b
  | .int i, _, h => by cases h; exact .int i
  | .str x, _, h => by cases h; exact .str x
  | .list ds, _, h => by
    cases h with
    | lst hs ha => exact .lst (.inl (.inl hs)) (RpAll.dp ds _ ha)
  | .tuple ds, _, h => by
    cases h with
    | tup hs ha => exact .tup (st_of hs) (RpAll.dp ds _ ha)
  | .dict _, _, h => by cases h
theorem RpAll.dp : ∀ (ds : List PyData) (vs : List V), RpAll K H vs ds → DpAll K H vs ds
  | [], _, h => by cases h; exact .nil
  | d :: ds, _, h => by
    cases h with
    | cons h1 h2 => exact .cons (Rp.dp d _ h1) (RpAll.dp ds _ h2)
end
theorem RpAll.length : ∀ {ds : List PyData} {vs : List V}, RpAll K H vs ds → vs.length = ds.length
  | [], _, h => by cases h; rfl
  | d :: ds, _, h => by
    cases h with
    | cons h1 h2 => simp [RpAll.length h2]
theorem RpAll.append : ∀ {ds es : List PyData} {vs ws : List V}, RpAll K H vs ds → RpAll K H ws es → RpAll K H (vs ++ ws) (ds ++ es)
  | [], _, _, _, h, k => by cases h; exact k
  | d :: ds, _, _, _, h, k => by
    cases h with
    | cons h1 h2 => exact .cons h1 (RpAll.append h2 k)
theorem RpAll.get : ∀ {ds : List PyData} {vs : List V} {i : Nat} {v : V}, RpAll K H vs ds → vs[i]? = some v → ∃ d, ds[i]? = some d ∧ Rp K H v d
  | [], _, _, _, h, e => by cases h; simp at e
  | d :: ds, _, 0, _, h, e => by
    cases h with
    | cons h1 h2 => simp at e; subst e; exact ⟨d, rfl, h1⟩
  | d :: ds, _, i + 1, _, h, e => by
    cases h with
    | cons h1 h2 =>
      obtain ⟨d', e1, r⟩ := RpAll.get h2 (by simpa using e)
      exact ⟨d', by simpa using e1, r⟩
theorem RpAll.getD : ∀ {ds : List PyData} {vs : List V} {i : Nat} {d : PyData}, RpAll K H vs ds → ds[i]? = some d → ∃ v, vs[i]? = some v ∧ Rp K H v d
  | [], _, _, _, h, e => by simp at e
  | d :: ds, _, 0, _, h, e => by
    cases h with
    | cons h1 h2 => simp at e; subst e; exact ⟨_, rfl, h1⟩
  | d :: ds, _, i + 1, _, h, e => by
    cases h with
    | cons h1 h2 =>
      obtain ⟨v, e1, r⟩ := RpAll.getD h2 (by simpa using e)
      exact ⟨v, by simpa using e1, r⟩
theorem RpAll.one {v : V} {d : PyData} (h : Rp K H v d) : RpAll K H [v] [d] := .cons h .nil
theorem rp_int {v : V} {i : Int} (h : Rp K H v (.int i)) : v = .int i := by cases h; rfl
theorem rp_bool {v : V} {b : Bool} (h : Rp K H v (.bool b)) : v = .bl b := by cases h; rfl
theorem rp_none {v : V} (h : Rp K H v .none) : v = .non := by cases h; rfl
theorem rp_str {v : V} {x : Str} (h : Rp K H v (.str x)) : v = .str x := by cases h; rfl
theorem rp_tup {v : V} {ds : List PyData} (h : Rp K H v (.tuple ds)) : ∃ a xs, v = .ref a ∧ H a = some (.tup xs) ∧ RpAll K H xs ds := by
  cases h with
  | tup hs ha => exact ⟨_, _, rfl, hs, ha⟩
theorem rp_lst {v : V} {ds : List PyData} (h : Rp K H v (.list ds)) : ∃ a xs, v = .ref a ∧ H a = some (.lst xs) ∧ RpAll K H xs ds := by
  cases h with
  | lst hs ha => exact ⟨_, _, rfl, hs, ha⟩
theorem rpAll_ints : ∀ {ns : List Int} {vs : List V}, RpAll K H vs (ns.map PyData.int) → vs = ns.map V.int
  | [], _, h => by cases h; rfl
  | n :: ns, _, h => by
    cases h with
    | cons h1 h2 => rw [rp_int h1, rpAll_ints h2]; rfl
theorem rpAll_of_ints : ∀ (ns : List Int), RpAll K H (ns.map V.int) (ns.map PyData.int)
  | [] => .nil
  | n :: ns => .cons (.int n) (rpAll_of_ints ns)
theorem rpAll_bools : ∀ {bs : List Bool} {vs : List V}, RpAll K H vs (bs.map PyData.bool) → vs = bs.map V.bl
  | [], _, h => by cases h; rfl
  | b :: bs, _, h => by
    cases h with
    | cons h1 h2 => rw [rp_bool h1, rpAll_bools h2]; rfl
end

theorem tx {K : PySem.W.Frag} {H H' : Hp} {a : Addr} {xs : List V} (e : Ex H H') (h : H a = some (.tup xs)) : SqT K H' a xs := st_of (e _ _ h)
/-! ### the part that stays, and what may change -/
/-- what F2 has more than F was not there before -/
def New (F H F2 : Hp) : Prop := ∀ a, F a = none → (∃ o, H a = some o ∧ ∀ ys, o ≠ .tup ys) → F2 a = none
theorem loose_ne {H : Hp} {a b : Addr} (h : ∃ o, H a = some o ∧ ∀ ys, o ≠ .tup ys) (h0 : H b = none) : a ≠ b := fun z => by
  obtain ⟨o, h1, _⟩ := h
  rw [z, h0] at h1; cases h1
/-- the law's pot: three numbers and a list of numbers, which stays -/
structure Pt where
  p : Addr
  l : Addr
  ns : List Int
structure PotAt (H : Hp) (q : Pt) : Prop where
  ne : q.l ≠ q.p
  ls : H q.l = some (.lst (q.ns.map V.int))
  few : q.ns.length ≤ 60
  ex : ∃ (a b c : Int), H q.p = some (.lst [.int a, .int b, .int c, .ref q.l]) ∧ 0 ≤ a ∧ 0 ≤ b ∧ b < 2147483647 ∧ 0 ≤ c ∧ c ≤ q.ns.length
def Keep (pt : Option Pt) (H H' : Hp) : Prop := ∀ a o, (∀ q, pt = some q → a ≠ q.p) → H a = some o → H' a = some o
def Good (pt : Option Pt) (F H : Hp) : Prop := ∀ q, pt = some q → F q.p = none ∧ PotAt H q
theorem PotAt.some {H : Hp} {q : Pt} (h : PotAt H q) : H q.p ≠ none := by
  obtain ⟨a, b, c, e, _⟩ := h.ex
  rw [e]; simp
theorem PotAt.loose {H : Hp} {q : Pt} (h : PotAt H q) : ∃ o : HO, H q.p = Option.some o ∧ ∀ ys, o ≠ HO.tup ys := by
  obtain ⟨a, b, c, e, _⟩ := h.ex
  rw [e]; simp
theorem Keep.refl (pt : Option Pt) (H : Hp) : Keep pt H H := fun _ _ _ h => h
theorem Keep.trans {pt : Option Pt} {H H1 H2 : Hp} (a : Keep pt H H1) (b : Keep pt H1 H2) : Keep pt H H2 := fun x o n h => b x o n (a x o n h)
theorem Keep.of {pt : Option Pt} {H H1 : Hp} (a : Ex H H1) : Keep pt H H1 := fun x o _ h => a x o h
theorem Keep.ex {H H1 : Hp} (a : Keep none H H1) : Ex H H1 := fun x o h => a x o (fun _ z => by cases z) h
theorem Good.nil {F H : Hp} : Good none F H := fun _ h => by cases h
theorem PotAt.mono {H H' : Hp} {q : Pt} (h : PotAt H q) (e : Ex H H') : PotAt H' q := by
  obtain ⟨a, b, c, h1, r⟩ := h.ex
  exact ⟨h.ne, e _ _ h.ls, h.few, a, b, c, e _ _ h1, r⟩
theorem Good.less {pt : Option Pt} {F F' H : Hp} (g : Good pt F' H) (e : Ex F F') : Good pt F H := fun p hp => by
  refine ⟨?_, (g p hp).2⟩
  cases w : F p.p with
  | none => rfl
  | some o =>
    have h := (g p hp).1
    rw [e p.p o w] at h
    cases h
/-- what F knows stays where only the pot changes -/
theorem Keep.sub {pt : Option Pt} {F H H1 : Hp} (k : Keep pt H H1) (g : Good pt F H) (e : Ex F H) : Ex F H1 := fun a o h => by
  refine k a o (fun q z w => ?_) (e a o h)
  have := (g q z).1
  rw [← w, h] at this
  cases this
theorem New.refl (F H : Hp) : New F H F := fun _ h _ => h
/-- there before -/
theorem Keep.there {pt : Option Pt} {H H1 : Hp} (k : Keep pt H H1) {F F1 : Hp} (g : Good pt F1 H1) {a : Addr} (h : H a ≠ none) : H1 a ≠ none := by
  cases e : H a with
  | none => exact absurd e h
  | some o =>
    by_cases z : ∃ q, pt = some q ∧ a = q.p
    · obtain ⟨q, z1, z2⟩ := z
      rw [z2]; exact (g q z1).2.some
    · rw [k a o (fun q w1 w2 => z ⟨q, w1, w2⟩) e]; simp
theorem Keep.loose {pt : Option Pt} {H H1 : Hp} (k : Keep pt H H1) {F1 : Hp} (g : Good pt F1 H1) {a : Addr} (h : ∃ o, H a = some o ∧ ∀ ys, o ≠ .tup ys) : ∃ o, H1 a = some o ∧ ∀ ys, o ≠ .tup ys := by
  obtain ⟨o, e, n⟩ := h
  by_cases z : ∃ q, pt = some q ∧ a = q.p
  · obtain ⟨q, z1, z2⟩ := z
    rw [z2]; exact (g q z1).2.loose
  · exact ⟨o, k a o (fun q w1 w2 => z ⟨q, w1, w2⟩) e, n⟩
/-- what a piece leaves: F grew to F2, H became H2 -/
structure Step (pt : Option Pt) (F H F2 H2 : Hp) : Prop where
  sub : Ex F F2
  inn : Ex F2 H2
  keep : Keep pt H H2
  good : Good pt F2 H2
  new : New F H F2
theorem Step.refl {pt : Option Pt} {F H : Hp} (e : Ex F H) (g : Good pt F H) : Step pt F H F H := ⟨Ex.refl F, e, Keep.refl pt H, g, New.refl F H⟩
theorem Step.trans {pt : Option Pt} {F H F1 H1 F2 H2 : Hp} (a : Step pt F H F1 H1) (b : Step pt F1 H1 F2 H2) : Step pt F H F2 H2 :=
  ⟨a.sub.trans b.sub, b.inn, a.keep.trans b.keep, b.good, fun x h1 h2 => b.new x (a.new x h1 h2) (a.keep.loose a.good h2)⟩
/-- two parts together -/
def join (F G : Hp) : Hp := fun a => match F a with | some o => some o | none => G a
theorem join_l {F G : Hp} : Ex F (join F G) := fun a o h => by unfold join; rw [h]
theorem join_r {F G H : Hp} (f : Ex F H) (g : Ex G H) : Ex G (join F G) := fun a o h => by
  unfold join
  cases e : F a with
  | none => exact h
  | some u =>
    have h1 := f a u e
    rw [g a o h] at h1
    exact h1.symm
theorem join_in {F G H : Hp} (f : Ex F H) (g : Ex G H) : Ex (join F G) H := fun a o h => by
  unfold join at h
  cases e : F a with
  | none =>
    rw [e] at h
    exact g a o h
  | some u =>
    rw [e] at h
    have z := f a u e
    rw [z]
    exact h
theorem join_none {F G : Hp} {a : Addr} (f : F a = none) (g : G a = none) : join F G a = none := by unfold join; rw [f]; exact g
/-- the same piece seen from a greater part -/
theorem Step.wide {pt : Option Pt} {F F' H F2 H2 : Hp} (e : Ex F F') (e' : Ex F' H) (g : Good pt F' H) (s : Step pt F H F2 H2) : Step pt F' H (join F2 F') H2 := by
  have k : Ex F' H2 := s.keep.sub g e'
  refine ⟨join_r s.inn k, join_in s.inn k, s.keep, fun p hp => ⟨join_none (s.good p hp).1 (g p hp).1, (s.good p hp).2⟩, fun a h1 h2 => join_none (s.new a ?_ h2) h1⟩
  cases q : F a with
  | none => rfl
  | some o => rw [e a o q] at h1; cases h1
/-- a piece that changes nothing, where a pot stands -/
theorem Step.lift {pt : Option Pt} {F H F2 H2 : Hp} (g : Good pt F H) (s : Step none F H F2 H2) : Step pt F H F2 H2 :=
  ⟨s.sub, s.inn, Keep.of s.keep.ex, fun p hp => ⟨s.new p.p (g p hp).1 (g p hp).2.loose, (g p hp).2.mono s.keep.ex⟩, s.new⟩
/-- a new object is laid and stays -/
theorem Step.laid {pt : Option Pt} {F H : Hp} {p : Addr} {o : HO} (e : Ex F H) (g : Good pt F H) (hp : H p = none) : Step pt F H (upd F p o) (upd H p o) := by
  have fp : F p = none := by
    cases q : F p with
    | none => rfl
    | some u => rw [e p u q] at hp; cases hp
  refine ⟨Ex.new fp, fun a u h => ?_, Keep.of (Ex.new hp), fun x hx => ?_, fun a h1 h2 => ?_⟩
  · by_cases z : a = p
    · rw [z, upd_same] at h ⊢; exact h
    · rw [upd_ne z] at h ⊢; exact e a _ h
  · obtain ⟨q1, q2⟩ := g x hx
    have hxp : x.p ≠ p := fun z => q2.some (by rw [z]; exact hp)
    exact ⟨by rw [upd_ne hxp]; exact q1, q2.mono (Ex.new hp)⟩
  · have z : a ≠ p := loose_ne h2 hp
    rw [upd_ne z]; exact h1

/-- tuples that stand are taken among what stays -/
theorem Step.tups {pt : Option Pt} {F G H : Hp} (e : Ex F H) (g : Good pt F H) (k : ∀ b o, G b = some o → H b = some o ∧ ∃ ys, o = .tup ys) : Step pt F H (join F G) H := by
  have gi : Ex G H := fun b o h => (k b o h).1
  refine ⟨join_l, join_in e gi, Keep.refl pt H, fun q hq => ⟨join_none (g q hq).1 ?_, (g q hq).2⟩, fun a h1 h2 => join_none h1 ?_⟩
  · cases w : G q.p with
    | none => rfl
    | some o =>
      obtain ⟨h1, ys, rfl⟩ := k _ _ w
      obtain ⟨o, h2, n⟩ := (g q hq).2.loose
      rw [h1] at h2
      exact absurd (Option.some.inj h2).symm (n ys)
  · cases w : G a with
    | none => rfl
    | some o =>
      obtain ⟨h3, ys, rfl⟩ := k _ _ w
      obtain ⟨o, h4, n⟩ := h2
      rw [h3] at h4
      exact absurd (Option.some.inj h4).symm (n ys)
/-! ### what evaluates to what -/
abbrev PD := PyData → Prop
def EvG (K : PySem.W.Frag) (pt : Option Pt) (te : TE) (σ : L2.St) (F : Hp) (R : PD) : Prop :=
  ∀ H1, Ex F H1 → Good pt F H1 → ∀ Q : VK, (∀ d v F2 H2, R d → Step pt F H1 F2 H2 → Rp K F2 v d → Q v H2) → te σ H1 Q
def EvsG (K : PySem.W.Frag) (pt : Option Pt) (ta : TA) (σ : L2.St) (F : Hp) (R : List PyData → Prop) : Prop :=
  ∀ H1, Ex F H1 → Good pt F H1 → ∀ Q : List V → Hp → Prop, (∀ ds vs F2 H2, R ds → Step pt F H1 F2 H2 → RpAll K F2 vs ds → Q vs H2) → ta σ H1 Q
def EtG (pt : Option Pt) (tt : TT) (σ : L2.St) (F : Hp) (R : Bool → Prop) : Prop :=
  ∀ H1, Ex F H1 → Good pt F H1 → ∀ Q : Bool → Hp → Prop, (∀ b F2 H2, R b → Step pt F H1 F2 H2 → Q b H2) → tt σ H1 Q
/-- operations on values -/
def RvG (K : PySem.W.Frag) (r : L2.R2) (d e : PyData) (R : PD) : Prop := ∀ F H x y, Ex F H → Rp K F x d → Rp K F y e → ∀ Q : VK, (∀ z v F2 H2, R z → Step none F H F2 H2 → Rp K F2 v z → Q v H2) → r x y H Q
def RcG (K : PySem.W.Frag) (r : List V → Hp → VK → Prop) (ds : List PyData) (R : PD) : Prop := ∀ F H vs, Ex F H → RpAll K F vs ds → ∀ Q : VK, (∀ z v F2 H2, R z → Step none F H F2 H2 → Rp K F2 v z → Q v H2) → r vs H Q
/-- the same d -/
abbrev Is (d : PyData) : PD := fun x => x = d
section
variable {K : PySem.W.Frag} {pt : Option Pt} {σ : L2.St} {F F' : Hp} {te ta tb : TE} {ts tr : TA} {t u : TT} {R R1 S2 R3 : PD} {d e z : PyData} {r : L2.R2}
theorem EvG.mono (h : EvG K pt te σ F R) (e : Ex F F') : EvG K pt te σ F' R := fun H1 i g Q q =>
  h H1 (e.trans i) (g.less e) Q fun d v F2 H2 hr s hv => q d v _ H2 hr (s.wide e i g) (Rp.mono join_l _ _ hv)
theorem EvG.lift (h : EvG K none te σ F R) : EvG K pt te σ F R := fun H1 i g Q q => h H1 i .nil Q fun d v F2 H2 hr s hv => q d v F2 H2 hr (s.lift g) hv
theorem EvG.imp (h : EvG K pt te σ F R) (k : ∀ d, R d → R1 d) : EvG K pt te σ F R1 := fun H1 i g Q q => h H1 i g Q fun d v F2 H2 hr s hv => q d v F2 H2 (k d hr) s hv
theorem EvG.is (h : EvG K pt te σ F (Is d)) (k : d = e) : EvG K pt te σ F (Is e) := k ▸ h
theorem EtG.mono {R : Bool → Prop} (h : EtG pt t σ F R) (e : Ex F F') : EtG pt t σ F' R := fun H1 i g Q q =>
  h H1 (e.trans i) (g.less e) Q fun b F2 H2 hr s => q b _ H2 hr (s.wide e i g)
theorem EtG.lift {R : Bool → Prop} (h : EtG none t σ F R) : EtG pt t σ F R := fun H1 i g Q q => h H1 i .nil Q fun b F2 H2 hr s => q b F2 H2 hr (s.lift g)
theorem EtG.is {b c : Bool} (h : EtG pt t σ F (· = b)) (k : b = c) : EtG pt t σ F (· = c) := k ▸ h
theorem EvsG.mono {R : List PyData → Prop} (h : EvsG K pt ts σ F R) (e : Ex F F') : EvsG K pt ts σ F' R := fun H1 i g Q q =>
  h H1 (e.trans i) (g.less e) Q fun d v F2 H2 hr s hv => q d v _ H2 hr (s.wide e i g) (RpAll.mono join_l _ _ hv)

theorem g_var {i : Nat} {v : V} (h : σ[i]? = some (some v)) (hr : Rp K F v d) : EvG K pt (tVar i) σ F (Is d) := fun H1 e g Q q => ⟨v, h, q d v F H1 rfl (.refl e g) hr⟩
theorem g_int {i : Int} : EvG K pt (tC (.int i)) σ F (Is (.int i)) := fun H1 e g Q q => q _ _ F H1 rfl (.refl e g) (.int i)
theorem g_bl {b : Bool} : EvG K pt (tC (.bl b)) σ F (Is (.bool b)) := fun H1 e g Q q => q _ _ F H1 rfl (.refl e g) (.bl b)
theorem g_non : EvG K pt (tC .non) σ F (Is .none) := fun H1 e g Q q => q _ _ F H1 rfl (.refl e g) .non
theorem g_str {x : Str} : EvG K pt (tC (.str x)) σ F (Is (.str x)) := fun H1 e g Q q => q _ _ F H1 rfl (.refl e g) (.str x)
/-- two parts, one after the other; the second may know the first's value -/
theorem g_op (ha : EvG K pt ta σ F R1) (hb : EvG K pt tb σ F S2) (hr : ∀ d e, R1 d → S2 e → RvG K r d e R3) : EvG K pt (tOp r ta tb) σ F R3 := fun H1 i g Q q =>
  ha H1 i g _ fun d v F2 H2 hd s hv => hb.mono s.sub H2 s.inn s.good _ fun e w F3 H3 he s3 hw =>
    hr d e hd he F3 H3 v w s3.inn (Rp.mono s3.sub _ _ hv) hw Q fun z x F4 H4 hz s4 hx => q z x F4 H4 hz ((s.trans s3).trans (s4.lift s3.good)) hx
theorem gs_nil : EvsG K pt tNil σ F (· = []) := fun H1 i g Q q => q [] [] F H1 rfl (.refl i g) .nil
theorem gs_cons {R2 : List PyData → Prop} (ha : EvG K pt ta σ F R1) (hb : EvsG K pt tr σ F R2) : EvsG K pt (tCons ta tr) σ F (fun l => ∃ d ds, l = d :: ds ∧ R1 d ∧ R2 ds) := fun H1 i g Q q =>
  ha H1 i g _ fun d v F2 H2 hd s hv => hb.mono s.sub H2 s.inn s.good _ fun ds vs F3 H3 hds s3 hvs => q (d :: ds) (v :: vs) F3 H3 ⟨d, ds, rfl, hd, hds⟩ (s.trans s3) (.cons (Rp.mono s3.sub _ _ hv) hvs)
theorem gs_consI {ds : List PyData} (ha : EvG K pt ta σ F (Is d)) (hb : EvsG K pt tr σ F (· = ds)) : EvsG K pt (tCons ta tr) σ F (· = d :: ds) := fun H1 i g Q q =>
  gs_cons ha hb H1 i g Q fun l vs F2 H2 h s hv => by
    obtain ⟨d', ds', e, h1, h2⟩ := h
    exact q l vs F2 H2 (by rw [e, h1, h2]) s hv
theorem g_tup {R : List PyData → Prop} (h : EvsG K pt ts σ F R) (hz : ∀ ds, R ds → ds.length ≤ 100000) : EvG K pt (tTup ts) σ F (fun x => ∃ ds, x = .tuple ds ∧ R ds) := fun H1 i g Q q =>
  h H1 i g _ fun ds vs F2 H2 hd s hv => ⟨by rw [hv.length]; exact sz_of (hz ds hd), fun p hp => by
    have s3 : Step pt F2 H2 (upd F2 p (.tup vs)) (upd H2 p (.tup vs)) := .laid s.inn s.good hp
    exact q (.tuple ds) _ _ _ ⟨ds, rfl, hd⟩ (s.trans s3) (.tup upd_same (RpAll.mono s3.sub _ _ hv))⟩
theorem g_lst {R : List PyData → Prop} (h : EvsG K pt ts σ F R) (hz : ∀ ds, R ds → ds.length ≤ 100000) : EvG K pt (tLst ts) σ F (fun x => ∃ ds, x = .list ds ∧ R ds) := fun H1 i g Q q =>
  h H1 i g _ fun ds vs F2 H2 hd s hv => ⟨by rw [hv.length]; exact sz_of (hz ds hd), fun p hp => by
    have s3 : Step pt F2 H2 (upd F2 p (.lst vs)) (upd H2 p (.lst vs)) := .laid s.inn s.good hp
    exact q (.list ds) _ _ _ ⟨ds, rfl, hd⟩ (s.trans s3) (.lst upd_same (RpAll.mono s3.sub _ _ hv))⟩
theorem g_tupI {ds : List PyData} (h : EvsG K pt ts σ F (· = ds)) (hz : ds.length ≤ 100000) : EvG K pt (tTup ts) σ F (Is (.tuple ds)) := (g_tup h fun _ e => by rw [e]; exact hz).imp fun _ ⟨_, e, e2⟩ => by rw [e, e2]
theorem g_lstI {ds : List PyData} (h : EvsG K pt ts σ F (· = ds)) (hz : ds.length ≤ 100000) : EvG K pt (tLst ts) σ F (Is (.list ds)) := (g_lst h fun _ e => by rw [e]; exact hz).imp fun _ ⟨_, e, e2⟩ => by rw [e, e2]
/-- tests -/
theorem et_of {b : Bool} (h : EvG K pt te σ F (Is (.bool b))) : EtG pt (tTest te) σ F (· = b) := fun H1 i g Q q => h H1 i g _ fun d v F2 H2 hd s hv => by
  subst hd
  exact ⟨b, rp_bool hv, q b F2 H2 rfl s⟩
theorem et_B {b : Bool} (h : EvG K pt te σ F (Is (.bool b))) : EtG pt (tB te) σ F (· = b) := fun H1 i g Q q => h H1 i g _ fun d v F2 H2 hd s hv => by
  subst hd
  exact ⟨b, rp_bool hv, q b F2 H2 rfl s⟩
theorem et_yes : EtG pt tYes σ F (· = true) := fun H1 i g Q q => q true F H1 rfl (.refl i g)
theorem et_not {b : Bool} (h : EtG pt t σ F (· = b)) : EtG pt (tNot t) σ F (· = !b) := fun H1 i g Q q => h H1 i g _ fun c F2 H2 hc s => by
  subst hc
  exact q _ F2 H2 rfl s
theorem et_and {a b : Bool} (h1 : EtG pt t σ F (· = a)) (h2 : a = true → EtG pt u σ F (· = b)) : EtG pt (tAnd t u) σ F (· = (a && b)) := fun H1 i g Q q => h1 H1 i g _ fun c F2 H2 hc s => by
  subst hc
  cases c with
  | true => exact (h2 rfl).mono s.sub H2 s.inn s.good Q fun b' F3 H3 hb s3 => q b' F3 H3 (by rw [hb]; rfl) (s.trans s3)
  | false => exact q false F2 H2 rfl s
theorem et_or {a b : Bool} (h1 : EtG pt t σ F (· = a)) (h2 : a = false → EtG pt u σ F (· = b)) : EtG pt (tOr t u) σ F (· = (a || b)) := fun H1 i g Q q => h1 H1 i g _ fun c F2 H2 hc s => by
  subst hc
  cases c with
  | false => exact (h2 rfl).mono s.sub H2 s.inn s.good Q fun b' F3 H3 hb s3 => q b' F3 H3 (by rw [hb]; rfl) (s.trans s3)
  | true => exact q true F2 H2 rfl s
theorem g_andV {a b : Bool} (h1 : EvG K pt ta σ F (Is (.bool a))) (h2 : a = true → EvG K pt tb σ F (Is (.bool b))) : EvG K pt (tAndV ta tb) σ F (Is (.bool (a && b))) := fun H1 i g Q q => h1 H1 i g _ fun d v F2 H2 hd s hv => by
  subst hd
  refine ⟨a, rp_bool hv, ?_⟩
  cases a with
  | true => exact (h2 rfl).mono s.sub H2 s.inn s.good Q fun d' v' F3 H3 hd' s3 hv' => q d' v' F3 H3 hd' (s.trans s3) hv'
  | false => exact q _ _ F2 H2 rfl s (.bl false)
theorem g_orV {a b : Bool} (h1 : EvG K pt ta σ F (Is (.bool a))) (h2 : a = false → EvG K pt tb σ F (Is (.bool b))) : EvG K pt (tOrV ta tb) σ F (Is (.bool (a || b))) := fun H1 i g Q q => h1 H1 i g _ fun d v F2 H2 hd s hv => by
  subst hd
  refine ⟨a, rp_bool hv, ?_⟩
  cases a with
  | false => exact (h2 rfl).mono s.sub H2 s.inn s.good Q fun d' v' F3 H3 hd' s3 hv' => q d' v' F3 H3 hd' (s.trans s3) hv'
  | true => exact q _ _ F2 H2 rfl s (.bl true)
theorem g_notV {a : Bool} (h : EvG K pt ta σ F (Is (.bool a))) : EvG K pt (tNotV ta) σ F (Is (.bool (!a))) := fun H1 i g Q q => h H1 i g _ fun d v F2 H2 hd s hv => by
  subst hd
  exact ⟨a, rp_bool hv, q _ _ F2 H2 rfl s (.bl _)⟩
theorem g_if {b : Bool} (h : EtG pt t σ F (· = b)) (h1 : b = true → EvG K pt ta σ F R) (h2 : b = false → EvG K pt tb σ F R) : EvG K pt (tIf t ta tb) σ F R := fun H1 i g Q q => h H1 i g _ fun c F2 H2 hc s => by
  subst hc
  cases c with
  | true => exact (h1 rfl).mono s.sub H2 s.inn s.good Q fun d' v' F3 H3 hd' s3 hv' => q d' v' F3 H3 hd' (s.trans s3) hv'
  | false => exact (h2 rfl).mono s.sub H2 s.inn s.good Q fun d' v' F3 H3 hd' s3 hv' => q d' v' F3 H3 hd' (s.trans s3) hv'
/-- a value from an operation that lays nothing -/
theorem rv_val (h : ∀ F H x y, Ex F H → Rp K F x d → Rp K F y e → ∃ v, (∀ Q : VK, Q v H → r x y H Q) ∧ Rp K F v z) : RvG K r d e (Is z) := fun F H x y i hx hy Q q => by
  obtain ⟨v, k, hv⟩ := h F H x y i hx hy
  exact k Q (q z v F H rfl (.refl i .nil) hv)
theorem rc_val {r : List V → Hp → VK → Prop} {ds : List PyData} (h : ∀ F H vs, Ex F H → RpAll K F vs ds → ∃ v, (∀ Q : VK, Q v H → r vs H Q) ∧ Rp K F v z) : RcG K r ds (Is z) := fun F H vs i hx Q q => by
  obtain ⟨v, k, hv⟩ := h F H vs i hx
  exact k Q (q z v F H rfl (.refl i .nil) hv)
theorem rv_I0 {g : Int → Int → V} {f : Int → Int → PyData} {i j : Int} (hg : ∀ F, Rp K F (g i j) (f i j)) : RvG K (rI0 g) (.int i) (.int j) (Is (f i j)) := rv_val fun F H x y _ hx hy => ⟨g i j, fun Q q => ⟨i, j, rp_int hx, rp_int hy, q⟩, hg F⟩
theorem rv_I {C : Int → Int → Prop} {g : Int → Int → V} {f : Int → Int → PyData} {i j : Int} (hc : C i j) (hg : ∀ F, Rp K F (g i j) (f i j)) : RvG K (rI C g) (.int i) (.int j) (Is (f i j)) := rv_val fun F H x y _ hx hy => ⟨g i j, fun Q q => ⟨i, j, rp_int hx, rp_int hy, hc, q⟩, hg F⟩
theorem rv_eqD (hd : SeqAt.shaped d = true) (he : SeqAt.shaped e = true) : RvG K (rEqD K) d e (Is (.bool (PyData.eqv d e))) := rv_val fun F H x y i hx hy => ⟨_, fun Q q => ⟨d, e, Rp.dp _ _ (Rp.mono i _ _ hx), Rp.dp _ _ (Rp.mono i _ _ hy), hd, he, q⟩, .bl _⟩
theorem rv_neD (hd : SeqAt.shaped d = true) (he : SeqAt.shaped e = true) : RvG K (rNeD K) d e (Is (.bool (!PyData.eqv d e))) := rv_val fun F H x y i hx hy => ⟨_, fun Q q => ⟨d, e, Rp.dp _ _ (Rp.mono i _ _ hx), Rp.dp _ _ (Rp.mono i _ _ hy), hd, he, q⟩, .bl _⟩
theorem g_cb {r : List V → Hp → VK → Prop} {R1 : List PyData → Prop} (h : EvsG K pt ts σ F R1) (hr : ∀ ds, R1 ds → RcG K r ds R) : EvG K pt (tCB r ts) σ F R := fun H1 i g Q q =>
  h H1 i g _ fun ds vs F2 H2 hd s hv => hr ds hd F2 H2 vs s.inn hv Q fun z v F3 H3 hz s3 hv' => q z v F3 H3 hz (s.trans (s3.lift s.good)) hv'
end
end Fv

namespace Fv
open PySem L2 Evl
/-! ### what is walked -/
structure Yields (K : PySem.W.Frag) (J : It) (F : Hp) (ds : List PyData) : Prop where
  go : ∀ i H, Ex F H → i < ds.length → J.go i H
  stop : ∀ H, Ex F H → J.stop ds.length H
  yld : ∀ i H x H', Ex F H → i < ds.length → J.yld i H x H' → H' = H ∧ ∃ d, ds[i]? = some d ∧ Rp K F x d
def WiG (K : PySem.W.Frag) (pt : Option Pt) (wi : TI) (σ : L2.St) (F : Hp) (R : List PyData → Prop) : Prop :=
  ∀ H1, Ex F H1 → Good pt F H1 → ∀ RR : It → Hp → Prop, (∀ ds J F2 H2, R ds → Step pt F H1 F2 H2 → Yields K J F2 ds → RR J H2) → wi σ H1 RR
section
variable {K : PySem.W.Frag} {pt : Option Pt} {σ : L2.St} {F F' : Hp} {te ta tb : TE} {ts tr : TA} {t u : TT} {R R1 S2 R3 : PD} {d e z : PyData} {r : L2.R2} {wi wi1 : TI}
theorem rd_inj {H : Hp} {a : Addr} {u v : HO} (h : H a = some u) (h' : H a = some v) : u = v := Option.some.inj (h.symm.trans h')
theorem w_listI {ds : List PyData} (h : EvG K pt te σ F (Is (.list ds))) : WiG K pt (iList K te) σ F (· = ds) := fun H1 i g RR q =>
  h H1 i g _ fun d v F2 H2 hd s hv => by
    subst hd
    obtain ⟨a, xs, rfl, hl, ha⟩ := rp_lst hv
    refine ⟨a, rfl, ⟨xs, sq_of (s.inn _ _ hl)⟩, q ds _ F2 H2 rfl s ⟨fun i H e hi => ?_, fun H e => ⟨xs, sq_of (e _ _ hl), Nat.le_of_eq ha.length⟩, fun i H x H' e hi y => ?_⟩⟩
    · have hi' : i < xs.length := by rw [ha.length]; exact hi
      exact ⟨xs, xs[i], sq_of (e _ _ hl), List.getElem?_eq_getElem hi'⟩
    · exact ⟨y.1, ha.get (y.2 xs (sq_of (e _ _ hl)))⟩
theorem w_tupI {ds : List PyData} (h : EvG K pt te σ F (Is (.tuple ds))) : WiG K pt (iTup K te) σ F (· = ds) := fun H1 i g RR q =>
  h H1 i g _ fun d v F2 H2 hd s hv => by
    subst hd
    obtain ⟨a, xs, rfl, hl, ha⟩ := rp_tup hv
    refine ⟨a, rfl, ⟨xs, tx s.inn hl⟩, q ds _ F2 H2 rfl s ⟨fun i H e hi => ?_, fun H e => ⟨xs, tx e hl, Nat.le_of_eq ha.length⟩, fun i H x H' e hi y => ?_⟩⟩
    · have hi' : i < xs.length := by rw [ha.length]; exact hi
      exact ⟨xs, xs[i], tx e hl, List.getElem?_eq_getElem hi'⟩
    · exact ⟨y.1, ha.get (y.2 xs (tx e hl))⟩
/-- the numbers lo, lo + 1, .. -/
def rng (lo : Int) (n : Nat) : List PyData := (List.range n).map fun (k : Nat) => PyData.int (lo + (k : Int))
theorem rng_len (lo : Int) (n : Nat) : (rng lo n).length = n := by unfold rng; simp
theorem rng_get {lo : Int} {n i : Nat} (h : i < n) : (rng lo n)[i]? = some (.int (lo + (i : Int))) := by unfold rng; rw [List.getElem?_map, List.getElem?_range h]; rfl
theorem y_rng (lo : Int) (n : Nat) (F : Hp) : Yields K (Itr lo n) F (rng lo n) := ⟨fun i H _ hi => by rw [rng_len] at hi; exact hi, fun H _ => by rw [rng_len]; exact Nat.le_refl _, fun i H x H' _ hi y => by
  rw [rng_len] at hi
  exact ⟨y.1, _, rng_get hi, by rw [y.2]; exact .int _⟩⟩
theorem w_rng1 {R0 : List PyData → Prop} (h : EvsG K pt ts σ F R0) (hn : ∀ ds, R0 ds → ∃ n : Int, ds = [.int n] ∧ -(2 ^ 62) ≤ n ∧ n < 2 ^ 62) : WiG K pt (iRng1 ts) σ F (fun l => ∃ n : Int, R0 [.int n] ∧ l = rng 0 n.toNat) := fun H1 i g RR q =>
  h H1 i g _ fun ds vs F2 H2 hd s hv => by
    obtain ⟨n, rfl, h1, h2⟩ := hn ds hd
    have e : vs = [.int n] := rpAll_ints (ns := [n]) hv
    subst e
    exact ⟨n, rfl, h1, h2, q _ _ F2 H2 ⟨n, hd, rfl⟩ s (y_rng 0 n.toNat F2)⟩
theorem w_rng1I {n : Int} (h : EvsG K pt ts σ F (· = [.int n])) (h1 : -(2 ^ 62) ≤ n) (h2 : n < 2 ^ 62) : WiG K pt (iRng1 ts) σ F (· = rng 0 n.toNat) := fun H1 i g RR q =>
  w_rng1 h (fun ds e => ⟨n, e, h1, h2⟩) H1 i g RR fun ds J F2 H2 hd s y => by
    obtain ⟨m, e1, e2⟩ := hd
    have : m = n := by injection e1 with e1; injection e1
    subst this
    exact q ds J F2 H2 e2 s y
theorem w_rng2I {a b : Int} (h : EvsG K pt ts σ F (· = [.int a, .int b])) (h1 : -(2 ^ 62) ≤ a) (h2 : a < 2 ^ 62) (h3 : -(2 ^ 62) ≤ b) (h4 : b < 2 ^ 62) : WiG K pt (iRng2 ts) σ F (· = rng a (b - a).toNat) := fun H1 i g RR q =>
  h H1 i g _ fun ds vs F2 H2 hd s hv => by
    subst hd
    have e : vs = [.int a, .int b] := rpAll_ints (ns := [a, b]) hv
    subst e
    exact ⟨a, b, rfl, ⟨h1, h2, h3, h4⟩, q _ _ F2 H2 rfl s (y_rng a _ F2)⟩

/-! ### comprehensions -/
/-- a list that grows at Dl beside the part that stays -/
def Grow (K : PySem.W.Frag) (pt : Option Pt) (F H1 : Hp) (Dl : Addr) (A : List PyData → Prop) (H' : Hp) : Prop :=
  ∃ F' l acc, Step pt F H1 F' H' ∧ F' Dl = none ∧ H' Dl = some (.lst acc) ∧ RpAll K F' acc l ∧ A l
theorem Good.upd {F H : Hp} {Dl : Addr} {o : HO} (g : Good pt F H) (h : ∀ q, pt = some q → Dl ≠ q.p ∧ Dl ≠ q.l) : Good pt F (upd H Dl o) := fun q hq => by
  obtain ⟨g1, g2⟩ := g q hq
  obtain ⟨a, b, c, e, r⟩ := g2.ex
  refine ⟨g1, g2.ne, ?_, g2.few, a, b, c, ?_, r⟩
  · rw [upd_ne (h q hq).2.symm]; exact g2.ls
  · rw [upd_ne (h q hq).1.symm]; exact e
theorem off_pot {F H : Hp} {Dl : Addr} (g : Good pt F H) (h : H Dl = none) : ∀ q, pt = some q → Dl ≠ q.p ∧ Dl ≠ q.l := fun q hq => by
  obtain ⟨_, g2⟩ := g q hq
  exact ⟨fun z => g2.some (by rw [← z]; exact h), fun z => by have := g2.ls; rw [← z, h] at this; cases this⟩
theorem Step.put {F H1 F' H' : Hp} {Dl : Addr} {o : HO} (s : Step pt F H1 F' H') (g : Good pt F H1) (h1 : H1 Dl = none) (f : F' Dl = none) : Step pt F H1 F' (upd H' Dl o) :=
  ⟨s.sub, fun a u h => by
    have : a ≠ Dl := fun z => by rw [z, f] at h; cases h
    rw [upd_ne this]; exact s.inn a u h, fun a u n h => by
    have : a ≠ Dl := fun z => by rw [z, h1] at h; cases h
    rw [upd_ne this]; exact s.keep a u n h, s.good.upd (off_pot g h1), s.new⟩
theorem Grow.start {F H1 : Hp} {Dl : Addr} {A : List PyData → Prop} (i : Ex F H1) (g : Good pt F H1) (h : H1 Dl = none) (a : A []) : Grow K pt F H1 Dl A (upd H1 Dl (.lst [])) := by
  have f : F Dl = none := by
    cases w : F Dl with
    | none => rfl
    | some o => rw [i _ _ w] at h; cases h
  exact ⟨F, [], [], (Step.refl i g).put g h f, f, upd_same, .nil, a⟩
/-- frozen at the end -/
theorem Grow.done {F H1 H' : Hp} {Dl : Addr} {A : List PyData → Prop} (g : Good pt F H1) (h : H1 Dl = none) (w : Grow K pt F H1 Dl A H') : ∃ F2 l, A l ∧ Step pt F H1 F2 H' ∧ Rp K F2 (.ref Dl) (.list l) := by
  obtain ⟨F', l, acc, s, f, e, r, a⟩ := w
  have e1 : Ex F' (upd F' Dl (.lst acc)) := Ex.new f
  refine ⟨upd F' Dl (.lst acc), l, a, ⟨s.sub.trans e1, fun b u hb => ?_, s.keep, fun q hq => ⟨?_, (s.good q hq).2⟩, fun b h1 h2 => ?_⟩, .lst upd_same (RpAll.mono e1 _ _ r)⟩
  · by_cases z : b = Dl
    · rw [z, upd_same] at hb; rw [z, e]; exact hb
    · rw [upd_ne z] at hb; exact s.inn b u hb
  · rw [upd_ne (off_pot g h q hq).1.symm]; exact (s.good q hq).1
  · have z : b ≠ Dl := loose_ne h2 h
    rw [upd_ne z]; exact s.new b h1 h2
theorem Grow.imp {F H1 H' : Hp} {Dl : Addr} {A B : List PyData → Prop} (w : Grow K pt F H1 Dl A H') (k : ∀ l, A l → B l) : Grow K pt F H1 Dl B H' := by
  obtain ⟨F', l, acc, s, f, e, r, a⟩ := w
  exact ⟨F', l, acc, s, f, e, r, k l a⟩
/-- a piece runs beside the list -/
theorem Step.beside {F H1 F' H' F2 H2 : Hp} {Dl : Addr} {acc : List V} (g : Good pt F H1) (h : H1 Dl = none) (f : F' Dl = none) (e : H' Dl = some (.lst acc)) (s : Step pt F' H' F2 H2) : F2 Dl = none ∧ H2 Dl = some (.lst acc) :=
  ⟨s.new Dl f (by rw [e]; simp), s.keep Dl _ (fun q hq => (off_pot g h q hq).1) e⟩
/-- one turn: the test, then the item -/
theorem Grow.turn {F H1 H' : Hp} {Dl : Addr} {A B : List PyData → Prop} {σ2 : L2.St} (g : Good pt F H1) (h : H1 Dl = none) (w : Grow K pt F H1 Dl A H') (hz : ∀ l, A l → l.length < 100000)
    (P : Bool → Prop) (ht : ∀ F', Ex F F' → EtG pt t σ2 F' P) (he : P true → ∀ F', Ex F F' → EvG K pt te σ2 F' R) (hy : P true → ∀ l d, A l → R d → B (l ++ [d])) (hn : P false → ∀ l, A l → B l) :
    t σ2 H' fun b H3 => if b = true then te σ2 H3 fun y H4 => ∃ acc, H4 Dl = some (.lst acc) ∧ acc.length < sizeLine ∧ Grow K pt F H1 Dl B (upd H4 Dl (.lst (acc ++ [y]))) else Grow K pt F H1 Dl B H3 := by
  obtain ⟨F', l, acc, s, f, e, r, a⟩ := w
  refine ht F' s.sub H' s.inn s.good _ fun b F2 H2 hb s2 => ?_
  obtain ⟨f2, e2⟩ := s2.beside g h f e
  cases b with
  | true =>
    show te σ2 H2 fun y H4 => ∃ acc, H4 Dl = some (.lst acc) ∧ acc.length < sizeLine ∧ Grow K pt F H1 Dl B (upd H4 Dl (.lst (acc ++ [y])))
    refine he hb F2 (s.sub.trans s2.sub) H2 s2.inn s2.good _ fun d v F3 H3 hd s3 hv => ?_
    obtain ⟨f3, e3⟩ := s3.beside g h f2 e2
    refine ⟨acc, e3, sz_lt (by rw [r.length]; exact hz l a), F3, l ++ [d], acc ++ [v], ((s.trans s2).trans s3).put g h f3, f3, upd_same, ?_, hy hb l d a hd⟩
    exact RpAll.append (RpAll.mono (s2.sub.trans s3.sub) _ _ r) (.one hv)
  | false =>
    show Grow K pt F H1 Dl B H2
    exact ⟨F2, l, acc, s.trans s2, f2, e2, RpAll.mono s2.sub _ _ r, hn hb l a⟩
/-- [e for x in .. if ..]: A tells the list made behind i turns -/
theorem g_lc {j : Nat} {vs : List Nat} {RS : List PyData → Prop} (A : List PyData → Nat → List PyData → Prop) (hw : WiG K pt wi σ F RS) (hz : ∀ ds, RS ds → ds.length ≤ 50000) (hwp : ∀ x, wipe ((wipe σ vs).set j (some x)) vs = wipe σ vs)
    (hA : ∀ ds i l, RS ds → A ds i l → l.length ≤ i) (h0 : ∀ ds, RS ds → A ds 0 [])
    (hs : ∀ ds i d, RS ds → ds[i]? = some d → ∃ (P : Bool → Prop) (Re : PD), (P true → ∀ l x, A ds i l → Re x → A ds (i + 1) (l ++ [x])) ∧ (P false → ∀ l, A ds i l → A ds (i + 1) l) ∧
      ∀ F', Ex F F' → ∀ x, Rp K F' x d → EtG pt t ((wipe σ vs).set j (some x)) F' P ∧ (P true → EvG K pt te ((wipe σ vs).set j (some x)) F' Re)) :
    EvG K pt (tLc wi (gName j) t te vs) σ F (fun x => ∃ ds l, x = .list l ∧ RS ds ∧ A ds ds.length l) := fun H0 i0 g0 Q q =>
  hw H0 i0 g0 _ fun ds J F1 H1 hds s1 Y => fun Dl hD => by
    have gi := s1.inn
    have gg := s1.good
    refine ⟨fun i m H => m = ds.length - i ∧ i ≤ ds.length ∧ Grow K pt F1 H1 Dl (A ds i) H, ⟨ds.length, by simp, Nat.zero_le _, .start gi gg hD (h0 ds hds)⟩, ?_⟩
    rintro i m H ⟨rfl, hi, w⟩
    obtain ⟨F', l, acc, s, f, e, r, a⟩ := id w
    have eH : Ex F1 H := s.sub.trans s.inn
    by_cases hlt : i < ds.length
    · refine .inr ⟨Y.go i H eH hlt, Grow K pt F1 H1 Dl (A ds (i + 1)), fun H' p' => ⟨ds.length - (i + 1), by omega, rfl, hlt, p'⟩, fun x H' y => ?_⟩
      obtain ⟨rfl, d, hd, hx⟩ := Y.yld i H x H' eH hlt y
      obtain ⟨P, Re, k1, k2, k3⟩ := hs ds i d hds hd
      refine ⟨hwp x, w.turn gg hD (fun l' a' => by have := hA ds i l' hds a'; have := hz ds hds; omega) P (fun F'' e'' => (k3 F'' (s1.sub.trans e'') x (Rp.mono e'' _ _ hx)).1) (fun hp F'' e'' => (k3 F'' (s1.sub.trans e'') x (Rp.mono e'' _ _ hx)).2 hp) (fun hp l' x' => k1 hp l' x') (fun hp l' => k2 hp l')⟩
    · have hE : i = ds.length := Nat.le_antisymm hi (Nat.le_of_not_lt hlt)
      subst hE
      refine .inl ⟨Y.stop H eH, ?_⟩
      obtain ⟨F2, l2, a2, s2, r2⟩ := w.done gg hD
      exact q _ _ F2 H ⟨ds, l2, rfl, hds, a2⟩ (s1.trans s2) r2
theorem take_succ {ds : List PyData} {i : Nat} {d : PyData} (h : ds[i]? = some d) : ds.take (i + 1) = ds.take i ++ [d] := by
  rw [List.take_add_one, h]; rfl
/-- the same where test and item are known -/
theorem g_lcI {j : Nat} {vs : List Nat} {ds : List PyData} (p : PyData → Bool) (f : PyData → PyData) (hw : WiG K pt wi σ F (· = ds)) (hz : ds.length ≤ 50000) (hwp : ∀ x, wipe ((wipe σ vs).set j (some x)) vs = wipe σ vs)
    (ht : ∀ d ∈ ds, ∀ F', Ex F F' → ∀ x, Rp K F' x d → EtG pt t ((wipe σ vs).set j (some x)) F' (· = p d))
    (he : ∀ d ∈ ds, p d = true → ∀ F', Ex F F' → ∀ x, Rp K F' x d → EvG K pt te ((wipe σ vs).set j (some x)) F' (Is (f d))) :
    EvG K pt (tLc wi (gName j) t te vs) σ F (Is (.list ((ds.filter p).map f))) := by
  refine (g_lc (RS := (· = ds)) (fun ds i l => l = ((ds.take i).filter p).map f) hw (fun _ e => e ▸ hz) hwp (fun ds i l _ a => ?_) (fun _ _ => by simp) (fun ds' i d e hd => ?_)).imp fun x hx => ?_
  · rw [a, List.length_map]
    exact Nat.le_trans (List.length_filter_le _ _) (by rw [List.length_take]; exact Nat.min_le_left _ _)
  · subst e
    have hm : d ∈ ds' := List.mem_of_getElem? hd
    refine ⟨(· = p d), Is (f d), fun hp l x a ex => ?_, fun hp l a => ?_, fun F' e x hx => ⟨ht d hm F' e x hx, fun hp => he d hm hp.symm F' e x hx⟩⟩
    · rw [take_succ hd, List.filter_append, List.map_append, a, ex]
      simp [hp.symm]
    · rw [take_succ hd, List.filter_append, List.map_append, a]
      simp [hp.symm]
  · obtain ⟨ds', l, e1, e2, e3⟩ := hx
    subst e2
    rw [List.take_length] at e3
    show x = _
    rw [e1, e3]
/-- .. without a test -/
theorem g_lcM {j : Nat} {vs : List Nat} {ds : List PyData} (f : PyData → PyData) (hw : WiG K pt wi σ F (· = ds)) (hz : ds.length ≤ 50000) (hwp : ∀ x, wipe ((wipe σ vs).set j (some x)) vs = wipe σ vs)
    (he : ∀ d ∈ ds, ∀ F', Ex F F' → ∀ x, Rp K F' x d → EvG K pt te ((wipe σ vs).set j (some x)) F' (Is (f d))) :
    EvG K pt (tLc wi (gName j) tYes te vs) σ F (Is (.list (ds.map f))) :=
  (g_lcI (fun _ => true) f hw hz hwp (fun _ _ _ _ _ _ => et_yes) (fun d hd _ => he d hd)).is (congrArg (fun l => PyData.list (List.map f l)) (show ds.filter (fun _ => true) = ds from List.filter_eq_self.mpr (fun _ _ => rfl)))

/-! ### promises of defs that change nothing, calls -/
def PSp {ι : Type} (K : PySem.W.Frag) (A : ι → List PyData) (P : ι → Prop) (f : ι → PyData) : Sp := fun vs H Q _ => ∃ i F, P i ∧ Ex F H ∧ RpAll K F vs (A i) ∧ ∀ v F2 H2, Step none F H F2 H2 → Rp K F2 v (f i) → Q v H2
theorem PSp.len {ι : Type} {A : ι → List PyData} {P : ι → Prop} {f : ι → PyData} {n : Nat} (h : ∀ i, (A i).length = n) : ∀ vs H Q E, PSp K A P f vs H Q E → vs.length = n := fun vs H Q E ⟨i, F, _, _, r, _⟩ => by rw [r.length, h]
theorem g_call {ι : Type} {A : ι → List PyData} {P : ι → Prop} {f : ι → PyData} {ds : List PyData} {E : XK} (i : ι) (h : EvsG K pt ts σ F (· = ds)) (ha : ds = A i) (hp : P i) : EvG K pt (tCall (PSp K A P f) [] E ts) σ F (Is (f i)) := fun H1 e g Q q =>
  h H1 e g _ fun ds' vs F2 H2 hd s hv => by
    rw [hd, ha] at hv
    refine ⟨i, F2, hp, s.inn, by rw [List.append_nil]; exact hv, fun v F3 H3 s3 hv3 => q _ v F3 H3 rfl (s.trans (s3.lift s.good)) hv3⟩
end

/-! ### statements -/
section
variable {K : PySem.W.Frag} {pt : Option Pt} {σ : L2.St} {F0 H0 F H F' : Hp} {te ta tb : TE} {ts tr : TA} {t u : TT} {R R1 S2 R3 : PD} {d e z : PyData} {wi : TI} {D : Ends} {tu tw tz : TS}
theorem t_ret (s : Step pt F0 H0 F H) (h : EvG K pt te σ F R) (q : ∀ d v F2 H2, R d → Step pt F0 H0 F2 H2 → Rp K F2 v d → D.rt v H2) : tRet te D σ H := h H s.inn s.good _ fun d v F2 H2 hd s2 hv => q d v F2 H2 hd (s.trans s2) hv
theorem t_retI (s : Step pt F0 H0 F H) (h : EvG K pt te σ F (Is d)) (q : ∀ v F2 H2, Step pt F0 H0 F2 H2 → Rp K F2 v d → D.rt v H2) : tRet te D σ H := t_ret s h fun d' v F2 H2 e s2 hv => q v F2 H2 s2 (by rw [← (show d' = d from e)]; exact hv)
theorem t_asg {i : Nat} (s : Step pt F0 H0 F H) (h : EvG K pt te σ F R) (q : ∀ d v F2 H2, R d → Step pt F0 H0 F2 H2 → Ex F F2 → Rp K F2 v d → tz D (σ.set i (some v)) H2) : tSeq (tAsg te (gName i)) tz D σ H :=
  h H s.inn s.good _ fun d v F2 H2 hd s2 hv => q d v F2 H2 hd (s.trans s2) s2.sub hv
theorem t_asgI {i : Nat} (s : Step pt F0 H0 F H) (h : EvG K pt te σ F (Is d)) (q : ∀ v F2 H2, Step pt F0 H0 F2 H2 → Ex F F2 → Rp K F2 v d → tz D (σ.set i (some v)) H2) : tSeq (tAsg te (gName i)) tz D σ H :=
  t_asg s h fun d' v F2 H2 e s2 e2 hv => q v F2 H2 s2 e2 (by rw [← (show d' = d from e)]; exact hv)
theorem t_if {b : Bool} (s : Step pt F0 H0 F H) (h : EtG pt t σ F (· = b)) (h1 : b = true → ∀ F2 H2, Step pt F0 H0 F2 H2 → Ex F F2 → tu { D with nx := tz D } σ H2) (h2 : b = false → ∀ F2 H2, Step pt F0 H0 F2 H2 → Ex F F2 → tw { D with nx := tz D } σ H2) :
    tSeq (tIfS t tu tw) tz D σ H := h H s.inn s.good _ fun c F2 H2 hc s2 => by
  subst hc
  cases c with
  | true => exact h1 rfl F2 H2 (s.trans s2) s2.sub
  | false => exact h2 rfl F2 H2 (s.trans s2) s2.sub
theorem t_when {b : Bool} (s : Step pt F0 H0 F H) (h : EtG pt t σ F (· = b)) (h1 : b = true → ∀ F2 H2, Step pt F0 H0 F2 H2 → Ex F F2 → tu { D with nx := tz D } σ H2) (h2 : b = false → ∀ F2 H2, Step pt F0 H0 F2 H2 → Ex F F2 → tz D σ H2) :
    tSeq (tIfS t tu tNext) tz D σ H := t_if s h h1 h2
theorem t_if1 {b : Bool} (s : Step pt F0 H0 F H) (h : EtG pt t σ F (· = b)) (h1 : b = true → ∀ F2 H2, Step pt F0 H0 F2 H2 → Ex F F2 → tu D σ H2) (h2 : b = false → ∀ F2 H2, Step pt F0 H0 F2 H2 → Ex F F2 → tw D σ H2) :
    tIfS t tu tw D σ H := h H s.inn s.good _ fun c F2 H2 hc s2 => by
  subst hc
  cases c with
  | true => exact h1 rfl F2 H2 (s.trans s2) s2.sub
  | false => exact h2 rfl F2 H2 (s.trans s2) s2.sub
theorem t_drop (s : Step pt F0 H0 F H) (h : EvG K pt te σ F R) (q : ∀ F2 H2, Step pt F0 H0 F2 H2 → Ex F F2 → tz D σ H2) : tSeq (tDrop te) tz D σ H := h H s.inn s.good _ fun d v F2 H2 _ s2 _ => q F2 H2 (s.trans s2) s2.sub
/-- for x in ..: I tells the slots behind i turns -/
theorem t_for {j : Nat} {ds : List PyData} (s : Step pt F0 H0 F H) (hw : WiG K pt wi σ F (· = ds)) (I : Nat → L2.St → Hp → Prop) (h0 : ∀ F2, Ex F F2 → I 0 σ F2)
    (hs : ∀ i d, ds[i]? = some d → ∀ σ' F' H' x, I i σ' F' → Step pt F0 H0 F' H' → Ex F F' → Rp K F' x d →
      ∀ N : L2.St → Hp → Prop, (∀ σ2 F2 H2, I (i + 1) σ2 F2 → Step pt F0 H0 F2 H2 → Ex F' F2 → N σ2 H2) → tu { D with nx := N, ct := N, bk := tz D } (σ'.set j (some x)) H')
    (hd : ∀ σ' F' H', I ds.length σ' F' → Step pt F0 H0 F' H' → Ex F F' → tz D σ' H') : tSeq (tFor wi (gName j) tu) tz D σ H :=
  hw H s.inn s.good _ fun ds' J F1 H1 e s1 Y => by
    subst e
    refine ⟨fun i m σ' H' => m = ds'.length - i ∧ i ≤ ds'.length ∧ ∃ F', Step pt F0 H0 F' H' ∧ Ex F1 F' ∧ I i σ' F', ⟨ds'.length, by simp, Nat.zero_le _, F1, s.trans s1, Ex.refl _, h0 F1 s1.sub⟩, ?_⟩
    rintro i m σ' H' ⟨rfl, hi, F', s', e', p⟩
    have eH : Ex F1 H' := e'.trans s'.inn
    by_cases hlt : i < ds'.length
    · refine .inr ⟨Y.go i H' eH hlt, fun σ2 H2 => ∃ F2, Step pt F0 H0 F2 H2 ∧ Ex F1 F2 ∧ I (i + 1) σ2 F2, fun σ2 H2 ⟨F2, a, b, c⟩ => ⟨ds'.length - (i + 1), by omega, rfl, hlt, F2, a, b, c⟩, fun x H2 y => ?_⟩
      obtain ⟨rfl, d, hdd, hx⟩ := Y.yld i H' x H2 eH hlt y
      exact hs i d hdd σ' F' _ x p s' (s1.sub.trans e') (Rp.mono e' _ _ hx) _ fun σ2 F2 H2 a b c => ⟨F2, b, e'.trans c, a⟩
    · have hE : i = ds'.length := Nat.le_antisymm hi (Nat.le_of_not_lt hlt)
      subst hE
      exact .inl ⟨Y.stop H' eH, hd σ' F' H' p s' (s1.sub.trans e')⟩
end
end Fv

namespace Fv
open PySem L2 Evl
/-! ### == of data -/
/-- a tuple of whole numbers, a list and a tuple of such -/
abbrev dT (ns : List Int) : PyData := .tuple (ns.map PyData.int)
abbrev dLT (ls : List (List Int)) : PyData := .list (ls.map dT)
abbrev dTT (ls : List (List Int)) : PyData := .tuple (ls.map dT)
theorem eqvAll_ints : ∀ ns ms : List Int, PyData.eqvAll (ns.map .int) (ms.map .int) = decide (ns = ms)
  | [], [] => by simp [PyData.eqvAll]
  | [], m :: ms => by simp [PyData.eqvAll]
  | n :: ns, [] => by simp [PyData.eqvAll]
  | n :: ns, m :: ms => by
    simp only [List.map_cons, PyData.eqvAll, PyData.eqv, eqvAll_ints ns ms]
    by_cases h : n = m <;> by_cases k : ns = ms <;> simp [h, k]
theorem eqv_dT (ns ms : List Int) : PyData.eqv (dT ns) (dT ms) = decide (ns = ms) := by
  simp only [PyData.eqv]; exact eqvAll_ints ns ms
theorem any_dT (ls : List (List Int)) (m : List Int) : (ls.map dT).any (fun z => PyData.eqv z (dT m)) = decide (m ∈ ls) := by
  rw [List.any_map]
  induction ls with
  | nil => simp
  | cons l ls ih =>
    rw [List.any_cons, ih]
    simp only [Function.comp, eqv_dT]
    by_cases h : l = m
    · subst h; simp
    · by_cases k : m ∈ ls <;> simp [h, k, Ne.symm h]
theorem shaped_of {d : PyData} (h1 : d.canLay0 = true) (h2 : d.depth ≤ 64) : SeqAt.shaped d = true := by unfold SeqAt.shaped; simp [h1, h2]
theorem canLayAll_ints : ∀ ns : List Int, PyData.canLayAll0 (ns.map .int) = true
  | [] => by simp [PyData.canLayAll0]
  | n :: ns => by simp [PyData.canLayAll0, PyData.canLay0, canLayAll_ints ns]
theorem depthAll_ints : ∀ ns : List Int, PyData.depthAll (ns.map .int) ≤ 1
  | [] => by simp [PyData.depthAll]
  | n :: ns => by
    have := depthAll_ints ns
    simp only [List.map_cons, PyData.depthAll, PyData.depth]
    omega
theorem canLay_dT (ns : List Int) : (dT ns).canLay0 = true := by simp [dT, PyData.canLay0, canLayAll_ints]
theorem depth_dT (ns : List Int) : (dT ns).depth ≤ 2 := by
  have := depthAll_ints ns
  simp only [dT, PyData.depth]; omega
theorem shaped_dT (ns : List Int) : SeqAt.shaped (dT ns) = true := shaped_of (canLay_dT ns) (by have := depth_dT ns; omega)
theorem canLayAll_dT : ∀ ls : List (List Int), PyData.canLayAll0 (ls.map dT) = true
  | [] => by simp [PyData.canLayAll0]
  | n :: ns => by simp only [List.map_cons, PyData.canLayAll0, canLay_dT, canLayAll_dT ns]; rfl
theorem depthAll_dT : ∀ ls : List (List Int), PyData.depthAll (ls.map dT) ≤ 2
  | [] => by simp [PyData.depthAll]
  | n :: ns => by
    have := depthAll_dT ns
    have := depth_dT n
    simp only [List.map_cons, PyData.depthAll]
    omega
theorem shaped_dLT (ls : List (List Int)) : SeqAt.shaped (dLT ls) = true := shaped_of (by simp only [dLT, PyData.canLay0]; exact canLayAll_dT ls) (by have := depthAll_dT ls; simp only [dLT, PyData.depth]; omega)
section
variable {K : PySem.W.Frag} {pt : Option Pt} {σ : L2.St} {F F' H : Hp} {te ta tb : TE} {ts tr : TA} {t u : TT} {R R1 S2 R3 : PD} {d e z : PyData} {r : L2.R2} {wi wi1 : TI}
/-! ### operations -/
theorem rv_add {i j : Int} : RvG K (rI0 fun i j => .int (i + j)) (.int i) (.int j) (Is (.int (i + j))) := rv_I0 (f := fun i j => .int (i + j)) fun F => .int _
theorem rv_sub {i j : Int} : RvG K (rI0 fun i j => .int (i - j)) (.int i) (.int j) (Is (.int (i - j))) := rv_I0 (f := fun i j => .int (i - j)) fun F => .int _
theorem rv_bl {g : Int → Int → Bool} {i j : Int} : RvG K (rI0 fun i j => .bl (g i j)) (.int i) (.int j) (Is (.bool (g i j))) := rv_I0 (f := fun i j => .bool (g i j)) fun F => .bl _
/-- flat things of data -/
def flatD : PyData → Bool
  | .none => true | .bool _ => true | .int _ => true | .str _ => true | _ => false
def unV : PyData → V
  | .none => .non | .bool b => .bl b | .int i => .int i | .str x => .str x | _ => .non
theorem rp_flat {v : V} (h : flatD d = true) (r : Rp K F v d) : v = unV d := by
  cases d <;> first | (cases r; rfl) | (cases h)
def isNone : PyData → Bool
  | .none => true
  | _ => false
theorem rp_isN {v : V} (r : Rp K F v d) : decide (v = .non) = isNone d := by
  cases r <;> simp [isNone]
theorem rv_isN {d : PyData} : RvG K (fun x y H Q => y = .non ∧ Q (.bl (decide (x = .non))) H) d .none (Is (.bool (isNone d))) := rv_val fun F H x y _ hx hy => ⟨_, fun Q q => ⟨rp_none hy, q⟩, by rw [rp_isN hx]; exact .bl _⟩
theorem rv_notN {d : PyData} : RvG K (fun x y H Q => y = .non ∧ Q (.bl (!decide (x = .non))) H) d .none (Is (.bool (!isNone d))) := rv_val fun F H x y _ hx hy => ⟨_, fun Q q => ⟨rp_none hy, q⟩, by rw [rp_isN hx]; exact .bl _⟩
theorem inV_ints (i : Int) (ns : List Int) : inV (.int i) (ns.map V.int) = decide (i ∈ ns) := by
  unfold inV
  rw [List.any_map]
  induction ns with
  | nil => simp
  | cons n ns ih =>
    rw [List.any_cons, ih]
    by_cases h : n = i
    · subst h; simp [eqV]
    · by_cases k : i ∈ ns <;> simp [eqV, h, k, Ne.symm h]
theorem flat_ints (ns : List Int) : (ns.map V.int).all flatV = true := by induction ns <;> simp_all [flatV]
theorem rv_inT {i : Int} {ns : List Int} : RvG K (rIn K false) (.int i) (dT ns) (Is (.bool (decide (i ∈ ns)))) := rv_val fun F H x y e hx hy => by
  obtain ⟨a, xs, rfl, hl, ha⟩ := rp_tup hy
  have e1 := rpAll_ints ha
  subst e1
  rw [rp_int hx]
  exact ⟨_, fun Q q => ⟨a, _, rfl, .inr (tx e hl), rfl, flat_ints ns, q⟩, by rw [inV_ints]; exact .bl _⟩
theorem rv_ninT {i : Int} {ns : List Int} : RvG K (rIn K true) (.int i) (dT ns) (Is (.bool (!decide (i ∈ ns)))) := rv_val fun F H x y e hx hy => by
  obtain ⟨a, xs, rfl, hl, ha⟩ := rp_tup hy
  have e1 := rpAll_ints ha
  subst e1
  rw [rp_int hx]
  exact ⟨_, fun Q q => ⟨a, _, rfl, .inr (tx e hl), rfl, flat_ints ns, q⟩, by rw [inV_ints]; exact .bl _⟩
theorem rv_inD {m : List Int} {ls : List (List Int)} : RvG K (rInD K) (dT m) (dLT ls) (Is (.bool (decide (m ∈ ls)))) := rv_val fun F H x y e hx hy =>
  ⟨_, fun Q q => ⟨dT m, ls.map dT, Rp.dp _ _ (Rp.mono e _ _ hx), Rp.dp _ _ (Rp.mono e _ _ hy), shaped_dT m, shaped_dLT ls, q⟩, by rw [any_dT]; exact .bl _⟩
theorem rv_ninD {m : List Int} {ls : List (List Int)} : RvG K (rNotInD K) (dT m) (dLT ls) (Is (.bool (!decide (m ∈ ls)))) := rv_val fun F H x y e hx hy =>
  ⟨_, fun Q q => ⟨dT m, ls.map dT, Rp.dp _ _ (Rp.mono e _ _ hx), Rp.dp _ _ (Rp.mono e _ _ hy), shaped_dT m, shaped_dLT ls, q⟩, by rw [any_dT]; exact .bl _⟩
theorem rv_neT {m n : List Int} : RvG K (rNeD K) (dT m) (dT n) (Is (.bool (!decide (m = n)))) := fun F H x y i hx hy Q q => rv_neD (shaped_dT m) (shaped_dT n) F H x y i hx hy Q fun z v F2 H2 hz => q z v F2 H2 (by rw [show z = _ from hz, eqv_dT])
theorem atI_rp {ds : List PyData} {xs : List V} {i : Int} (h : RpAll K F xs ds) (e : atI ds i = some d) : ∃ v, atI xs i = some v ∧ Rp K F v d := by
  unfold atI at e ⊢
  rw [h.length]
  cases q : ixN ds.length i with
  | none => rw [q] at e; cases e
  | some j =>
    rw [q] at e
    exact h.getD e
theorem rv_ixT {ds : List PyData} {i : Int} (h : atI ds i = some d) : RvG K (rIxT K) (.tuple ds) (.int i) (Is d) := rv_val fun F H x y e hx hy => by
  obtain ⟨a, xs, rfl, hl, ha⟩ := rp_tup hx
  obtain ⟨v, e1, r1⟩ := atI_rp ha h
  exact ⟨v, fun Q q => ⟨a, xs, i, v, rfl, rp_int hy, tx e hl, e1, q⟩, r1⟩
theorem rv_ixL {ds : List PyData} {i : Int} (h : atI ds i = some d) : RvG K (rIxL K) (.list ds) (.int i) (Is d) := rv_val fun F H x y e hx hy => by
  obtain ⟨a, xs, rfl, hl, ha⟩ := rp_lst hx
  obtain ⟨v, e1, r1⟩ := atI_rp ha h
  exact ⟨v, fun Q q => ⟨a, xs, i, v, rfl, rp_int hy, sq_of (e _ _ hl), e1, q⟩, r1⟩
theorem rv_cat {ds es : List PyData} (hz : ds.length + es.length ≤ 100000) : RvG K rCat (.list ds) (.list es) (Is (.list (ds ++ es))) := fun F H x y e hx hy Q q => by
  obtain ⟨a, xs, rfl, hl, ha⟩ := rp_lst hx
  obtain ⟨b, ys, rfl, hm, hb⟩ := rp_lst hy
  refine ⟨a, b, xs, ys, rfl, rfl, e _ _ hl, e _ _ hm, by rw [ha.length, hb.length]; exact sz_of hz, fun p hp => ?_⟩
  have s : Step none F H (upd F p (.lst (xs ++ ys))) (upd H p (.lst (xs ++ ys))) := .laid e .nil hp
  exact q _ _ _ _ rfl s (.lst upd_same (RpAll.mono s.sub _ _ (ha.append hb)))
/-! ### calls of built-ins -/
theorem rc_all {bs : List Bool} : RcG K (rAll K) [.list (bs.map .bool)] (Is (.bool (bs.all id))) := rc_val fun F H vs e h => by
  cases h with
  | cons h1 h2 =>
    cases h2
    obtain ⟨a, xs, rfl, hl, ha⟩ := rp_lst h1
    have e1 := rpAll_bools ha
    subst e1
    exact ⟨_, fun Q q => ⟨a, bs, rfl, sq_of (e _ _ hl), q⟩, .bl _⟩
theorem rc_any {bs : List Bool} : RcG K (rAny K) [.list (bs.map .bool)] (Is (.bool (bs.any id))) := rc_val fun F H vs e h => by
  cases h with
  | cons h1 h2 =>
    cases h2
    obtain ⟨a, xs, rfl, hl, ha⟩ := rp_lst h1
    have e1 := rpAll_bools ha
    subst e1
    exact ⟨_, fun Q q => ⟨a, bs, rfl, sq_of (e _ _ hl), q⟩, .bl _⟩
theorem rc_tupL {ds : List PyData} : RcG K (fun xs H Q => ∃ p ys, xs = [.ref p] ∧ ((SqL K H p ys ∧ ∀ l, H l = none → Q (.ref l) (upd H l (.tup ys))) ∨ (SqT K H p ys ∧ Q (.ref p) H))) [.list ds] (Is (.tuple ds)) := fun F H vs e h Q q => by
  cases h with
  | cons h1 h2 =>
    cases h2
    obtain ⟨a, xs, rfl, hl, ha⟩ := rp_lst h1
    refine ⟨a, xs, rfl, .inl ⟨sq_of (e _ _ hl), fun p hp => ?_⟩⟩
    have s : Step none F H (upd F p (.tup xs)) (upd H p (.tup xs)) := .laid e .nil hp
    exact q _ _ _ _ rfl s (.tup upd_same (RpAll.mono s.sub _ _ ha))
theorem rc_tupT {ds : List PyData} : RcG K (fun xs H Q => ∃ p ys, xs = [.ref p] ∧ ((SqL K H p ys ∧ ∀ l, H l = none → Q (.ref l) (upd H l (.tup ys))) ∨ (SqT K H p ys ∧ Q (.ref p) H))) [.tuple ds] (Is (.tuple ds)) := rc_val fun F H vs e h => by
  cases h with
  | cons h1 h2 =>
    cases h2
    obtain ⟨a, xs, rfl, hl, ha⟩ := rp_tup h1
    exact ⟨_, fun Q q => ⟨a, xs, rfl, .inr ⟨tx e hl, q⟩⟩, .tup hl ha⟩
theorem rc_lenL {ds : List PyData} : RcG K (fun xs H Q => ∃ p ys, xs = [.ref p] ∧ (SqL K H p ys ∨ SqT K H p ys) ∧ Q (.int ys.length) H) [.list ds] (Is (.int ds.length)) := rc_val fun F H vs e h => by
  cases h with
  | cons h1 h2 =>
    cases h2
    obtain ⟨a, xs, rfl, hl, ha⟩ := rp_lst h1
    exact ⟨_, fun Q q => ⟨a, xs, rfl, .inl (sq_of (e _ _ hl)), q⟩, by rw [← ha.length]; exact .int _⟩
theorem rc_lenT {ds : List PyData} : RcG K (fun xs H Q => ∃ p ys, xs = [.ref p] ∧ (SqL K H p ys ∨ SqT K H p ys) ∧ Q (.int ys.length) H) [.tuple ds] (Is (.int ds.length)) := rc_val fun F H vs e h => by
  cases h with
  | cons h1 h2 =>
    cases h2
    obtain ⟨a, xs, rfl, hl, ha⟩ := rp_tup h1
    exact ⟨_, fun Q q => ⟨a, xs, rfl, .inr (tx e hl), q⟩, by rw [← ha.length]; exact .int _⟩
/-- the built-in class of data -/
def tyD : PyData → String
  | .none => "NoneType" | .bool _ => "bool" | .int _ => "int" | .str _ => "str" | .list _ => "list" | .tuple _ => "tuple" | .dict _ => "dict"
theorem rp_ty {v : V} (r : Rp K F v d) : TyX K F v (.type (tyD d)) := by
  cases r with
  | non => exact .base .non
  | bl b => exact .base (.bl b)
  | int i => exact .base (.int i)
  | str x => exact .base (.str x)
  | lst h _ => exact .base (.lst h)
  | tup h _ =>
    exact .base (.tup h)
/-- isinstance(x, T), T a built-in class -/
theorem g_isi {T : String} {b : Bool} (h : EvG K pt te σ F (Is d)) (hk : kitB (tyD d) T = some b) : EvG K pt (tCB (rIsi K) (tCons te (tCons (tC (.ty T)) tNil))) σ F (Is (.bool b)) := fun H1 i g Q q =>
  h H1 i g _ fun d' v F2 H2 hd s hv => by
    subst hd
    exact ⟨v, .ty T, _, _, b, rfl, .ty T, rp_ty (Rp.mono s.inn _ _ hv), kit_ty hk, q _ _ F2 H2 rfl s (.bl b)⟩
/-- isinstance(x, (S, T)) -/
theorem g_isi2 {S T : String} {b c : Bool} (h : EvG K pt te σ F (Is d)) (hk : kitB (tyD d) S = some b) (hk2 : kitB (tyD d) T = some c) : EvG K pt (tCB (rIsiT K) (tCons te (tCons (tTup (tCons (tC (.ty S)) (tCons (tC (.ty T)) tNil))) tNil))) σ F (Is (.bool (b || c))) := fun H1 i g Q q =>
  h H1 i g _ fun d' v F2 H2 hd s hv => by
    subst hd
    refine ⟨sz_of (by show 2 ≤ 100000; decide), fun p hp => ?_⟩
    have s3 : Step pt F2 H2 (upd F2 p (.tup [.ty S, .ty T])) (upd H2 p (.tup [.ty S, .ty T])) := .laid s.inn s.good hp
    refine ⟨v, p, _, _, [.type S, .type T], b || c, rfl, upd_same, .cons (.ty S) (.cons (.ty T) .nil), rp_ty (Rp.mono (s3.sub.trans s3.inn) _ _ hv), ?_, q _ _ _ _ rfl (s.trans s3) (.bl _)⟩
    refine kitAny_cons (kit_ty hk) (fun hb => ?_) (fun hb => by rw [hb]; rfl)
    subst hb
    refine kitAny_cons (kit_ty hk2) (fun hc => ?_) (fun hc => by rw [hc]; rfl)
    subst hc
    exact kitAny_nil
/-- the truth of a list, a tuple -/
theorem et_truL {ds : List PyData} (h : EvG K pt te σ F (Is (.list ds))) : EtG pt (fun σ H Q => te σ H fun x H' => ∃ k, TruV K x H' k ∧ Q k H') σ F (· = !ds.isEmpty) := fun H1 i g Q q =>
  h H1 i g _ fun d' v F2 H2 hd s hv => by
    subst hd
    obtain ⟨a, xs, rfl, hl, ha⟩ := rp_lst hv
    have e : xs.isEmpty = ds.isEmpty := by have := ha.length; cases xs <;> cases ds <;> simp_all
    exact ⟨!ds.isEmpty, .inl ⟨xs, sq_of (s.inn _ _ hl), by rw [e]⟩, q _ F2 H2 rfl s⟩
theorem et_truT {ds : List PyData} (h : EvG K pt te σ F (Is (.tuple ds))) : EtG pt (fun σ H Q => te σ H fun x H' => ∃ k, TruV K x H' k ∧ Q k H') σ F (· = !ds.isEmpty) := fun H1 i g Q q =>
  h H1 i g _ fun d' v F2 H2 hd s hv => by
    subst hd
    obtain ⟨a, xs, rfl, hl, ha⟩ := rp_tup hv
    have e : xs.isEmpty = ds.isEmpty := by have := ha.length; cases xs <;> cases ds <;> simp_all
    exact ⟨!ds.isEmpty, .inr (.inl ⟨xs, tx s.inn hl, by rw [e]⟩), q _ F2 H2 rfl s⟩
theorem et_truI {n : Int} (h : EvG K pt te σ F (Is (.int n))) : EtG pt (fun σ H Q => te σ H fun x H' => ∃ k, TruV K x H' k ∧ Q k H') σ F (· = (n != 0)) := fun H1 i g Q q =>
  h H1 i g _ fun d' v F2 H2 hd s hv => by
    subst hd
    rw [rp_int hv]
    exact ⟨n != 0, rfl, q _ F2 H2 rfl s⟩
end
end Fv

/-! the rules with K told, so that they stand within comprehensions -/
namespace Fv
open PySem PySem.Spec PyProof.Rows L2 Evl StX
section
variable {X : Cx} {K : PySem.W.Frag} {tg : Expr}
abbrev rLen (K : PySem.W.Frag) : List V → Hp → VK → Prop := fun xs H Q => ∃ p ys, xs = [.ref p] ∧ (SqL K H p ys ∨ SqT K H p ys) ∧ Q (.int ys.length) H
abbrev rTup (K : PySem.W.Frag) : List V → Hp → VK → Prop := fun xs H Q => ∃ p ys, xs = [.ref p] ∧ ((SqL K H p ys ∧ ∀ l, H l = none → Q (.ref l) (upd H l (.tup ys))) ∨ (SqT K H p ys ∧ Q (.ref p) H))
abbrev rList (K : PySem.W.Frag) : List V → Hp → VK → Prop := fun xs H Q => ∃ p ys, xs = [.ref p] ∧ (SqL K H p ys ∨ SqT K H p ys) ∧ ∀ l, H l = none → Q (.ref l) (upd H l (.lst ys))
theorem o_in (h : X.K = K := by rfl) : OpR X (compareOp .In) (rIn K false) := h ▸ op_in_seq
theorem o_notIn (h : X.K = K := by rfl) : OpR X (compareOp .NotIn) (rIn K true) := h ▸ op_notIn_seq
theorem o_inD (hu : X.A.units + 65 < cLine) (h : X.K = K := by rfl) : OpR X (compareOp .In) (rInD K) := h ▸ op_inD hu
theorem o_notInD (hu : X.A.units + 65 < cLine) (h : X.K = K := by rfl) : OpR X (compareOp .NotIn) (rNotInD K) := h ▸ op_notInD hu
theorem o_eqD (hu : X.A.units + 64 < cLine) (h : X.K = K := by rfl) : OpR X (compareOp .Eq) (rEqD K) := h ▸ op_eqD hu
theorem o_neD (hu : X.A.units + 64 < cLine) (h : X.K = K := by rfl) : OpR X (compareOp .NotEq) (rNeD K) := h ▸ op_neD hu
theorem o_ixT (h : X.K = K := by rfl) : IxR X (rIxT K) := h ▸ ix_tup
theorem o_ixL (h : X.K = K := by rfl) : IxR X (rIxL K) := h ▸ ix_list
theorem o_catT (h : X.K = K := by rfl) : OpR X (binaryOp .Add) (rCatT K) := h ▸ op_catT
theorem c_all (hc : X.calm = true := by rfl) (h : X.K = K := by rfl) : CallR X (.builtin "all") (rAll K) := h ▸ cr_all hc
theorem c_any (hc : X.calm = true := by rfl) (h : X.K = K := by rfl) : CallR X (.builtin "any") (rAny K) := h ▸ cr_any hc
theorem c_len (h : X.K = K := by rfl) : CallR X (.builtin "len") (rLen K) := h ▸ call_len_seq
theorem c_tup (h : X.K = K := by rfl) : CallR X (.type "tuple") (rTup K) := h ▸ call_tuple_of
theorem c_list (h : X.K = K := by rfl) : CallR X (.type "list") (rList K) := h ▸ call_list_of
theorem c_isi (h : X.K = K := by rfl) : CallR X (.builtin "isinstance") (rIsi K) := h ▸ call_isi
theorem c_isiT (h : X.K = K := by rfl) : CallR X (.builtin "isinstance") (rIsiT K) := h ▸ call_isiT
theorem s_list (h : X.K = K := by rfl) : SlR X (rSlL K) := h ▸ sl_list
theorem s_tup (h : X.K = K := by rfl) : SlR X (rSlA K) := h ▸ sl_tupA
theorem i_list {l : Expr} {tl : TE} (hl : PE X l tl) (h : X.K = K := by rfl) : PI X tg l (iList K tl) := h ▸ pi_list hl
theorem i_tup {l : Expr} {tl : TE} (hl : PE X l tl) (h : X.K = K := by rfl) : PI X tg l (iTup K tl) := h ▸ pi_tup hl
theorem e_fld {e : Expr} {ta : TE} {f : Str} {pos : Pos} (he : PE X e ta) (hb : attributeBase e f X.env (eval e X.env) = eval e X.env) (h : X.K = K := by rfl) : PE X (.Attribute e f pos) (tFld K ta f) := h ▸ pe_fld he hb
theorem e_truth {a : Expr} {ta : TE} (ha : PE X a ta) (he : ∀ whole, isTrue a X.env whole = (do let v ← whole; standAt a.pos; holding [v] (truthy v)) := by intro _; rfl) (h : X.K = K := by rfl) :
    PT X a (fun σ H Q => ta σ H fun x H' => ∃ k, TruV K x H' k ∧ Q k H') := h ▸ pt_truth ha he
theorem a_star {e : Expr} {te : TE} {es : List Expr} {t : TA} {p : Pos} (he : PE X e te) (hr : PA X es t) (hs : starEach (.Starred e p :: es) X.env = (true, eval e X.env) :: starEach es X.env := by rfl) (h : X.K = K := by rfl) : PA X (.Starred e p :: es) (tStar K te t) := h ▸ pa_star he hr hs
end
section
variable {K : PySem.W.Frag} {pt : Option Pt} {σ : L2.St} {F F' H : Hp} {te ta tb : TE} {ts tr : TA} {t u : TT} {R R1 S2 R3 : PD} {d e z : PyData} {r : L2.R2}
theorem rc_list {ds : List PyData} {src : PyData} (hs : src = .list ds ∨ src = .tuple ds) : RcG K (rList K) [src] (Is (.list ds)) := fun F H vs e h Q q => by
  cases h with
  | cons h1 h2 =>
    cases h2
    have go : ∀ a xs, (SqL K H a xs ∨ SqT K H a xs) → RpAll K F xs ds → rList K [.ref a] H Q := fun a xs hl ha => ⟨a, xs, rfl, hl, fun p hp => by
      have s : Step none F H (upd F p (.lst xs)) (upd H p (.lst xs)) := .laid e .nil hp
      exact q _ _ _ _ rfl s (.lst upd_same (RpAll.mono s.sub _ _ ha))⟩
    rcases hs with rfl | rfl
    · obtain ⟨a, xs, rfl, hl, ha⟩ := rp_lst h1
      exact go a xs (.inl (sq_of (e _ _ hl))) ha
    · obtain ⟨a, xs, rfl, hl, ha⟩ := rp_tup h1
      exact go a xs (.inr (tx e hl)) ha
theorem rv_catT {ds es : List PyData} (h0 : ds ≠ []) (hz : ds.length + es.length ≤ 100000) : RvG K (rCatT K) (.tuple ds) (.tuple es) (Is (.tuple (ds ++ es))) := fun F H x y e hx hy Q q => by
  obtain ⟨a, xs, rfl, hl, ha⟩ := rp_tup hx
  obtain ⟨b, ys, rfl, hm, hb⟩ := rp_tup hy
  refine ⟨a, b, xs, ys, rfl, rfl, tx e hl, tx e hm, ?_, by rw [ha.length, hb.length]; exact sz_of hz, ?_, fun _ p hp => ?_⟩
  · rintro rfl
    cases ha
    exact h0 rfl
  · rintro rfl
    cases hb
    exact q _ _ F H rfl (.refl e .nil) (.tup hl (by rw [List.append_nil]; exact ha))
  · have s : Step none F H (upd F p (.tup (xs ++ ys))) (upd H p (.tup (xs ++ ys))) := .laid e .nil hp
    exact q _ _ _ _ rfl s (.tup upd_same (RpAll.mono s.sub _ _ (ha.append hb)))
/-- *xs in a display -/
theorem gs_star {ds es : List PyData} {src : PyData} (hs : src = .list ds ∨ src = .tuple ds) (h : EvG K pt te σ F (Is src)) (hr : EvsG K pt tr σ F (· = es)) : EvsG K pt (tStar K te tr) σ F (· = ds ++ es) := fun H1 i g Q q =>
  h H1 i g _ fun d v F2 H2 hd s hv => by
    subst hd
    have go : ∀ a xs, v = .ref a → (F2 a = some (.tup xs) ∨ F2 a = some (.lst xs)) → RpAll K F2 xs ds → ∃ p xs, v = V.ref p ∧ (SqT K H2 p xs ∨ SqL K H2 p xs) ∧ tr σ H2 fun ys H3 => Q (xs ++ ys) H3 := fun a xs ev hl ha => by
      refine ⟨a, xs, ev, ?_, hr.mono s.sub H2 s.inn s.good _ fun es' ys F3 H3 he s3 hy => ?_⟩
      · rcases hl with hl | hl
        · exact .inl (tx s.inn hl)
        · exact .inr (sq_of (s.inn _ _ hl))
      · subst he
        exact q _ _ F3 H3 rfl (s.trans s3) (RpAll.append (RpAll.mono s3.sub _ _ ha) hy)
    rcases hs with rfl | rfl
    · obtain ⟨a, xs, rfl, hl, ha⟩ := rp_lst hv
      exact go a xs rfl (.inr hl) ha
    · obtain ⟨a, xs, rfl, hl, ha⟩ := rp_tup hv
      exact go a xs rfl (.inl hl) ha
end
end Fv

namespace Fv
open PySem PySem.Spec PyProof.Rows L2 Evl StX
/-! ### set(t), sorted of it -/
def rSetT (K : PySem.W.Frag) (w : World) : List V → Hp → VK → Prop := fun xs H Q => ∃ (p : Addr) (ns : List Int), xs = [.ref p] ∧ SqT K H p (ns.map V.int) ∧ ns.length ≤ 60 ∧
  ∀ a c, H a = none → c ≤ ns.length → Q (.ref a) (upd H a (SetO w a (fun j => decide (j ∈ ns)) c))
theorem c_setT {X : Cx} {K : PySem.W.Frag} {w : World} (hc : X.calm = true := by rfl) (h : X.K = K := by rfl) (hw : X.w = w := by rfl) : CallR X (.type "set") (rSetT K w) := by
  subst h; subst hw
  intro pins s σ H xs us Q I r h
  obtain ⟨p, ns, rfl, hq, hl, q⟩ := h
  rw [Vals.ref1 r]
  obtain ⟨its, rv, ht, hz⟩ := I.tuple hq
  have hi : IntsAre its.toArray.toList ns := ints_of_vals rv
  refine call_set_tupI ns (I.ok.hd hc) ht hi (by unfold scanBound; omega) fun h' tk c R1 hcn k => ?_
  exact ⟨.ref s.heap.objs.size, _, I.laid (t' := tk) k (Nat.le_refl _) (setO_new R1), rfl, q _ c (I.hok.fresh (Nat.le_refl _)) hcn⟩
theorem c_sortedSet {X : Cx} {w : World} (hc : X.calm = true := by rfl) (hw : X.w = w := by rfl) : CallR X (.builtin "sorted") (rSortedSet w) := hw ▸ cr_sortedSet hc
/-- an object that is laid beside -/
theorem Step.litter {pt : Option Pt} {F H : Hp} {p : Addr} {o : HO} (e : Ex F H) (g : Good pt F H) (hp : H p = none) : Step pt F H F (upd H p o) :=
  ⟨Ex.refl F, e.trans (Ex.new hp), Keep.of (Ex.new hp), fun q hq => ⟨(g q hq).1, (g q hq).2.mono (Ex.new hp)⟩, New.refl F H⟩
section
variable {K : PySem.W.Frag} {w : World} {pt : Option Pt} {σ : L2.St} {F F' H : Hp} {te ta tb : TE} {ts tr : TA} {t u : TT} {R R1 S2 R3 : PD} {d e z : PyData} {r : L2.R2}
theorem g_sortedSet {ns : List Int} (h : EvG K pt te σ F (Is (dT ns))) (hz : ns.length ≤ 60) : EvG K pt (tCB (rSortedSet w) (tCons (tCB (rSetT K w) (tCons te tNil)) tNil)) σ F
    (fun x => ∃ ms : List Int, x = .list (ms.map .int) ∧ ms.Pairwise (· < ·) ∧ ∀ k, k ∈ ms ↔ k ∈ ns) := fun H1 i g Q q =>
  h H1 i g _ fun d v F2 H2 hd s hv => by
    subst hd
    obtain ⟨a, xs, rfl, hl, ha⟩ := rp_tup hv
    have e1 := rpAll_ints ha
    subst e1
    refine ⟨a, ns, rfl, tx s.inn hl, hz, fun b c hb hc => ?_⟩
    have s3 : Step pt F2 H2 F2 (upd H2 b (SetO w b (fun j => decide (j ∈ ns)) c)) := .litter s.inn s.good hb
    refine ⟨b, _, c, rfl, upd_same, by omega, fun ms p hp hm hlen hn => ?_⟩
    have s4 : Step pt F2 (upd H2 b (SetO w b (fun j => decide (j ∈ ns)) c)) (upd F2 p (.lst (ms.map V.int))) _ := .laid s3.inn s3.good hn
    exact q _ _ _ _ ⟨ms, rfl, hp, fun k => by rw [hm k, decide_eq_true_eq]⟩ ((s.trans s3).trans s4) (.lst upd_same (rpAll_of_ints ms))
/-- the one ascending row of the members of ns below n -/
def lotOf (n : Nat) (ns : List Int) : List Int := ((List.range n).map Int.ofNat).filter fun k => decide (k ∈ ns)
theorem pw_range (n : Nat) : ((List.range n).map Int.ofNat).Pairwise (· < ·) := by
  rw [List.pairwise_map]
  exact (List.pairwise_lt_range (n := n)).imp fun h => by simp only [Int.ofNat_eq_natCast]; omega
theorem asc_unique : ∀ {a b : List Int}, a.Pairwise (· < ·) → b.Pairwise (· < ·) → (∀ k, k ∈ a ↔ k ∈ b) → a = b
  | [], [], _, _, _ => rfl
  | [], y :: b, _, _, h => absurd ((h y).mpr (by simp)) (by simp)
  | x :: a, [], _, _, h => absurd ((h x).mp (by simp)) (by simp)
  | x :: a, y :: b, ha, hb, h => by
    have ha' := List.pairwise_cons.mp ha
    have hb' := List.pairwise_cons.mp hb
    have exy : x = y := by
      have h1 : x ∈ y :: b := (h x).mp (by simp)
      have h2 : y ∈ x :: a := (h y).mpr (by simp)
      rcases List.mem_cons.mp h1 with e | m
      · exact e
      · rcases List.mem_cons.mp h2 with e | m'
        · exact e.symm
        · have := hb'.1 x m
          have := ha'.1 y m'
          omega
    subst exy
    refine congrArg (x :: ·) (asc_unique ha'.2 hb'.2 fun k => ⟨fun m => ?_, fun m => ?_⟩)
    · have h1 : k ∈ x :: b := (h k).mp (List.mem_cons_of_mem _ m)
      rcases List.mem_cons.mp h1 with e | m'
      · have := ha'.1 k m; omega
      · exact m'
    · have h1 : k ∈ x :: a := (h k).mpr (List.mem_cons_of_mem _ m)
      rcases List.mem_cons.mp h1 with e | m'
      · have := hb'.1 k m; omega
      · exact m'
theorem lotOf_asc (n : Nat) (ns : List Int) : (lotOf n ns).Pairwise (· < ·) := (pw_range n).filter _
theorem mem_lotOf {n : Nat} {ns : List Int} {k : Int} : k ∈ lotOf n ns ↔ (0 ≤ k ∧ k < n) ∧ k ∈ ns := by
  unfold lotOf
  rw [List.mem_filter, List.mem_map, decide_eq_true_eq]
  constructor
  · rintro ⟨⟨j, hj, rfl⟩, h⟩
    rw [List.mem_range] at hj
    exact ⟨⟨by simp only [Int.ofNat_eq_natCast]; omega, by simp only [Int.ofNat_eq_natCast]; omega⟩, h⟩
  · rintro ⟨⟨h1, h2⟩, h⟩
    exact ⟨⟨k.toNat, by rw [List.mem_range]; omega, by simp only [Int.ofNat_eq_natCast]; omega⟩, h⟩
theorem lotOf_len (n : Nat) (ns : List Int) : (lotOf n ns).length ≤ n := by
  unfold lotOf
  exact Nat.le_trans (List.length_filter_le _ _) (by simp)
theorem sorted_is {n : Nat} {ns ms : List Int} (hp : ms.Pairwise (· < ·)) (hm : ∀ k, k ∈ ms ↔ k ∈ ns) (hb : ∀ k ∈ ns, 0 ≤ k ∧ k < n) : ms = lotOf n ns :=
  asc_unique hp (lotOf_asc n ns) fun k => by rw [mem_lotOf, hm]; exact ⟨fun h => ⟨hb k h, h⟩, fun h => h.2⟩

/-! ### max(t, default=d) -/
/-- the greatest of ns, d if there is none -/
def maxOf (d : Int) : List Int → Int
  | [] => d
  | n :: r => r.foldl max n
def rMaxD (K : PySem.W.Frag) : List V → List V → Hp → VK → Prop := fun xs zs H Q => ∃ (p : Addr) (ns : List Int) (d : Int), xs = [.ref p] ∧ zs = [.int d] ∧ SqT K H p (ns.map V.int) ∧
  Q (.int (maxOf d ns)) H
theorem intOf {v : Value} {h : Heap} {i : Int} {bs : List Addr} (r : Reads h v (.int i) bs) : ∃ t, v = Value.int i t := by
  cases r with
  | int i t => exact ⟨t, rfl⟩
theorem c_maxD {X : Cx} {K : PySem.W.Frag} (hu : X.A.units + 3 < cLine) (hc : X.calm = true := by rfl) (h : X.K = K := by rfl) : CallRK X (.builtin "max") [Str.ofString "default"] (rMaxD K) := by
  subst h
  intro pins s σ H xs zs us ws Q I r rz h
  obtain ⟨p, ns, d, rfl, rfl, hq, q⟩ := h
  rw [Vals.ref1 r]
  obtain ⟨tk, rfl⟩ : ∃ t, ws = [Value.int d t] := by
    cases rz with
    | cons r1 r2 => cases r2; obtain ⟨t, rfl⟩ := r1; exact ⟨t, rfl⟩
  obtain ⟨its, rv, ht, hz⟩ := I.tuple hq
  obtain ⟨as, hr⟩ := Dp.readsAll I (ns.map .int) _ its (RpAll.dp _ _ (rpAll_of_ints ns)) rv
  have kept : ∀ (v : V) (u : Value) (h' : Heap) (tk : Nat), RelV v u → (∀ b o, s.heap.get? b = some o → h'.get? b = some o) → Q v H → EP X pins σ Q u { s with heap := h', toks := tk } := fun v u h' tk rvu k hq => ⟨v, H, I.kept (t' := tk) k, rvu, hq⟩
  refine PySem.W.max_tuple_default (I.ok.hd hc) ht hr ⟨?_, ?_⟩ ?_ (fun hn h' tk k => ?_) (fun y ys i v h' tk bs e hv hrd k => ?_)
  · intro x hx y hy
    obtain ⟨a, _, rfl⟩ := List.mem_map.mp hx
    obtain ⟨b, _, rfl⟩ := List.mem_map.mp hy
    rfl
  · intro x hx
    obtain ⟨a, _, rfl⟩ := List.mem_map.mp hx
    intro z; cases z
  · have := depthAll_ints ns
    omega
  · have : ns = [] := List.map_eq_nil_iff.mp hn
    subst this
    exact kept (.int d) _ h' tk ⟨_, rfl⟩ k q
  · cases ns with
    | nil => cases e
    | cons n r =>
      simp only [List.map_cons, List.cons.injEq] at e
      obtain ⟨rfl, rfl⟩ := e
      rw [PySem.W.maxD_ints] at hrd
      obtain ⟨t, rfl⟩ := intOf hrd
      exact kept (.int _) _ h' tk ⟨_, rfl⟩ k q
theorem g_maxD {ns : List Int} {c : Int} (h : EvG K pt te σ F (Is (dT ns))) (hd : EvG K pt ta σ F (Is (.int c))) : EvG K pt (tCKw (rMaxD K) (tCons te tNil) (tCons ta tNil)) σ F (Is (.int (maxOf c ns))) := fun H1 i g Q q =>
  h H1 i g _ fun d v F2 H2 hd' s hv => hd.mono s.sub H2 s.inn s.good _ fun d2 v2 F3 H3 hd2 s3 hv2 => by
    subst hd'; subst hd2
    obtain ⟨a, xs, rfl, hl, ha⟩ := rp_tup hv
    have e1 := rpAll_ints ha
    subst e1
    refine ⟨a, ns, c, rfl, by rw [rp_int hv2], tx s3.inn (s3.sub _ _ hl), ?_⟩
    exact q _ _ F3 H3 rfl (s.trans s3) (.int _)
/-! ### () + t -/
theorem c_catT0 : True := trivial
end
end Fv

namespace Fv
open PySem PySem.Spec PyProof.Rows L2 Evl StX
theorem hu3 {k : Nat} {A : Around} (hr : Room k A) : A.units + 3 < cLine := Nat.lt_of_le_of_lt (Nat.add_le_add_left (by decide : 3 ≤ 64) _) hr.units
theorem hu65 {k : Nat} {A : Around} (hr : Room k A) : A.units + 65 < cLine := by have := hr.un; omega
theorem o_catA {X : Cx} {K : PySem.W.Frag} (h : X.K = K := by rfl) : OpR X (binaryOp .Add) (rCatA K) := h ▸ op_catA
section
variable {K : PySem.W.Frag} {w : World} {pt : Option Pt} {σ : L2.St} {F F' H : Hp} {te ta tb : TE} {ts tr : TA} {t u : TT} {R R1 S2 R3 : PD} {d e z : PyData} {r : L2.R2} {wi wi1 : TI}
theorem rv_catA {ds es : List PyData} (hz : ds.length + es.length ≤ 100000) : RvG K (rCatA K) (.tuple ds) (.tuple es) (Is (.tuple (ds ++ es))) := fun F H x y e hx hy Q q => by
  obtain ⟨a, xs, rfl, hl, ha⟩ := rp_tup hx
  obtain ⟨b, ys, rfl, hm, hb⟩ := rp_tup hy
  refine ⟨a, b, xs, ys, rfl, rfl, tx e hl, tx e hm, by rw [ha.length, hb.length]; exact sz_of hz, ?_, ?_, fun _ _ p hp => ?_⟩
  · rintro rfl
    cases ha
    exact q _ _ F H rfl (.refl e .nil) (.tup hm hb)
  · rintro _ rfl
    cases hb
    exact q _ _ F H rfl (.refl e .nil) (.tup hl (by rw [List.append_nil]; exact ha))
  · have s : Step none F H (upd F p (.tup (xs ++ ys))) (upd H p (.tup (xs ++ ys))) := .laid e .nil hp
    exact q _ _ _ _ rfl s (.tup upd_same (RpAll.mono s.sub _ _ (ha.append hb)))
theorem get_map {α : Type} {enc : α → PyData} {xs : List α} {i : Nat} {d : PyData} (h : (xs.map enc)[i]? = some d) : ∃ x, xs[i]? = some x ∧ d = enc x := by
  rw [List.getElem?_map] at h
  cases e : xs[i]? with
  | none => rw [e] at h; cases h
  | some x => rw [e] at h; exact ⟨x, rfl, (Option.some.inj h).symm⟩
theorem take_succA {α : Type} {ds : List α} {i : Nat} {d : α} (h : ds[i]? = some d) : ds.take (i + 1) = ds.take i ++ [d] := by
  rw [List.take_add_one, h]; rfl
theorem g_lcE {α : Type} {j : Nat} {vs : List Nat} (enc : α → PyData) (xs : List α) (p : α → Bool) (g : α → PyData) (hw : WiG K pt wi σ F (· = xs.map enc)) (hz : xs.length ≤ 50000) (hwp : ∀ x, wipe ((wipe σ vs).set j (some x)) vs = wipe σ vs)
    (ht : ∀ x ∈ xs, ∀ F', Ex F F' → ∀ v, Rp K F' v (enc x) → EtG pt t ((wipe σ vs).set j (some v)) F' (· = p x))
    (he : ∀ x ∈ xs, p x = true → ∀ F', Ex F F' → ∀ v, Rp K F' v (enc x) → EvG K pt te ((wipe σ vs).set j (some v)) F' (Is (g x))) :
    EvG K pt (tLc wi (gName j) t te vs) σ F (Is (.list ((xs.filter p).map g))) := by
  refine (g_lc (RS := (· = xs.map enc)) (fun _ i l => l = ((xs.take i).filter p).map g) hw (fun _ e => by rw [e, List.length_map]; exact hz) hwp (fun ds i l _ a => ?_) (fun _ _ => by simp) (fun ds' i d e hd => ?_)).imp fun x hx => ?_
  · rw [a, List.length_map]
    exact Nat.le_trans (List.length_filter_le _ _) (by rw [List.length_take]; exact Nat.min_le_left _ _)
  · subst e
    obtain ⟨x, hx, rfl⟩ := get_map hd
    have hm : x ∈ xs := List.mem_of_getElem? hx
    refine ⟨(· = p x), Is (g x), fun hp l y a ex => ?_, fun hp l a => ?_, fun F' e v hv => ⟨ht x hm F' e v hv, fun hp => he x hm hp.symm F' e v hv⟩⟩
    · rw [take_succA hx, List.filter_append, List.map_append, a, ex]
      simp [hp.symm]
    · rw [take_succA hx, List.filter_append, List.map_append, a]
      simp [hp.symm]
  · obtain ⟨ds', l, e1, e2, e3⟩ := hx
    subst e2
    rw [List.length_map, List.take_length] at e3
    show x = _
    rw [e1, e3]
theorem g_lcEM {α : Type} {j : Nat} {vs : List Nat} (enc : α → PyData) (xs : List α) (g : α → PyData) (hw : WiG K pt wi σ F (· = xs.map enc)) (hz : xs.length ≤ 50000) (hwp : ∀ x, wipe ((wipe σ vs).set j (some x)) vs = wipe σ vs)
    (he : ∀ x ∈ xs, ∀ F', Ex F F' → ∀ v, Rp K F' v (enc x) → EvG K pt te ((wipe σ vs).set j (some v)) F' (Is (g x))) :
    EvG K pt (tLc wi (gName j) tYes te vs) σ F (Is (.list (xs.map g))) :=
  (g_lcE enc xs (fun _ => true) g hw hz hwp (fun _ _ _ _ _ _ => et_yes) (fun d hd _ => he d hd)).is (congrArg (fun l => PyData.list (List.map g l)) (show xs.filter (fun _ => true) = xs from List.filter_eq_self.mpr (fun _ _ => rfl)))
/-- the items are drawn: each has P -/
theorem g_lcR {α β : Type} {j : Nat} {vs : List Nat} (enc : β → PyData) (P : β → Prop) {RS : List PyData → Prop} (hw : WiG K pt wi σ F RS) (hz : ∀ ds, RS ds → ds.length ≤ 50000) (hwp : ∀ x, wipe ((wipe σ vs).set j (some x)) vs = wipe σ vs)
    (he : ∀ F', Ex F F' → ∀ v, EvG K pt te ((wipe σ vs).set j (some v)) F' (fun x => ∃ y, x = enc y ∧ P y)) :
    EvG K pt (tLc wi (gName j) tYes te vs) σ F (fun x => ∃ (ds : List PyData) (ys : List β), RS ds ∧ x = .list (ys.map enc) ∧ ys.length = ds.length ∧ ∀ y ∈ ys, P y) := by
  refine (g_lc (RS := RS) (fun _ i l => ∃ ys : List β, l = ys.map enc ∧ ys.length = i ∧ ∀ y ∈ ys, P y) hw hz hwp (fun ds i l _ a => ?_) (fun _ _ => ⟨[], rfl, rfl, by simp⟩) (fun ds' i d e hd => ?_)).imp fun x hx => ?_
  · obtain ⟨ys, rfl, e, _⟩ := a
    rw [List.length_map, e]; exact Nat.le_refl _
  · refine ⟨(· = true), fun x => ∃ y, x = enc y ∧ P y, fun _ l x a ex => ?_, (fun hp => by cases hp), fun F' e v hv => ⟨et_yes, fun _ => he F' e v⟩⟩
    obtain ⟨ys, rfl, e, hP⟩ := a
    obtain ⟨y, rfl, py⟩ := ex
    refine ⟨ys ++ [y], by simp, by simp [e], fun z hz => ?_⟩
    rcases List.mem_append.mp hz with m | m
    · exact hP z m
    · rw [List.mem_singleton.mp m]; exact py
  · obtain ⟨ds', l, e1, e2, ys, rfl, e4, e5⟩ := hx
    exact ⟨ds', ys, e2, e1, e4, e5⟩
theorem yes_of {σ : L2.St} {H : Hp} {Q : Bool → Hp → Prop} (h : Q true H) : tYes σ H Q := h
theorem ite_t {p q : Prop} (h : p) : (if true = true then p else q) := by rw [if_pos rfl]; exact h
/-- [e for x in .. for y in .. if ..] -/
theorem g_lc2E {α β : Type} {j j1 : Nat} {vs vs1 : List Nat} (enc : α → PyData) (enc1 : β → PyData) (xs : List α) (ys : α → List β) (p : α → β → Bool) (g : α → β → PyData) (hw : WiG K pt wi σ F (· = xs.map enc)) (hz : xs.length ≤ 300) (hz1 : ∀ x ∈ xs, (ys x).length ≤ 300)
    (hwp : ∀ x, wipe ((wipe σ vs).set j (some x)) vs = wipe σ vs) (hwp1 : ∀ x y, wipe ((wipe ((wipe σ vs).set j (some x)) vs1).set j1 (some y)) vs1 = wipe ((wipe σ vs).set j (some x)) vs1)
    (hw1 : ∀ x ∈ xs, ∀ F', Ex F F' → ∀ v, Rp K F' v (enc x) → WiG K pt wi1 ((wipe σ vs).set j (some v)) F' (· = (ys x).map enc1))
    (ht : ∀ x ∈ xs, ∀ y ∈ ys x, ∀ F', Ex F F' → ∀ v u, Rp K F' v (enc x) → Rp K F' u (enc1 y) → EtG pt t ((wipe ((wipe σ vs).set j (some v)) vs1).set j1 (some u)) F' (· = p x y))
    (he : ∀ x ∈ xs, ∀ y ∈ ys x, p x y = true → ∀ F', Ex F F' → ∀ v u, Rp K F' v (enc x) → Rp K F' u (enc1 y) → EvG K pt te ((wipe ((wipe σ vs).set j (some v)) vs1).set j1 (some u)) F' (Is (g x y))) :
    EvG K pt (tLc2 wi (gName j) tYes wi1 (gName j1) t te vs vs1) σ F (Is (.list (xs.flatMap fun x => ((ys x).filter (p x)).map (g x)))) := fun H0 i0 g0 Q q =>
  hw H0 i0 g0 _ fun ds J F1 H1 hds s1 Y => fun Dl hD => by
    subst hds
    have gi := s1.inn
    have gg := s1.good
    let fl := fun l : List α => l.flatMap fun x => ((ys x).filter (p x)).map (g x)
    have hfl : ∀ i, i ≤ xs.length → (fl (xs.take i)).length ≤ i * 300 := by
      intro i
      induction i with
      | zero => intro _; simp [fl]
      | succ i ih =>
        intro hi
        have e := List.getElem?_eq_getElem (show i < xs.length by omega)
        rw [take_succA e]
        show ((xs.take i ++ [xs[i]]).flatMap _).length ≤ _
        rw [List.flatMap_append, List.length_append]
        have h1 := ih (by omega)
        have h2 := hz1 _ (List.mem_of_getElem? e)
        have h3 := List.length_filter_le (p xs[i]) (ys xs[i])
        simp only [List.flatMap_cons, List.flatMap_nil, List.append_nil, List.length_map]
        show (fl (xs.take i)).length + _ ≤ _
        omega
    refine ⟨fun i m H => m = xs.length - i ∧ i ≤ xs.length ∧ Grow K pt F1 H1 Dl (· = fl (xs.take i)) H, ⟨xs.length, by simp, Nat.zero_le _, .start gi gg hD (by simp [fl])⟩, ?_⟩
    rintro i m H ⟨rfl, hi, w⟩
    obtain ⟨F', l, acc, s, f, e, r, a⟩ := id w
    have eH : Ex F1 H := s.sub.trans s.inn
    by_cases hlt : i < xs.length
    · refine .inr ⟨Y.go i H eH (by rw [List.length_map]; exact hlt), Grow K pt F1 H1 Dl (· = fl (xs.take (i + 1))), fun H' p' => ⟨xs.length - (i + 1), by omega, rfl, hlt, p'⟩, fun v H' y => ?_⟩
      obtain ⟨rfl, d, hd, hx⟩ := Y.yld i H v H' eH (by rw [List.length_map]; exact hlt) y
      obtain ⟨x, hxx, rfl⟩ := get_map hd
      have hm : x ∈ xs := List.mem_of_getElem? hxx
      refine ⟨hwp v, ?_⟩
      refine yes_of (ite_t ?_)
      -- the inner walk
      refine hw1 x hm F' (s1.sub.trans s.sub) v (Rp.mono s.sub _ _ hx) H' s.inn s.good _ fun ds1 J1 F2 H2 hds1 s2 Y1 => ?_
      subst hds1
      obtain ⟨f2, e2⟩ := s2.beside gg hD f e
      let fi := fun k : Nat => fl (xs.take i) ++ (((ys x).take k).filter (p x)).map (g x)
      refine ⟨fun k m H => m = (ys x).length - k ∧ k ≤ (ys x).length ∧ ∃ F3 acc, Step pt F1 H1 F3 H ∧ Ex F2 F3 ∧ F3 Dl = none ∧ H Dl = some (.lst acc) ∧ RpAll K F3 acc (fi k), ⟨(ys x).length, by simp, Nat.zero_le _, F2, acc, s.trans s2, Ex.refl _, f2, e2, ?_⟩, ?_⟩
      · show RpAll K F2 acc (fl (xs.take i) ++ (((ys x).take 0).filter (p x)).map (g x))
        rw [List.take_zero, List.filter_nil, List.map_nil, List.append_nil, ← a]
        exact RpAll.mono s2.sub _ _ r
      rintro k m H3 ⟨rfl, hk, F3, acc3, s3, e23, f3, e3, r3⟩
      have eH3 : Ex F2 H3 := e23.trans s3.inn
      by_cases hkl : k < (ys x).length
      · refine .inr ⟨Y1.go k H3 eH3 (by rw [List.length_map]; exact hkl), fun H => ∃ F3 acc, Step pt F1 H1 F3 H ∧ Ex F2 F3 ∧ F3 Dl = none ∧ H Dl = some (.lst acc) ∧ RpAll K F3 acc (fi (k + 1)), fun H' p' => ⟨(ys x).length - (k + 1), by omega, rfl, hkl, p'⟩, fun u H' yy => ?_⟩
        obtain ⟨rfl, d1, hd1, hu⟩ := Y1.yld k H3 u H' eH3 (by rw [List.length_map]; exact hkl) yy
        obtain ⟨y, hyy, rfl⟩ := get_map hd1
        have hmy : y ∈ ys x := List.mem_of_getElem? hyy
        have hv3 : Rp K F3 v (enc x) := Rp.mono s3.sub _ _ hx
        have hu3 : Rp K F3 u (enc1 y) := Rp.mono e23 _ _ hu
        refine ⟨hwp1 v u, ?_⟩
        refine ht x hm y hmy F3 (s1.sub.trans s3.sub) v u hv3 hu3 H' s3.inn s3.good _ fun b F4 H4 hb s4 => ?_
        obtain ⟨f4, e4⟩ := s4.beside gg hD f3 e3
        subst hb
        cases hp : p x y with
        | true =>
          rw [if_pos rfl]
          refine he x hm y hmy hp F4 ((s1.sub.trans s3.sub).trans s4.sub) v u (Rp.mono s4.sub _ _ hv3) (Rp.mono s4.sub _ _ hu3) H4 s4.inn s4.good _ fun z zv F5 H5 hzz s5 hzv => ?_
          obtain ⟨f5, e5⟩ := s5.beside gg hD f4 e4
          subst hzz
          refine ⟨acc3, e5, sz_lt ?_, F5, acc3 ++ [zv], ((s3.trans s4).trans s5).put gg hD f5, (e23.trans s4.sub).trans s5.sub, f5, upd_same, ?_⟩
          · rw [r3.length]
            show (fl (xs.take i) ++ (((ys x).take k).filter (p x)).map (g x)).length < 100000
            rw [List.length_append, List.length_map]
            have h1 := hfl i hi
            have h2 := List.length_filter_le (p x) ((ys x).take k)
            have h3 := hz1 x hm
            rw [List.length_take] at h2
            have h4 : i * 300 ≤ 300 * 300 := Nat.mul_le_mul_right _ (by omega)
            omega
          · show RpAll K F5 _ (fl (xs.take i) ++ (((ys x).take (k + 1)).filter (p x)).map (g x))
            rw [take_succA hyy, List.filter_append, List.map_append]
            have : [y].filter (p x) = [y] := by simp [hp]
            rw [this, List.map_cons, List.map_nil, ← List.append_assoc]
            exact RpAll.append (RpAll.mono (s4.sub.trans s5.sub) _ _ r3) (.one hzv)
        | false =>
          rw [if_neg Bool.false_ne_true]
          refine ⟨F4, acc3, s3.trans s4, e23.trans s4.sub, f4, e4, ?_⟩
          show RpAll K F4 _ (fl (xs.take i) ++ (((ys x).take (k + 1)).filter (p x)).map (g x))
          rw [take_succA hyy, List.filter_append, List.map_append]
          have : [y].filter (p x) = [] := by simp [hp]
          rw [this, List.map_nil, List.append_nil]
          exact RpAll.mono s4.sub _ _ r3
      · have hE : k = (ys x).length := Nat.le_antisymm hk (Nat.le_of_not_lt hkl)
        subst hE
        refine .inl ⟨by have := Y1.stop H3 eH3; rw [List.length_map] at this; exact this, F3, fl (xs.take (i + 1)), acc3, s3, f3, e3, ?_, rfl⟩
        have e6 : fl (xs.take (i + 1)) = fi (ys x).length := by
          show (xs.take (i + 1)).flatMap _ = fl (xs.take i) ++ (((ys x).take (ys x).length).filter (p x)).map (g x)
          rw [take_succA hxx, List.flatMap_append, List.take_length]
          simp only [List.flatMap_cons, List.flatMap_nil, List.append_nil]
          rfl
        rw [e6]
        exact r3
    · have hE : i = xs.length := Nat.le_antisymm hi (Nat.le_of_not_lt hlt)
      subst hE
      refine .inl ⟨by have := Y.stop H eH; rw [List.length_map] at this; exact this, ?_⟩
      obtain ⟨F2, l2, a2, s2, r2⟩ := w.done gg hD
      refine q _ _ F2 H ?_ (s1.trans s2) r2
      show PyData.list l2 = _
      rw [a2, List.take_length]
theorem rc_allM {α : Type} (a : List α) (p : α → Bool) : RcG K (rAll K) [.list (a.map fun x => .bool (p x))] (Is (.bool (a.all p))) := by
  have h := rc_all (K := K) (bs := a.map p)
  rw [List.map_map] at h
  have e : (a.map p).all id = a.all p := by induction a <;> simp_all
  rw [e] at h
  exact h
theorem rc_anyM {α : Type} (a : List α) (p : α → Bool) : RcG K (rAny K) [.list (a.map fun x => .bool (p x))] (Is (.bool (a.any p))) := by
  have h := rc_any (K := K) (bs := a.map p)
  rw [List.map_map] at h
  have e : (a.map p).any id = a.any p := by induction a <;> simp_all
  rw [e] at h
  exact h
theorem g_cbI {r : List V → Hp → VK → Prop} {ds : List PyData} (h : EvsG K pt ts σ F (· = ds)) (hr : RcG K r ds R) : EvG K pt (tCB r ts) σ F R := g_cb h fun _ e => e ▸ hr
theorem g_consR (h : EvG K pt te σ F R) : EvsG K pt (tCons te tNil) σ F (fun l => ∃ d, l = [d] ∧ R d) := fun H1 i g Q q => gs_cons h gs_nil H1 i g Q fun l vs F2 H2 hl s hv => by
  obtain ⟨d, ds, e, h1, h2⟩ := hl
  exact q l vs F2 H2 ⟨d, by rw [e, h2], h1⟩ s hv
/-- one argument -/
theorem gs_one (h : EvG K pt te σ F (Is d)) : EvsG K pt (tCons te tNil) σ F (· = [d]) := gs_consI h gs_nil
theorem gs_two (h : EvG K pt ta σ F (Is d)) (h2 : EvG K pt tb σ F (Is e)) : EvsG K pt (tCons ta (tCons tb tNil)) σ F (· = [d, e]) := gs_consI h (gs_one h2)
theorem gs_three {tc : TE} (h : EvG K pt ta σ F (Is d)) (h2 : EvG K pt tb σ F (Is e)) (h3 : EvG K pt tc σ F (Is z)) : EvsG K pt (tCons ta (tCons tb (tCons tc tNil))) σ F (· = [d, e, z]) := gs_consI h (gs_two h2 h3)
theorem g_un1 {i : Int} (h : EvG K pt te σ F (Is (.int i))) : EvG K pt (tUn (rU fun i => .int (-i)) te) σ F (Is (.int (-i))) := fun H1 i' g Q q => h H1 i' g _ fun d v F2 H2 hd s hv => by
  subst hd
  exact ⟨i, rp_int hv, q _ _ F2 H2 rfl s (.int _)⟩
theorem g_opI (ha : EvG K pt ta σ F (Is d)) (hb : EvG K pt tb σ F (Is e)) (hr : RvG K r d e R) : EvG K pt (tOp r ta tb) σ F R := g_op ha hb fun _ _ h1 h2 => h1 ▸ h2 ▸ hr
end
section
variable {K : PySem.W.Frag} {pt : Option Pt} {σ : L2.St} {F0 H0 F H F' : Hp} {te ta tb : TE} {t u : TT} {R : PD} {d e z : PyData} {D : Ends} {tu tw tz : TS}
theorem t_asg1 {i : Nat} (s : Step pt F0 H0 F H) (h : EvG K pt te σ F R) (q : ∀ d v F2 H2, R d → Step pt F0 H0 F2 H2 → Ex F F2 → Rp K F2 v d → D.nx (σ.set i (some v)) H2) : tAsg te (gName i) D σ H :=
  h H s.inn s.good _ fun d v F2 H2 hd s2 hv => q d v F2 H2 hd (s.trans s2) s2.sub hv
theorem t_for1 {wi : TI} {j : Nat} {ds : List PyData} (s : Step pt F0 H0 F H) (hw : WiG K pt wi σ F (· = ds)) (I : Nat → L2.St → Hp → Prop) (h0 : ∀ F2, Ex F F2 → I 0 σ F2)
    (hs : ∀ i d, ds[i]? = some d → ∀ σ' F' H' x, I i σ' F' → Step pt F0 H0 F' H' → Ex F F' → Rp K F' x d →
      ∀ N : L2.St → Hp → Prop, (∀ σ2 F2 H2, I (i + 1) σ2 F2 → Step pt F0 H0 F2 H2 → Ex F' F2 → N σ2 H2) → tu { D with nx := N, ct := N, bk := D.nx } (σ'.set j (some x)) H')
    (hd : ∀ σ' F' H', I ds.length σ' F' → Step pt F0 H0 F' H' → Ex F F' → D.nx σ' H') : tFor wi (gName j) tu D σ H :=
  t_for (D := { D with nx := D.nx }) (tz := fun D' σ H => D.nx σ H) s hw I h0 hs hd
/-- a test that fails: the suite is skipped -/
theorem t_skip (s : Step pt F0 H0 F H) (h : EtG pt t σ F (· = false)) (q : ∀ F2 H2, Step pt F0 H0 F2 H2 → Ex F F2 → tz D σ H2) : tSeq (tIfS t tu tNext) tz D σ H := t_when s h (fun z => by cases z) fun _ => q
end
end Fv

namespace Fv
open PySem PySem.Spec PyProof.Rows L2 Evl StX
theorem o_ix {X : Cx} {K : PySem.W.Frag} (h : X.K = K := by rfl) : IxR X (rIx K) := h ▸ ix_seq
theorem m_append {X : Cx} : MtR X "list.append" rAppend := mt_append
section
variable {K : PySem.W.Frag} {w : World} {pt : Option Pt} {σ : L2.St} {F F' H : Hp} {te ta tb : TE} {ts tr : TA} {t u : TT} {R R1 S2 R3 : PD} {d e z : PyData} {r : L2.R2} {wi wi1 : TI}
theorem rv_ix {ds : List PyData} {src : PyData} {i : Int} (hs : src = .list ds ∨ src = .tuple ds) (h : atI ds i = some d) : RvG K (rIx K) src (.int i) (Is d) := fun F H x y e hx hy Q q => by
  rcases hs with rfl | rfl
  · exact .inl (rv_ixL h F H x y e hx hy Q q)
  · exact .inr (.inl (rv_ixT h F H x y e hx hy Q q))
theorem rv_eqI {i j : Int} : RvG K rEq (.int i) (.int j) (Is (.bool (decide (i = j)))) := rv_val fun F H x y _ hx hy => by
  rw [rp_int hx, rp_int hy]
  refine ⟨.bl (decide (V.int i = V.int j)), fun Q q => ⟨rfl, q⟩, ?_⟩
  have : decide (V.int i = V.int j) = decide (i = j) := by by_cases h : i = j <;> simp [h]
  rw [this]; exact .bl _
theorem rc_lenS {ds : List PyData} {src : PyData} (hs : src = .list ds ∨ src = .tuple ds) : RcG K (rLen K) [src] (Is (.int ds.length)) := by
  rcases hs with rfl | rfl
  · exact rc_lenL
  · exact rc_lenT
end
/-! ### a list that grows -/
/-- at l a list of ls beside the part that stays; it was made behind H0 -/
structure Gst (K : PySem.W.Frag) (pt : Option Pt) (F0 H0 : Hp) (l : Addr) (F H : Hp) (ls : List PyData) : Prop where
  step : Step pt F0 H0 F H
  off : F l = none
  ex : ∃ acc, H l = some (.lst acc) ∧ RpAll K F acc ls
section
variable {K : PySem.W.Frag} {pt : Option Pt} {σ : L2.St} {F0 H0 F H F' F2 H2 : Hp} {te ta tb : TE} {ts tr : TA} {t u : TT} {R R1 S2 R3 : PD} {d e z : PyData} {wi : TI} {D : Ends} {tu tw tz : TS} {l : Addr} {ls : List PyData}
theorem Gst.run (g0 : Good pt F0 H0) (h0 : H0 l = none) (g : Gst K pt F0 H0 l F H ls) (s : Step pt F H F2 H2) : Gst K pt F0 H0 l F2 H2 ls := by
  obtain ⟨acc, e, r⟩ := g.ex
  obtain ⟨f2, e2⟩ := s.beside g0 h0 g.off e
  -- the pot is off l
  exact ⟨g.step.trans s, f2, acc, e2, RpAll.mono s.sub _ _ r⟩
theorem Gst.put (g0 : Good pt F0 H0) (h0 : H0 l = none) (g : Gst K pt F0 H0 l F H ls) {v : V} (hv : Rp K F v d) : ∃ acc, H l = some (.lst acc) ∧ acc.length = ls.length ∧ Gst K pt F0 H0 l F (upd H l (.lst (acc ++ [v]))) (ls ++ [d]) := by
  obtain ⟨acc, e, r⟩ := g.ex
  exact ⟨acc, e, r.length, g.step.put g0 h0 g.off, g.off, _, upd_same, r.append (.one hv)⟩
theorem Gst.done (g0 : Good pt F0 H0) (h0 : H0 l = none) (g : Gst K pt F0 H0 l F H ls) : ∃ F2, Step pt F0 H0 F2 H ∧ Ex F F2 ∧ Rp K F2 (.ref l) (.list ls) := by
  obtain ⟨acc, e, r⟩ := g.ex
  have e1 : Ex F (upd F l (.lst acc)) := Ex.new g.off
  refine ⟨upd F l (.lst acc), ⟨g.step.sub.trans e1, fun b u hb => ?_, g.step.keep, fun q hq => ⟨?_, (g.step.good q hq).2⟩, fun b h1 h2 => ?_⟩, e1, .lst upd_same (RpAll.mono e1 _ _ r)⟩
  · by_cases z : b = l
    · rw [z, upd_same] at hb; rw [z, e]; exact hb
    · rw [upd_ne z] at hb; exact g.step.inn b u hb
  · rw [upd_ne (off_pot g0 h0 q hq).1.symm]; exact (g.step.good q hq).1
  · have z : b ≠ l := loose_ne h2 h0
    rw [upd_ne z]; exact g.step.new b h1 h2
/-- x = [] -/
theorem t_newL {i : Nat} (s : Step pt F0 H0 F H) (q : ∀ l, H0 l = none → H l = none → Gst K pt F0 H0 l F (upd H l (.lst [])) [] → tz D (σ.set i (some (.ref l))) (upd H l (.lst []))) (hb : ∀ l, H l = none → H0 l = none) : tSeq (tAsg (tLst tNil) (gName i)) tz D σ H :=
  ⟨Nat.zero_le _, fun l hl => by
    have f : F l = none := by
      cases e : F l with
      | none => rfl
      | some o => rw [s.inn _ _ e] at hl; cases hl
    exact q l (hb l hl) hl ⟨s.trans (.litter s.inn s.good hl), f, [], upd_same, .nil⟩⟩
/-- x.append(e) -/
theorem t_app {i : Nat} (g0 : Good pt F0 H0) (h0 : H0 l = none) (g : Gst K pt F0 H0 l F H ls) (hi : σ[i]? = some (some (.ref l))) (h : EvG K pt te σ F R) (hz : ls.length < 100000)
    (q : ∀ d F2 H2, R d → Gst K pt F0 H0 l F2 H2 (ls ++ [d]) → Ex F F2 → D.nx σ H2) : tDrop (tBM K "list" rAppend (tVar i) (tCons te tNil)) D σ H := by
  obtain ⟨acc, e, r⟩ := g.ex
  refine ⟨.ref l, hi, .inl ⟨rfl, acc, sq_of e⟩, h H g.step.inn g.step.good _ fun d v F2 H2 hd s hv => ?_⟩
  obtain ⟨acc2, e2, hlen, g2⟩ := (g.run g0 h0 s).put g0 h0 hv
  exact ⟨l, acc2, v, rfl, rfl, e2, sz_lt (by rw [hlen]; exact hz), q d F2 _ hd g2 s.sub⟩
/-- a loop beside a list that grows: I tells the slots and the list behind i turns -/
theorem t_forG {j : Nat} {ds : List PyData} (g0 : Good pt F0 H0) (h0 : H0 l = none) (g : Gst K pt F0 H0 l F H ls) (hw : WiG K pt wi σ F (· = ds)) (I : Nat → L2.St → Hp → List PyData → Prop) (hi : ∀ F2, Ex F F2 → I 0 σ F2 ls)
    (hs : ∀ i d, ds[i]? = some d → ∀ σ' F' H' x ls', I i σ' F' ls' → Gst K pt F0 H0 l F' H' ls' → Ex F F' → Rp K F' x d →
      ∀ N : L2.St → Hp → Prop, (∀ σ2 F2 H2 ls2, I (i + 1) σ2 F2 ls2 → Gst K pt F0 H0 l F2 H2 ls2 → Ex F' F2 → N σ2 H2) → tu { D with nx := N, ct := N, bk := tz D } (σ'.set j (some x)) H')
    (hd : ∀ σ' F' H' ls', I ds.length σ' F' ls' → Gst K pt F0 H0 l F' H' ls' → Ex F F' → tz D σ' H') : tSeq (tFor wi (gName j) tu) tz D σ H :=
  hw H g.step.inn g.step.good _ fun ds' J F1 H1 e s1 Y => by
    subst e
    refine ⟨fun i m σ' H' => m = ds'.length - i ∧ i ≤ ds'.length ∧ ∃ F' ls', Gst K pt F0 H0 l F' H' ls' ∧ Ex F1 F' ∧ I i σ' F' ls', ⟨ds'.length, by simp, Nat.zero_le _, F1, ls, g.run g0 h0 s1, Ex.refl _, hi F1 s1.sub⟩, ?_⟩
    rintro i m σ' H' ⟨rfl, hil, F', ls', g', e', p⟩
    have eH : Ex F1 H' := e'.trans g'.step.inn
    by_cases hlt : i < ds'.length
    · refine .inr ⟨Y.go i H' eH hlt, fun σ2 H2 => ∃ F2 ls2, Gst K pt F0 H0 l F2 H2 ls2 ∧ Ex F1 F2 ∧ I (i + 1) σ2 F2 ls2, fun σ2 H2 ⟨F2, ls2, a, b, c⟩ => ⟨ds'.length - (i + 1), by omega, rfl, hlt, F2, ls2, a, b, c⟩, fun x H2 y => ?_⟩
      obtain ⟨rfl, d, hdd, hx⟩ := Y.yld i H' x H2 eH hlt y
      exact hs i d hdd σ' F' _ x ls' p g' (s1.sub.trans e') (Rp.mono e' _ _ hx) _ fun σ2 F2 H2 ls2 a b c => ⟨F2, ls2, b, e'.trans c, a⟩
    · have hE : i = ds'.length := Nat.le_antisymm hil (Nat.le_of_not_lt hlt)
      subst hE
      exact .inl ⟨Y.stop H' eH, hd σ' F' H' ls' p g' (s1.sub.trans e')⟩
end
end Fv
namespace Fv
open PySem L2 Evl
theorem Step.back {pt : Option Pt} {F0 H0 F H : Hp} (s : Step pt F0 H0 F H) (l : Addr) (h : H l = none) : H0 l = none := by
  cases e : H0 l with
  | none => rfl
  | some o => exact absurd h (s.keep.there (F := F) s.good (by rw [e]; simp))
end Fv

/-! a dict comprehension whose keys are tuples -/
namespace Fv
open PySem PySem.Spec PyProof.Rows L2 Evl StX
/-- the store of one entry, the key a tuple that stands -/
theorem putT {Y : Cx} {pins : List (Addr × Obj)} {τ : L2.St} {G : Hp} {s : Shared} {E : Value → Shared → Prop} {D b : Addr} {es : List (List Key × V)} {k : List Key} {v : V} {u r : Value} {Q : Unit → Shared → Prop}
    (hu : Y.A.units + 1 < cLine) (I : Inv Y pins τ G s) (hD : G D = some (.dT es)) (hk : G b = some (.tup (k.map kV))) (hz : es.length < sizeLine) (ru : RelV (.ref b) u) (rr : RelV v r)
    (fin : ∀ s', Inv Y pins τ (upd G D (.dT (putK es k v))) s' → Q () s') : wpAny (model Y.prog Y.w) Y.A (dictSet D u r) Q E s := by
  cases (show u = Value.ref b from ru)
  obtain ⟨hl, hsys, ts, kt, of⟩ := dt_of I.hok hD
  refine wpAny_dictSet_heap (hsz := by rw [← Paired.length kt]; exact hl) (show (tupleKind (mixKind Y.prog Y.w)).room Y.A from Nat.lt_of_succ_lt hu) (key_of I.hok hk) of fun hp' new same => fin _ ?_
  obtain ⟨o, ar, n, e1, e2, e3, e4, _, e6⟩ := new
  have fit : (putK es k v).length ≤ sizeLine := by have := length_putK es k v; omega
  refine d_write I (by rw [hD]; trivial) same ⟨o, e1⟩ ⟨fit, hsys, _, (kt.put k hk rr).keeps fun c ys ec => ?_, o, ar, n, e1, e2, e3, e4, e6⟩
  have : c ≠ D := ne_of ec hD (fun z => by cases z)
  rw [upd_ne this]; exact ec
/-- {k: v for target in iter if ..}: D is the new dict, each key a tuple of ints and texts -/
def tDcT (wi : TI) (g : TG) (tt : TT) (tk tv : TE) (vs : List Nat) : TE := fun σ H Q => wi σ H fun J H1 => ∀ D, H1 D = none →
  ∃ W : Nat → Nat → Hp → Prop, (∃ m, W 0 m (upd H1 D (.dT []))) ∧ ∀ i m H, W i m H →
    (J.stop i H ∧ Q (.ref D) H) ∨
    (J.go i H ∧ ∃ Nx : Hp → Prop, (∀ H', Nx H' → ∃ m', m' < m ∧ W (i + 1) m' H') ∧
      ∀ x H', J.yld i H x H' → g x (wipe σ vs) H' fun σ2 H2 => wipe σ2 vs = wipe σ vs ∧ tt σ2 H2 fun b H3 =>
        if b = true then tk σ2 H3 fun y H4 => tv σ2 H4 fun z H5 => ∃ es k q, y = .ref q ∧ H5 q = some (.tup (k.map kV)) ∧ H5 D = some (.dT es) ∧ es.length < sizeLine ∧ Nx (upd H5 D (.dT (putK es k z)))
        else Nx H3)
section
variable {X : Cx} {kx vx tg iter : Expr} {ifs : List Expr} {scope : Scope} {own : List (Str × Nat)} {pos : Pos} {wi : TI} {g : TG} {tt : TT} {tk tv : TE}
/-- the scope's block of a comprehension, whatever its own frame -/
abbrev Blk (X : Cx) (scope : Scope) (P : Cx → Prop) : Prop := ∀ (s : Shared) (H : Hp) (C : Addr) (cl : List (Str × Addr)) (fp : List Addr), P (X.blk s H scope (compEnvC scope cl C X.env) fp)
theorem pe_dcT (hc : X.calm = true) (hu : X.A.units + 1 < cLine) (hN : X.N.Nodup) (hi : PI X tg iter wi) (ok : BlkOk X.N X.env.scope scope own)
    (hg : Blk X scope fun Y => PG Y tg g) (ht : Blk X scope fun Y => PTs Y ifs tt) (hk : Blk X scope fun Y => PE Y kx tk) (hv : Blk X scope fun Y => PE Y vx tv) (hs : ∀ x, foldedSetIterable iter X.env x = pure x := by intro _; rfl) :
    PE X (.DictComp kx vx [⟨tg, iter, ifs, 0⟩] scope pos) (tDcT wi g tt tk tv (own.map (·.2))) := by
  refine ⟨fun pins s σ H Q I q => ?_⟩
  rw [arm_eval_DictComp]
  have clo : ∀ n ∈ scope.names, n.2 = .free → ∃ c, X.env.cells.lookup n.1 = some c := fun n hn e => (ok.free n hn e).elim (fun z => I.ok.has _ (.inl z)) fun z => I.ok.has _ (.inr z)
  refine wpAny_comprehension_free (use := none) rfl hs (closure_ok clo) ok.kind (fun n hn e => by rw [ok.uniq n hn, e]) (thn (hi.run pins s σ H _ I q) fun xv sa ha => thn ha fun itv sb hb => ?_)
  obtain ⟨it, fp, tn, J, Hb, rfl, Ib, T, tb, fb, qb⟩ := hb
  refine wpAny_newObj_type (newEnv_comp ?_)
  -- the dict D, then the block's frame C
  generalize eD : sb.heap.objs.size = D
  have freeD : Hb D = none := Ib.hok.fresh (Nat.le_of_eq eD)
  obtain ⟨W, ⟨m0, w0⟩, turn⟩ := qb D freeD
  generalize ec : ({ sb with heap := sb.heap.push { cls := .type "dict", data := .dict #[] } } : Shared) = sc
  have push : sc.heap = sb.heap.push { cls := .type "dict", data := .dict #[] } := by rw [← ec]
  have Ic : Inv X pins σ (upd Hb D (.dT [])) sc := by
    subst eD; subst ec
    exact Ib.laid (t' := sb.toks) (fun _ _ e => Heap.get?_push_of_some _ e) (Nat.le_refl _) (dt_empty sb.heap Ib.big)
  have fc : ∀ b ∈ fp, FpOk X pins (upd Hb D (.dT [])) b ∧ b < sc.heap.objs.size := fun b hb => by
    obtain ⟨o, e, _⟩ := T.obj _ _ tb b hb
    have lt := Heap.lt_size e
    have ne : b ≠ D := fun z => by rw [z, ← eD] at lt; exact Nat.lt_irrefl _ lt
    exact ⟨⟨by rw [upd_ne ne]; exact (fb b hb).1, (fb b hb).2⟩, by rw [push, Heap.size_push]; exact Nat.lt_succ_of_lt lt⟩
  have tc : tn 0 sc.heap := T.keep _ _ _ tb fun _ _ _ e => by rw [push]; exact Heap.get?_push_of_some _ e
  have Id := block_start Ic ok hN fc
  have none3 : ∀ b ∈ fp, upd Hb D (.dT []) b = none := fun b hb => (fc b hb).1.1
  have bg := hg sc (upd Hb D (.dT [])) sc.heap.objs.size (cellsFrom (sc.heap.objs.size + 1) scope.names (cloFrom X.env.cells scope.names [])) fp
  have bt := ht sc (upd Hb D (.dT [])) sc.heap.objs.size (cellsFrom (sc.heap.objs.size + 1) scope.names (cloFrom X.env.cells scope.names [])) fp
  have bk := hk sc (upd Hb D (.dT [])) sc.heap.objs.size (cellsFrom (sc.heap.objs.size + 1) scope.names (cloFrom X.env.cells scope.names [])) fp
  have bv := hv sc (upd Hb D (.dT [])) sc.heap.objs.size (cellsFrom (sc.heap.objs.size + 1) scope.names (cloFrom X.env.cells scope.names [])) fp
  show codeAny _ _ (.compStart (.DictComp kx vx [⟨tg, iter, ifs, 0⟩] scope pos) 0 (.ref it) (.ref D) (compEnvC scope (cellsFrom (sc.heap.objs.size + 1) scope.names (cloFrom X.env.cells scope.names [])) sc.heap.objs.size X.env))
    (compPost (model X.prog X.w) X.A X.xe none (EP X pins σ Q) (.ref D) sc.heap.objs.size) { sc with heap := pushCells (sc.heap.push { cls := .type "dict", data := .dict #[] }) scope.names }
  have td : tn 0 (pushCells (sc.heap.push { cls := .type "dict", data := .dict #[] }) scope.names) := T.keep _ _ _ tc fun _ _ _ e => pushCells_keeps _ _ _ _ (Heap.get?_push_of_some _ e)
  generalize eY : compEnvC scope (cellsFrom (sc.heap.objs.size + 1) scope.names (cloFrom X.env.cells scope.names [])) sc.heap.objs.size X.env = env1 at Id bg bt bk bv ⊢
  have locY : env1.locals = sc.heap.objs.size := by rw [← eY]; rfl
  generalize eH : upd Hb D (.dT []) = Hc at Ic Id bg bt bk bv w0 none3 fc
  generalize es0 : ({ sc with heap := pushCells (sc.heap.push { cls := .type "dict", data := .dict #[] }) scope.names } : Shared) = sd at Id ⊢
  have td' : tn 0 sd.heap := by rw [← es0]; exact td
  generalize eZ : X.blk sc Hc scope env1 fp = Y at Id bg bt bk bv
  have YA : Y.A = X.A := by rw [← eZ]
  have own1 : ∀ {τ : L2.St} {G : Hp} {s' : Shared}, Inv Y [] τ G s' → (∀ b ∈ fp, G b = none) → ∀ b ∈ fp, FpOk Y [] G b := fun {τ G s'} J1 hn b hb => by
    subst eZ
    exact ⟨hn b hb, (J1.ok.exf b hb).1, J1.ok.exfs b hb, .inl hb, fun x c e => (J1.ok.exf b hb).2 x c e, fun p hp => by simp at hp⟩
  have main : codeAny (model X.prog X.w) X.A (.compLoop (.DictComp kx vx [⟨tg, iter, ifs, 0⟩] scope pos) 0 (.ref it) (.ref D) env1) (compPost (model X.prog X.w) X.A X.xe none (EP X pins σ Q) (.ref D) sc.heap.objs.size) sd := by
    refine compLoop_anyD (fun n s' => ∃ i G, Inv Y [] (wipe σ (own.map (·.2))) G s' ∧ tn i s'.heap ∧ (∀ b ∈ fp, G b = none) ∧ W i n G) ?_ m0 ⟨0, Hc, Id, td', none3, w0⟩
    rintro n s1 ⟨i, G, J1, t1, n1, w1⟩
    rcases turn i n G w1 with ⟨stp, qq⟩ | ⟨go, Nx, hNx, step⟩
    · -- the end: back in the def's own frame
      have z := T.done Y (by subst eZ; rfl) (by subst eZ; rfl) (by subst eZ; rfl) (by subst eZ; exact hc) i [] s1 _ G (fun _ _ => False) J1 (own1 J1 n1) t1 stp
      rw [YA] at z
      refine thnF z fun r s2 ⟨er, J2⟩ => ?_
      subst er; subst eZ
      have nC : G sc.heap.objs.size = none := by
        have z : G env1.locals = none := J2.free
        rw [locY] at z; exact z
      obtain ⟨m, hm, _⟩ := J2.loc
      have hm : s2.heap.Ns env1.locals m := hm
      rw [locY] at hm
      have back : Inv X pins σ G s2 := Ic.call' (ch := fp) J2.os J2.base J2.hok J2.bare fun b hb => let y := (fc b hb).1.2; ⟨y.2.2.1, y.1, y.2.2.2.1, y.2.2.2.2⟩
      obtain ⟨f0, f1, f2, f3, f4, f5⟩ := Ic.fpOk (Nat.le_refl _) nC
      exact ⟨m, hm, fun h3 sb3 => ⟨.ref D, G, back.turned (t' := s2.toks) (fun b o hb e => (sb3.2 b hb).trans e) f0 f1 f3 f4 f5, rfl, qq⟩⟩
    · have z := T.item Y (by subst eZ; rfl) (by subst eZ; rfl) (by subst eZ; rfl) (by subst eZ; exact hc) i [] s1 _ G (fun _ _ => False) J1 (own1 J1 n1) t1 go
      rw [YA] at z
      refine thnF z fun r s2 ⟨u, er, h2⟩ => ?_
      subst er
      refine thnF h2 fun _ s3 ⟨x, G3, J3, r3, y3, t3, n3⟩ => ?_
      have J3' := J3.pinned (own1 J3 n3) (T.obj _ _ t3)
      have zg := bg.run _ s3 _ G3 x u _ J3' r3 (step x G3 y3)
      subst eZ
      refine thnF zg fun _ s4 ⟨τ, G4, J4, hw4, q4⟩ => ?_
      refine thnF (bt.run _ s4 τ G4 _ J4 q4) fun b s5 ⟨G5, J5, q5⟩ => ?_
      have len : (wipe σ (own.map (·.2))).length = τ.length := by rw [← hw4, wipe_length]
      have close : ∀ {s' : Shared} {G' : Hp}, Inv (X.blk sc Hc scope env1 fp) ([] ++ pinsAt fp s3.heap) τ G' s' → Nx G' → ∃ m, m < n ∧ ∃ i G, Inv (X.blk sc Hc scope env1 fp) [] (wipe σ (own.map (·.2))) G s' ∧ tn i s'.heap ∧ (∀ b ∈ fp, G b = none) ∧ W i m G := fun {s' G'} J' nx => by
        obtain ⟨m', lt, w'⟩ := hNx G' nx
        have held : ∀ b ∈ fp, ∀ o, s3.heap.get? b = some o → s'.heap.get? b = some o ∧ G' b = none := fun b hb o e =>
          have y := J'.pin (b, o) (List.mem_append_right _ (List.mem_append_right _ (mem_pinsAt hb e)))
          ⟨y.1, y.2.1⟩
        refine ⟨m', lt, i + 1, G', (J'.unpinned (pins := [])).weak len (fun j v e => (wipe_some (hw4 ▸ e)).1), T.keep _ _ _ t3 fun b hb o e => (held b hb o e).1, fun b hb => ?_, w'⟩
        obtain ⟨o, e, _⟩ := T.obj _ _ t3 b hb
        exact (held b hb o e).2
      cases b with
      | false => exact close J5 (by simpa using q5)
      | true =>
        have q5' := q5
        simp only [if_true] at q5'
        refine thnF (bk.run _ s5 τ G5 _ J5 q5') fun kv s6 ⟨yk, G6, J6, r6, q6⟩ => ?_
        refine thnF (bv.run _ s6 τ G6 _ J6 q6) fun vv s7 ⟨yv, G7, J7, r7, es, k, q, ek, hq, hD, hz, nx⟩ => ?_
        subst ek
        exact putT (Y := X.blk sc Hc scope env1 fp) hu J7 hD hq hz r6 r7 fun s8 J8 => close J8 nx
  exact codeAny_compStart_dict main (T.self X.A 0 _ _ _ td' main)
end
end Fv

/-! sorted of a list of rows of whole numbers -/
namespace Fv
open PySem PySem.Spec PyProof.Rows L2 Evl StX
/-- the rows in Python's order -/
def sortL (ls : List (List Int)) : List (List Int) := ls.mergeSort (PySem.W.dataLe false dT)
theorem sortL_perm (ls : List (List Int)) : (sortL ls).Perm ls := List.mergeSort_perm _ _
theorem each_of_vals {β : Type} {f : β → V} : ∀ {bs : List β} {us : List Value}, Vals (bs.map f) us → PySem.W.EachIs (fun u b => RelV (f b) u) us bs
  | [], _, h => by cases h; exact .nil
  | b :: bs, _, h => by
    cases h with
    | cons r t => exact .cons r (each_of_vals t)
theorem vals_of_each {β : Type} {f : β → V} : ∀ {bs : List β} {us : List Value}, PySem.W.EachIs (fun u b => RelV (f b) u) us bs → Vals (bs.map f) us
  | [], _, h => by cases h; exact .nil
  | b :: bs, _, h => by
    cases h with
    | cons r t => exact .cons r (vals_of_each t)
theorem sorts_unit {prog : Program} {w : World} {A : Around} {s : Shared} {vs : List Value} (e : PySem.W.EachIs (fun v d => ∃ as, Reads s.heap v d as) vs [dT []]) (hu : A.units + 1 < cLine) : PySem.W.SortsAt prog w A s (PySem.W.dataKind s.heap [dT []]) vs := by
  have one : ∀ d, d ∈ [dT []] → d = dT [] := fun d h => List.mem_singleton.mp h
  refine ⟨fun v hv => ?_, general', fun E x y a b Q ha hb hq => ?_, fun h2 => ?_⟩
  · obtain ⟨d, hd, as, r⟩ := e.left v hv
    exact ⟨_, PySem.W.dataKind_some (fun d h d' h' => by rw [one d h, one d' h']; rfl) hd r⟩
  · obtain ⟨d, as, hd, ra, rfl⟩ := PySem.W.dataKind_inv ha
    obtain ⟨d', as', hd', rb, rfl⟩ := PySem.W.dataKind_inv hb
    have e1 := one d hd
    have e2 := one d' hd'
    subst e1 e2
    show wpAny _ _ (oneLt' false x y) Q E s
    exact PySem.W.oneLt_alike (f := false) (fun z => by cases z) ra rb rfl (fun z => by cases z) (by have : (dT []).depth = 1 := by decide
                                                                                                     rw [this]; omega) hq
  · have := e.length
    simp at this
    omega
/-- sorted(xs), xs a list of rows -/
def rSortLL (K : PySem.W.Frag) : List V → Hp → VK → Prop := fun xs H Q => ∃ (l : Addr) (ps : List (V × List Int)), xs = [.ref l] ∧ H l = some (.lst (ps.map (·.1))) ∧ (∀ p ∈ ps, Rp K H p.1 (dT p.2)) ∧
  ((∀ p ∈ ps, p.2 ≠ []) ∨ ps.map (·.2) = [[]]) ∧ ∀ (qs : List (V × List Int)) p, qs.Perm ps → qs.map (·.2) = sortL (ps.map (·.2)) → H p = none → Q (.ref p) (upd H p (.lst (qs.map (·.1))))
theorem c_sortLL {X : Cx} {K : PySem.W.Frag} (hu : X.A.units + 65 < cLine) (h : X.K = K := by rfl) : CallR X (.builtin "sorted") (rSortLL K) := by
  subst h
  intro pins s σ H xs us Q I r q
  obtain ⟨l, ps, rfl, hl, hp, hk, q⟩ := q
  rw [Vals.ref1 r]
  obtain ⟨its, rv, pl, hz⟩ := I.list (SqL.of hl)
  have ea : PySem.W.EachIs (fun u b => RelV b.1 u) its ps := each_of_vals rv
  have rd : ∀ u (b : V × List Int), b ∈ ps → RelV b.1 u → ∃ as, Reads s.heap u (dT b.2) as := fun u b hb ru => Dp.reads I (dT b.2) b.1 u (Rp.dp _ _ (hp b hb)) ru
  let hS : Heap := PySem.W.sortingHeap (PySem.W.copyHeap s.heap its) (s.heap.objs.size + 1) its
  have er0 : PySem.W.EachIs (fun u (b : V × List Int) => ∃ as, Reads hS u (dT b.2) as) its ps := (PySem.W.each_mem ea).mono fun u b ⟨ru, hb⟩ => by
    obtain ⟨as, x⟩ := rd u b hb ru
    exact ⟨as, PyProof.Rows.Reads.keeps (fun _ _ => PySem.W.sorting_copy_old) x⟩
  have er1 : PySem.W.EachIs (fun u d => ∃ as, Reads hS u d as) its (ps.map fun b => dT b.2) := PySem.W.each_map (R := fun u d => ∃ as, Reads hS u d as) (fun b : V × List Int => dT b.2) er0
  have al : PySem.W.AllAlike (ps.map fun b => dT b.2) := PySem.W.AllAlike.of fun b b' => PySem.W.alike_ints b.2 b'.2
  have dep : ∀ b : V × List Int, (dT b.2).depth ≤ 2 := fun b => depth_dT b.2
  have S : PySem.W.SortsAt X.prog X.w X.A.in1.in1 { s with heap := hS } (PySem.W.dataKind hS (ps.map fun b => dT b.2)) its := by
    rcases hk with hne | h1
    · refine PySem.W.SortsAt.data (s := { s with heap := hS }) er1 al (.inl fun d hd => ?_) fun d hd => ?_
      · obtain ⟨b, hb, rfl⟩ := List.mem_map.mp hd
        have := hne b hb
        cases e : b.2 with
        | nil => exact absurd e this
        | cons x r => exact ⟨.int x, r.map .int, by simp [dT]⟩
      · obtain ⟨b, hb, rfl⟩ := List.mem_map.mp hd
        have := dep b
        show X.A.units + 1 + 1 + _ < _
        omega
    · have e2 : (ps.map fun b => dT b.2) = [dT []] := by
        have := congrArg (List.map dT) h1
        simpa [List.map_map, Function.comp_def] using this
      rw [e2] at er1 ⊢
      exact sorts_unit (s := { s with heap := hS }) er1 (by show X.A.units + 1 + 1 + 1 < _; omega)
  have out := PySem.W.sortVals_data (h' := hS) (enc := fun b : V × List Int => dT b.2) false ea er0 al
  refine PySem.W.sorted_vals pl.isList S (by rw [← rv.length]; exact hz) ?_
  generalize PySem.W.sortVals (PySem.W.dataKind hS (ps.map fun b => dT b.2)) false its its = ou at out
  generalize eq : ps.mergeSort (PySem.W.dataLe false fun b : V × List Int => dT b.2) = qs at out
  have pq : qs.Perm ps := eq ▸ List.mergeSort_perm _ _
  have snd : qs.map (·.2) = sortL (ps.map (·.2)) := by
    rw [← eq]
    exact PySem.W.sort_maps (s := PySem.W.dataLe false dT) (fun x : V × List Int => x.2) fun _ _ _ _ => rfl
  have vo : Vals (qs.map (·.1)) ou := vals_of_each out
  obtain ⟨c, hc⟩ := PyProof.Rows.sortedAll_at s.heap its ou.toArray
  have fr : H (s.heap.objs.size + 1) = none := I.hok.fresh (Nat.le_succ _)
  have len : (qs.map (·.1)).length ≤ sizeLine := by
    rw [List.length_map, pq.length_eq, ← List.length_map (f := (·.1))]; exact hz
  exact ⟨.ref (s.heap.objs.size + 1), upd H (s.heap.objs.size + 1) (.lst (qs.map (·.1))), I.laid (t' := s.toks) (fun _ _ => PyProof.Rows.sortedAll_old) (Nat.le_succ _) ⟨len, ou, c, vo, hc⟩, rfl, q qs _ pq snd fr⟩
section
variable {K : PySem.W.Frag} {w : World} {pt : Option Pt} {σ : L2.St} {F F' H : Hp} {te : TE}
theorem rp_rows : ∀ {xs : List V} {ls : List (List Int)}, RpAll K F xs (ls.map dT) → (xs.zip ls).map (·.1) = xs ∧ (xs.zip ls).map (·.2) = ls ∧ ∀ p ∈ xs.zip ls, Rp K F p.1 (dT p.2)
  | _, [], h => by cases h; simp
  | _, l :: ls, h => by
    cases h with
    | cons h1 h2 =>
      obtain ⟨e1, e2, e3⟩ := rp_rows h2
      refine ⟨by simp [e1], by simp [e2], fun p hp => ?_⟩
      rw [List.zip_cons_cons] at hp
      rcases List.mem_cons.mp hp with rfl | m
      · exact h1
      · exact e3 p m
theorem rows_rp : ∀ {ps : List (V × List Int)}, (∀ p ∈ ps, Rp K F p.1 (dT p.2)) → RpAll K F (ps.map (·.1)) ((ps.map (·.2)).map dT)
  | [], _ => .nil
  | p :: ps, h => .cons (h p (by simp)) (rows_rp fun q m => h q (List.mem_cons_of_mem _ m))
theorem g_sortLL {ls : List (List Int)} (h : EvG K pt te σ F (Is (dLT ls))) (hk : (∀ l ∈ ls, l ≠ []) ∨ ls = [[]]) : EvG K pt (tCB (rSortLL K) (tCons te tNil)) σ F (Is (dLT (sortL ls))) := fun H1 i g Q q =>
  h H1 i g _ fun d v F2 H2 hd s hv => by
    subst hd
    obtain ⟨a, xs, rfl, hl, ha⟩ := rp_lst hv
    obtain ⟨e1, e2, e3⟩ := rp_rows ha
    refine ⟨a, xs.zip ls, rfl, by rw [e1]; exact s.inn _ _ hl, fun p hp => Rp.mono s.inn _ _ (e3 p hp), ?_, fun qs p pq es hp => ?_⟩
    · rcases hk with hk | hk
      · exact .inl fun p hp => hk _ (by rw [← e2]; exact List.mem_map_of_mem hp)
      · exact .inr (by rw [e2]; exact hk)
    · have s3 : Step pt F2 H2 (upd F2 p (.lst (qs.map (·.1)))) (upd H2 p (.lst (qs.map (·.1)))) := .laid s.inn s.good hp
      refine q _ _ _ _ rfl (s.trans s3) (.lst upd_same ?_)
      rw [e2] at es
      rw [← es]
      exact rows_rp fun r hr => Rp.mono s3.sub _ _ (e3 r (pq.mem_iff.mp hr))
end
end Fv

/-! dicts with rows as keys; objects -/
namespace Fv
open PySem PySem.Spec PyProof.Rows L2 Evl StX
abbrev key (l : List Int) : List Key := l.map Sum.inl
theorem key_kV (l : List Int) : (key l).map kV = l.map V.int := by simp [key, Function.comp_def, kV]
def letD (ls : List (List Int)) : List (List Key × V) := ls.foldl (fun es l => putK es (key l) (.bl true)) []
theorem letD_snoc (ls : List (List Int)) (l : List Int) : letD (ls ++ [l]) = putK (letD ls) (key l) (.bl true) := by simp [letD]
theorem key_inj {a b : List Int} (h : key a = key b) : a = b := by
  have := congrArg (List.map kV) h
  rw [key_kV, key_kV] at this
  exact (List.map_inj_right (fun x y h => by injection h)).mp this
theorem letD_len (ls : List (List Int)) : (letD ls).length ≤ ls.length := by
  unfold letD
  suffices ∀ (es : List (List Key × V)), (ls.foldl (fun es l => putK es (key l) (.bl true)) es).length ≤ es.length + ls.length by simpa using this []
  induction ls with
  | nil => intro es; simp
  | cons l ls ih =>
    intro es
    have h1 := ih (putK es (key l) (.bl true))
    have h2 := length_putK es (key l) (.bl true)
    simp only [List.foldl_cons, List.length_cons]
    omega
theorem valV_letD (ls : List (List Int)) (m : List Int) : valV (letD ls) (key m) = if m ∈ ls then some (.bl true) else none := by
  unfold letD
  suffices ∀ (es : List (List Key × V)), valV (ls.foldl (fun es l => putK es (key l) (.bl true)) es) (key m) = if m ∈ ls then some (.bl true) else valV es (key m) by simpa [valV_nil] using this []
  induction ls with
  | nil => intro es; simp
  | cons l ls ih =>
    intro es
    rw [List.foldl_cons, ih, valV_put]
    by_cases h : m ∈ ls
    · simp [h]
    · by_cases k : m = l
      · subst k; simp
      · have : key m ≠ key l := fun z => k (key_inj z)
        simp [h, k, this]
/-- a value that is no data: told by what stands in the part that stays -/
def EvX (pt : Option Pt) (te : TE) (σ : L2.St) (F : Hp) (Φ : V → Hp → Prop) : Prop :=
  ∀ H1, Ex F H1 → Good pt F H1 → ∀ Q : VK, (∀ v F2 H2, Φ v F2 → Step pt F H1 F2 H2 → Q v H2) → te σ H1 Q
section
variable {K : PySem.W.Frag} {w : World} {pt : Option Pt} {σ : L2.St} {F F' H : Hp} {te tv : TE} {t : TT} {wi : TI}
/-- {l: True for l in rows} -/
theorem x_dcT {j : Nat} {vs : List Nat} {ls : List (List Int)} (hw : WiG K pt wi σ F (· = ls.map dT)) (hz : ls.length ≤ 300) (hwp : ∀ x, wipe ((wipe σ vs).set j (some x)) vs = wipe σ vs)
    (hk : ∀ l ∈ ls, ∀ F', Ex F F' → ∀ v, Rp K F' v (dT l) → EvG K pt te ((wipe σ vs).set j (some v)) F' (Is (dT l))) (hv : ∀ F', Ex F F' → ∀ v, EvG K pt tv ((wipe σ vs).set j (some v)) F' (Is (.bool true))) :
    EvX pt (tDcT wi (gName j) tYes te tv vs) σ F (fun v F2 => ∃ D, v = .ref D ∧ F2 D = some (.dT (letD ls))) := fun H0 i0 g0 Q q =>
  hw H0 i0 g0 _ fun ds J F1 H1 hds s1 Y => fun D hD => by
    subst hds
    have gi := s1.inn
    have gg := s1.good
    have f1 : F1 D = none := by
      cases w : F1 D with
      | none => rfl
      | some o => rw [gi _ _ w] at hD; cases hD
    refine ⟨fun i m H => m = ls.length - i ∧ i ≤ ls.length ∧ ∃ F', Step pt F1 H1 F' H ∧ F' D = none ∧ H D = some (.dT (letD (ls.take i))), ⟨ls.length, by simp, Nat.zero_le _, F1, .litter gi gg hD, f1, upd_same⟩, ?_⟩
    rintro i m H ⟨rfl, hi, F', s, f, e⟩
    have eH : Ex F1 H := s.sub.trans s.inn
    by_cases hlt : i < ls.length
    · refine .inr ⟨Y.go i H eH (by rw [List.length_map]; exact hlt), fun H => ∃ F', Step pt F1 H1 F' H ∧ F' D = none ∧ H D = some (.dT (letD (ls.take (i + 1)))), fun H' p' => ⟨ls.length - (i + 1), by omega, rfl, hlt, p'⟩, fun v H' y => ?_⟩
      obtain ⟨rfl, d, hd, hx⟩ := Y.yld i H v H' eH (by rw [List.length_map]; exact hlt) y
      obtain ⟨l, hl, rfl⟩ := get_map hd
      have hm : l ∈ ls := List.mem_of_getElem? hl
      refine ⟨hwp v, yes_of (ite_t ?_)⟩
      refine hk l hm F' (s1.sub.trans s.sub) v (Rp.mono s.sub _ _ hx) H' s.inn s.good _ fun d2 y2 F2 H2 hd2 s2 hy2 => ?_
      have off : ∀ q, pt = some q → D ≠ q.p := fun q hq => (off_pot gg hD q hq).1
      have f2 := s2.new D f (by rw [e]; simp)
      have e2 := s2.keep D _ off e
      refine hv F2 ((s1.sub.trans s.sub).trans s2.sub) v H2 s2.inn s2.good _ fun d3 y3 F3 H3 hd3 s3 hy3 => ?_
      have f3 := s3.new D f2 (by rw [e2]; simp)
      have e3 := s3.keep D _ off e2
      subst hd2; subst hd3
      rw [rp_bool hy3]
      obtain ⟨q2, xs, rfl, hq2, ha⟩ := rp_tup hy2
      have e1 := rpAll_ints ha
      subst e1
      refine ⟨_, key l, q2, rfl, by rw [key_kV]; exact s3.inn _ _ (s3.sub _ _ hq2), e3, sz_lt ?_, F3, ((s.trans s2).trans s3).put gg hD f3, f3, ?_⟩
      · have := letD_len (ls.take i)
        rw [List.length_take] at this
        omega
      · rw [take_succA hl, letD_snoc]
        exact upd_same
    · have hE : i = ls.length := Nat.le_antisymm hi (Nat.le_of_not_lt hlt)
      subst hE
      rw [List.take_length] at e
      refine .inl ⟨by have := Y.stop H eH; rw [List.length_map] at this; exact this, q _ (upd F' D (.dT (letD ls))) H ⟨D, rfl, upd_same⟩ (s1.trans ⟨s.sub.trans (Ex.new f), fun b u hb => ?_, s.keep, fun z hz => ⟨?_, (s.good z hz).2⟩, fun b h1 h2 => ?_⟩)⟩
      · by_cases z : b = D
        · rw [z, upd_same] at hb; rw [z, e]; exact hb
        · rw [upd_ne z] at hb; exact s.inn b u hb
      · rw [upd_ne (off_pot gg hD z hz).1.symm]; exact (s.good z hz).1
      · have z : b ≠ D := loose_ne h2 hD
        rw [upd_ne z]; exact s.new b h1 h2
end
/-- H without a -/
def del (H : Hp) (a : Addr) : Hp := fun b => if b = a then none else H b
theorem del_same {H : Hp} {a : Addr} : del H a a = none := by unfold del; rw [if_pos rfl]
theorem del_ne {H : Hp} {a b : Addr} (h : b ≠ a) : del H a b = H b := by unfold del; rw [if_neg h]
theorem del_ex {H : Hp} {a : Addr} : Ex (del H a) H := fun b o h => by
  by_cases z : b = a
  · rw [z, del_same] at h; cases h
  · rw [del_ne z] at h; exact h
/-- what stands for itself within a body: the object at x is the body's own -/
theorem Step.own {F H : Hp} (e : Ex F H) (x dx : Addr) : Step none F (del (del H x) dx) F H := ⟨Ex.refl F, e, Keep.of fun a o h => del_ex _ _ (del_ex _ _ h), .nil, New.refl F _⟩
section
variable {K : PySem.W.Frag} {pt : Option Pt} {σ : L2.St} {F0 H0 F H : Hp} {te : TE} {R : PD} {d : PyData} {D : Ends} {tz : TS} {x dx C : Addr} {fs : List (Str × V)} {i : Nat} {f : Str}
theorem EvG.toX (h : EvG K pt te σ F (Is d)) : EvX pt te σ F (fun v F2 => Rp K F2 v d) := fun H1 i g Q q => h H1 i g Q fun d' v F2 H2 hd s hv => q v F2 H2 (by rw [← (show d' = d from hd)]; exact hv) s
/-- self.f = e -/
theorem t_fld1 {Φ : V → Hp → Prop} (s : Step none F0 H0 F H) (h0 : H0 x = none) (hx : F x = none) (hi : σ[i]? = some (some (.ref x))) (ho : H x = some (.ins C dx fs)) (cl : Cls K C) (na : NoAttr K C f) (hz : fs.length < 1000) (h : EvX none te σ F Φ)
    (q : ∀ v F2 H2, Φ v F2 → Step none F0 H0 F2 H2 → Ex F F2 → F2 x = none → H2 x = some (.ins C dx (putF f v fs)) → D.nx σ H2) : sFld K (tVar i) te f D σ H :=
  h H s.inn .nil _ fun v F2 H2 hv s2 => by
    have f2 : F2 x = none := s2.new x hx (by rw [ho]; simp)
    exact ⟨.ref x, hi, x, C, dx, fs, rfl, s2.keep.ex x _ ho, cl, na, hz, q v F2 _ hv ((s.trans s2).put .nil h0 f2) s2.sub f2 upd_same⟩
theorem t_fld {Φ : V → Hp → Prop} (s : Step none F0 H0 F H) (h0 : H0 x = none) (hx : F x = none) (hi : σ[i]? = some (some (.ref x))) (ho : H x = some (.ins C dx fs)) (cl : Cls K C) (na : NoAttr K C f) (hz : fs.length < 1000) (h : EvX none te σ F Φ)
    (q : ∀ v F2 H2, Φ v F2 → Step none F0 H0 F2 H2 → Ex F F2 → F2 x = none → H2 x = some (.ins C dx (putF f v fs)) → tz D σ H2) : tSeq (sFld K (tVar i) te f) tz D σ H :=
  t_fld1 (D := { D with nx := tz D }) s h0 hx hi ho cl na hz h q
end
end Fv
namespace Fv
open PySem L2 Evl
theorem Step.own1 {F H : Hp} (e : Ex F H) (x : Addr) : Step none F (del H x) F H := ⟨Ex.refl F, e, Keep.of del_ex, .nil, New.refl F _⟩
theorem Step.less {F B B' F2 H2 : Hp} (s : Step none F B F2 H2) (e : Ex B' B) : Step none F B' F2 H2 :=
  ⟨s.sub, s.inn, Keep.of fun a o h => s.keep.ex a o (e a o h), .nil, fun a h1 ⟨o, h2, n⟩ => s.new a h1 ⟨o, e a o h2, n⟩⟩
theorem Step.add {F B F2 H2 : Hp} {a : Addr} {o : HO} (s : Step none F B F2 H2) (f : F2 a = none) (h : H2 a = some o) (b : B a = none) : Step none F B (upd F2 a o) H2 :=
  ⟨s.sub.trans (Ex.new f), fun c u hc => by
    by_cases z : c = a
    · rw [z, upd_same] at hc; rw [z, h]; exact hc
    · rw [upd_ne z] at hc; exact s.inn c u hc, s.keep, .nil, fun c h1 h2 => by
    have z : c ≠ a := loose_ne h2 b
    rw [upd_ne z]; exact s.new c h1 h2⟩
end Fv

/-! ranges as rows, slices, fields, keys, static methods -/
namespace Fv
open PySem PySem.Spec PyProof.Rows L2 Evl StX
section
variable {K : PySem.W.Frag} {w : World} {pt : Option Pt} {σ : L2.St} {F F' H : Hp} {te ta tb tv : TE} {t : TT} {wi : TI} {d : PyData} {R : PD}
theorem rgV_rng (a b : Int) (F : Hp) : RpAll K F (rgV a b) (rng a (b - a).toNat) := by
  unfold rgV rng
  have : ∀ (l : List Nat), RpAll K F (l.map fun i => V.int (a + (i : Nat))) (l.map fun (k : Nat) => PyData.int (a + (k : Int))) := by
    intro l
    induction l with
    | nil => exact .nil
    | cons x r ih => exact .cons (.int _) ih
  exact this _
theorem g_tupR1 {n : Int} (h : EvG K pt te σ F (Is (.int n))) (h0 : 0 ≤ n) (h1 : n ≤ 16777216) : EvG K pt (tTupRg (tRg1 te)) σ F (Is (.tuple (rng 0 n.toNat))) := fun H1 i g Q q =>
  h H1 i g _ fun d v F2 H2 hd s hv => by
    subst hd
    refine ⟨n, rp_int hv, .of_le (Int.le_refl _) h1 (by omega) h0, fun p hp => ?_⟩
    have s3 : Step pt F2 H2 (upd F2 p (.tup (rgV 0 n))) (upd H2 p (.tup (rgV 0 n))) := .laid s.inn s.good hp
    exact q _ _ _ _ rfl (s.trans s3) (.tup upd_same (by simpa using rgV_rng (K := K) 0 n (upd F2 p (.tup (rgV 0 n)))))
theorem g_tupR2 {a b : Int} (ha : EvG K pt ta σ F (Is (.int a))) (hb : EvG K pt tb σ F (Is (.int b))) (h0 : 0 ≤ a) (h1 : b ≤ 16777216) (h2 : a ≤ 16777216) (h3 : 0 ≤ b) : EvG K pt (tTupRg (tRg2 ta tb)) σ F (Is (.tuple (rng a (b - a).toNat))) := fun H1 i g Q q =>
  ha H1 i g _ fun d v F2 H2 hd s hv => hb.mono s.sub H2 s.inn s.good _ fun e u F3 H3 he s2 hu => by
    subst hd; subst he
    refine ⟨a, b, rp_int hv, rp_int hu, .of_le h0 h1 h2 h3, fun p hp => ?_⟩
    have s3 : Step pt F3 H3 (upd F3 p (.tup (rgV a b))) (upd H3 p (.tup (rgV a b))) := .laid s2.inn s2.good hp
    exact q _ _ _ _ rfl ((s.trans s2).trans s3) (.tup upd_same (rgV_rng a b _))
/-- t[i:] -/
theorem g_slA {ds : List PyData} {i : Nat} (h : EvG K pt te σ F (Is (.tuple ds))) (hi : EvG K pt ta σ F (Is (.int (i : Int)))) : EvG K pt (tSl (rSlA K) te (tPart ta) tNoPart) σ F (Is (.tuple (ds.drop i))) := fun H1 i' g Q q =>
  h H1 i' g _ fun d v F2 H2 hd s hv => hi.mono s.sub H2 s.inn s.good _ fun e u F3 H3 he s2 hu => by
    subst hd; subst he
    obtain ⟨a, xs, rfl, hl, ha⟩ := rp_tup hv
    refine ⟨(i : Int), rp_int hu, a, xs, rfl, tx s2.inn (s2.sub _ _ hl), fun hw => ?_, fun hw p hp => ?_⟩
    · rw [HT.sIx_nat] at hw
      have : ds.drop i = ds := by
        have hl := ha.length
        by_cases z : xs.length = 0
        · have : ds = [] := List.eq_nil_of_length_eq_zero (by omega)
          rw [this]; simp
        · have : i = 0 := by have := hw.1; omega
          rw [this]; rfl
      refine q _ _ F3 H3 rfl (s.trans s2) ?_
      rw [this]
      exact .tup (s2.sub _ _ hl) (RpAll.mono s2.sub _ _ ha)
    · have e1 : cutV xs (some (i : Int)) none = xs.drop i := by
        unfold cutV
        rw [HT.sIx_nat, HT.sIx_none]
        by_cases z : i ≤ xs.length
        · rw [Nat.min_eq_left z]
          exact List.take_of_length_le (by rw [List.length_drop]; omega)
        · rw [Nat.min_eq_right (by omega), Nat.sub_self, List.take_zero, List.drop_eq_nil_of_le (by omega)]
      rw [e1]
      have s3 : Step pt F3 H3 (upd F3 p (.tup (xs.drop i))) (upd H3 p (.tup (xs.drop i))) := .laid s2.inn s2.good hp
      refine q _ _ _ _ rfl ((s.trans s2).trans s3) (.tup upd_same (RpAll.mono (s2.sub.trans s3.sub) _ _ ?_))
      have : ∀ (n : Nat) {xs : List V} {ds : List PyData}, RpAll K F2 xs ds → RpAll K F2 (xs.drop n) (ds.drop n) := by
        intro n
        induction n with
        | zero => intro _ _ h; exact h
        | succ n ih =>
          intro xs ds h
          cases h with
          | nil => exact .nil
          | cons h1 h2 => exact ih h2
      exact this i ha
/-- o.f, o's fields told in the part that stays -/
theorem x_fld {Φ : V → Hp → Prop} {i : Nat} {x C dx : Addr} {fs : List (Str × V)} {f : Str} {v : V} (hi : σ[i]? = some (some (.ref x))) (ho : F x = some (.ins C dx fs)) (cl : Cls K C) (na : NoAttr K C f) (hl : fs.lookup f = some v) (hv : ∀ F', Ex F F' → Φ v F') : EvX pt (tFld K (tVar i) f) σ F Φ := fun H1 i' g Q q =>
  ⟨.ref x, hi, x, C, dx, fs, v, rfl, i' _ _ ho, cl, na, hl, q v F H1 (hv F (Ex.refl F)) (.refl i' g)⟩
theorem g_fld {i : Nat} {x C dx : Addr} {fs : List (Str × V)} {f : Str} {v : V} (hi : σ[i]? = some (some (.ref x))) (ho : F x = some (.ins C dx fs)) (cl : Cls K C) (na : NoAttr K C f) (hl : fs.lookup f = some v) (hv : Rp K F v d) : EvG K pt (tFld K (tVar i) f) σ F (Is d) := fun H1 i' g Q q =>
  ⟨.ref x, hi, x, C, dx, fs, v, rfl, i' _ _ ho, cl, na, hl, q d v F H1 rfl (.refl i' g) hv⟩
theorem EvX.mono {Φ : V → Hp → Prop} (hm : ∀ v F1 F2, Ex F1 F2 → Φ v F1 → Φ v F2) (h : EvX pt te σ F Φ) (e : Ex F F') : EvX pt te σ F' Φ := fun H1 i g Q q =>
  h H1 (e.trans i) (g.less e) Q fun v F2 H2 hv s => q v _ H2 (hm v _ _ join_l hv) (s.wide e i g)
/-- a row among the keys of a dict -/
theorem g_din {m : List Int} {ls : List (List Int)} (hk : EvG K pt te σ F (Is (dT m))) (hd : ∀ F', Ex F F' → EvX pt ta σ F' (fun v F2 => ∃ D, v = .ref D ∧ F2 D = some (.dT (letD ls)))) : EvG K pt (tDIn te ta) σ F (Is (.bool (decide (m ∈ ls)))) := fun H1 i g Q q =>
  hk H1 i g _ fun d v F2 H2 hd' s hv => hd F2 s.sub H2 s.inn s.good _ fun u F3 H3 ⟨D, hu, hD⟩ s2 => by
    subst hd'
    obtain ⟨a, xs, rfl, hl, ha⟩ := rp_tup hv
    have e1 := rpAll_ints ha
    subst e1
    refine ⟨D, _, hu, DGet.t (k := key m) (s2.inn _ _ hD) (by rw [key_kV]; exact s2.inn _ _ (s2.sub _ _ hl)), q _ _ F3 H3 rfl (s.trans s2) ?_⟩
    rw [valV_letD]
    by_cases z : m ∈ ls
    · rw [if_pos z]; simp only [Option.isSome_some, z, decide_true]; exact .bl true
    · rw [if_neg z]; simp only [Option.isSome_none, z, decide_false]; exact .bl false
end
/-! ### C.m(..), m a static method -/
structure SMet (K : PySem.W.Frag) (C : Addr) (mc : Value) (m : Str) (p g : Addr) : Prop where
  at_ : PySem.W.findCls K (.ref C) mc m = some (.get (.builtin "staticmethod.__get__") (.ref p) .none (.ref C))
  rc : ∃ rest, PySem.W.recIn K p "staticmethod" = some (.ref g :: rest)
  kp : PySem.W.keepIn K (.ref g) = true
theorem pe_smeth {X : Cx} {CX : CXT} {k : Nat} {C p g : Addr} {fd : FuncData} {ps : List Str} {sp : Sp} {dvs : List V} {ds : List Value} {E : XK} {mc : Value} {x m : Str} {px apos pos : Pos} {e : Expr} {es : List Expr} {t : TA} {pl : Sem Bool}
    (hg : Gl X x) (hm : X.mg x = some (.ref C)) (r : ClX.CRead X.K C mc) (c : SMet X.K C mc m p g) (F : FnOk X.prog X.w X.K X.mg X.base CX k g fd ps sp) (hr : Room k X.A) (hb : Binds X.K fd ps ds) (hd : Vals dvs ds) (hx : Passes CX X E) (ha : PA X (e :: es) t)
    (hdb : (x == ("__debug__" : Str)) = false := by decide) (hst : starEach (e :: es) X.env = (false, eval e X.env) :: starEach es X.env := by rfl) (hpl : (backTo pos (starEach es X.env)).any (·.1) = false := by rfl)
    (ht : eval (.Call (.Attribute (.Name x px) m apos) (e :: es) [] pos) X.env = (do
      let ov ← eval (.Name x px) X.env
      standAt apos.atName
      let (f, first) ← holding [ov] (getMethod ov m pl)
      callWith pos f first (backTo pos (starEach (e :: es) X.env)) (backToKw pos (keywordEach [] X.env))) := by rfl) :
    PE X (.Call (.Attribute (.Name x px) m apos) (e :: es) [] pos) (tCall sp dvs E t) := by
  refine ⟨fun pins s σ H Q I q => ?_⟩
  obtain ⟨rest, rec_⟩ := c.rc
  refine PySem.W.methodCall_KW (pl := pl) (ld_glob I hg hm ?_ hdb) ht
  refine PySem.W.method_cls I.kIn r.ga (PySem.W.cls_bind I.kIn r.rd c.at_ (wpAny_call (PySem.W.sm_get (s := { s with toks := s.toks + 1 }) I.kIn rec_ (PySem.W.handed_on rfl ?_))))
  refine PySem.W.callWith_K (h₀ := X.base) I.ok.mod.kin c.kp (thn (ha.run pos pins _ σ H _ (I.tok (s.toks + 1)) q) fun us s1 ⟨vs, H1, I1, rr, q1⟩ => ⟨I1.kIn, ?_⟩) hst hpl
  exact run_fn F hr hb hd hx I1 rr q1
end Fv

/-! the pot: expressions that lay nothing -/
namespace Fv
open PySem PySem.Spec PyProof.Rows L2 Evl StX
def EvC (te : TE) (σ : L2.St) (H : Hp) (v : V) : Prop := ∀ Q : VK, Q v H → te σ H Q
def EtC (t : TT) (σ : L2.St) (H : Hp) (b : Bool) : Prop := ∀ Q : Bool → Hp → Prop, Q b H → t σ H Q
section
variable {K : PySem.W.Frag} {σ : L2.St} {H : Hp} {te ta tb : TE} {t u : TT} {x y z : V} {r : L2.R2}
theorem ec_var {i : Nat} (h : σ[i]? = some (some x)) : EvC (tVar i) σ H x := fun Q q => ⟨x, h, q⟩
theorem ec_int {i : Int} : EvC (tC (.int i)) σ H (.int i) := fun Q q => q
theorem ec_op (ha : EvC ta σ H x) (hb : EvC tb σ H y) (hr : ∀ Q : VK, Q z H → r x y H Q) : EvC (tOp r ta tb) σ H z := fun Q q => ha _ (hb _ (hr Q q))
theorem ec_I0 {g : Int → Int → V} {i j : Int} (ha : EvC ta σ H (.int i)) (hb : EvC tb σ H (.int j)) : EvC (tOp (rI0 g) ta tb) σ H (g i j) := ec_op ha hb fun Q q => ⟨i, j, rfl, rfl, q⟩
theorem ec_I {C : Int → Int → Prop} {g : Int → Int → V} {i j : Int} (ha : EvC ta σ H (.int i)) (hb : EvC tb σ H (.int j)) (hc : C i j) : EvC (tOp (rI C g) ta tb) σ H (g i j) := ec_op ha hb fun Q q => ⟨i, j, rfl, rfl, hc, q⟩
theorem ec_eq {i j : Int} (ha : EvC ta σ H (.int i)) (hb : EvC tb σ H (.int j)) : EvC (tOp rEq ta tb) σ H (.bl (decide (i = j))) := ec_op ha hb fun Q q => by
  have : decide (V.int i = V.int j) = decide (i = j) := by by_cases h : i = j <;> simp [h]
  exact ⟨rfl, by rw [this]; exact q⟩
theorem ec_ixL {p : Addr} {xs : List V} {i : Int} {v : V} (ha : EvC ta σ H (.ref p)) (hb : EvC tb σ H (.int i)) (hp : H p = some (.lst xs)) (hi : atI xs i = some v) : EvC (tOp (rIxL K) ta tb) σ H v := ec_op ha hb fun Q q => ⟨p, xs, i, v, rfl, rfl, SqL.of hp, hi, q⟩
theorem ec_int1 {i : Int} (h : EvC te σ H (.int i)) : EvC (tCB (fun xs H Q => (∃ i, xs = [.int i] ∧ Q (.int i) H) ∨ ∃ k, xs = [.bl k] ∧ Q (.int (if k then 1 else 0)) H) (tCons te tNil)) σ H (.int i) := fun Q q => h _ (.inl ⟨i, rfl, q⟩)
theorem ec_len {p : Addr} {xs : List V} (h : EvC te σ H (.ref p)) (hp : H p = some (.lst xs)) : EvC (tCB (rLen K) (tCons te tNil)) σ H (.int xs.length) := fun Q q => h _ ⟨p, xs, rfl, .inl (SqL.of hp), q⟩
theorem etc_of {b : Bool} (h : EvC te σ H (.bl b)) : EtC (tTest te) σ H b := fun Q q => h _ ⟨b, rfl, q⟩
theorem etc_and {a b : Bool} (h1 : EtC t σ H a) (h2 : a = true → EtC u σ H b) : EtC (tAnd t u) σ H (a && b) := fun Q q => h1 _ (by
  cases a with
  | true => exact h2 rfl Q q
  | false => exact q)
/-- the pot as it stands -/
structure Pot (H : Hp) (q : Pt) (a b c : Int) : Prop where
  at_ : H q.p = some (.lst [.int a, .int b, .int c, .ref q.l])
  ls : H q.l = some (.lst (q.ns.map V.int))
  ne : q.l ≠ q.p
  few : q.ns.length ≤ 60
  a0 : 0 ≤ a
  b0 : 0 ≤ b
  b1 : b < 2147483647
  c0 : 0 ≤ c
  c1 : c ≤ q.ns.length
theorem Pot.of {q : Pt} (h : PotAt H q) : ∃ a b c, Pot H q a b c := by
  obtain ⟨a, b, c, h1, h2, h3, h4, h5, h6⟩ := h.ex
  exact ⟨a, b, c, h1, h.ls, h.ne, h.few, h2, h3, h4, h5, h6⟩
theorem Pot.pot {q : Pt} {a b c : Int} (h : Pot H q a b c) : PotAt H q := ⟨h.ne, h.ls, h.few, a, b, c, h.at_, h.a0, h.b0, h.b1, h.c0, h.c1⟩
theorem Pot.put {q : Pt} {a b c a' b' c' : Int} (h : Pot H q a b c) (h1 : 0 ≤ a') (h2 : 0 ≤ b') (h3 : b' < 2147483647) (h4 : 0 ≤ c') (h5 : c' ≤ q.ns.length) : Pot (upd H q.p (.lst [.int a', .int b', .int c', .ref q.l])) q a' b' c' :=
  ⟨upd_same, by rw [upd_ne h.ne]; exact h.ls, h.ne, h.few, h1, h2, h3, h4, h5⟩
theorem Step.pot {F : Hp} {q : Pt} {o : HO} (e : Ex F H) (g : Good (some q) F H) (h : PotAt (upd H q.p o) q) : Step (some q) F H F (upd H q.p o) := by
  have fp := (g q rfl).1
  refine ⟨Ex.refl F, fun a u h => ?_, fun a u hq h => ?_, fun q' hq => ?_, New.refl F H⟩
  · rw [upd_ne (fun z => by rw [z, fp] at h; cases h)]; exact e _ _ h
  · rw [upd_ne (hq q rfl)]; exact h
  · obtain rfl := Option.some.inj hq
    exact ⟨fp, h⟩
/-- pot[i] = e -/
theorem ts_put {q : Pt} {D : Ends} {tz : TS} {i : Int} {j : Nat} {v : V} {xs : List V} (h : EvC te σ H v) (h0 : σ[0]? = some (some (.ref q.p))) (hp : H q.p = some (.lst xs)) (hj : ixN xs.length i = some j) (k : tz D σ (upd H q.p (.lst (xs.set j v)))) :
    tSeq (tAsg te (gSub (tVar 0) (tC (.int i)) rSetL)) tz D σ H := h _ ⟨_, h0, ⟨q.p, xs, i, j, rfl, rfl, hp, hj, k⟩⟩
theorem ts_put1 {q : Pt} {D : Ends} {i : Int} {j : Nat} {v : V} {xs : List V} (h : EvC te σ H v) (h0 : σ[0]? = some (some (.ref q.p))) (hp : H q.p = some (.lst xs)) (hj : ixN xs.length i = some j) (k : D.nx σ (upd H q.p (.lst (xs.set j v)))) :
    tAsg te (gSub (tVar 0) (tC (.int i)) rSetL) D σ H := h _ ⟨_, h0, ⟨q.p, xs, i, j, rfl, rfl, hp, hj, k⟩⟩
theorem ts_asg {D : Ends} {tz : TS} {i : Nat} {v : V} (h : EvC te σ H v) (k : tz D (σ.set i (some v)) H) : tSeq (tAsg te (gName i)) tz D σ H := h _ k
theorem ts_ret {D : Ends} {v : V} (h : EvC te σ H v) (k : D.rt v H) : tRet te D σ H := h _ k
theorem ts_if {D : Ends} {tu tw tz : TS} {b : Bool} (h : EtC t σ H b) (k1 : b = true → tu { D with nx := tz D } σ H) (k2 : b = false → tw { D with nx := tz D } σ H) : tSeq (tIfS t tu tw) tz D σ H := h _ (by
  cases b with
  | true => exact k1 rfl
  | false => exact k2 rfl)
theorem ts_if1 {D : Ends} {tu tw : TS} {b : Bool} (h : EtC t σ H b) (k1 : b = true → tu D σ H) (k2 : b = false → tw D σ H) : tIfS t tu tw D σ H := h _ (by
  cases b with
  | true => exact k1 rfl
  | false => exact k2 rfl)
end
end Fv
namespace Fv
open PySem PySem.Spec PyProof.Rows L2 Evl StX
section
variable {σ : L2.St} {H : Hp} {t : TT}
theorem ts_when {D : Ends} {tu tz : TS} {b : Bool} (J : L2.St → Hp → Prop) (h : EtC t σ H b) (k1 : b = true → ∀ N : L2.St → Hp → Prop, (∀ σ' H', J σ' H' → N σ' H') → tu { D with nx := N } σ H) (k2 : b = false → J σ H) (k : ∀ σ' H', J σ' H' → tz D σ' H') :
    tSeq (tIfS t tu tNext) tz D σ H := ts_if h (fun e => k1 e _ fun σ' H' j => k σ' H' j) fun e => k σ H (k2 e)
end
theorem fm0 (i : Int) {j : Int} (h : 0 < j) : 0 ≤ i.fmod j ∧ i.fmod j < j := ⟨Int.fmod_nonneg_of_pos i h, Int.fmod_lt_of_pos i h⟩
theorem fd0 {i j : Int} (h : 0 ≤ i) (hj : 0 ≤ j) : 0 ≤ i.fdiv j := Int.fdiv_nonneg h hj
end Fv

namespace Fv
open PySem PySem.Spec PyProof.Rows L2 Evl StX
/-- a promise of a def that takes the pot and a number -/
def spP (K : PySem.W.Frag) (P : Int → Prop) (R : Int → PD) : Sp := fun vs H Q _ => ∃ (q : Pt) (m : Int) (F : Hp), vs = [.ref q.p, .int m] ∧ P m ∧ Ex F H ∧ Good (some q) F H ∧ ∀ d v F2 H2, R m d → Step (some q) F H F2 H2 → Rp K F2 v d → Q v H2
theorem spP.len {K : PySem.W.Frag} {P : Int → Prop} {R : Int → PD} : ∀ vs H Q E, spP K P R vs H Q E → vs.length = 2 := fun vs H Q E ⟨_, _, _, h, _⟩ => by rw [h]; rfl
section
variable {K : PySem.W.Frag} {pt : Option Pt} {σ : L2.St} {F F' H : Hp} {te ta tb : TE} {ts tr : TA} {t u : TT} {R R1 S2 R3 : PD} {d e z : PyData} {r : L2.R2}
theorem g_callP {P : Int → Prop} {R : Int → PD} {E : XK} {q : Pt} {i : Nat} {m : Int} (h0 : σ[i]? = some (some (.ref q.p))) (h : EvG K (some q) te σ F (Is (.int m))) (hp : P m) : EvG K (some q) (tCall (spP K P R) [] E (tCons (tVar i) (tCons te tNil))) σ F (R m) := fun H1 e g Q k =>
  ⟨_, h0, h H1 e g _ fun d v F2 H2 hd s hv => by
    subst hd
    obtain rfl := rp_int hv
    exact ⟨q, m, F2, rfl, hp, s.inn, s.good, fun d v F3 H3 hr s3 hv3 => k d v F3 H3 hr (s.trans s3) hv3⟩⟩
theorem rv_mul {i j : Int} (h : CMul i j) : RvG K (rI CMul fun i j => .int (i * j)) (.int i) (.int j) (Is (.int (i * j))) := rv_I (f := fun i j => .int (i * j)) h fun F => .int _
theorem rv_shl {j : Nat} (h : j ≤ 60) : RvG K (rI CPow fun i j => .int (i * 2 ^ j.toNat)) (.int 1) (.int (j : Int)) (Is (.int (2 ^ j))) := fun F H x y i hx hy Q q => rv_I (f := fun i j => .int (i * 2 ^ j.toNat)) (C := CPow) (show CPow 1 (j : Int) from ⟨by omega, by omega, by decide⟩) (fun F => .int _) F H x y i hx hy Q fun z v F2 H2 hz s hv => q z v F2 H2 (by rw [show z = _ from hz]; simp) s hv
theorem rv_shr {i j : Int} (h : 0 ≤ j) : RvG K (rI (fun _ j => 0 ≤ j) fun i j => .int (i / 2 ^ j.toNat)) (.int i) (.int j) (Is (.int (i / 2 ^ j.toNat))) := rv_I (f := fun i j => .int (i / 2 ^ j.toNat)) h fun F => .int _
theorem rv_and {i j : Int} : RvG K (rI0 fun i j => .int (Builtin.bitAnd i j)) (.int i) (.int j) (Is (.int (Builtin.bitAnd i j))) := rv_I0 (f := fun i j => .int (Builtin.bitAnd i j)) fun F => .int _
theorem rc_int1 {i : Int} : RcG K (fun xs H Q => (∃ i, xs = [.int i] ∧ Q (.int i) H) ∨ ∃ k, xs = [.bl k] ∧ Q (.int (if k then 1 else 0)) H) [.int i] (Is (.int i)) := rc_val fun F H vs e h => by
  have hv : vs = [.int i] := rpAll_ints (ns := [i]) h
  exact ⟨.int i, fun Q q => .inl ⟨i, hv, q⟩, .int i⟩
theorem ex_seq {a : Addr} {xs : List V} (e : Ex F H) (h : SqL K F a xs) : SqL K H a xs := ex_l e h
/-- script[0:60] -/
theorem g_slS {a : Addr} {ns : List Int} {i : Nat} (h0 : σ[i]? = some (some (.ref a))) (h : SqL K F a (ns.map V.int)) : EvG K pt (tSl (rSlL K) (tVar i) (tPart (tC (.int 0))) (tPart (tC (.int 60)))) σ F (Is (.list ((ns.take 60).map .int))) := fun H1 e g Q q => by
  refine ⟨_, h0, 0, rfl, 60, rfl, a, ns.map V.int, rfl, ex_l e h, fun p hp => ?_⟩
  have e1 : cutV (ns.map V.int) (some 0) (some 60) = (ns.take 60).map V.int := by
    unfold cutV
    rw [show HT.sIx (ns.map V.int).length 0 (some 0) = min 0 (ns.map V.int).length from HT.sIx_nat _ _ 0, show HT.sIx (ns.map V.int).length (ns.map V.int).length (some 60) = min 60 (ns.map V.int).length from HT.sIx_nat _ _ 60, Nat.zero_min, List.drop_zero, Nat.sub_zero, List.map_take]
    by_cases z : 60 ≤ (ns.map V.int).length
    · rw [Nat.min_eq_left z]
    · rw [Nat.min_eq_right (by omega), List.take_of_length_le (Nat.le_refl _), List.take_of_length_le (by omega)]
  rw [e1]
  have s3 : Step pt F H1 (upd F p (.lst ((ns.take 60).map V.int))) (upd H1 p (.lst ((ns.take 60).map V.int))) := .laid e g hp
  exact q _ _ _ _ rfl s3 (.lst upd_same (rpAll_of_ints _))
/-- o.m(..), o.f of an instance, by a promise about what stands -/
theorem g_methD {C x dx : Addr} {fs : List (Str × V)} {m : Str} {sp : Sp} {E : XK} {i : Nat} {ds : List PyData} {z : PyData} (h0 : σ[i]? = some (some (.ref x))) (ho : F x = some (.ins C dx fs)) (hl : fs.lookup m = none) (h : EvsG K pt ts σ F (· = ds))
    (hs : ∀ F1 H1 vs, Ex F F1 → Ex F1 H1 → RpAll K F1 vs ds → ∀ Q : VK, (∀ v F2 H2, Step none F1 H1 F2 H2 → Rp K F2 v z → Q v H2) → sp (.ref x :: vs) H1 Q E) : EvG K pt (tMeth C m sp [] E (tVar i) ts) σ F (Is z) := fun H1 e g Q q =>
  ⟨_, h0, x, dx, fs, rfl, e _ _ ho, hl, h H1 e g _ fun ds' vs F2 H2 hd s hv => by
    subst hd
    rw [List.append_nil]
    exact hs F2 H2 vs s.sub s.inn hv Q fun v F3 H3 s3 hv3 => q _ v F3 H3 rfl (s.trans (s3.lift s.good)) hv3⟩
theorem g_propD {C x dx : Addr} {fs : List (Str × V)} {sp : Sp} {E : XK} {i : Nat} {z : PyData} (h0 : σ[i]? = some (some (.ref x))) (ho : F x = some (.ins C dx fs))
    (hs : ∀ F1 H1, Ex F F1 → Ex F1 H1 → ∀ Q : VK, (∀ v F2 H2, Step none F1 H1 F2 H2 → Rp K F2 v z → Q v H2) → sp [.ref x] H1 Q E) : EvG K pt (tProp C sp [] E (tVar i)) σ F (Is z) := fun H1 e g Q q =>
  ⟨_, h0, x, dx, fs, rfl, e _ _ ho, hs F H1 (Ex.refl F) e Q fun v F3 H3 s3 hv3 => q _ v F3 H3 rfl (s3.lift g) hv3⟩
end
section
variable {K : PySem.W.Frag} {pt : Option Pt} {σ : L2.St} {F0 H0 F H : Hp} {te : TE} {D : Ends} {tz : TS} {Φ : V → Hp → Prop}
theorem t_asgX {i : Nat} (s : Step pt F0 H0 F H) (h : EvX pt te σ F Φ) (q : ∀ v F2 H2, Φ v F2 → Step pt F0 H0 F2 H2 → Ex F F2 → tz D (σ.set i (some v)) H2) : tSeq (tAsg te (gName i)) tz D σ H :=
  h H s.inn s.good _ fun v F2 H2 hv s2 => q v F2 H2 hv (s.trans s2) s2.sub
theorem t_asgX1 {i : Nat} (s : Step pt F0 H0 F H) (h : EvX pt te σ F Φ) (q : ∀ v F2 H2, Φ v F2 → Step pt F0 H0 F2 H2 → Ex F F2 → D.nx (σ.set i (some v)) H2) : tAsg te (gName i) D σ H :=
  h H s.inn s.good _ fun v F2 H2 hv s2 => q v F2 H2 hv (s.trans s2) s2.sub
theorem t_retLst {ts : TA} {ds : List PyData} (s : Step pt F0 H0 F H) (h : EvsG K pt ts σ F (· = ds)) (k : ∀ vs F2 H2, Step pt F0 H0 F2 H2 → RpAll K F2 vs ds → vs.length ≤ sizeLine ∧ ∀ p, H2 p = none → D.rt (.ref p) (upd H2 p (.lst vs))) : tRet (tLst ts) D σ H :=
  h H s.inn s.good _ fun ds' vs F2 H2 hd s2 hv => by
    subst hd
    exact k vs F2 H2 (s.trans s2) hv
theorem t_retX (s : Step pt F0 H0 F H) (h : EvX pt te σ F Φ) (q : ∀ v F2 H2, Φ v F2 → Step pt F0 H0 F2 H2 → D.rt v H2) : tRet te D σ H :=
  h H s.inn s.good _ fun v F2 H2 hv s2 => q v F2 H2 hv (s.trans s2)
end
end Fv

namespace Fv
open PySem PySem.Spec PyProof.Rows L2 Evl StX
section
variable {K : PySem.W.Frag} {pt : Option Pt} {σ : L2.St} {F F' F0 H0 H : Hp} {te ta tb : TE} {ts tr : TA} {t u : TT} {R R1 S2 R3 : PD} {d e z : PyData} {r : L2.R2} {D : Ends} {tu tw tz : TS}
theorem rv_eqB {a b : Bool} : RvG K rEq (.bool a) (.bool b) (Is (.bool (decide (a = b)))) := rv_val fun F H x y _ hx hy => by
  rw [rp_bool hx, rp_bool hy]
  refine ⟨.bl (decide (V.bl a = V.bl b)), fun Q q => ⟨rfl, q⟩, ?_⟩
  have : decide (V.bl a = V.bl b) = decide (a = b) := by cases a <;> cases b <;> rfl
  rw [this]; exact .bl _
theorem rv_neB {a b : Bool} : RvG K rNe (.bool a) (.bool b) (Is (.bool (!decide (a = b)))) := rv_val fun F H x y _ hx hy => by
  rw [rp_bool hx, rp_bool hy]
  refine ⟨.bl (!decide (V.bl a = V.bl b)), fun Q q => ⟨rfl, q⟩, ?_⟩
  have : decide (V.bl a = V.bl b) = decide (a = b) := by cases a <;> cases b <;> rfl
  rw [this]; exact .bl _
theorem g_notTL {ds : List PyData} (h : EvG K pt te σ F (Is (.list ds))) : EvG K pt (tNotT K te) σ F (Is (.bool ds.isEmpty)) := fun H1 i g Q q => h H1 i g _ fun d v F2 H2 hd s hv => by
  subst hd
  obtain ⟨a, xs, rfl, hl, ha⟩ := rp_lst hv
  have hn := ha.length
  refine ⟨!xs.isEmpty, .inl ⟨xs, SqL.of (s.inn _ _ hl), rfl⟩, ?_⟩
  have e : (!(!xs.isEmpty)) = ds.isEmpty := by
    cases xs with
    | nil =>
      cases ds with
      | nil => rfl
      | cons _ _ => simp at hn
    | cons _ _ =>
      cases ds with
      | nil => simp at hn
      | cons _ _ => rfl
  rw [e]
  exact q _ _ F2 H2 rfl s (.bl _)
/-- two ways that join -/
theorem t_ifJ {b : Bool} (J : L2.St → Hp → Prop) (s : Step pt F0 H0 F H) (h : EtG pt t σ F (· = b))
    (h1 : b = true → ∀ F2 H2, Step pt F0 H0 F2 H2 → Ex F F2 → ∀ N : L2.St → Hp → Prop, (∀ σ' F' H', J σ' F' → Step pt F0 H0 F' H' → Ex F F' → N σ' H') → tu { D with nx := N } σ H2)
    (h2 : b = false → ∀ F2 H2, Step pt F0 H0 F2 H2 → Ex F F2 → ∀ N : L2.St → Hp → Prop, (∀ σ' F' H', J σ' F' → Step pt F0 H0 F' H' → Ex F F' → N σ' H') → tw { D with nx := N } σ H2)
    (k : ∀ σ' F' H', J σ' F' → Step pt F0 H0 F' H' → Ex F F' → tz D σ' H') : tSeq (tIfS t tu tw) tz D σ H :=
  t_if s h (fun e F2 H2 s2 e2 => h1 e F2 H2 s2 e2 _ k) (fun e F2 H2 s2 e2 => h2 e F2 H2 s2 e2 _ k)
end
end Fv

/-! rows with gaps: None or a whole number at each place -/
namespace Fv
open PySem PySem.Spec PyProof.Rows L2 Evl StX
def optD : Option Int → PyData
  | none => .none
  | some i => .int i
def optV : Option Int → V
  | none => .non
  | some i => .int i
abbrev dO (v : List (Option Int)) : PyData := .tuple (v.map optD)
abbrev dLO (vs : List (List (Option Int))) : PyData := .list (vs.map dO)
abbrev natD (k : Nat) : PyData := .int (k : Int)
abbrev dN (ks : List Nat) : PyData := .tuple (ks.map natD)
theorem rng_nat (n : Nat) : rng 0 n = (List.range n).map natD := by
  unfold rng
  refine List.map_congr_left fun k _ => ?_
  simp
section
variable {K : PySem.W.Frag} {pt : Option Pt} {σ : L2.St} {F F' H : Hp} {te ta tb : TE} {ts tr : TA} {t u : TT} {R R1 : PD} {d e z : PyData}
theorem rp_opt {v : V} {o : Option Int} (h : Rp K F v (optD o)) : v = optV o := by
  cases o with
  | none => exact rp_none h
  | some i => exact rp_int h
theorem scal_opt (a b : Option Int) : scal (optV a) (optV b) = true := by
  cases a <;> cases b <;> rfl
theorem dec_opt (a b : Option Int) : decide (optV a = optV b) = decide (a = b) := by
  cases a <;> cases b <;> simp [optV]
theorem rv_eqO {a b : Option Int} : RvG K rEq (optD a) (optD b) (Is (.bool (decide (a = b)))) := rv_val fun F H x y _ hx hy => by
  rw [rp_opt hx, rp_opt hy]
  exact ⟨_, fun Q q => ⟨scal_opt a b, q⟩, by rw [dec_opt]; exact .bl _⟩
theorem rv_neO {a b : Option Int} : RvG K rNe (optD a) (optD b) (Is (.bool (!decide (a = b)))) := rv_val fun F H x y _ hx hy => by
  rw [rp_opt hx, rp_opt hy]
  exact ⟨_, fun Q q => ⟨scal_opt a b, q⟩, by rw [dec_opt]; exact .bl _⟩
theorem isNone_opt (a : Option Int) : isNone (optD a) = a.isNone := by cases a <;> rfl
theorem rv_isO {a : Option Int} : RvG K (fun x y H Q => y = .non ∧ Q (.bl (decide (x = .non))) H) (optD a) .none (Is (.bool a.isNone)) := isNone_opt a ▸ rv_isN
theorem rv_notO {a : Option Int} : RvG K (fun x y H Q => y = .non ∧ Q (.bl (!decide (x = .non))) H) (optD a) .none (Is (.bool (!a.isNone))) := isNone_opt a ▸ rv_notN
theorem rv_isB {a b : Bool} : RvG K rIsB (.bool a) (.bool b) (Is (.bool (decide (a = b)))) := rv_val fun F H x y _ hx hy => ⟨_, fun Q q => ⟨a, b, rp_bool hx, rp_bool hy, q⟩, .bl _⟩
/-- v[k] of a row with gaps -/
theorem rv_ixO {v : List (Option Int)} {k : Nat} (h : k < v.length) : RvG K (rIxT K) (dO v) (natD k) (Is (optD (v.getD k none))) := rv_ixT (atI_nat (by rw [List.getElem?_map, List.getD_eq_getElem?_getD, List.getElem?_eq_getElem h]; rfl))
theorem g_ixO {v : List (Option Int)} {k : Nat} (ha : EvG K pt ta σ F (Is (dO v))) (hb : EvG K pt tb σ F (Is (natD k))) (h : k < v.length) : EvG K pt (tOp (rIxT K) ta tb) σ F (Is (optD (v.getD k none))) := g_opI ha hb (rv_ixO h)
/-- range(len(x)) -/
theorem w_len {ds : List PyData} {n : Nat} (h : EvG K pt te σ F (Is (.tuple ds))) (hn : ds.length = n) (hz : n ≤ 100000) : WiG K pt (iRng1 (tCons (tCB (rLen K) (tCons te tNil)) tNil)) σ F (· = (List.range n).map natD) := by
  have := w_rng1I (K := K) (pt := pt) (σ := σ) (F := F) (n := (n : Int)) (gs_one ((g_cbI (gs_one h) rc_lenT).is (by rw [hn]))) (by omega) (by omega)
  rw [show (n : Int).toNat = n by omega, rng_nat] at this
  exact this
theorem w_range {n : Nat} (h : EvG K pt te σ F (Is (.int (n : Int)))) (hz : n ≤ 100000) : WiG K pt (iRng1 (tCons te tNil)) σ F (· = (List.range n).map natD) := by
  have := w_rng1I (K := K) (pt := pt) (σ := σ) (F := F) (n := (n : Int)) (gs_one h) (by omega) (by omega)
  rw [show (n : Int).toNat = n by omega, rng_nat] at this
  exact this
/-- tuple([k for k in range(len(x)) if ..]) -/
theorem rv_inN {k : Nat} {ns : List Nat} : RvG K (rIn K false) (natD k) (dN ns) (Is (.bool (decide (k ∈ ns)))) := by
  have h := rv_inT (K := K) (i := (k : Int)) (ns := ns.map fun k : Nat => (k : Int))
  have e : (decide ((k : Int) ∈ ns.map fun k : Nat => (k : Int))) = decide (k ∈ ns) := by
    refine decide_eq_decide.mpr ⟨fun h => ?_, fun h => List.mem_map.mpr ⟨k, h, rfl⟩⟩
    obtain ⟨j, hj, ej⟩ := List.mem_map.mp h
    have : j = k := by omega
    rw [← this]; exact hj
  rw [e] at h
  have e2 : dT (ns.map fun k : Nat => (k : Int)) = dN ns := by simp [dT, dN, Function.comp_def]
  rw [e2] at h
  exact h
end
end Fv

namespace Fv
open PySem PySem.Spec PyProof.Rows L2 Evl StX
/-- a promise of a def that takes the pot and data -/
def spQ {ι : Type} (K : PySem.W.Frag) (A : ι → List PyData) (P : ι → Prop) (R : ι → PD) : Sp := fun vs H Q _ => ∃ (q : Pt) (i : ι) (F : Hp) (as : List V), vs = .ref q.p :: as ∧ P i ∧ Ex F H ∧ Good (some q) F H ∧ RpAll K F as (A i) ∧ ∀ d v F2 H2, R i d → Step (some q) F H F2 H2 → Rp K F2 v d → Q v H2
theorem spQ.len {ι : Type} {K : PySem.W.Frag} {A : ι → List PyData} {P : ι → Prop} {R : ι → PD} {n : Nat} (h : ∀ i, (A i).length = n) : ∀ vs H Q E, spQ K A P R vs H Q E → vs.length = n + 1 := fun vs H Q E ⟨_, i, _, _, e, _, _, _, r, _⟩ => by rw [e, List.length_cons, r.length, h]
section
variable {K : PySem.W.Frag} {pt : Option Pt} {σ : L2.St} {F F' F0 H0 H : Hp} {te ta tb : TE} {ts tr : TA} {t u : TT} {R R1 : PD} {d e z : PyData} {D : Ends} {tz tu : TS} {wi : TI}
theorem g_callQ {ι : Type} {A : ι → List PyData} {P : ι → Prop} {R : ι → PD} {E : XK} {q : Pt} {i : Nat} {ds : List PyData} (x : ι) (h0 : σ[i]? = some (some (.ref q.p))) (h : EvsG K (some q) ts σ F (· = ds)) (ha : ds = A x) (hp : P x) : EvG K (some q) (tCall (spQ K A P R) [] E (tCons (tVar i) ts)) σ F (R x) := fun H1 e g Q k =>
  ⟨_, h0, h H1 e g _ fun ds' vs F2 H2 hd s hv => by
    rw [hd, ha] at hv
    exact ⟨q, x, F2, vs, by rw [List.append_nil], hp, s.inn, s.good, hv, fun d v F3 H3 hr s3 hv3 => k d v F3 H3 hr (s.trans s3) hv3⟩⟩
/-- a loop; I tells slots and heaps behind i turns -/
theorem t_forH {j : Nat} {ds : List PyData} (i0 : Ex F H) (g : Good pt F H) (hw : WiG K pt wi σ F (· = ds)) (I : Nat → L2.St → Hp → Hp → Prop) (h0 : ∀ F1 H1, Step pt F H F1 H1 → I 0 σ F1 H1) (hI : ∀ i σ' F' H', I i σ' F' H' → Ex F' H')
    (hs : ∀ i d, ds[i]? = some d → ∀ σ' F' H' x, I i σ' F' H' → Ex F F' → Rp K F' x d →
      ∀ N : L2.St → Hp → Prop, (∀ σ2 F2 H2, I (i + 1) σ2 F2 H2 → Ex F' F2 → N σ2 H2) → tu { D with nx := N, ct := N, bk := tz D } (σ'.set j (some x)) H')
    (hd : ∀ σ' F' H', I ds.length σ' F' H' → Ex F F' → tz D σ' H') : tSeq (tFor wi (gName j) tu) tz D σ H :=
  hw H i0 g _ fun ds' J F1 H1 e s1 Y => by
    subst e
    refine ⟨fun i m σ' H' => m = ds'.length - i ∧ i ≤ ds'.length ∧ ∃ F', I i σ' F' H' ∧ Ex F1 F', ⟨ds'.length, by simp, Nat.zero_le _, F1, h0 F1 H1 s1, Ex.refl _⟩, ?_⟩
    rintro i m σ' H' ⟨rfl, hil, F', p, e'⟩
    have eH : Ex F1 H' := e'.trans (hI i σ' F' H' p)
    by_cases hlt : i < ds'.length
    · refine .inr ⟨Y.go i H' eH hlt, fun σ2 H2 => ∃ F2, I (i + 1) σ2 F2 H2 ∧ Ex F1 F2, fun σ2 H2 ⟨F2, a, b⟩ => ⟨ds'.length - (i + 1), by omega, rfl, hlt, F2, a, b⟩, fun x H2 y => ?_⟩
      obtain ⟨rfl, d, hdd, hx⟩ := Y.yld i H' x H2 eH hlt y
      exact hs i d hdd σ' F' _ x p (s1.sub.trans e') (Rp.mono e' _ _ hx) _ fun σ2 F2 H2 a b => ⟨F2, a, e'.trans b⟩
    · have hE : i = ds'.length := Nat.le_antisymm hil (Nat.le_of_not_lt hlt)
      subst hE
      exact .inl ⟨Y.stop H' eH, hd σ' F' H' p (s1.sub.trans e')⟩
/-! ### two lists of one's own -/
structure Two (K : PySem.W.Frag) (pt : Option Pt) (F0 H0 : Hp) (l m : Addr) (F H : Hp) (ls ms : List PyData) : Prop where
  step : Step pt F0 H0 F H
  ne : l ≠ m
  h1 : H0 l = none
  h2 : H0 m = none
  o1 : F l = none
  o2 : F m = none
  e1 : ∃ xs, H l = some (.lst xs) ∧ RpAll K F xs ls
  e2 : ∃ xs, H m = some (.lst xs) ∧ RpAll K F xs ms
variable {l m : Addr} {ls ms : List PyData} {F2 H2 : Hp}
theorem Two.run (g0 : Good pt F0 H0) (w : Two K pt F0 H0 l m F H ls ms) (s : Step pt F H F2 H2) : Two K pt F0 H0 l m F2 H2 ls ms := by
  obtain ⟨xs, a1, a2⟩ := w.e1
  obtain ⟨ys, b1, b2⟩ := w.e2
  obtain ⟨f1, k1⟩ := s.beside g0 w.h1 w.o1 a1
  obtain ⟨f2, k2⟩ := s.beside g0 w.h2 w.o2 b1
  exact ⟨w.step.trans s, w.ne, w.h1, w.h2, f1, f2, ⟨xs, k1, RpAll.mono s.sub _ _ a2⟩, ⟨ys, k2, RpAll.mono s.sub _ _ b2⟩⟩
theorem Two.swap (w : Two K pt F0 H0 l m F H ls ms) : Two K pt F0 H0 m l F H ms ls := ⟨w.step, w.ne.symm, w.h2, w.h1, w.o2, w.o1, w.e2, w.e1⟩
theorem Two.put1 (g0 : Good pt F0 H0) (w : Two K pt F0 H0 l m F H ls ms) {xs : List V} {ls' : List PyData} (r : RpAll K F xs ls') : Two K pt F0 H0 l m F (upd H l (.lst xs)) ls' ms := by
  obtain ⟨ys, b1, b2⟩ := w.e2
  exact ⟨w.step.put g0 w.h1 w.o1, w.ne, w.h1, w.h2, w.o1, w.o2, ⟨xs, upd_same, r⟩, ⟨ys, by rw [upd_ne w.ne.symm]; exact b1, b2⟩⟩
theorem RpAll.erase : ∀ {ds : List PyData} {vs : List V} (i : Nat), RpAll K F vs ds → RpAll K F (vs.eraseIdx i) (ds.eraseIdx i)
  | [], _, i, h => by cases h; cases i <;> exact .nil
  | d :: ds, _, 0, h => by
    cases h with
    | cons h1 h2 => exact h2
  | d :: ds, _, i + 1, h => by
    cases h with
    | cons h1 h2 => exact .cons h1 (RpAll.erase i h2)
/-- the length of one's own list -/
theorem Two.len (w : Two K pt F0 H0 l m F H ls ms) : ∃ xs, H l = some (.lst xs) ∧ xs.length = ls.length := by
  obtain ⟨xs, a1, a2⟩ := w.e1
  exact ⟨xs, a1, a2.length⟩
/-- m.append(l.pop(draw(pot, len(l)))) -/
theorem t_popApp {q : Pt} {P : Int → Prop} {R : Int → PD} {E : XK} {il im ip : Nat} (g0 : Good (some q) F0 H0) (w : Two K (some q) F0 H0 l m F H ls ms) (hl : σ[il]? = some (some (.ref l))) (hm : σ[im]? = some (some (.ref m))) (hp : σ[ip]? = some (some (.ref q.p)))
    (hP : P (ls.length : Int)) (hz : ls.length ≤ 1000) (hz2 : ms.length < 100000) (hR : ∀ d, R (ls.length : Int) d → ∃ k : Nat, d = .int (k : Int) ∧ k < ls.length)
    (k : ∀ (i : Nat) (hi : i < ls.length) F2 H2, Two K (some q) F0 H0 l m F2 H2 (ls.eraseIdx i) (ms ++ [ls[i]]) → Ex F F2 → D.nx σ H2) :
    tDrop (tBM K "list" rAppend (tVar im) (tCons (tBM K "list" rPopAt (tVar il) (tCons (tCall (spP K P R) [] E (tCons (tVar ip) (tCons (tCB (rLen K) (tCons (tVar il) tNil)) tNil))) tNil)) tNil)) D σ H := by
  obtain ⟨xs, a1, a2⟩ := w.e1
  obtain ⟨ys, b1, b2⟩ := w.e2
  refine ⟨.ref m, hm, .inl ⟨rfl, ys, sq_of b1⟩, .ref l, hl, .inl ⟨rfl, xs, sq_of a1⟩, _, hp, .ref l, hl, l, xs, rfl, .inl (SqL.of a1), ?_⟩
  refine ⟨q, (xs.length : Int), F, rfl, by rw [a2.length]; exact hP, w.step.inn, w.step.good, fun d v F2 H2 hd s hv => ?_⟩
  rw [a2.length] at hd
  obtain ⟨j, rfl, hj⟩ := hR d hd
  obtain rfl := rp_int hv
  have w2 := w.run g0 s
  obtain ⟨xs', c1, c2⟩ := w2.e1
  have hxl := c2.length
  obtain ⟨y, hy, ry⟩ := RpAll.getD c2 (List.getElem?_eq_getElem hj)
  have w3 := w2.put1 g0 (RpAll.erase j c2)
  obtain ⟨ys', e1, e2⟩ := w3.e2
  refine ⟨l, xs', (j : Int), j, y, rfl, rfl, c1, by omega, by omega, seqIndex_of (by omega) (by omega), hy, ?_⟩
  refine ⟨m, ys', y, rfl, rfl, e1, sz_lt (by rw [e2.length]; exact hz2), ?_⟩
  have w4 := (w3.swap.put1 g0 (e2.append (RpAll.one ry))).swap
  exact k j hj _ _ w4 s.sub
theorem Two.gst (w : Two K pt F0 H0 l m F H ls ms) : Gst K pt F0 H0 m F H ms := ⟨w.step, w.o2, w.e2⟩
theorem not_in {F H : Hp} {l : Addr} (e : Ex F H) (h : H l = none) : F l = none := by
  cases z : F l with
  | none => rfl
  | some o => have := e _ _ z; rw [h] at this; cases this
/-- l = list(x); m = [] -/
theorem t_two {i j : Nat} {src : PyData} {ds : List PyData} (g0 : Good pt F0 H0) (s : Step pt F0 H0 F H) (h : EvG K pt te σ F (Is src)) (hs : src = .list ds ∨ src = .tuple ds)
    (k : ∀ l m F2 H2, Two K pt F0 H0 l m F2 H2 ds [] → Ex F F2 → tz D ((σ.set i (some (.ref l))).set j (some (.ref m))) H2) :
    tSeq (tAsg (tCB (rList K) (tCons te tNil)) (gName i)) (tSeq (tAsg (tLst tNil) (gName j)) tz) D σ H :=
  h H s.inn s.good _ fun d v F2 H2 hd s2 hv => by
    subst hd
    obtain ⟨a, xs, rfl, hq, hxs⟩ : ∃ a xs, v = .ref a ∧ (SqL K H2 a xs ∨ SqT K H2 a xs) ∧ RpAll K F2 xs ds := by
      rcases hs with rfl | rfl
      · obtain ⟨a, xs, e, h1, h2⟩ := rp_lst hv
        exact ⟨a, xs, e, .inl (SqL.of (s2.inn _ _ h1)), h2⟩
      · obtain ⟨a, xs, e, h1, h2⟩ := rp_tup hv
        exact ⟨a, xs, e, .inr (tx s2.inn h1), h2⟩
    refine ⟨a, xs, rfl, hq, fun l hl => ?_⟩
    refine ⟨Nat.zero_le _, fun m hm => ?_⟩
    have s3 := s.trans s2
    have hml : m ≠ l := fun z => by rw [z, upd_same] at hm; cases hm
    have hm2 : H2 m = none := by rw [upd_ne hml] at hm; exact hm
    have hl0 := s3.back l hl
    have hm0 := s3.back m hm2
    have fl := not_in s3.inn hl
    have fm := not_in s3.inn hm2
    refine k l m F2 _ ⟨((s3.put g0 hl0 fl).put g0 hm0 fm), hml.symm, hl0, hm0, fl, fm, ⟨xs, by rw [upd_ne hml.symm, upd_same], hxs⟩, ⟨[], upd_same, .nil⟩⟩ s2.sub
end
end Fv

namespace Fv
open PySem PySem.Spec PyProof.Rows L2 Evl StX
section
variable {K : PySem.W.Frag} {pt : Option Pt} {σ : L2.St} {F0 H0 F H F' F2 H2 : Hp} {te : TE} {R : PD} {D : Ends} {l : Addr} {ls : List PyData}
/-- x.extend(e), e a new list -/
theorem t_ext {i : Nat} (g0 : Good pt F0 H0) (h0 : H0 l = none) (g : Gst K pt F0 H0 l F H ls) (hi : σ[i]? = some (some (.ref l))) {es : List PyData} (h : EvG K pt te σ F (Is (.list es))) (hz : ls.length + es.length ≤ 100000)
    (q : ∀ F2 H2, Gst K pt F0 H0 l F2 H2 (ls ++ es) → Ex F F2 → D.nx σ H2) : tDrop (tBM K "list" rExtend (tVar i) (tCons te tNil)) D σ H := by
  obtain ⟨acc, e, r⟩ := g.ex
  refine ⟨.ref l, hi, .inl ⟨rfl, acc, sq_of e⟩, h H g.step.inn g.step.good _ fun d v F2 H2 hd s hv => ?_⟩
  subst hd
  obtain ⟨b, zs, rfl, hb, hzs⟩ := rp_lst hv
  have g2 := g.run g0 h0 s
  obtain ⟨acc2, e2, r2⟩ := g2.ex
  refine ⟨l, b, acc2, zs, rfl, rfl, e2, s.inn _ _ hb, by rw [r2.length, hzs.length]; exact sz_of hz, q F2 _ ⟨g2.step.put g0 h0 g2.off, g2.off, _, upd_same, r2.append hzs⟩ s.sub⟩
end
end Fv

/-! C.__init__(self, ..) of an exception class C of the program whose __init__ is ValueError's -/
namespace Fv
open PySem PySem.Spec PyProof.Rows L2 Evl StX
section
variable {X : Cx} {e : Expr} {es : List Expr} {ta : TA} {p1 p2 pos : Pos} {x : Str} {C : Addr} {mc : Value}
theorem pe_fminit {pl : Sem Bool} (hg : Gl X x) (hm : X.mg x = some (.ref C)) (r : ClX.CRead X.K C mc) (vV : PySem.W.findCls X.K (.ref C) mc "__init__" = some (.val (.builtin "ValueError.__init__"))) (ha : PA X (e :: es) ta)
    (hdb : (x == ("__debug__" : Str)) = false := by decide)
    (hc : eval (.Call (.Attribute (.Name x p1) "__init__" p2) (e :: es) [] pos) X.env = (do
      let ov ← eval (.Name x p1) X.env
      standAt p2.atName
      let (f, first) ← holding [ov] (getMethod ov "__init__" pl)
      callWith pos f first (backTo pos (starEach (e :: es) X.env)) (backToKw pos (keywordEach [] X.env))) := by rfl)
    (he : starEach (e :: es) X.env = (false, eval e X.env) :: starEach es X.env := by rfl) (hpl : (backTo pos (starEach es X.env)).any (·.1) = false := by rfl) :
    PE X (.Call (.Attribute (.Name x p1) "__init__" p2) (e :: es) [] pos) (tVeI X.K ta) := by
  refine ⟨fun pins s σ H Q I h => ?_⟩
  refine PySem.W.methodCall_KW (pl := pl) (ld_glob I hg hm ?_ hdb) hc
  refine PySem.W.method_cls I.kIn r.ga (PySem.W.cls_value I.kIn r.rd vV (by decide +kernel) ?_)
  show wpAny _ _ (callWith pos (Value.builtin "ValueError.__init__") [] (backTo pos (starEach (e :: es) X.env)) []) _ _ _
  refine PyProof.Rows.callWith_method1 (thn (ha.run pos pins _ σ H _ (I.tok _) h) fun us s1 ⟨vs, H1, I1, r1, a, C, ws, ev, hl, T, ea, q⟩ => ?_) he hpl
  subst ev
  cases r1 with
  | @cons _ u0 _ ur ra rw' =>
    obtain rfl : u0 = Value.ref a := ra
    have hlen : ur.length ≤ sizeLine := by
      rw [← Paired.length rw', sizeLine_eq]
      omega
    exact oinit_ok T I1 ea hlen fun s' J => ⟨.non, H1, J, rfl, q⟩
end
end Fv

/-! promises of defs where no text of a list is being made around them (so that repr of one is known) -/
namespace Fv
open PySem PySem.Spec PyProof.Rows L2 Evl StX
/-- nothing is being shown -/
def Calmly (A : Around) : Prop := A.guards = some []
theorem Calmly.deeper {A : Around} (c : Calmly A) (env : Env) : Calmly (A.deeper env) := c
theorem Calmly.mark {A : Around} (c : Calmly A) (v : Option Value) : Calmly (A.mark v) := c
structure FnG (P : Program) (w : World) (K : PySem.W.Frag) (mg : Str → Option Value) (base : Heap) (CX : CXT) (k : Nat) (f : Addr) (fd : FuncData) (ps : List Str) (sp : Sp) : Prop where
  ln : ∀ vs H Q E, sp vs H Q E → vs.length = ps.length
  go : ∀ (A : Around) (out : List Env) (s : Shared) (H : Hp) (as : Args) (us : List Value) (vs : List V) (Q : VK) (E : XK), Calmly A → Room k A → Env0 P w K mg base A out s H → BindsTo s fd as (ps.zip us) → Vals vs us → sp vs H Q E → codeAny (model P w) A (.call (.ref f) as) (CR CX out P w H s Q E) s
theorem gfn_mk {CX : CXT} {P : Program} {w : World} {K : PySem.W.Frag} {mg : Str → Option Value} {base : Heap} {k : Nat} {f : Addr} {nm ql : Str} {pr : Arguments} {bd : List Stmt} {sc : Scope} {d1 d2 d3 d4 cv d5 oc : Value} {an od : Option Addr} {sl : Array (Option Value)} {N ps : List Str} {sp : Sp}
    (lk : K.lookup f = some ⟨oc, od, .func (PySem.W.fnOf nm ql pr bd sc d1 d2 d3 d4 an cv d5), sl⟩) (hc : PySem.W.codeIn K cv ql = true) (S : FnScope N ps sc) (ln : ∀ vs H Q E, sp vs H Q E → vs.length = ps.length)
    (hb : ∀ (A : Around) (out : List Env) (s : Shared) (H : Hp) (vs : List V) (Q : VK) (E : XK), Calmly A → Room k (A.deeper (envOfC ql sc s.heap.objs.size f cv)) → sp vs H Q E → ∃ t, PSs (cxOf CX P w K mg base N ql sc f cv A out s H E) bd t ∧ t { nx := fun _ H2 => Q .non H2, rt := Q } (start N vs) H) :
    FnG P w K mg base CX (k + 1) f (PySem.W.fnOf nm ql pr bd sc d1 d2 d3 d4 an cv d5) ps sp := by
  refine ⟨ln, fun A out s H as us vs Q E cm room e0 bi rv hs => ?_⟩
  have lv := ln _ _ _ _ hs
  have kin : K.In s.heap := e0.mod.kin.keeps fun b o z => (e0.bs b o z).1
  have nol : s.heap.NoLimit := e0.mod.nolimit.keeps fun b o z => (e0.bs b o z).1
  have kinds : ∀ y ∈ ps.zip us, sc.names.lookup y.1 = some .local ∨ (sc.names.lookup y.1 = some .cell ∧ ((cellsFrom (s.heap.objs.size + 1) sc.names []).lookup y.1).isSome = true) := by
    rintro ⟨x, v⟩ hy
    exact (S.par x (List.of_mem_zip hy).1).imp id fun z => ⟨z, PySem.W.cellsFrom_some _ _ _ (.inl z)⟩
  refine codeAny_call_function room.depth (kin _ _ lk) rfl S.co S.gen rfl (PySem.W.codeRec_of kin hc) (bi _ _ _ _ (wpAny_newFunctionEnv_cells S.kind kinds fun env he s2 y => ?_)); subst he
  refine ⟨nol.keeps y.toInCall.keep, codeAny_func ?_⟩; obtain ⟨t, ht, hq⟩ := hb A out s H vs Q E cm (room.deeper _) hs
  refine wpAny_mono (ht.run [] s2 (start N vs) H _ (inv_start S room.hd e0 lv rv y) hq) (fun fl s3 z => ?_) fun _ _ z => z
  cases fl with
  | brk => exact (z.elim fun _ z => z.elim fun _ z => z.2).elim
  | cont => exact (z.elim fun _ z => z.elim fun _ z => z.2).elim
  | next => obtain ⟨σ2, H2, J, q⟩ := z; exact ⟨V.non, H2, J.os, J.bare, J.base, J.hok, rfl, q⟩
  | ret u => obtain ⟨v, σ2, H2, J, ru, q⟩ := z; exact ⟨v, H2, J.os, J.bare, J.base, J.hok, ru, q⟩
section
variable {X : Cx} {CX : CXT} {k : Nat} {f : Addr} {fd : FuncData} {ps : List Str} {sp : Sp} {ds : List Value} {dvs : List V} {E : XK} {x : Str} {p pos : Pos} {e : Expr} {es : List Expr} {t : TA}
/-- x(e, ..) of such a def -/
theorem pe_callG (F : FnG X.prog X.w X.K X.mg X.base CX k f fd ps sp) (cm : Calmly X.A) (room : Room k X.A) (gl : Gl X x) (hm : X.mg x = some (.ref f)) (kp : PySem.W.keepIn X.K (.ref f) = true) (hb : Binds X.K fd ps ds) (hd : Vals dvs ds) (hx : Passes CX X E) (ha : PA X (e :: es) t)
    (h1 : (x == ("__debug__" : Str)) = false := by decide) (h2 : starEach (e :: es) X.env = (false, eval e X.env) :: starEach es X.env := by rfl) (h3 : (backTo pos (starEach es X.env)).any (·.1) = false := by rfl) : PE X (.Call (.Name x p) (e :: es) [] pos) (tCall sp dvs E t) := by
  constructor
  intro pins s σ H Q I h
  refine wpAny_Call_Name_kw (ld_glob I gl hm (PySem.W.callWith_K (h₀ := X.base) I.ok.mod.kin kp (thn (ha.run pos pins s σ H _ I h) fun us s1 z => ?_) h2 h3) h1)
  obtain ⟨vs, H1, I1, rv, q⟩ := z
  have r2 : Vals (vs ++ dvs) (us ++ ds) := rv.append hd
  have hl : (us ++ ds).length = ps.length := r2.length.symm.trans (F.ln _ _ _ _ q)
  refine ⟨I1.kIn, wpAny_call (codeAny_mono (F.go X.A X.stack s1 H1 ⟨us, []⟩ (us ++ ds) (vs ++ dvs) Q E cm room I1.env0 (hb s1 us I1.kIn hl) r2 q) fun r s' hq => ?_)⟩
  match r, hq with
  | .error er, hq => exact hx pins σ H1 s1 er s' I1 hq
  | .ok (.ret u), hq => exact I1.after hq
end
end Fv

/-! the law's own call: nothing is being shown around it -/
namespace Fv
open PySem PySem.Spec PyProof.Rows L2 Evl StX
theorem calm_top : Calmly callerA := rfl
/-- the law, called from an abstract heap that tracks the script alone, or nothing -/
theorem lawG_core {P : Program} {w : World} {K : PySem.W.Frag} {mg mb : Str → Option Value} {CX : CXT} {k : Nat} {fa a : Addr} {fd : FuncData} {x : Str} {sp : Sp} {s1 : Shared} {ob : Obj} {H : Hp}
    (kin : K.In s1.heap) (n1 : s1.heap.Ns mainGlobals mg) (n2 : s1.heap.Ns builtinsNs mb) (n3 : ∀ y : Str, y ≠ "__name__" → mb y = bootBuiltins y) (lim : s1.heap.NoLimit) (gs : s1.gens = #[]) (ga : s1.heap.get? a = some ob) (nd : ∀ es ep, ob.data ≠ .dict es ep) (room : Room k callerA)
    (F : ∀ base : Heap, K.In base → base.Ns mainGlobals mg → FnG P w K mg base CX k fa fd [x] sp) (bi : ∀ (s : Shared) (u : Value), BindsTo s fd ⟨[u], []⟩ [(x, u)]) (only : Only H) (hs : sp [.ref a] H (fun v _ => v = .bl true) fun _ _ _ => False) (hCX : ∀ e s', CX [] H s1 (fun _ _ _ => False) e s' → False)
    (hok : HOk P w H s1.heap) (hA : ∀ b, H b ≠ none → b = a ∧ K.lookup a = none) :
    codeAny (model P w) callerA (.call (.ref fa) ⟨[.ref a], []⟩) (fun r s' => r = .ok (.ret (.bool true)) ∧ OldK s1.heap s'.heap ∧ s'.os = s1.os ∧ AllBare s'.gens) s1 := by
  have free : ∀ {b : Addr} {o : Obj}, s1.heap.get? b = some o → (∀ z : b = a, False) → H b = none := fun {b o} _ hb => by
    cases q : H b with
    | none => rfl
    | some u => exact (hb (hA b (by rw [q]; exact fun z => by cases z)).1).elim
  have ns : ∀ {b : Addr} {m : Str → Option Value}, s1.heap.Ns b m → (hidT s1.heap H).Ns b m := by
    rintro b m ⟨o, es, ep, z1, z2, z3⟩
    exact ⟨o, es, ep, hidT_get z1 (free z1 fun z => by subst z; rw [ga] at z1; cases z1; exact nd _ _ z2), z2, z3⟩
  have kb : K.In (hidT s1.heap H) := fun b o z => hidT_get (kin b o z) (by
    cases q : H b with
    | none => rfl
    | some u =>
      obtain ⟨rfl, z2⟩ := hA b (by rw [q]; exact fun z => by cases z)
      rw [z2] at z; cases z)
  obtain ⟨mc, c1, c2⟩ := lim
  have md : Mod K mg (hidT s1.heap H) := ⟨kb, ns n1, ⟨mb, ns n2, n3⟩, mc, ns c1, c2⟩
  have e0 : Env0 P w K mg (hidT s1.heap H) callerA [] s1 H := ⟨rfl, md, fun b o z => of_hidT z, Nat.le_of_eq (hidT_size _ _), trivial, fun b z => absurd z (List.not_mem_nil), hok, .of_eq gs⟩
  have run := (F _ kb (ns n1)).go callerA [] s1 H ⟨[.ref a], []⟩ [.ref a] [.ref a] _ _ calm_top room e0 (bi s1 (.ref a)) (.cons rfl .nil) hs
  refine codeAny_mono run fun r s' h => ?_
  match r, h with
  | .error e, h => exact (hCX e s' h).elim
  | .ok (.ret u), h =>
    obtain ⟨v, H2, o2, b2, un, hok2, rv, rfl⟩ := h
    obtain rfl : u = Value.bool true := rv
    refine ⟨rfl, .of_keep fun b o z => ?_, o2, b2⟩
    cases q : H b with
    | none => exact un.keep b o z q (fun m => by cases m) (fun m => by cases m)
    | some u =>
      rcases only b with y | ⟨oo, xs, y⟩
      · rw [q] at y; cases y
      · have g2 := (hok2 b _ (un.frzs b oo _ y)).1
        have g1 := (hok b _ y).1
        rw [z] at g1; cases g1; exact g2
theorem lawG {P : Program} {w : World} {K : PySem.W.Frag} {mg mb : Str → Option Value} {CX : CXT} {k : Nat} {fa a : Addr} {fd : FuncData} {x : Str} {sp : Sp} {s1 : Shared} {vs : List Value} {ns : List Int}
    (kin : K.In s1.heap) (n1 : s1.heap.Ns mainGlobals mg) (n2 : s1.heap.Ns builtinsNs mb) (n3 : ∀ y : Str, y ≠ "__name__" → mb y = bootBuiltins y) (lim : s1.heap.NoLimit) (gs : s1.gens = #[]) (ga : s1.heap.get? a = some { cls := .type "list", data := .seq vs.toArray }) (whs : IntsAre vs ns) (few : ns.length ≤ sizeLine) (room : Room k callerA)
    (F : ∀ base : Heap, K.In base → base.Ns mainGlobals mg → FnG P w K mg base CX k fa fd [x] sp) (bi : ∀ (s : Shared) (u : Value), BindsTo s fd ⟨[u], []⟩ [(x, u)])
    (hs : ∀ H : Hp, Only H → SqL K H a (ns.map V.int) → sp [.ref a] H (fun v _ => v = .bl true) fun _ _ _ => False) (hCX : ∀ H e s', CX [] H s1 (fun _ _ _ => False) e s' → False) :
    codeAny (model P w) callerA (.call (.ref fa) ⟨[.ref a], []⟩) (fun r s' => r = .ok (.ret (.bool true)) ∧ OldK s1.heap s'.heap ∧ s'.os = s1.os ∧ AllBare s'.gens) s1 := by
  have rv := vals_ints whs
  have noD : ∀ es ep, (({ cls := .type "list", data := .seq vs.toArray } : Obj)).data ≠ .dict es ep := fun es ep z => by cases z
  cases hk : K.lookup a with
  | some o =>
    have z := kin a o hk
    rw [ga] at z; cases z
    refine lawG_core (H := fun _ => none) kin n1 n2 n3 lim gs ga noD room F bi (fun _ => .inl rfl) (hs _ (fun _ => .inl rfl) (.inr ⟨_, vs.toArray, _, hk, rfl, rfl, rfl, ?_, by simpa using rv⟩)) (hCX _) (fun b u q => by cases (show (none : Option HO) = some u from q)) fun b z => (z rfl).elim
    rw [List.size_toArray, whs.length]; exact few
  | none =>
    let ob : Obj := { cls := .type "list", data := .seq vs.toArray }
    let H : Hp := fun b => if b = a then some (.frz ob (.lst (ns.map V.int))) else none
    have at_ : H a = some (.frz ob (.lst (ns.map V.int))) := if_pos rfl
    have on : Only H := fun b => (Classical.em (b = a)).elim (fun z => .inr ⟨_, _, if_pos z⟩) fun z => .inl (if_neg z)
    refine lawG_core (H := H) kin n1 n2 n3 lim gs ga noD room F bi on (hs _ on (.inl (.inr ⟨ob, at_⟩))) (hCX _) (fun b u q => ?_) fun b z => ?_
    · by_cases y : b = a
      · subst y
        rw [at_] at q; cases q
        exact ⟨ga, by rw [List.length_map]; exact few, vs, _, rv, ga⟩
      · rw [show H b = none from if_neg y] at q; cases q
    · by_cases y : b = a
      · exact ⟨y, hk⟩
      · exact (z (if_neg y)).elim
theorem walkG {l : PySem.W.OpenLaw} {n k : Nat} {q : Program} {lo : List Str} {XP : (Str → Option Value) → Heap → Prop} {YP : World → Heap → Prop} {d : DefRec} {K : Params → PySem.W.Frag} {CX : World → CXT} {sp : World → Sp} {x : Str} (hn : l.most = some n) (hn2 : n ≤ sizeLine) (hdf : d.params.defaults = []) (room : Room k callerA) (hY : ∀ (w : World) (h : Heap), YP w h → (K w.params).In h)
    (F : ∀ (w : World) (mg : Str → Option Value) (fa : Addr) (h : Heap), (K w.params).In h → h.Ns mainGlobals mg → mg d.name = some (.ref fa) → ∃ fd : FuncData, (∀ (s : Shared) (u : Value), BindsTo s fd ⟨[u], []⟩ [(x, u)]) ∧ ∀ base : Heap, (K w.params).In base → base.Ns mainGlobals mg → FnG l.prog w (K w.params) mg base (CX w) k fa fd [x] (sp w))
    (hs : ∀ (w : World) (H : Hp) (a : Addr) (ns : List Int), ns.length ≤ n → Only H → SqL (K w.params) H a (ns.map V.int) → sp w [.ref a] H (fun v _ => v = .bl true) fun _ _ _ => False) (hCX : ∀ (w : World) (H : Hp) (s : Shared) (e : Value) (s' : Shared), CX w [] H s (fun _ _ _ => False) e s' → False) :
    PySem.W.WalkO q lo XP YP l.row.toRowW d [] (fun f vs => PySem.call f vs) := by
  refine Att.attach_call hn hdf fun w s0 s1 mg mb fa o pm cd doc a vs ns G Y ho hd hcd hmg hobj hints hlen hg => ?_
  obtain ⟨fd, bi, FF⟩ := F w mg fa _ (hY w _ Y) G.T.g hmg
  exact lawG (hY w _ Y) G.T.g G.T.b G.T.builtins G.T.nolimit hg hobj hints (Nat.le_trans hlen hn2) room FF bi (fun H o S => hs w H a ns hlen o S) fun H e s' => hCX w H s1 e s'
end Fv

/-! repr; x in t for a tuple of data of any depth; isinstance of a caught exception with fields -/
namespace Fv
open PySem PySem.Spec PyProof.Rows L2 Evl StX
section
variable {X : Cx} {K : PySem.W.Frag}
/-! ### repr -/
def rRepr (K : PySem.W.Frag) : List V → Hp → VK → Prop := fun xs H Q => ∃ (v : V) (d : PyData), xs = [v] ∧ Dp K H v d ∧ d.showable = true ∧ d.hasDict = false ∧ d.shown.length ≤ sizeLine ∧ d.depth ≤ 60 ∧ Q (.str d.shown) H
theorem c_repr (cm : Calmly X.A) (hu : X.A.units + 65 < cLine) (h : X.K = K := by rfl) : CallR X (.builtin "repr") (rRepr K) := by
  subst h
  intro pins s σ H xs us Q I r q0
  obtain ⟨v, d, rfl, hd, s1, s2, s3, s4, q⟩ := q0
  obtain ⟨u, rfl, rv⟩ := vals1 r
  obtain ⟨as, rd⟩ := Dp.reads I d v u hd rv
  have no : d.hasDict = true → sysModules ∉ as := fun z => by rw [s2] at z; cases z
  have ref : ∀ a, u = .ref a → wpAny (model X.prog X.w) X.A (call (.builtin "repr") [u]) (EP X pins σ Q) X.xe s := fun a z => by
    subst z
    exact repr_of_reads' rd s1 no cm (by omega) (fun _ _ e => e) (fun h' t tk k => ⟨.str d.shown, H, I.kept k, ⟨t, rfl⟩, q⟩) s3
  cases hd with
  | non => cases rv; exact P.repr_of_none ⟨.str _, H, I.tok _, ⟨_, rfl⟩, q⟩
  | bl b => cases rv; exact P.repr_of_bool ⟨.str _, H, I.tok _, ⟨_, rfl⟩, q⟩
  | int i =>
    obtain ⟨t, rfl⟩ := rv
    exact P.repr_of_int (by simpa [PyData.showable] using s1) ⟨.str _, H, I.tok _, ⟨_, rfl⟩, q⟩
  | str x =>
    obtain ⟨t, rfl⟩ := rv
    exact P.repr_of_str ⟨.str _, H, I.tok _, ⟨_, rfl⟩, q⟩ s3
  | lst hs ha => exact ref _ rv
  | tup hs ha => exact ref _ rv
/-! ### in -/
def rInU (K : PySem.W.Frag) (neg : Bool) : R2 := fun x y H Q => ∃ d ds, Dp K H x d ∧ Dp K H y (.tuple ds) ∧ SeqAt.shaped d = true ∧ SeqAt.shaped (.tuple ds) = true ∧ Q (.bl (if neg then !ds.any fun z => PyData.eqv z d else ds.any fun z => PyData.eqv z d)) H
theorem o_inU (hu : X.A.units + 65 < cLine) (h : X.K = K := by rfl) : OpR X (compareOp .In) (rInU K false) := by
  subst h
  intro pins s σ H x y v u Q I rx ry q0
  obtain ⟨d, ds, hd, he, sd, se, q⟩ := q0
  obtain ⟨as, r1⟩ := Dp.reads I d x v hd rx
  obtain ⟨bs, r2⟩ := Dp.reads I _ y u he ry
  exact SeqAt.in_tuple_reads r2 r1 (SeqAt.canLay_of_shaped se) (SeqAt.canLay_of_shaped sd) (room_in_shaped sd hu) ⟨.bl _, H, I, rfl, q⟩
theorem o_ninU (hu : X.A.units + 65 < cLine) (h : X.K = K := by rfl) : OpR X (compareOp .NotIn) (rInU K true) := by
  subst h
  intro pins s σ H x y v u Q I rx ry q0
  obtain ⟨d, ds, hd, he, sd, se, q⟩ := q0
  obtain ⟨as, r1⟩ := Dp.reads I d x v hd rx
  obtain ⟨bs, r2⟩ := Dp.reads I _ y u he ry
  exact SeqAt.notIn_tuple_reads r2 r1 (SeqAt.canLay_of_shaped se) (SeqAt.canLay_of_shaped sd) (room_in_shaped sd hu) ⟨.bl _, H, I, rfl, q⟩
end
end Fv

namespace Fv
open PySem PySem.Spec PyProof.Rows L2 Evl StX
/-- isinstance says yes as soon as the kind of the thing says so -/
theorem isi_yes {K : PySem.W.Frag} {x c t : Value} {Pz : Heap → Prop} (ty : ∀ (M : Model) (h : Heap), K.In h → Pz h → PySem.W.Looks M h (typeOf x) t) (e : PySem.W.kitOne K t c = some true) : Answers (fun s => K.In s.heap ∧ Pz s.heap) x c true := by
  rintro dep tk prog w A R ⟨hp, g, d, n, os⟩ ⟨⟨kin, pz⟩, q⟩
  have L0 := ty (model prog w) hp kin pz
  unfold PySem.W.kitOne at e
  unfold Builtin.«isinstance.nested»; refine wpAny_bind (L0.at ?_)
  by_cases z : (t == c) = true
  · rw [if_pos z]
    first
      | exact wpAny_pure (q n)
      | exact wpAny_bind (wpAny_rule (q n))
      | exact wpAny_bind (wpAny_rule (wpAny_pure (q n)))
      | exact wpAny_pure (wpAny_pure (q n))
      | exact wpAny_bind (wpAny_pure (wpAny_pure (q n)))
  · rw [if_neg z] at e ⊢; obtain ⟨k1, k2, k3⟩ := PySem.W.kit_cls (M := model prog w) kin e
    have k4 : PySem.W.Looks (model prog w) hp (isInstance x c) true := L0.andThen k3
    refine wpAny_bind (k1.at ?_); rw [if_pos (by decide)]; k_delta "plainIsInstance"
    refine wpAny_bind (wpAny_bind (k2.at ?_)); simp only [Bool.not_true, Bool.false_eq_true, if_false]; refine wpAny_bind (k4.at ?_)
    first
      | exact wpAny_pure (wpAny_pure (q n))
      | (simp only [if_true]; first | exact wpAny_pure (wpAny_pure (q n)) | exact wpAny_pure (q n) | exact wpAny_bind (wpAny_pure (wpAny_pure (q n))))
section
variable {X : Cx} {a C : Addr} {oe : Obj} {cls : Value} {d : Option Addr} {pn : List (Addr × Obj)}
/-- isinstance(e, c), e the caught exception: yes -/
def rIsY (K : PySem.W.Frag) (cls : Value) (a : Addr) : List V → Hp → VK → Prop := fun xs H Q => ∃ (c : V) (cv : Value), xs = [.ref a, c] ∧ (∀ u, RelV c u → u = cv) ∧ PySem.W.kitOne K cls cv = some true ∧ Q (.bl true) H
theorem c_isY {K : PySem.W.Frag} (hz : Zc cls d oe) (h : X.K = K := by rfl) : CallR (X.suite a ((a, oe) :: pn)) (.builtin "isinstance") (rIsY K cls a) := by
  subst h
  intro pins s σ H xs us Q I r q0
  obtain ⟨c, cv, rfl, hc, e, q⟩ := q0
  obtain ⟨u0, u1, rfl, ra, rc⟩ : ∃ u0 u1, us = [u0, u1] ∧ RelV (.ref a) u0 ∧ RelV c u1 := by
    cases r with
    | cons r1 r2 =>
      cases r2 with
      | cons r3 r4 => cases r4; exact ⟨_, _, rfl, r1, r3⟩
  obtain rfl : u0 = Value.ref a := ra
  obtain rfl := hc _ rc
  have got := (I.pin (a, oe) (List.mem_append_left _ List.mem_cons_self)).1
  refine call_isinstance (S := fun _ R s => (X.K.In s.heap ∧ s.heap.get? a = some oe) ∧ ∀ tk, R (.ok (.ret (.bool true))) { s with toks := tk })
    (fun prog w A R s hs => isinstance_outer (isi_yes (Pz := fun h => h.get? a = some oe) (fun M h kin z => fun A Q E s k q => wpAny_typeOf_ref (k _ _ z) (by rw [hz.1]; exact q)) e 0 _ prog w A R s hs) (fun z => nomatch z)) ⟨⟨I.kIn, got⟩, fun tk => ⟨.bl true, H, I.tok tk, rfl, q⟩⟩
end
end Fv

/-! set(l) of a list of whole numbers, its members known -/
namespace Fv
open PySem PySem.Spec PyProof.Rows L2 Evl StX
/-- an empty set, as it is laid -/
abbrev set0 (w : World) : Obj := { cls := .type "set", dict := none, data := .set #[] 0 (.fresh 0 0 (!w.params.followText "set-order")) }
section
variable {P : Program} {w : World} {A : Around} {E : Value → Shared → Prop} {s : Shared}
set_option maxHeartbeats 8000000 in
theorem set_of_list {l : Addr} {its : Array Value} (ns : List Int) {Q : Value → Shared → Prop} (calm : A.handled = none) (isl : s.heap.IsList l its) (whole : IntsAre its.toList ns) (few : ns.length + 1 < scanBound)
    (k : ∀ (h2 : Heap) (tk c : Nat), SetR w h2 s.heap.objs.size (fun j => decide (j ∈ ns)) c → c ≤ ns.length → (∀ b o, s.heap.get? b = some o → h2.get? b = some o) → Q (.ref s.heap.objs.size) { s with heap := h2, toks := tk }) : wpAny (model P w) A (call (.type "set") [.ref l]) Q E s := by
  have size : its.size = ns.length := by simpa using IntsAre.length whole
  obtain ⟨c1, tl1, mro1⟩ := F.called_set.mro
  have f1 := F.called_set.made; have f2 := F.called_set.sub
  refine wpAny_call (codeAny_of_tree ?_); show wpAny _ _ (callAny (.type "set") _) _ _ _
  refine wpAny_pure ⟨Code.quiet_builtin _ (by decide +kernel), codeAny_builtin F.entry_type_call ?_⟩; rw [Around.under_plain (weight_type_call_type "set" [.ref l] []) rfl]
  have f3 := F.called_set.notType; have f4 := F.called_set.canCreate; have f5 := F.typeCall_set_1 (.ref l)
  (repeat (any_goals (first | assumption | wp_step)))
  refine codeAny_mono (code_set_led1 (.ref l) (E := E) (Q₁ := fun o s1 => o = .ref s.heap.objs.size ∧ s1 = { s with heap := s.heap.push (set0 w) }) ⟨rfl, rfl⟩) fun r s1 hr => ?_
  cases r with
  | error e => exact hr
  | ok fl =>
    cases fl with
    | ret ob =>
      obtain ⟨rfl, rfl⟩ := hr
      have at0 : (s.heap.push (set0 w)).get? s.heap.objs.size = some (set0 w) := Heap.get?_push_size _ rfl
      have ty0 : Shared.TypeIs { s with heap := s.heap.push (set0 w) } (.ref s.heap.objs.size) "set" := ⟨_, at0, rfl⟩
      have f6 := F.called_set.init.lookup; have f7 := F.called_set.init.bind (.ref s.heap.objs.size)
      (repeat (any_goals (first | assumption | wp_step)))
      refine codeAny_mono (codeAny_call_builtin (R := wants (fun r s2 => r = .none ∧ ∃ h2 tk c, s2 = { s with heap := h2, toks := tk } ∧ SetR w h2 s.heap.objs.size (fun j => decide (j ∈ ns)) c ∧ c ≤ ns.length ∧ (∀ b o, s.heap.get? b = some o → h2.get? b = some o)) E) F.called_set.init.plain F.entry_set_init (check_set_init_1 ty0 ?_)) fun r2 s2 hr2 => ?_
      · obtain ⟨⟨oc, od, oa, os⟩, got, e1, nl, e2⟩ := isl
        simp only at e1 e2; subst e1; subst e2
        have got1 : (s.heap.push (set0 w)).get? l = some { cls := .type "list", dict := od, data := .seq its nl, slots := os } := Heap.get?_push_of_some _ got
        have g1 := F.sub_list_set; have g2 := F.sub_list_frozenset
        have g3 : (Value.type "list" == Value.type "dict") = false := by decide
        have isl1 : (s.heap.push (set0 w)).IsList l its := ⟨_, got1, rfl, nl, rfl⟩
        unfold Builtin.«set.__init__» noKeywords Builtin.Frozenset.updateFrom
        generalize hI : pyIter = PI
        wp_walk
        subst hI; refine wpAny_pyIter_list isl1 (wpAny_bind (wpAny_runValue ?_))
        have lt : l < s.heap.objs.size := Heap.lt_size got
        have calm3 : A.in1.in1.in1.handled = none := by simp [calm]
        have ne1 : l ≠ (s.heap.push (set0 w)).objs.size := by rw [Heap.size_push]; exact Nat.ne_of_lt (Nat.lt_succ_of_lt lt)
        have off : s.heap.objs.size ∉ [(s.heap.push (set0 w)).objs.size, l] := by
          rw [Heap.size_push]; simp only [List.mem_cons, List.not_mem_nil, or_false, not_or]
          exact ⟨Nat.ne_of_lt (Nat.lt_succ_self _), Nat.ne_of_gt lt⟩
        have vals : ∀ (i : Nat) (v : Value), its[i]? = some v → ∃ j t, ns[i]? = some j ∧ v = .int j t := fun i v hv => by
          have hi : i < ns.length := size ▸ (Array.getElem?_eq_some_iff.mp hv).1
          obtain ⟨t, e⟩ := PyProof.Rows.IntsAre.int_at whole i v (by rw [Array.getElem?_toList]; exact hv)
          exact ⟨ns[i], t, List.getElem?_eq_getElem hi, by rw [e, List.getD_eq_getElem?_getD, List.getElem?_eq_getElem hi]; rfl⟩
        refine set_update_ints ((Walks.list calm3 _ l ne1 its).toS) s.heap.objs.size off ns size few vals (its.size - 0) 0 _ (by omega) (Nat.zero_le _) ⟨⟨_, Heap.get?_push_size _ rfl, rfl, rfl⟩, (isl1.push _)⟩ ?first ?rest
        case first => exact ⟨0, Nat.le_refl 0, setR_new_at (Heap.get?_push_of_some _ at0)⟩
        case rest =>
          rintro ⟨h2, g2', d2, t2, o2⟩ c2 hm hc2 hS2
          have z1 : g2' = s.gens := hm.gens; have z2 : d2 = s.drawn := hm.drawn; have z3 : o2 = s.os := hm.os
          subst z1; subst z2; subst z3; show wpAny _ _ _ _ _ _
          refine wpAny_pure ?_; show wpAny _ _ (ret Value.none) _ _ _
          rw [size] at hc2
          refine wpAny_pure ⟨rfl, h2, t2, c2, rfl, hS2, hc2, fun b o e => ?_⟩
          have b0 : b < s.heap.objs.size := Heap.lt_size e
          have b2 : b ≠ (s.heap.push (set0 w)).objs.size := by rw [Heap.size_push]; exact Nat.ne_of_lt (Nat.lt_succ_of_lt b0)
          exact hm.heap b o (by simp only [List.mem_cons, List.not_mem_nil, or_false, not_or]; exact ⟨Nat.ne_of_lt b0, b2⟩) (Heap.get?_push_of_some _ (Heap.get?_push_of_some _ e))
      · match r2, hr2 with
        | .error e, hr2 => exact hr2
        | .ok (.ret r), hr2 =>
          obtain ⟨rfl, h2, tk, c, rfl, y1, y2, y3⟩ := hr2
          (repeat (any_goals (first | assumption | wp_step)))
          exact k _ _ _ y1 y2 y3
        | .ok .next, hr2 => exact hr2.elim
        | .ok .brk, hr2 => exact hr2.elim
        | .ok .cont, hr2 => exact hr2.elim
    | next => exact hr.elim
    | brk => exact hr.elim
    | cont => exact hr.elim
end
def rSetLi (K : PySem.W.Frag) (w : World) : List V → Hp → VK → Prop := fun xs H Q => ∃ (p : Addr) (ns : List Int), xs = [.ref p] ∧ SqL K H p (ns.map V.int) ∧ ns.length ≤ 60 ∧
  ∀ a c, H a = none → c ≤ ns.length → Q (.ref a) (upd H a (SetO w a (fun j => decide (j ∈ ns)) c))
theorem c_setL {X : Cx} {K : PySem.W.Frag} {w : World} (hc : X.calm = true := by rfl) (h : X.K = K := by rfl) (hw : X.w = w := by rfl) : CallR X (.type "set") (rSetLi K w) := by
  subst h; subst hw
  rintro pins s σ H xs us Q I r ⟨p, ns, rfl, hq, hl, q⟩
  rw [Vals.ref1 r]
  obtain ⟨its, rv, ht, hz⟩ := I.list hq
  refine set_of_list ns (I.ok.hd hc) ht.isList (by simpa using ints_of_vals rv) (by unfold scanBound; omega) fun h' tk c R1 hcn k => ?_
  exact ⟨.ref s.heap.objs.size, _, I.laid (t' := tk) k (Nat.le_refl _) (setO_new R1), rfl, q _ c (I.hok.fresh (Nat.le_refl _)) hcn⟩
/-- a list of whole numbers -/
abbrev dI (ns : List Int) : PyData := .list (ns.map PyData.int)
theorem g_sortedSetL {K : PySem.W.Frag} {w : World} {pt : Option Pt} {σ : L2.St} {F : Hp} {te : TE} {ns : List Int} (h : EvG K pt te σ F (Is (dI ns))) (hz : ns.length ≤ 60) : EvG K pt (tCB (rSortedSet w) (tCons (tCB (rSetLi K w) (tCons te tNil)) tNil)) σ F
    (fun x => ∃ ms : List Int, x = .list (ms.map .int) ∧ ms.Pairwise (· < ·) ∧ ∀ k, k ∈ ms ↔ k ∈ ns) := fun H1 i g Q q =>
  h H1 i g _ fun d v F2 H2 hd s hv => by
    subst hd
    obtain ⟨a, xs, rfl, hl, ha⟩ := rp_lst hv
    have e1 := rpAll_ints ha
    subst e1
    refine ⟨a, ns, rfl, SqL.of (s.inn _ _ hl), hz, fun b c hb hc => ?_⟩
    have s3 : Step pt F2 H2 F2 (upd H2 b (SetO w b (fun j => decide (j ∈ ns)) c)) := .litter s.inn s.good hb
    refine ⟨b, _, c, rfl, upd_same, by omega, fun ms p hp hm hlen hn => ?_⟩
    have s4 : Step pt F2 (upd H2 b (SetO w b (fun j => decide (j ∈ ns)) c)) (upd F2 p (.lst (ms.map V.int))) _ := .laid s3.inn s3.good hn
    exact q _ _ _ _ ⟨ms, rfl, hp, fun k => by rw [hm k, decide_eq_true_eq]⟩ ((s.trans s3).trans s4) (.lst upd_same (rpAll_of_ints ms))
end Fv

namespace Fv
open PySem PySem.Spec PyProof.Rows L2 Evl StX
/-! ### bool(t) of a tuple -/
theorem meets_boolU (t : Addr) (its : Array Value) (fit : (its.size : Int) < 2 ^ 63) : Meets (Builtin.«bool.__new__» ⟨[.type "bool", .ref t], []⟩) (fun _ R s => IsTup s.heap t its ∧ ∀ tk, R (.ok (.ret (.bool (!its.isEmpty)))) { s with toks := tk }) :=
  Meets.of_wp fun prog w A R s0 hs => by
    obtain ⟨ht, q⟩ := hs; obtain ⟨hp, g, d, tk, os⟩ := s0
    have f0 := F.conv_sub_bool
    (repeat (any_goals (first | assumption | (with_reducible refine truthy_tuple ht fit ?_) | wp_step)))
    all_goals first | exact ⟨_, rfl, q _⟩ | exact q _ | skip
theorem rv_len {K : PySem.W.Frag} : True := trivial
def rBoolU (K : PySem.W.Frag) : List V → Hp → VK → Prop := fun xs H Q => ∃ (a : Addr) (zs : List V), xs = [.ref a] ∧ SqT K H a zs ∧ Q (.bl (!zs.isEmpty)) H
theorem c_boolU {X : Cx} {K : PySem.W.Frag} (h : X.K = K := by rfl) : CallR X (.type "bool") (rBoolU K) := by
  subst h
  rintro pins s σ H xs us Q I r ⟨a, zs, rfl, hq, q⟩
  obtain rfl := Vals.ref1 r
  obtain ⟨its, rv, pl, hz⟩ := I.tuple hq
  have h0 := sizeLine_eq; have h1 := rv.length
  have e : zs.isEmpty = its.toArray.isEmpty := by cases zs <;> cases its <;> simp_all
  exact call_bool_1 (meets_boolU a its.toArray (by simp only [List.size_toArray]; omega)) ⟨pl, fun tk => ⟨rfl, ⟨.bl (!zs.isEmpty), H, I.tok _, by rw [e]; rfl, q⟩⟩⟩
section
variable {K : PySem.W.Frag} {pt : Option Pt} {σ : L2.St} {F F' F0 H0 H : Hp} {te ta tb : TE} {ts tr : TA} {t u : TT} {R R1 : PD} {d e z : PyData} {D : Ends} {tz tu : TS} {wi : TI}
theorem rc_boolU {ds : List PyData} : RcG K (rBoolU K) [.tuple ds] (Is (.bool (!ds.isEmpty))) := rc_val fun F H vs e h => by
  cases h with
  | cons h1 h2 =>
    cases h2
    obtain ⟨a, xs, rfl, hl, ha⟩ := rp_tup h1
    have e1 : xs.isEmpty = ds.isEmpty := by have := ha.length; cases xs <;> cases ds <;> simp_all
    exact ⟨.bl (!xs.isEmpty), fun Q q => ⟨a, xs, rfl, tx e hl, q⟩, by rw [e1]; exact .bl _⟩
/-! ### choices whose test is not known -/
theorem g_ifR {S : Bool → Prop} (h : EtG pt t σ F S) (h1 : EvG K pt ta σ F R) (h2 : EvG K pt tb σ F R) : EvG K pt (tIf t ta tb) σ F R := fun H1 i g Q q => h H1 i g _ fun c F2 H2 hc s => by
  cases c with
  | true => exact h1.mono s.sub H2 s.inn s.good Q fun d' v' F3 H3 hd' s3 hv' => q d' v' F3 H3 hd' (s.trans s3) hv'
  | false => exact h2.mono s.sub H2 s.inn s.good Q fun d' v' F3 H3 hd' s3 hv' => q d' v' F3 H3 hd' (s.trans s3) hv'
theorem et_truR {S : Int → Prop} (h : EvG K pt te σ F (fun d => ∃ k : Int, d = .int k ∧ S k)) : EtG pt (fun σ H Q => te σ H fun x H' => ∃ k, TruV K x H' k ∧ Q k H') σ F (fun _ => True) := fun H1 i g Q q =>
  h H1 i g _ fun d' v F2 H2 hd s hv => by
    obtain ⟨n, rfl, _⟩ := hd
    rw [rp_int hv]
    exact ⟨n != 0, rfl, q _ F2 H2 trivial s⟩
/-- an item of a written list, at a drawn place -/
theorem g_pick {ds : List PyData} {c : Int} (ha : EvG K pt ta σ F (Is (.list ds))) (hb : EvG K pt tb σ F (fun d => ∃ k : Int, d = .int k ∧ 0 ≤ k ∧ k < c)) (hc : c ≤ (ds.length : Int)) (hP : ∀ d ∈ ds, R d) : EvG K pt (tOp (rIxL K) ta tb) σ F R := g_op ha hb fun d e hd he => by
  obtain ⟨k, rfl, k0, k1⟩ := he
  subst hd
  obtain ⟨j, rfl⟩ : ∃ j : Nat, k = (j : Int) := ⟨k.toNat, by omega⟩
  have hj : j < ds.length := by omega
  intro F H x y i hx hy Q q
  exact rv_ixL (d := ds[j]) (atI_nat (List.getElem?_eq_getElem hj)) F H x y i hx hy Q fun z v F2 H2 hz s hv => q z v F2 H2 (by rw [show z = ds[j] from hz]; exact hP _ (List.getElem_mem hj)) s hv
/-! ### == [] -/
theorem rv_eqNil {ds : List PyData} (h : SeqAt.shaped (.list ds) = true) : RvG K (rEqD K) (.list ds) (.list []) (Is (.bool ds.isEmpty)) := by
  have := rv_eqD (K := K) h (show SeqAt.shaped (.list []) = true by decide)
  have e : PyData.eqv (.list ds) (.list []) = ds.isEmpty := by
    cases ds <;> simp [PyData.eqv, PyData.eqvAll]
  rw [e] at this; exact this
theorem shaped_dI (ns : List Int) : SeqAt.shaped (.list (ns.map PyData.int)) = true := shaped_of (by simp only [PyData.canLay0]; exact canLayAll_ints ns) (by have := depthAll_ints ns; simp only [PyData.depth]; omega)
theorem c_min2 {X : Cx} (hc : X.calm = true := by rfl) : CallR X (.builtin "min") (fun xs H Q => ∃ i j, xs = [.int i, .int j] ∧ Q (.int (if j < i then j else i)) H) := call_min2 hc
theorem rc_min2 {i j : Int} : RcG K (fun xs H Q => ∃ i j, xs = [.int i, .int j] ∧ Q (.int (if j < i then j else i)) H) [.int i, .int j] (Is (.int (if j < i then j else i))) := rc_val fun F H vs e h => by
  cases h with
  | cons h1 h2 =>
    cases h2 with
    | cons h3 h4 =>
      cases h4
      rw [rp_int h1, rp_int h3]
      exact ⟨_, fun Q q => ⟨i, j, rfl, q⟩, .int _⟩
end
end Fv

/-! loops over what is not known beforehand; l[:i] -/
namespace Fv
open PySem PySem.Spec PyProof.Rows L2 Evl StX
section
variable {K : PySem.W.Frag} {pt : Option Pt} {σ : L2.St} {F F' F0 H0 H : Hp} {te ta tb : TE} {ts tr : TA} {t u : TT} {R R1 : PD} {RS : List PyData → Prop} {d e z : PyData} {D : Ends} {tz tu : TS} {wi : TI} {l : Addr} {ls : List PyData}
theorem t_forR {j : Nat} (s : Step pt F0 H0 F H) (hw : WiG K pt wi σ F RS) (I : List PyData → Nat → L2.St → Hp → Prop) (h0 : ∀ ds, RS ds → ∀ F2, Ex F F2 → I ds 0 σ F2)
    (hs : ∀ ds, RS ds → ∀ i d, ds[i]? = some d → ∀ σ' F' H' x, I ds i σ' F' → Step pt F0 H0 F' H' → Ex F F' → Rp K F' x d →
      ∀ N : L2.St → Hp → Prop, (∀ σ2 F2 H2, I ds (i + 1) σ2 F2 → Step pt F0 H0 F2 H2 → Ex F' F2 → N σ2 H2) → tu { D with nx := N, ct := N, bk := tz D } (σ'.set j (some x)) H')
    (hd : ∀ ds, RS ds → ∀ σ' F' H', I ds ds.length σ' F' → Step pt F0 H0 F' H' → Ex F F' → tz D σ' H') : tSeq (tFor wi (gName j) tu) tz D σ H :=
  hw H s.inn s.good _ fun ds J F1 H1 hr s1 Y => by
    refine ⟨fun i m σ' H' => m = ds.length - i ∧ i ≤ ds.length ∧ ∃ F', Step pt F0 H0 F' H' ∧ Ex F1 F' ∧ I ds i σ' F', ⟨ds.length, by simp, Nat.zero_le _, F1, s.trans s1, Ex.refl _, h0 ds hr F1 s1.sub⟩, ?_⟩
    rintro i m σ' H' ⟨rfl, hi, F', s', e', p⟩
    have eH : Ex F1 H' := e'.trans s'.inn
    by_cases hlt : i < ds.length
    · refine .inr ⟨Y.go i H' eH hlt, fun σ2 H2 => ∃ F2, Step pt F0 H0 F2 H2 ∧ Ex F1 F2 ∧ I ds (i + 1) σ2 F2, fun σ2 H2 ⟨F2, a, b, c⟩ => ⟨ds.length - (i + 1), by omega, rfl, hlt, F2, a, b, c⟩, fun x H2 y => ?_⟩
      obtain ⟨rfl, d, hdd, hx⟩ := Y.yld i H' x H2 eH hlt y
      exact hs ds hr i d hdd σ' F' _ x p s' (s1.sub.trans e') (Rp.mono e' _ _ hx) _ fun σ2 F2 H2 a b c => ⟨F2, b, e'.trans c, a⟩
    · have hE : i = ds.length := Nat.le_antisymm hi (Nat.le_of_not_lt hlt)
      subst hE
      exact .inl ⟨Y.stop H' eH, hd ds hr σ' F' H' p s' (s1.sub.trans e')⟩
theorem t_forGR {j : Nat} (g0 : Good pt F0 H0) (h0 : H0 l = none) (g : Gst K pt F0 H0 l F H ls) (hw : WiG K pt wi σ F RS) (I : List PyData → Nat → L2.St → Hp → List PyData → Prop) (hi : ∀ ds, RS ds → ∀ F2, Ex F F2 → I ds 0 σ F2 ls)
    (hs : ∀ ds, RS ds → ∀ i d, ds[i]? = some d → ∀ σ' F' H' x ls', I ds i σ' F' ls' → Gst K pt F0 H0 l F' H' ls' → Ex F F' → Rp K F' x d →
      ∀ N : L2.St → Hp → Prop, (∀ σ2 F2 H2 ls2, I ds (i + 1) σ2 F2 ls2 → Gst K pt F0 H0 l F2 H2 ls2 → Ex F' F2 → N σ2 H2) → tu { D with nx := N, ct := N, bk := tz D } (σ'.set j (some x)) H')
    (hd : ∀ ds, RS ds → ∀ σ' F' H' ls', I ds ds.length σ' F' ls' → Gst K pt F0 H0 l F' H' ls' → Ex F F' → tz D σ' H') : tSeq (tFor wi (gName j) tu) tz D σ H :=
  hw H g.step.inn g.step.good _ fun ds J F1 H1 hr s1 Y => by
    refine ⟨fun i m σ' H' => m = ds.length - i ∧ i ≤ ds.length ∧ ∃ F' ls', Gst K pt F0 H0 l F' H' ls' ∧ Ex F1 F' ∧ I ds i σ' F' ls', ⟨ds.length, by simp, Nat.zero_le _, F1, ls, g.run g0 h0 s1, Ex.refl _, hi ds hr F1 s1.sub⟩, ?_⟩
    rintro i m σ' H' ⟨rfl, hil, F', ls', g', e', p⟩
    have eH : Ex F1 H' := e'.trans g'.step.inn
    by_cases hlt : i < ds.length
    · refine .inr ⟨Y.go i H' eH hlt, fun σ2 H2 => ∃ F2 ls2, Gst K pt F0 H0 l F2 H2 ls2 ∧ Ex F1 F2 ∧ I ds (i + 1) σ2 F2 ls2, fun σ2 H2 ⟨F2, ls2, a, b, c⟩ => ⟨ds.length - (i + 1), by omega, rfl, hlt, F2, ls2, a, b, c⟩, fun x H2 y => ?_⟩
      obtain ⟨rfl, d, hdd, hx⟩ := Y.yld i H' x H2 eH hlt y
      exact hs ds hr i d hdd σ' F' _ x ls' p g' (s1.sub.trans e') (Rp.mono e' _ _ hx) _ fun σ2 F2 H2 ls2 a b c => ⟨F2, ls2, b, e'.trans c, a⟩
    · have hE : i = ds.length := Nat.le_antisymm hil (Nat.le_of_not_lt hlt)
      subst hE
      exact .inl ⟨Y.stop H' eH, hd ds hr σ' F' H' ls' p g' (s1.sub.trans e')⟩
theorem RpAll.take : ∀ {ds : List PyData} {vs : List V} (i : Nat), RpAll K F vs ds → RpAll K F (vs.take i) (ds.take i)
  | [], _, i, h => by cases h; simp; exact .nil
  | d :: ds, _, 0, h => by simp; exact .nil
  | d :: ds, _, i + 1, h => by
    cases h with
    | cons h1 h2 => exact .cons h1 (RpAll.take i h2)
/-- xs[:i] -/
theorem g_slTo {ds : List PyData} {i : Nat} (h : EvG K pt te σ F (Is (.list ds))) : EvG K pt (tSl (rSlL K) te tNoPart (tPart (tC (.int (i : Int))))) σ F (Is (.list (ds.take i))) := fun H1 e g Q q =>
  h H1 e g _ fun d v F2 H2 hd s hv => by
    subst hd
    obtain ⟨a, xs, rfl, hl, ha⟩ := rp_lst hv
    refine ⟨_, rfl, a, xs, rfl, SqL.of (s.inn _ _ hl), fun p hp => ?_⟩
    have e1 : cutV xs none (some (i : Int)) = xs.take i := by
      unfold cutV
      rw [show HT.sIx xs.length 0 none = 0 from rfl, show HT.sIx xs.length xs.length (some (i : Int)) = min i xs.length from HT.sIx_nat _ _ i, List.drop_zero, Nat.sub_zero]
      by_cases z : i ≤ xs.length
      · rw [Nat.min_eq_left z]
      · rw [Nat.min_eq_right (by omega), List.take_of_length_le (Nat.le_refl _), List.take_of_length_le (by omega)]
    rw [e1]
    have s3 : Step pt F2 H2 (upd F2 p (.lst (xs.take i))) (upd H2 p (.lst (xs.take i))) := .laid s.inn s.good hp
    exact q _ _ _ _ rfl (s.trans s3) (.lst upd_same (RpAll.mono s3.sub _ _ (RpAll.take i ha)))
end
end Fv

/-! a caught exception handed to a def; several clauses that name it -/
namespace Fv
open PySem PySem.Spec PyProof.Rows L2 L2H Evl StX
/-- the promise of a def to which an exception of the class cls is handed while it is handled -/
structure FnT (P : Program) (w : World) (K : PySem.W.Frag) (mg : Str → Option Value) (base : Heap) (k : Nat) (f : Addr) (fd : FuncData) (ps : List Str) (cls : Value) (sp : Addr → Sp) : Prop where
  ln : ∀ a vs H Q E, sp a vs H Q E → vs.length = ps.length
  go : ∀ (A : Around) (out : List Env) (s : Shared) (H : Hp) (as : Args) (us : List Value) (vs : List V) (Q : VK) (E : XK) (z : Addr × Obj), RoomH k A → PinOk out H s z → z.2.cls = cls → Env0 P w K mg base A out s H → BindsTo s fd as (ps.zip us) → Vals vs us → sp z.1 vs H Q E → codeAny (model P w) A (.call (.ref f) as) (CR CX0 out P w H s Q E) s
theorem fnT_mk {P : Program} {w : World} {K : PySem.W.Frag} {mg : Str → Option Value} {base : Heap} {k : Nat} {f : Addr} {nm ql : Str} {pr : Arguments} {bd : List Stmt} {sc : Scope} {d1 d2 d3 d4 cv d5 oc : Value} {an od : Option Addr} {sl : Array (Option Value)} {N ps : List Str} {cls : Value} {sp : Addr → Sp}
    (lk : K.lookup f = some ⟨oc, od, .func (PySem.W.fnOf nm ql pr bd sc d1 d2 d3 d4 an cv d5), sl⟩) (hc : PySem.W.codeIn K cv ql = true) (S : FnScope N ps sc) (ln : ∀ a vs H Q E, sp a vs H Q E → vs.length = ps.length)
    (hb : ∀ (A : Around) (out : List Env) (s : Shared) (H : Hp) (vs : List V) (Q : VK) (E : XK) (z : Addr × Obj), z.2.cls = cls → RoomH k (A.deeper (envOfC ql sc s.heap.objs.size f cv)) → sp z.1 vs H Q E → ∃ t, PSs (cxH CX0 P w K mg base N ql sc f cv A out s H E z) bd t ∧ t { nx := fun _ H2 => Q .non H2, rt := Q } (start N vs) H) :
    FnT P w K mg base (k + 1) f (PySem.W.fnOf nm ql pr bd sc d1 d2 d3 d4 an cv d5) ps cls sp := by
  refine ⟨ln, fun A out s H as us vs Q E z room pz cz e0 bi rv hs => ?_⟩
  have lv := ln _ _ _ _ _ hs
  have kin : K.In s.heap := e0.mod.kin.keeps fun b o y => (e0.bs b o y).1
  have nol : s.heap.NoLimit := e0.mod.nolimit.keeps fun b o y => (e0.bs b o y).1
  have kinds : ∀ y ∈ ps.zip us, sc.names.lookup y.1 = some .local ∨ (sc.names.lookup y.1 = some .cell ∧ ((cellsFrom (s.heap.objs.size + 1) sc.names []).lookup y.1).isSome = true) := by
    rintro ⟨x, v⟩ hy
    exact (S.par x (List.of_mem_zip hy).1).imp id fun y => ⟨y, PySem.W.cellsFrom_some _ _ _ (.inl y)⟩
  refine codeAny_call_function room.depth (kin _ _ lk) rfl S.co S.gen rfl (PySem.W.codeRec_of kin hc) (bi _ _ _ _ (wpAny_newFunctionEnv_cells S.kind kinds fun env he s2 y => ?_)); subst he
  refine ⟨nol.keeps y.toInCall.keep, codeAny_func ?_⟩; obtain ⟨t, ht, hq⟩ := hb A out s H vs Q E z cz (room.deeper _) hs
  refine wpAny_mono (ht.run [] s2 (start N vs) H _ (inv_startH S pz e0 lv rv y) hq) (fun fl s3 z => ?_) fun _ _ z => z
  cases fl with
  | brk => exact (z.elim fun _ z => z.elim fun _ z => z.2).elim
  | cont => exact (z.elim fun _ z => z.elim fun _ z => z.2).elim
  | next => obtain ⟨σ2, H2, J, q⟩ := z; exact ⟨V.non, H2, J.os, J.bare, J.base, J.hok, rfl, q⟩
  | ret u => obtain ⟨v, σ2, H2, J, ru, q⟩ := z; exact ⟨v, H2, J.os, J.bare, J.base, J.hok, ru, q⟩
section
variable {X : Cx} {k : Nat} {f a : Addr} {oe : Obj} {cls : Value} {d : Option Addr} {pn : List (Addr × Obj)} {fd : FuncData} {ps : List Str} {sp : Addr → Sp} {x : Str} {p pos : Pos} {e : Expr} {es : List Expr} {t : TA}
theorem pe_callT (hz : Zc cls d oe) (F : FnT X.prog X.w X.K X.mg X.base k f fd ps cls sp) (room : RoomH k X.A) (gl : Gl (X.suite a ((a, oe) :: pn)) x) (hm : X.mg x = some (.ref f)) (kp : PySem.W.keepIn X.K (.ref f) = true) (hb : Binds X.K fd ps []) (ha : PA (X.suite a ((a, oe) :: pn)) (e :: es) t)
    (h1 : (x == ("__debug__" : Str)) = false := by decide) (h2 : starEach (e :: es) X.env = (false, eval e X.env) :: starEach es X.env := by rfl) (h3 : (backTo pos (starEach es X.env)).any (·.1) = false := by rfl) :
    PE (X.suite a ((a, oe) :: pn)) (.Call (.Name x p) (e :: es) [] pos) (tCall (sp a) [] E0 t) := by
  constructor
  intro pins s σ H Q I h
  refine wpAny_Call_Name_kw (ld_glob I gl hm (PySem.W.callWith_K (h₀ := X.base) I.ok.mod.kin kp (thn (ha.run pos pins s σ H _ I h) fun us s1 z => ?_) h2 h3) h1)
  obtain ⟨vs, H1, I1, rv, q⟩ := z
  rw [List.append_nil] at q
  have hl : (us ++ []).length = ps.length := by rw [List.append_nil]; exact rv.length.symm.trans (F.ln _ _ _ _ _ q)
  have bnd := hb s1 us I1.kIn hl
  rw [List.append_nil] at bnd
  obtain ⟨g1, g2, g3, g4, g5⟩ := I1.pin (a, oe) (List.mem_append_left _ List.mem_cons_self)
  have pz : PinOk X.stack H1 s1 (a, oe) := ⟨g1, g2, fun hm => (List.mem_cons.mp (I1.stkSub a hm)).elim g3 g4, g5⟩
  refine ⟨I1.kIn, wpAny_call (codeAny_mono (F.go (X.suite a ((a, oe) :: pn)).A X.stack s1 H1 ⟨us, []⟩ us vs Q E0 (a, oe) ⟨room.dp, room.un⟩ pz hz.1 I1.env0 bnd rv q) fun r s' hq => ?_)⟩
  match r, hq with
  | .error er, hq => exact hq.elim
  | .ok (.ret u), hq => exact I1.after hq
end
end Fv

namespace Fv
open PySem PySem.Spec PyProof.Rows L2 L2H Evl StX
section
variable {X : Cx} {a : Addr} {oe : Obj} {cls : Value}
/-- isinstance(e, c), e an object of the class cls that is kept in mind: yes -/
theorem c_isP {K : PySem.W.Frag} (hm : (a, oe) ∈ X.pn) (hz : oe.cls = cls) (h : X.K = K := by rfl) : CallR X (.builtin "isinstance") (rIsY K cls a) := by
  subst h
  intro pins s σ H xs us Q I r q0
  obtain ⟨c, cv, rfl, hc, e, q⟩ := q0
  obtain ⟨u0, u1, rfl, ra, rc⟩ : ∃ u0 u1, us = [u0, u1] ∧ RelV (.ref a) u0 ∧ RelV c u1 := by
    cases r with
    | cons r1 r2 =>
      cases r2 with
      | cons r3 r4 => cases r4; exact ⟨_, _, rfl, r1, r3⟩
  obtain rfl : u0 = Value.ref a := ra
  obtain rfl := hc _ rc
  have got := (I.pin (a, oe) (List.mem_append_left _ hm)).1
  refine call_isinstance (S := fun _ R s => (X.K.In s.heap ∧ s.heap.get? a = some oe) ∧ ∀ tk, R (.ok (.ret (.bool true))) { s with toks := tk })
    (fun prog w A R s hs => isinstance_outer (isi_yes (Pz := fun h => h.get? a = some oe) (fun M h kin z => fun A Q E s k q => wpAny_typeOf_ref (k _ _ z) (by rw [hz]; exact q)) e 0 _ prog w A R s hs) (fun z => nomatch z)) ⟨⟨I.kIn, got⟩, fun tk => ⟨.bl true, H, I.tok tk, rfl, q⟩⟩
end
/-! ### try: body, except c as n: .., except d as n: .. where one of the clauses names what flies -/
def wAsL (K : PySem.W.Frag) (i : Nat) (D : Ends) : List (Value × (Addr → Value → Option Addr → TS)) → WX
  | [] => fun _ _ _ _ => False
  | (c, ts) :: r => fun cls d σ H => ∃ b, PySem.W.exmOne K cls c = some b ∧
      (b = true → ∀ a, H a = none → ts a cls d { nx := fun σ2 H2 => D.nx (σ2.set i none) H2, rt := D.rt, bk := fun σ2 H2 => D.bk (σ2.set i none) H2, ct := fun σ2 H2 => D.ct (σ2.set i none) H2 } (σ.set i (some (.ref a))) H) ∧ (b = false → wAsL K i D r cls d σ H)
inductive AsL (X : Cx) (n : Str) : List ExceptHandler → List (Value × (Addr → Value → Option Addr → TS)) → Prop
  | nil : AsL X n [] []
  | cons {y : Str} {c : Value} {ts : Addr → Value → Option Addr → TS} {s0 : Stmt} {ss : List Stmt} {p1 p2 : Pos} {hds : List ExceptHandler} {l : List (Value × (Addr → Value → Option Addr → TS))} (nm : Names X y c)
      (su : ∀ (a : Addr) (oe : Obj) (cls : Value) (d : Option Addr) (pn : List (Addr × Obj)), Zc cls d oe → (∃ vs, oe.data = .fields vs) → PSs (X.suite a ((a, oe) :: pn)) (s0 :: ss) (ts a cls d)) (r : AsL X n hds l) : AsL X n (.ExceptHandler (some (.Name y p1)) (some n) (s0 :: ss) p2 :: hds) ((c, ts) :: l)
section
variable {X : Cx} {n : Str} {i : Nat} {body : List Stmt} {h0 : ExceptHandler} {hds : List ExceptHandler} {l : List (Value × (Addr → Value → Option Addr → TS))} {pos : Pos} {tb : WX → TS}
theorem ps_try_asL (stk : X.stack = X.env :: X.outer) (fr : X.env.frame = some X.env.locals) (nd : X.N.Nodup) (ni : X.N[i]? = some n) (nl : X.env.kindOf n = some .local)
    (hb : ∀ (W : WX) (pn : List (Addr × Obj)) (xe : Value → Shared → Prop), Takes (X.tr pn xe) W → PassesOwn (model X.prog X.w) X.A X.env xe → PSs (X.tr pn xe) body (tb W)) (hh : AsL X n (h0 :: hds) l) :
    PS X (.Try body (h0 :: hds) [] [] pos) (fun D σ H => tb (wAsL X.K i D l) D σ H) := by
  constructor
  intro pins s σ H D I q0
  have ok := I.ok
  have frs0 : X.A.frames = some (X.env :: X.outer) := by rw [ok.frames, stk]
  have loc0 : Loc X.env.scope n := .inl nl
  apply wpAny_Try_except
  have fall : Takes (X.tr (X.pn ++ pins) (fun e t1 => wpAny (model X.prog X.w) X.A (noteFrame e X.env) (fun _ t2 => wpAny (model X.prog X.w) X.A (setFlight e none) (fun _ t3 => wpAny (model X.prog X.w) X.A (handleBy e X.env (h0 :: hds)) (SP X pins D) X.xe t3) X.xe t2) X.xe t1)) (wAsL X.K i D l) := by
    intro u s2 fly
    obtain ⟨a, B, sI, ps2, σ2, H2, cls, d, rfl, J0, keepB, up0, sky, free, os2, bare2, wish⟩ := fly
    have J : Inv X pins σ2 H2 sI := J0.ofTry ok
    rw [show (X.tr (X.pn ++ pins) _).stack = X.stack from rfl, stk] at sky
    show wpAny (model X.prog X.w) X.A (noteFrame (.ref a) X.env) _ _ _
    refine Sky.land Zc.steady frs0 fr sky fun g fg ug => ?_
    have Jg : Inv X pins σ2 H2 { s2 with heap := g } := J.landed keepB fg.1 (up0.trans ug) os2 bare2
    obtain ⟨og, vg, eg, zg, dg⟩ := fg.there
    have off : a ∉ frs (X.env :: X.outer) := fun m => by
      obtain ⟨_, o3, e3, nf⟩ := fg.2.2.1.mem m
      rw [eg] at e3; cases e3
      exact nf _ dg
    have offL : a ≠ X.env.locals := fun z => off (List.mem_filterMap.mpr ⟨X.env, List.mem_cons_self, by rw [fr, z]⟩)
    have offF : a ∉ X.fs := fun m => by
      obtain ⟨v, hv, z⟩ := List.mem_filterMap.mp m
      exact off (List.mem_filterMap.mpr ⟨v, List.mem_cons_of_mem _ hv, z⟩)
    have Sg := Jg.suite eg dg free offL offF
    have clauses : ∀ {hs2 : List ExceptHandler} {l2 : List (Value × (Addr → Value → Option Addr → TS))}, AsL X n hs2 l2 → wAsL X.K i D l2 cls d σ2 H2 → wpAny (model X.prog X.w) X.A (handleBy (.ref a) X.env hs2) (SP X pins D) X.xe { s2 with heap := g } := by
      intro hs2 l2 hk
      induction hk with
      | nil => exact fun z => z.elim
      | @cons y c ts s0 ss p1 p2 hds3 l3 nm su r ih =>
        rintro ⟨b, eb, yes, no⟩
        refine wpAny_handleBy_cons (codeAny_handlers_test ?_) (by intro z; cases z)
        have kind : PySem.W.Looks (model X.prog X.w) g (typeOf (.ref a)) cls := fun _ _ _ _ k z => wpAny_typeOf_ref (k _ _ eg) (by rw [zg.1]; exact z)
        have named : ∀ {Q2 : Value → Shared → Prop} {E2 : Value → Shared → Prop}, Q2 c { s2 with heap := g } → wpAny (model X.prog X.w) (X.A.mark (some (.ref a))) (eval (.Name y p1) X.env) Q2 E2 { s2 with heap := g } := fun {_ _} z => by
          obtain ⟨n1, n2, n3 | ⟨n3, n4, n5⟩⟩ := nm
          · exact ld_glob (X := X.suite a ((a, og) :: (X.pn ++ pins))) Sg n1 n3 z n2
          · exact ld_blt (X := X.suite a ((a, og) :: (X.pn ++ pins))) Sg n1 n3 n4 z n5 n2
        refine named ((PySem.W.exm_one (M := model X.prog X.w) Jg.kIn kind eb).here ?_)
        cases b with
        | false => exact ih (no rfl)
        | true =>
          refine codeAny_handlers_suite_as (HandSPX.lands_againZ fg fun g2 fg2 ug2 => ?_)
          have J2 : Inv X pins σ2 H2 { s2 with heap := g2 } := J.landed keepB fg2.1 ((up0.trans ug).trans ug2) os2 bare2
          obtain ⟨o2, v2, e2, z2, d2⟩ := fg2.there
          refine store_ok (X := X.suite a ((a, o2) :: (X.pn ++ pins))) (v := .ref a) (J2.suite e2 d2 free offL offF) nd ni loc0 rfl (fun s3 S3 => ?_) (.inr nl)
          refine wpAny_mono ((su a o2 cls d (X.pn ++ pins) z2 ⟨_, d2⟩).run [] s3 _ H2 _ S3 (yes rfl a free)) (fun fl s4 z => ?_) fun _ _ z => z.elim
          have gone : ∀ {σ4 : L2.St} {H4 : Hp} {Q4 : Shared → Prop}, Inv (X.suite a ((a, o2) :: (X.pn ++ pins))) [] σ4 H4 s4 → (∀ s5, Inv X pins (σ4.set i none) H4 s5 → Q4 s5) →
              wpAny (model X.prog X.w) X.A (do bindName X.env n .none; unbindBehindTheSuite X.env n p2) (fun _ s5 => Q4 s5) X.xe s4 := fun {_ _ _} S4 k => gone_ok (S4.unsuite ok) nd ni nl k
          cases fl with
          | next => obtain ⟨σ4, H4, S4, k⟩ := z; exact gone S4 fun _ J5 => ⟨_, _, J5, k⟩
          | brk => obtain ⟨σ4, H4, S4, k⟩ := z; exact gone S4 fun _ J5 => ⟨_, _, J5, k⟩
          | cont => obtain ⟨σ4, H4, S4, k⟩ := z; exact gone S4 fun _ J5 => ⟨_, _, J5, k⟩
          | ret u => obtain ⟨v4, σ4, H4, S4, r4, k⟩ := z; exact gone S4 fun _ J5 => ⟨_, _, _, J5, r4, k⟩
    exact clauses hh wish
  refine wpAny_mono ((hb _ _ _ fall PassesOwn.looking).run [] s σ H D (I.toTry _) q0) (fun fl s2 z => ?_) fun _ _ z => z
  cases fl with
  | next => obtain ⟨σ2, H2, J2, k⟩ := z; exact wpAny_execs_nil ⟨σ2, H2, J2.ofTry ok, k⟩
  | brk => obtain ⟨σ2, H2, J2, k⟩ := z; exact ⟨σ2, H2, J2.ofTry ok, k⟩
  | cont => obtain ⟨σ2, H2, J2, k⟩ := z; exact ⟨σ2, H2, J2.ofTry ok, k⟩
  | ret u => obtain ⟨v2, σ2, H2, J2, r2, k⟩ := z; exact ⟨v2, σ2, H2, J2.ofTry ok, r2, k⟩
end
end Fv

/-! a list of one's own, written in place -/
namespace Fv
open PySem PySem.Spec PyProof.Rows L2 Evl StX
section
variable {K : PySem.W.Frag} {pt : Option Pt} {σ : L2.St} {F F' F0 H0 H : Hp} {te ti ta tb : TE} {ts tr : TA} {t u : TT} {R R1 : PD} {d e z : PyData} {D : Ends} {tz tu tw : TS} {l : Addr} {ls : List PyData}
theorem RpAll.set : ∀ {ds : List PyData} {vs : List V} (j : Nat) {v : V} {d : PyData}, RpAll K F vs ds → Rp K F v d → RpAll K F (vs.set j v) (ds.set j d)
  | [], _, j, v, d, h, _ => by cases h; cases j <;> exact .nil
  | _ :: _, _, 0, v, d, h, hv => by
    cases h with
    | cons h1 h2 => exact .cons hv h2
  | _ :: _, _, j + 1, v, d, h, hv => by
    cases h with
    | cons h1 h2 => exact .cons h1 (RpAll.set j h2 hv)
theorem Gst.set (g0 : Good pt F0 H0) (h0 : H0 l = none) (g : Gst K pt F0 H0 l F H ls) {v : V} (j : Nat) (hv : Rp K F v d) : ∃ acc, H l = some (.lst acc) ∧ acc.length = ls.length ∧ Gst K pt F0 H0 l F (upd H l (.lst (acc.set j v))) (ls.set j d) := by
  obtain ⟨acc, e, r⟩ := g.ex
  exact ⟨acc, e, r.length, g.step.put g0 h0 g.off, g.off, _, upd_same, RpAll.set j r hv⟩
/-- x[i] = e -/
theorem t_setG {i j : Nat} (g0 : Good pt F0 H0) (h0 : H0 l = none) (g : Gst K pt F0 H0 l F H ls) (hi : σ[i]? = some (some (.ref l))) (h : EvG K pt te σ F R) (hj : EvG K pt ti σ F (Is (.int (j : Int)))) (lt : j < ls.length)
    (q : ∀ d F2 H2, R d → Gst K pt F0 H0 l F2 H2 (ls.set j d) → Ex F F2 → D.nx σ H2) : tAsg te (gSub (tVar i) ti rSetL) D σ H :=
  h H g.step.inn g.step.good _ fun d v F2 H2 hd s hv => ⟨.ref l, hi, hj.mono s.sub H2 s.inn s.good _ fun d2 v2 F3 H3 hd2 s3 hv2 => by
    subst hd2
    obtain rfl := rp_int hv2
    obtain ⟨acc, e2, hlen, g2⟩ := ((g.run g0 h0 s).run g0 h0 s3).set g0 h0 j (Rp.mono s3.sub _ _ hv)
    exact ⟨l, acc, (j : Int), j, rfl, rfl, e2, ixN_nat (by rw [hlen]; exact lt), q d F3 _ hd g2 (s.sub.trans s3.sub)⟩⟩
/-- if b and x[i] is None -/
theorem t_ifOwn {a i c j : Nat} {b : Bool} (g : Gst K pt F0 H0 l F H ls) (ha : σ[a]? = some (some (.bl b))) (hi : σ[i]? = some (some (.ref l))) (hc : σ[c]? = some (some (.int (j : Int)))) (hd : ls[j]? = some d) (h1 : (b && isNone d) = true → tu D σ H) (h2 : (b && isNone d) = false → tw D σ H) :
    tIfS (tAnd (tB (tVar a)) (tTest (tOp (fun x y H Q => y = .non ∧ Q (.bl (decide (x = .non))) H) (tOp (rIxL K) (tVar i) (tVar c)) (tC .non)))) tu tw D σ H := by
  refine ⟨.bl b, ha, b, rfl, ?_⟩
  cases b with
  | false => exact h2 rfl
  | true =>
    obtain ⟨acc, e, r⟩ := g.ex
    have hl : j < acc.length := by
      rw [r.length]; exact (List.getElem?_eq_some_iff.mp hd).1
    obtain ⟨d', hd', hr⟩ := r.get (List.getElem?_eq_getElem hl)
    rw [hd] at hd'
    obtain rfl := Option.some.inj hd'
    refine ⟨.ref l, hi, .int (j : Int), hc, ⟨l, acc, (j : Int), acc[j], rfl, rfl, sq_of e, atI_nat (List.getElem?_eq_getElem hl), rfl, ?_⟩⟩
    refine ⟨_, rfl, ?_⟩
    rw [rp_isN hr]
    cases hn : isNone d with
    | true => exact h1 (by rw [hn]; rfl)
    | false => exact h2 (by rw [hn]; rfl)
/-- x = list(e) -/
theorem t_listG {i : Nat} {ds : List PyData} {src : PyData} (s : Step pt F0 H0 F H) (hs : src = .list ds ∨ src = .tuple ds) (h : EvG K pt te σ F (Is src)) (q : ∀ l F2 H2, H0 l = none → Gst K pt F0 H0 l F2 H2 ds → Ex F F2 → tz D (σ.set i (some (.ref l))) H2) :
    tSeq (tAsg (tCB (rList K) (tCons te tNil)) (gName i)) tz D σ H := h H s.inn s.good _ fun d v F2 H2 hd s2 hv => by
  subst hd
  have sq : ∃ a xs, v = .ref a ∧ (SqL K H2 a xs ∨ SqT K H2 a xs) ∧ RpAll K F2 xs ds := by
    rcases hs with rfl | rfl
    · obtain ⟨a, xs, e, h1, h2⟩ := rp_lst hv
      exact ⟨a, xs, e, .inl (SqL.of (s2.inn _ _ h1)), h2⟩
    · obtain ⟨a, xs, e, h1, h2⟩ := rp_tup hv
      exact ⟨a, xs, e, .inr (tx s2.inn h1), h2⟩
  obtain ⟨a, xs, rfl, hq, hxs⟩ := sq
  refine ⟨a, xs, rfl, hq, fun l hl => ?_⟩
  have st := s.trans s2
  have f : F2 l = none := by
    cases e : F2 l with
    | none => rfl
    | some o => rw [s2.inn _ _ e] at hl; cases hl
  have h0 : H0 l = none := st.back l hl
  exact q l F2 _ h0 ⟨st.trans (.litter s2.inn s2.good hl), f, xs, upd_same, hxs⟩ s2.sub
end
end Fv

/-! an empty dict among data; lists of things of a kind -/
namespace Fv
open PySem PySem.Spec PyProof.Rows L2 Evl StX
section
variable {K : PySem.W.Frag} {pt : Option Pt} {σ : L2.St} {F F' F0 H0 H : Hp} {te ti ta tb : TE} {ts tr : TA} {d : PyData} {D : Ends} {tz : TS}
/-- isinstance({}, (list, tuple)) -/
theorem g_isi2D {i : Nat} {a : Addr} (h0 : σ[i]? = some (some (.ref a))) (hd : F a = some (.dK [])) : EvG K pt (tCB (rIsiT K) (tCons (tVar i) (tCons (tTup (tCons (tC (.ty "list")) (tCons (tC (.ty "tuple")) tNil))) tNil))) σ F (Is (.bool false)) := fun H1 e g Q q => by
  refine ⟨_, h0, sz_of (by show 2 ≤ 100000; decide), fun p hp => ?_⟩
  have s3 : Step pt F H1 (upd F p (.tup [.ty "list", .ty "tuple"])) (upd H1 p (.tup [.ty "list", .ty "tuple"])) := .laid e g hp
  have k1 : kitB "dict" "list" = some false := by decide +kernel
  have k2 : kitB "dict" "tuple" = some false := by decide +kernel
  refine ⟨_, p, _, _, [.type "list", .type "tuple"], false, rfl, upd_same, .cons (.ty "list") (.cons (.ty "tuple") .nil), .base (.dK (s3.inn _ _ (s3.sub _ _ hd))), ?_, q _ _ _ _ rfl s3 (.bl false)⟩
  exact kitAny_cons (kit_ty k1) (fun _ => kitAny_cons (kit_ty k2) (fun _ => kitAny_nil) (fun z => by cases z)) fun z => by cases z
/-- a kind of things that stays so -/
def Kept (Φ : V → Hp → Prop) : Prop := ∀ v F F', Ex F F' → Φ v F → Φ v F'
def EvsX (pt : Option Pt) (ts : TA) (σ : L2.St) (F : Hp) (Φ : V → Hp → Prop) (k : Nat) : Prop :=
  ∀ H1, Ex F H1 → Good pt F H1 → ∀ Q : List V → Hp → Prop, (∀ vs F2 H2, vs.length = k → (∀ v ∈ vs, Φ v F2) → Step pt F H1 F2 H2 → Q vs H2) → ts σ H1 Q
variable {Φ : V → Hp → Prop}
theorem x_of {R : PD} (h : EvG K pt te σ F R) (hR : ∀ v d F', R d → Rp K F' v d → Φ v F') : EvX pt te σ F Φ := fun H1 e g Q q => h H1 e g _ fun d v F2 H2 hd s hv => q v F2 H2 (hR v d F2 hd hv) s
theorem xs_nil : EvsX pt tNil σ F Φ 0 := fun H1 e g Q q => q [] F H1 rfl (fun v hv => by cases hv) (.refl e g)
theorem xs_cons {k : Nat} (hk : Kept Φ) (h : EvX pt te σ F Φ) (h2 : ∀ F', Ex F F' → EvsX pt tr σ F' Φ k) : EvsX pt (tCons te tr) σ F Φ (k + 1) := fun H1 e g Q q =>
  h H1 e g _ fun v F2 H2 hv s => h2 F2 s.sub H2 s.inn s.good _ fun vs F3 H3 hl ha s3 => q (v :: vs) F3 H3 (by rw [List.length_cons, hl]) (fun x hx => by
    rcases List.mem_cons.mp hx with z | z
    · rw [z]; exact hk _ _ _ s3.sub hv
    · exact ha x z) (s.trans s3)
/-- {} -/
theorem x_dict0 (hΦ : ∀ a F', F' a = some (.dK []) → Φ (.ref a) F') : EvX pt tDNewK σ F Φ := fun H1 e g Q q p hp => q (.ref p) _ _ (hΦ p _ upd_same) (.laid e g hp)
/-- one of a written list, at a drawn place -/
theorem x_pick {k : Nat} {c : Int} (hk : Kept Φ) (hz : k ≤ 1000) (h : EvsX pt ts σ F Φ k) (hb : ∀ F', Ex F F' → EvG K pt tb σ F' (fun d => ∃ j : Int, d = .int j ∧ 0 ≤ j ∧ j < c)) (hc : c ≤ (k : Int)) : EvX pt (tOp (rIxL K) (tLst ts) tb) σ F Φ := fun H1 e g Q q =>
  h H1 e g _ fun vs F2 H2 hl ha s => ⟨by rw [hl]; exact sz_of (Nat.le_trans hz (by decide)), fun p hp => by
    have s3 : Step pt F2 H2 (upd F2 p (.lst vs)) (upd H2 p (.lst vs)) := .laid s.inn s.good hp
    have st := s.trans s3
    refine hb _ st.sub _ st.inn st.good _ fun d v F4 H4 ⟨j, hd, j0, j1⟩ s4 hv => ?_
    subst hd
    obtain rfl := rp_int hv
    obtain ⟨i, rfl⟩ : ∃ i : Nat, j = (i : Int) := ⟨j.toNat, by omega⟩
    have hi : i < vs.length := by omega
    exact ⟨p, vs, (i : Int), vs[i], rfl, rfl, sq_of (s4.inn _ _ (s4.sub _ _ upd_same)), atI_nat (List.getElem?_eq_getElem hi), q _ F4 H4 (hk _ _ _ (s3.sub.trans s4.sub) (ha _ (List.getElem_mem hi))) (st.trans s4)⟩⟩
end
end Fv

/-! tests beside a list of one's own; parts -/
namespace Fv
open PySem PySem.Spec PyProof.Rows L2 Evl StX
section
variable {K : PySem.W.Frag} {pt : Option Pt} {σ : L2.St} {F F' F0 H0 H : Hp} {te ti ta tb : TE} {ts tr : TA} {t : TT} {d : PyData} {D : Ends} {tz tu tw : TS} {l : Addr} {ls : List PyData}
theorem t_if1G {b : Bool} (g0 : Good pt F0 H0) (h0 : H0 l = none) (g : Gst K pt F0 H0 l F H ls) (h : EtG pt t σ F (· = b)) (h1 : b = true → ∀ F2 H2, Gst K pt F0 H0 l F2 H2 ls → Ex F F2 → tu D σ H2) (h2 : b = false → ∀ F2 H2, Gst K pt F0 H0 l F2 H2 ls → Ex F F2 → tw D σ H2) : tIfS t tu tw D σ H :=
  h H g.step.inn g.step.good _ fun c F2 H2 hc s2 => by
    subst hc
    cases c with
    | true => exact h1 rfl F2 H2 (g.run g0 h0 s2) s2.sub
    | false => exact h2 rfl F2 H2 (g.run g0 h0 s2) s2.sub
theorem t_ifGJ {b : Bool} (J : L2.St → Hp → Prop) (g0 : Good pt F0 H0) (h0 : H0 l = none) (g : Gst K pt F0 H0 l F H ls) (h : EtG pt t σ F (· = b))
    (h1 : b = true → ∀ F2 H2, Gst K pt F0 H0 l F2 H2 ls → Ex F F2 → ∀ N : L2.St → Hp → Prop, (∀ σ3 F3 H3, J σ3 F3 → Step pt F0 H0 F3 H3 → Ex F F3 → N σ3 H3) → tu { D with nx := N } σ H2)
    (h2 : b = false → ∀ F2 H2, Gst K pt F0 H0 l F2 H2 ls → Ex F F2 → ∀ N : L2.St → Hp → Prop, (∀ σ3 F3 H3, J σ3 F3 → Step pt F0 H0 F3 H3 → Ex F F3 → N σ3 H3) → tw { D with nx := N } σ H2)
    (hj : ∀ σ3 F3 H3, J σ3 F3 → Step pt F0 H0 F3 H3 → Ex F F3 → tz D σ3 H3) : tSeq (tIfS t tu tw) tz D σ H :=
  t_if1G (D := { D with nx := tz D }) g0 h0 g h (fun e F2 H2 a b => h1 e F2 H2 a b _ hj) fun e F2 H2 a b => h2 e F2 H2 a b _ hj
theorem cut_to (xs : List V) (k : Nat) : cutV xs (some 0) (some (k : Int)) = xs.take k := by
  unfold cutV
  rw [show HT.sIx xs.length 0 (some (0 : Int)) = 0 by have := HT.sIx_nat xs.length 0 0; simpa using this, HT.sIx_nat, List.drop_zero, Nat.sub_zero]
  by_cases z : k ≤ xs.length
  · rw [Nat.min_eq_left z]
  · rw [Nat.min_eq_right (by omega), List.take_of_length_le (Nat.le_refl _), List.take_of_length_le (by omega)]
/-- xs[0:k] -/
theorem g_sl0 {ds : List PyData} {k : Nat} (h : EvG K pt te σ F (Is (.list ds))) (hk : EvG K pt ti σ F (Is (.int (k : Int)))) : EvG K pt (tSl (rSlL K) te (tPart (tC (.int 0))) (tPart ti)) σ F (Is (.list (ds.take k))) := fun H1 e g Q q =>
  h H1 e g _ fun d v F2 H2 hd s hv => by
    subst hd
    refine ⟨0, rfl, hk.mono s.sub H2 s.inn s.good _ fun d2 v2 F3 H3 hd2 s2 hv2 => ?_⟩
    subst hd2
    obtain rfl := rp_int hv2
    refine ⟨(k : Int), rfl, ?_⟩
    obtain ⟨a, xs, rfl, hl, ha⟩ := rp_lst hv
    refine ⟨a, xs, rfl, SqL.of (s2.inn _ _ (s2.sub _ _ hl)), fun p hp => ?_⟩
    rw [cut_to]
    have s3 : Step pt F3 H3 (upd F3 p (.lst (xs.take k))) (upd H3 p (.lst (xs.take k))) := .laid s2.inn s2.good hp
    exact q _ _ _ _ rfl ((s.trans s2).trans s3) (.lst upd_same (RpAll.mono (s2.sub.trans s3.sub) _ _ (RpAll.take k ha)))
/-- a part of a written text -/
theorem g_slTxt {x : Str} {k : Int} (hx : x.length ≤ 1000) (hk : EvG K pt ti σ F (Is (.int k))) : EvG K pt (tSl L2.rSlS (tC (.str x)) (tPart (tC (.int 0))) (tPart ti)) σ F (fun d => ∃ y, d = .str y) := fun H1 e g Q q => by
  refine ⟨0, rfl, hk H1 e g _ fun d2 v2 F3 H3 hd2 s2 hv2 => ?_⟩
  subst hd2
  obtain rfl := rp_int hv2
  exact ⟨k, rfl, x, rfl, Nat.le_trans hx (by decide), q _ _ F3 H3 ⟨_, rfl⟩ s2 (.str _)⟩
end
end Fv

/-! a list of one's own out of a comprehension; promises that may let an error out -/
namespace Fv
open PySem PySem.Spec PyProof.Rows L2 Evl StX
section
variable {K : PySem.W.Frag} {pt : Option Pt} {σ : L2.St} {F F' F0 H0 H : Hp} {te ti ta tb : TE} {ts tr : TA} {t : TT} {R : PD} {d : PyData} {D : Ends} {tz tu tw : TS} {wi : TI} {l : Addr} {ls : List PyData}
/-- x = [e for y in ..], x written in place later -/
theorem t_lcG {i j : Nat} {vs : List Nat} {ds : List PyData} (f : PyData → PyData) (s : Step pt F0 H0 F H) (hw : WiG K pt wi σ F (· = ds)) (hz : ds.length ≤ 50000) (hwp : ∀ x, wipe ((wipe σ vs).set j (some x)) vs = wipe σ vs)
    (he : ∀ d ∈ ds, ∀ F', Ex F F' → ∀ x, Rp K F' x d → EvG K pt te ((wipe σ vs).set j (some x)) F' (Is (f d)))
    (q : ∀ l F2 H2, H0 l = none → Gst K pt F0 H0 l F2 H2 (ds.map f) → Ex F F2 → tz D (σ.set i (some (.ref l))) H2) : tSeq (tAsg (tLc wi (gName j) tYes te vs) (gName i)) tz D σ H :=
  hw H s.inn s.good _ fun ds' J F1 H1 eds s1 Y => fun Dl hD => by
    subst eds
    have gi := s1.inn
    have gg := s1.good
    refine ⟨fun k m H2 => m = ds'.length - k ∧ k ≤ ds'.length ∧ Grow K pt F1 H1 Dl (fun l => l = (ds'.take k).map f) H2, ⟨ds'.length, by simp, Nat.zero_le _, .start gi gg hD (by simp)⟩, ?_⟩
    rintro k m H2 ⟨rfl, hk, w⟩
    obtain ⟨F2, l2, acc, s2, off, e2, r2, a2⟩ := id w
    have eH : Ex F1 H2 := s2.sub.trans s2.inn
    by_cases lt : k < ds'.length
    · refine .inr ⟨Y.go k H2 eH lt, Grow K pt F1 H1 Dl (fun l => l = (ds'.take (k + 1)).map f), fun H3 p3 => ⟨ds'.length - (k + 1), by omega, rfl, lt, p3⟩, fun x H3 y => ?_⟩
      obtain ⟨rfl, d, hd, hx⟩ := Y.yld k H2 x H3 eH lt y
      refine ⟨hwp x, w.turn gg hD (fun l' a' => by rw [a', List.length_map, List.length_take]; omega) (· = true) (fun _ _ => et_yes) (fun _ F4 e4 => he d (List.mem_of_getElem? hd) F4 (s1.sub.trans e4) x (Rp.mono e4 _ _ hx)) (fun _ l' x' a' ex => ?_) (fun z => by cases z)⟩
      rw [take_succ hd, List.map_append, a', show x' = f d from ex]; rfl
    · have hE : k = ds'.length := Nat.le_antisymm hk (Nat.le_of_not_lt lt)
      subst hE
      refine .inl ⟨Y.stop H2 eH, ?_⟩
      rw [List.take_length] at a2
      subst a2
      exact q Dl F2 H2 ((s.trans s1).back Dl hD) ⟨(s.trans s1).trans s2, off, acc, e2, r2⟩ (s1.sub.trans s2.sub)
/-- a test beside the list, which stays one's own -/
theorem t_ifGG {b : Bool} (J : L2.St → Hp → List PyData → Prop) (g0 : Good pt F0 H0) (h0 : H0 l = none) (g : Gst K pt F0 H0 l F H ls) (h : EtG pt t σ F (· = b))
    (h1 : b = true → ∀ F2 H2, Gst K pt F0 H0 l F2 H2 ls → Ex F F2 → ∀ N : L2.St → Hp → Prop, (∀ σ3 F3 H3 ls3, J σ3 F3 ls3 → Gst K pt F0 H0 l F3 H3 ls3 → Ex F F3 → N σ3 H3) → tu { D with nx := N } σ H2)
    (h2 : b = false → ∀ F2 H2, Gst K pt F0 H0 l F2 H2 ls → Ex F F2 → ∀ N : L2.St → Hp → Prop, (∀ σ3 F3 H3 ls3, J σ3 F3 ls3 → Gst K pt F0 H0 l F3 H3 ls3 → Ex F F3 → N σ3 H3) → tw { D with nx := N } σ H2)
    (hj : ∀ σ3 F3 H3 ls3, J σ3 F3 ls3 → Gst K pt F0 H0 l F3 H3 ls3 → Ex F F3 → tz D σ3 H3) : tSeq (tIfS t tu tw) tz D σ H :=
  t_if1G (D := { D with nx := tz D }) g0 h0 g h (fun e F2 H2 a b => h1 e F2 H2 a b _ hj) fun e F2 H2 a b => h2 e F2 H2 a b _ hj
/-- x[i] = e, e told where the list stands -/
theorem t_setH {i j : Nat} (g0 : Good pt F0 H0) (h0 : H0 l = none) (g : Gst K pt F0 H0 l F H ls) (hi : σ[i]? = some (some (.ref l))) (h : ∀ Q : VK, (∀ d v F2 H2, R d → Step pt F H F2 H2 → Rp K F2 v d → Q v H2) → te σ H Q) (hj : EvG K pt ti σ F (Is (.int (j : Int)))) (lt : j < ls.length)
    (q : ∀ d F2 H2, R d → Gst K pt F0 H0 l F2 H2 (ls.set j d) → Ex F F2 → D.nx σ H2) : tAsg te (gSub (tVar i) ti rSetL) D σ H :=
  h _ fun d v F2 H2 hd s hv => ⟨.ref l, hi, hj.mono s.sub H2 s.inn s.good _ fun d2 v2 F3 H3 hd2 s3 hv2 => by
    subst hd2
    obtain rfl := rp_int hv2
    obtain ⟨acc, e2, hlen, g2⟩ := ((g.run g0 h0 s).run g0 h0 s3).set g0 h0 j (Rp.mono s3.sub _ _ hv)
    exact ⟨l, acc, (j : Int), j, rfl, rfl, e2, ixN_nat (by rw [hlen]; exact lt), q d F3 _ hd g2 (s.sub.trans s3.sub)⟩⟩
/-- [x, own[i]][e], e drawn below 2 -/
theorem g_pickOwn {a o : Nat} {p : Int} {x y : PyData} {v : V} (g0 : Good pt F0 H0) (h0 : H0 l = none) (g : Gst K pt F0 H0 l F H ls) (ha : σ[a]? = some (some v)) (hv : Rp K F v x) (ho : σ[o]? = some (some (.ref l))) (hc : EvG K pt ti σ F (Is (.int p))) (pure : ∀ Q : VK, Q (.int p) H → ti σ H Q) (hy : atI ls p = some y)
    (hb : ∀ F', Ex F F' → EvG K pt tb σ F' (fun d => ∃ k : Int, d = .int k ∧ 0 ≤ k ∧ k < 2)) :
    ∀ Q : VK, (∀ d v F2 H2, (d = x ∨ d = y) → Step pt F H F2 H2 → Rp K F2 v d → Q v H2) → tOp (rIxL K) (tLst (tCons (tVar a) (tCons (tOp (rIxL K) (tVar o) ti) tNil))) tb σ H Q := fun Q q => by
  obtain ⟨acc, e, r⟩ := g.ex
  unfold atI at hy
  cases hx : ixN ls.length p with
  | none => rw [hx] at hy; cases hy
  | some j =>
    rw [hx] at hy
    have hyj : ls[j]? = some y := hy
    have hjl : j < acc.length := by rw [r.length]; exact (List.getElem?_eq_some_iff.mp hyj).1
    obtain ⟨y', hy', hr⟩ := r.get (List.getElem?_eq_getElem hjl)
    rw [hyj] at hy'
    obtain rfl := Option.some.inj hy'
    refine ⟨v, ha, .ref l, ho, pure _ ⟨l, acc, p, acc[j], rfl, rfl, sq_of e, by unfold atI; rw [r.length, hx]; exact List.getElem?_eq_getElem hjl, ?_⟩⟩
    refine ⟨sz_of (by simp), fun pp hp => ?_⟩
    have s3 : Step pt F H (upd F pp (.lst [v, acc[j]])) (upd H pp (.lst [v, acc[j]])) := .laid g.step.inn g.step.good hp
    refine hb _ s3.sub _ s3.inn s3.good _ fun d2 v2 F4 H4 ⟨k, hk, k0, k1⟩ s4 hv2 => ?_
    subst hk
    obtain rfl := rp_int hv2
    have up := s3.sub.trans s4.sub
    have hl4 : SqL K H4 pp [v, acc[j]] := sq_of (s4.inn _ _ (s4.sub _ _ upd_same))
    have : k = 0 ∨ k = 1 := by omega
    rcases this with rfl | rfl
    · exact ⟨pp, _, 0, v, rfl, rfl, hl4, rfl, q _ _ F4 H4 (.inl rfl) (s3.trans s4) (Rp.mono up _ _ hv)⟩
    · exact ⟨pp, _, 1, acc[j], rfl, rfl, hl4, rfl, q _ _ F4 H4 (.inr rfl) (s3.trans s4) (Rp.mono up _ _ hr)⟩
end
/-- a promise that lets nothing out is one that may -/
theorem FnOk.up {P : Program} {w : World} {K : PySem.W.Frag} {mg : Str → Option Value} {base : Heap} {CX : CXT} {j k : Nat} {f : Addr} {fd : FuncData} {ps : List Str} {sp : Sp} (h : FnOk P w K mg base CX0 j f fd ps sp) (hk : j ≤ k) : FnOk P w K mg base CX k f fd ps sp :=
  ⟨h.len, fun A out s H as us vs Q E r e0 b rv hs => codeAny_mono (h.run A out s H as us vs Q E (r.mono hk) e0 b rv hs) fun r s' hq => match r, hq with
    | .error _, hq => hq.elim
    | .ok (.ret _), hq => hq⟩
end Fv

/-! expressions that read a list of one's own, told where it stands -/
namespace Fv
open PySem PySem.Spec PyProof.Rows L2 Evl StX
def EvAt (K : PySem.W.Frag) (pt : Option Pt) (te : TE) (σ : L2.St) (F H : Hp) (R : PD) : Prop := ∀ Q : VK, (∀ d v F2 H2, R d → Step pt F H F2 H2 → Rp K F2 v d → Q v H2) → te σ H Q
def EvsAt (K : PySem.W.Frag) (pt : Option Pt) (ts : TA) (σ : L2.St) (F H : Hp) (R : List PyData → Prop) : Prop := ∀ Q : List V → Hp → Prop, (∀ ds vs F2 H2, R ds → Step pt F H F2 H2 → RpAll K F2 vs ds → Q vs H2) → ts σ H Q
section
variable {K : PySem.W.Frag} {pt : Option Pt} {σ : L2.St} {F F' F0 H0 H : Hp} {te ti ta tb : TE} {ts tr : TA} {R : PD} {d : PyData} {D : Ends} {tz : TS} {l : Addr} {ls ds : List PyData}
theorem at_tupOwn {o : Nat} (g : Gst K pt F0 H0 l F H ls) (ho : σ[o]? = some (some (.ref l))) : EvAt K pt (tCB (rTup K) (tCons (tVar o) tNil)) σ F H (Is (.tuple ls)) := fun Q q => by
  obtain ⟨acc, e, r⟩ := g.ex
  exact ⟨.ref l, ho, l, acc, rfl, .inl ⟨sq_of e, fun p hp => q _ (.ref p) _ _ rfl (.laid g.step.inn g.step.good hp) (.tup upd_same (RpAll.mono (Step.laid g.step.inn g.step.good hp (o := .tup acc)).sub _ _ r))⟩⟩
theorem at_cons (h : EvAt K pt te σ F H (Is d)) (h2 : ∀ F', Ex F F' → EvsG K pt tr σ F' (· = ds)) : EvsAt K pt (tCons te tr) σ F H (· = d :: ds) := fun Q q => h _ fun d' v F2 H2 hd s hv => by
  subst hd
  exact h2 F2 s.sub H2 s.inn s.good _ fun ds' vs F3 H3 hd3 s3 hvs => q _ (v :: vs) F3 H3 (by rw [show ds' = ds from hd3]) (s.trans s3) (.cons (Rp.mono s3.sub _ _ hv) hvs)
theorem at_consI {i : Int} (hg : Ex F H) (gd : Good pt F H) (h : EvsAt K pt tr σ F H (· = ds)) : EvsAt K pt (tCons (tC (.int i)) tr) σ F H (· = .int i :: ds) := fun Q q => h _ fun ds' vs F2 H2 hd s hvs => q _ (.int i :: vs) F2 H2 (by rw [show ds' = ds from hd]) s (.cons (.int i) hvs)
theorem at_one (h : EvAt K pt te σ F H (Is d)) : EvsAt K pt (tCons te tNil) σ F H (· = [d]) := at_cons h fun F' e => gs_nil
theorem at_tup (h : EvsAt K pt ts σ F H (· = ds)) (hz : ds.length ≤ 1000) : EvAt K pt (tTup ts) σ F H (Is (.tuple ds)) := fun Q q => h _ fun ds' vs F2 H2 hd s hvs => by
  have hd' : ds' = ds := hd
  subst hd'
  exact ⟨by rw [hvs.length]; exact sz_of (Nat.le_trans hz (by decide)), fun p hp => by
    have s3 : Step pt F2 H2 (upd F2 p (.tup vs)) (upd H2 p (.tup vs)) := .laid s.inn s.good hp
    exact q _ _ _ _ rfl (s.trans s3) (.tup upd_same (RpAll.mono s3.sub _ _ hvs))⟩
theorem t_asgAt {i : Nat} (g0 : Good pt F0 H0) (h0 : H0 l = none) (g : Gst K pt F0 H0 l F H ls) (h : EvAt K pt te σ F H R) (q : ∀ d v F2 H2, R d → Gst K pt F0 H0 l F2 H2 ls → Ex F F2 → Rp K F2 v d → tz D (σ.set i (some v)) H2) : tSeq (tAsg te (gName i)) tz D σ H :=
  h _ fun d v F2 H2 hd s hv => q d v F2 H2 hd (g.run g0 h0 s) s.sub hv
/-- an ordinary statement beside the list -/
theorem t_asgG {i : Nat} (g0 : Good pt F0 H0) (h0 : H0 l = none) (g : Gst K pt F0 H0 l F H ls) (h : EvG K pt te σ F R) (q : ∀ d v F2 H2, R d → Gst K pt F0 H0 l F2 H2 ls → Ex F F2 → Rp K F2 v d → tz D (σ.set i (some v)) H2) : tSeq (tAsg te (gName i)) tz D σ H :=
  t_asgAt g0 h0 g (fun Q k => h H g.step.inn g.step.good Q k) q
theorem t_asgG1 {i : Nat} (g0 : Good pt F0 H0) (h0 : H0 l = none) (g : Gst K pt F0 H0 l F H ls) (h : EvG K pt te σ F R) (q : ∀ d v F2 H2, R d → Gst K pt F0 H0 l F2 H2 ls → Ex F F2 → Rp K F2 v d → D.nx (σ.set i (some v)) H2) : tAsg te (gName i) D σ H :=
  h H g.step.inn g.step.good _ fun d v F2 H2 hd s hv => q d v F2 H2 hd (g.run g0 h0 s) s.sub hv
end
end Fv

/-! an error of one's own class whose maker stores nothing -/
namespace Fv
open PySem PySem.Spec PyProof.Rows L2 Evl StX
section
variable {X : Cx}
theorem made_none {pins : List (Addr × Obj)} {σ : L2.St} {H1 H2 : Hp} {Q : XK} {hp hp2 h2 : Heap} {g1 g2 : Array GenState} {d1 d2 : Drawn} {t1 t2 : Nat} {os1 os2 : OsState} {a C : Addr} (T : Raises X (.ref C)) (I1 : Inv X pins σ H1 ⟨hp, g1, d1, t1, os1⟩)
    (above : hp.objs.size ≤ a) (kp : ∀ b o, hp.get? b = some o → hp2.get? b = some o) (un : Un (frs X.stack) [] (upd H1 a (exo a C none)) H2 hp2 h2) (hok : HOk X.prog X.w H2 h2) (ho : os2 = os1) (bare : AllBare g2)
    (ea : H2 a = some (exo a C none)) (q : Q (.ref C) none (L2.del H2 a)) : MkP X pins σ Q (.ref a) ⟨h2, g2, d2, t2, os2⟩ := by
  obtain ⟨t0, hoe⟩ := exo_at hok ea
  have fresh : H1 a = none := I1.hok.fresh above
  obtain ⟨G, gs, gone⟩ := restrict h2 fun b => decide (b ≠ a)
  have same : ∀ b, b ≠ a → G.get? b = h2.get? b := fun b hb => gs b (decide_eq_true hb)
  have ga : G.get? a = none := gone a (by simp)
  have off : ∀ {b : Addr} {o : Obj}, hp.get? b = some o → b ≠ a := fun {b o} z => Nat.ne_of_lt (Nat.lt_of_lt_of_le (Heap.lt_size z) above)
  have laid : ∀ {b : Addr}, b ≠ a → H1 b = none → upd H1 a (exo a C none) b = none := fun {b} hb n => by rw [upd_ne hb]; exact n
  have U : Un (frs X.stack) [] H1 (L2.del H2 a) hp G :=
    { keep := fun b o z n hf _ => (same b (off z)).trans (un.keep b o (kp b o z) (laid (off z) n) hf (by simp))
      slot := fun b o z n hf _ => by
        rw [same b (off z)]
        exact un.slot b o (kp b o z) (laid (off z) n) hf (by simp)
      free := fun b o z n _ => (L2.del_ne (off z)).trans (un.free b o (kp b o z) (laid (off z) n) (by simp))
      there := fun b o z _ => by
        rw [same b (off z)]
        exact un.there b o (kp b o z) (by simp)
      tups := fun b xs z => (L2.del_ne (ne_of_none z fresh)).trans (un.tups b xs ((upd_ne (ne_of_none z fresh)).trans z))
      frzs := fun b o v z => (L2.del_ne (ne_of_none z fresh)).trans (un.frzs b o v ((upd_ne (ne_of_none z fresh)).trans z))
      tbls := fun b ps z => by
        rw [L2.del_ne (ne_of_none z fresh)]
        exact un.tbls b ps ((upd_ne (ne_of_none z fresh)).trans z) }
  have ok3 : HOk X.prog X.w (L2.del H2 a) G := fun b o z => by
    have hba : b ≠ a := fun e => by rw [e, L2.del_same] at z; cases z
    rw [L2.del_ne hba] at z
    have noa : ∀ {c : Addr}, H2 c = some (.own b) → c ≠ a := fun {c} hc => at_ne ea hc exo_own
    refine (hok b o z).stay (fun c v hc y => ?_) (fun c hc => (L2.del_ne (noa hc)).trans hc) fun c xs hc => (L2.del_ne (at_ne ea hc exo_tup)).trans hc
    rw [same c (hc.elim (fun e => e ▸ hba) fun e => noa e)]
    exact y
  have J : Inv X pins σ (L2.del H2 a) ⟨G, g2, d2, t2, os2⟩ := I1.call' (ch := []) ho U ok3 bare (fun b z => absurd z (by simp))
  refine ⟨a, _, _, ⟨G, g2, d2, t2, os2⟩, _, .ref C, none, rfl, J, fun b o z => ?_, ga, hoe, ⟨rfl, rfl⟩, rfl, rfl, L2.del_same, rfl, bare, T, q⟩
  by_cases hba : b = a
  · rw [hba, ga] at z; cases z
  · exact (same b hba).symm.trans z
/-- C() that stores nothing, made to be raised -/
def tMk0 (C : Addr) (sp : Sp) : L2.St → Hp → XK → Prop := fun _ H Q => ∀ a, H a = none → sp [.ref a] (upd H a (exo a C none)) (fun v H2 => v = .non ∧ H2 a = some (exo a C none) ∧ Q (.ref C) none (L2.del H2 a)) (fun _ _ _ => False)
theorem pmk_oex0 {CX : CXT} {x : Str} {C fI : Addr} {k : Nat} {fd : FuncData} {ps : List Str} {sp : Sp} {p pos : Pos} (T : OexC X.K C) (iC : PySem.W.findIn X.K (.ref C) "__init__" = some (some (.ref fI))) (tI : PySem.W.typeIn X.K (.ref fI) = some (.type "function"))
    (F1 : FnOk X.prog X.w X.K X.mg X.base CX k fI fd ps sp) (hr : Room (k + 1) X.A) (hb : Binds X.K fd ps []) (hx : Passes CX X (fun _ _ _ => False)) (hg : Gl X x) (hm : X.mg x = some (.ref C)) (hdb : (x == ("__debug__" : Str)) = false := by decide) :
    PMk X (.Call (.Name x p) [] [] pos) (tMk0 C sp) := by
  intro pins s σ H Q I h
  obtain ⟨nm, qq, N, bs, bm, sn, sub, ab, col, dd, k0, k1, k2, k3, k5, hC, hbm⟩ := T.cls
  refine wpAny_Call_Name_kw (ld_glob I hg hm ?_ hdb)
  refine PySem.W.callWith_K0 I.kIn T.kC ?_
  show wpAny _ _ (call (.ref C) []) _ _ _
  obtain ⟨hp, g, dr, tk, os⟩ := s
  have lo : hp.objs.size ≤ hp.objs.size + 1 := Nat.le_succ _
  have q0 := h (hp.objs.size + 1) (I.hok.fresh lo)
  have kk : ∀ b o, hp.get? b = some o → ((hp.push (PySem.W.kdv_tup [])).push (PySem.HandSPX.excO C hp.objs.size)).get? b = some o := fun b o e => Heap.get?_push_of_some _ (Heap.get?_push_of_some _ e)
  have got : ((hp.push (PySem.W.kdv_tup [])).push (PySem.HandSPX.excO C hp.objs.size)).get? (hp.objs.size + 1) = some (PySem.HandSPX.excO C hp.objs.size) := by heap_get
  have J : Inv X pins σ (upd H (hp.objs.size + 1) (exo (hp.objs.size + 1) C none)) ⟨(hp.push (PySem.W.kdv_tup [])).push (PySem.HandSPX.excO C hp.objs.size), g, dr, tk, os⟩ :=
    I.laid (t' := tk) (a := hp.objs.size + 1) (o := exo (hp.objs.size + 1) C none) (h' := (hp.push (PySem.W.kdv_tup [])).push (PySem.HandSPX.excO C hp.objs.size)) kk lo (exo_ok got)
  have rv : Vals [V.ref (hp.objs.size + 1)] [Value.ref (hp.objs.size + 1)] := .cons rfl .nil
  have ln : ([Value.ref (hp.objs.size + 1)] : List Value).length = ps.length := by
    rw [← F1.len _ _ _ _ q0]; rfl
  refine wpAny_call (PySem.HandSPX.call_own F.excBase_ValueError (fun Y => PySem.HandSPX.refsVE_contains Y bm hbm) (I.kIn _ _ hC) (PySem.W.looks_findIn I.kIn iC) (fun self => PySem.W.bind_fn I.kIn self tI) (by decide)
    (codeAny_mono (F1.run _ X.stack _ _ ⟨[Value.ref (hp.objs.size + 1)], []⟩ [Value.ref (hp.objs.size + 1)] _ _ (fun _ _ _ => False) (hr.make C [] []) (J.env0.make C [] []) (hb _ [Value.ref (hp.objs.size + 1)] J.kIn (by simpa using ln)) rv q0) fun r s2 z => ?_))
  match r, z with
  | .error er, z => exact hx pins σ _ _ er s2 J z
  | .ok (.ret u), z =>
    obtain ⟨v, H2, os2, bare2, un2, hok2, rv2, ev, ea, q2⟩ := z
    subst ev
    obtain ⟨h2, g2, d2, t2, os'⟩ := s2
    exact ⟨rv2, made_none (raises_own T.exC T.tyC) I lo kk un2 hok2 os2 bare2 ea q2⟩
end
end Fv

/-! a list of one's own, read for a while as if it were fixed -/
namespace Fv
open PySem PySem.Spec PyProof.Rows L2 Evl StX
section
variable {K : PySem.W.Frag} {pt : Option Pt} {σ : L2.St} {F F' F0 H0 H : Hp} {te ti ta tb : TE} {ts tr : TA} {t : TT} {R : PD} {d : PyData} {D : Ends} {tz : TS} {wi : TI} {l : Addr} {ls : List PyData}
theorem Gst.fix (g0 : Good pt F0 H0) (h0 : H0 l = none) (g : Gst K pt F0 H0 l F H ls) : ∃ Fp, Ex F Fp ∧ Ex Fp H ∧ Good pt Fp H ∧ Rp K Fp (.ref l) (.list ls) ∧ ∀ F2 H2, Step pt Fp H F2 H2 →
    ∃ F3, Gst K pt F0 H0 l F3 H2 ls ∧ Ex F F3 ∧ (∀ v ns, Rp K F2 v (dT ns) → Rp K F3 v (dT ns)) ∧ ∀ v i, Rp K F2 v (.int i) → v = .int i := by
  obtain ⟨acc, e, r⟩ := id g.ex
  obtain ⟨Fp, sp, ep, rp⟩ := g.done g0 h0
  refine ⟨Fp, ep, sp.inn, sp.good, rp, fun F2 H2 s => ?_⟩
  have st := sp.trans s
  obtain ⟨acc2, e2, hl2⟩ : ∃ acc2, F2 l = some (.lst acc2) ∧ acc2 = acc := by
    obtain ⟨a, xs, ea, hx, _⟩ := rp_lst rp
    cases ea
    have h1 := sp.inn _ _ hx
    rw [e] at h1
    exact ⟨xs, s.sub _ _ hx, by cases h1; rfl⟩
  subst hl2
  have keepF : Ex F (L2.del F2 l) := fun a o h => by
    have z : a ≠ l := fun z => by rw [z, g.off] at h; cases h
    rw [L2.del_ne z]; exact s.sub _ _ (ep _ _ h)
  refine ⟨L2.del F2 l, ⟨⟨g.step.sub.trans keepF, fun a o h => ?_, st.keep, fun q hq => ⟨?_, (st.good q hq).2⟩, fun a h1 h2 => ?_⟩, L2.del_same, acc2, s.inn _ _ e2, RpAll.mono keepF _ _ r⟩, keepF, fun v ns hv => ?_, fun v i hv => rp_int hv⟩
  · by_cases z : a = l
    · rw [z, L2.del_same] at h; cases h
    · rw [L2.del_ne z] at h; exact s.inn _ _ h
  · by_cases z : q.p = l
    · rw [z, L2.del_same]
    · rw [L2.del_ne z]; exact (st.good q hq).1
  · by_cases z : a = l
    · rw [z, L2.del_same]
    · rw [L2.del_ne z]; exact st.new a h1 h2
  · obtain ⟨a, xs, rfl, hx, ha⟩ := rp_tup hv
    have e3 := rpAll_ints ha
    subst e3
    have z : a ≠ l := fun z => by rw [z, e2] at hx; cases hx
    exact .tup (by rw [L2.del_ne z]; exact hx) (rpAll_of_ints ns)
/-- x = e, where e reads the list and is flat -/
theorem t_asgFix {i : Nat} {ns : List Int} (g0 : Good pt F0 H0) (h0 : H0 l = none) (g : Gst K pt F0 H0 l F H ls) (h : ∀ Fp, Ex F Fp → Rp K Fp (.ref l) (.list ls) → EvG K pt te σ Fp (Is (dT ns))) (q : ∀ v F2 H2, Gst K pt F0 H0 l F2 H2 ls → Ex F F2 → Rp K F2 v (dT ns) → tz D (σ.set i (some v)) H2) : tSeq (tAsg te (gName i)) tz D σ H := by
  obtain ⟨Fp, e1, e2, gd, r, back⟩ := g.fix g0 h0
  exact h Fp e1 r H e2 gd _ fun d v F2 H2 hd s hv => by
    obtain ⟨F3, g3, e3, b1, _⟩ := back F2 H2 s
    exact q v F3 H2 g3 e3 (b1 v ns (by rw [← show d = dT ns from hd]; exact hv))
/-- x = [e for y in ..], e drawn -/
theorem t_lcGR {i j : Nat} {vs : List Nat} {Re : PD} (s : Step pt F0 H0 F H) {RS : List PyData → Prop} (hw : WiG K pt wi σ F RS) (hz : ∀ ds, RS ds → ds.length ≤ 50000) (hwp : ∀ x, wipe ((wipe σ vs).set j (some x)) vs = wipe σ vs)
    (he : ∀ F', Ex F F' → ∀ x, EvG K pt te ((wipe σ vs).set j (some x)) F' Re)
    (q : ∀ l F2 H2 ls ds, H0 l = none → RS ds → ls.length = ds.length → (∀ d ∈ ls, Re d) → Gst K pt F0 H0 l F2 H2 ls → Ex F F2 → tz D (σ.set i (some (.ref l))) H2) : tSeq (tAsg (tLc wi (gName j) tYes te vs) (gName i)) tz D σ H :=
  hw H s.inn s.good _ fun ds' J F1 H1 hds s1 Y => fun Dl hD => by
    have gi := s1.inn
    have gg := s1.good
    have few := hz ds' hds
    refine ⟨fun k m H2 => m = ds'.length - k ∧ k ≤ ds'.length ∧ Grow K pt F1 H1 Dl (fun l => l.length = k ∧ ∀ d ∈ l, Re d) H2, ⟨ds'.length, by simp, Nat.zero_le _, .start gi gg hD ⟨rfl, fun d hd => by cases hd⟩⟩, ?_⟩
    rintro k m H2 ⟨rfl, hk, w⟩
    obtain ⟨F2, l2, acc, s2, off, e2, r2, a2⟩ := id w
    have eH : Ex F1 H2 := s2.sub.trans s2.inn
    by_cases lt : k < ds'.length
    · refine .inr ⟨Y.go k H2 eH lt, Grow K pt F1 H1 Dl (fun l => l.length = k + 1 ∧ ∀ d ∈ l, Re d), fun H3 p3 => ⟨ds'.length - (k + 1), by omega, rfl, lt, p3⟩, fun x H3 y => ?_⟩
      obtain ⟨rfl, d, hd, hx⟩ := Y.yld k H2 x H3 eH lt y
      refine ⟨hwp x, w.turn gg hD (fun l' a' => by rw [a'.1]; omega) (· = true) (fun _ _ => et_yes) (fun _ F4 e4 => he F4 (s1.sub.trans e4) x) (fun _ l' x' a' ex => ⟨by rw [List.length_append, a'.1]; rfl, fun d hd => ?_⟩) (fun z => by cases z)⟩
      rcases List.mem_append.mp hd with z | z
      · exact a'.2 d z
      · rw [List.mem_singleton.mp z]; exact ex
    · have hE : k = ds'.length := Nat.le_antisymm hk (Nat.le_of_not_lt lt)
      subst hE
      exact .inl ⟨Y.stop H2 eH, q Dl F2 H2 l2 ds' ((s.trans s1).back Dl hD) hds a2.1 a2.2 ⟨(s.trans s1).trans s2, off, acc, e2, r2⟩ (s1.sub.trans s2.sub)⟩
theorem RpAll.insert {ds : List PyData} {vs : List V} {v : V} (j : Nat) (h : RpAll K F vs ds) (hv : Rp K F v d) : RpAll K F (vs.take j ++ [v] ++ vs.drop j) (ds.take j ++ [d] ++ ds.drop j) := by
  have drop : ∀ {ds : List PyData} {vs : List V} (i : Nat), RpAll K F vs ds → RpAll K F (vs.drop i) (ds.drop i) := by
    intro ds
    induction ds with
    | nil => intro vs i h; cases h; simp; exact .nil
    | cons d ds ih =>
      intro vs i h
      cases h with
      | cons h1 h2 =>
        cases i with
        | zero => exact .cons h1 h2
        | succ i => exact ih i h2
  exact RpAll.append (RpAll.append (RpAll.take j h) (.one hv)) (drop j h)
end
end Fv

namespace Fv
open PySem PySem.Spec PyProof.Rows L2 Evl StX
abbrev rInsG : V → List V → Hp → VK → Prop := fun x vs H Q => ∃ (a : Addr) (ys : List V) (j : Int) (z : V), x = .ref a ∧ vs = [.int j, z] ∧ H a = some (.lst ys) ∧ ys.length < sizeLine ∧ 0 ≤ j ∧ j < 2 ^ 63 ∧ Q .non (upd H a (.lst (ys.take j.toNat ++ [z] ++ ys.drop j.toNat)))
section
variable {K : PySem.W.Frag} {pt : Option Pt} {σ : L2.St} {F F' F0 H0 H : Hp} {te : TE} {d : PyData} {D : Ends} {l : Addr} {ls : List PyData} {wi : TI} {RS RS2 : List PyData → Prop}
theorem WiG.imp (h : WiG K pt wi σ F RS) (hi : ∀ ds, RS ds → RS2 ds) : WiG K pt wi σ F RS2 := fun H1 e g RR q => h H1 e g RR fun ds J F2 H2 hr s Y => q ds J F2 H2 (hi ds hr) s Y
theorem et_any (h : EvG K pt te σ F (fun d => ∃ b, d = .bool b)) : EtG pt (tTest te) σ F (fun _ => True) := fun H1 e g Q q => h H1 e g _ fun d v F2 H2 ⟨b, hd⟩ s hv => by
  subst hd
  exact ⟨b, rp_bool hv, q b F2 H2 trivial s⟩
theorem t_ifGN {t : TT} {tu tw tz : TS} (J : L2.St → Hp → Prop) (g0 : Good pt F0 H0) (h0 : H0 l = none) (g : Gst K pt F0 H0 l F H ls) (h : EtG pt t σ F (fun _ => True))
    (h1 : ∀ F2 H2, Gst K pt F0 H0 l F2 H2 ls → Ex F F2 → ∀ N : L2.St → Hp → Prop, (∀ σ3 F3 H3, J σ3 F3 → Step pt F0 H0 F3 H3 → Ex F F3 → N σ3 H3) → tu { D with nx := N } σ H2)
    (h2 : ∀ F2 H2, Gst K pt F0 H0 l F2 H2 ls → Ex F F2 → ∀ N : L2.St → Hp → Prop, (∀ σ3 F3 H3, J σ3 F3 → Step pt F0 H0 F3 H3 → Ex F F3 → N σ3 H3) → tw { D with nx := N } σ H2)
    (hj : ∀ σ3 F3 H3, J σ3 F3 → Step pt F0 H0 F3 H3 → Ex F F3 → tz D σ3 H3) : tSeq (tIfS t tu tw) tz D σ H :=
  h H g.step.inn g.step.good _ fun c F2 H2 _ s2 => by
    cases c with
    | true => exact h1 F2 H2 (g.run g0 h0 s2) s2.sub _ hj
    | false => exact h2 F2 H2 (g.run g0 h0 s2) s2.sub _ hj
/-- x.insert(e, y) -/
theorem t_insG {i c : Nat} {v : V} (g0 : Good pt F0 H0) (h0 : H0 l = none) (g : Gst K pt F0 H0 l F H ls) (hi : σ[i]? = some (some (.ref l))) (hc : σ[c]? = some (some v)) (hv : Rp K F v d)
    (h : ∀ Fp, Ex F Fp → Rp K Fp (.ref l) (.list ls) → EvG K pt te σ Fp (fun x => ∃ j : Int, x = .int j ∧ 0 ≤ j ∧ j < 1000)) (few : ls.length < 100000)
    (q : ∀ j F2 H2, Gst K pt F0 H0 l F2 H2 (ls.take j ++ [d] ++ ls.drop j) → Ex F F2 → D.nx σ H2) : tDrop (tBM K "list" rInsG (tVar i) (tCons te (tCons (tVar c) tNil))) D σ H := by
  obtain ⟨acc, e, r⟩ := id g.ex
  obtain ⟨Fp, e1, e2, gd, rp, back⟩ := g.fix g0 h0
  refine ⟨.ref l, hi, .inl ⟨rfl, acc, sq_of e⟩, h Fp e1 rp H e2 gd _ fun x u F2 H2 ⟨j, hj, j0, j1⟩ s hu => ?_⟩
  subst hj
  obtain rfl := rp_int hu
  obtain ⟨F3, g3, e3, _, _⟩ := back F2 H2 s
  obtain ⟨acc3, a3, r3⟩ := id g3.ex
  exact ⟨v, hc, l, acc3, j, v, rfl, rfl, a3, sz_lt (by rw [r3.length]; exact few), j0, by omega, q j.toNat F3 _ ⟨g3.step.put g0 h0 g3.off, g3.off, _, upd_same, RpAll.insert j.toNat r3 (Rp.mono e3 _ _ hv)⟩ e3⟩
end
end Fv

/-! the same, where its context is told to be None -/
namespace Fv
open PySem PySem.Spec PyProof.Rows L2 Evl StX
section
variable {X : Cx}
theorem made_noneN {pins : List (Addr × Obj)} {σ : L2.St} {H1 H2 : Hp} {Q : XK} {hp hp2 h2 : Heap} {g1 g2 : Array GenState} {d1 d2 : Drawn} {t1 t2 : Nat} {os1 os2 : OsState} {a C : Addr} (T : Raises X (.ref C)) (I1 : Inv X pins σ H1 ⟨hp, g1, d1, t1, os1⟩)
    (above : hp.objs.size ≤ a) (kp : ∀ b o, hp.get? b = some o → hp2.get? b = some o) (un : Un (frs X.stack) [] (upd H1 a (exo a C none)) H2 hp2 h2) (hok : HOk X.prog X.w H2 h2) (ho : os2 = os1) (bare : AllBare g2)
    (ea : H2 a = some (exo a C none)) (q : Q (.ref C) none (L2.del H2 a)) : L2N.MkP X pins σ Q (.ref a) ⟨h2, g2, d2, t2, os2⟩ := by
  obtain ⟨t0, hoe⟩ := exo_at hok ea
  have fresh : H1 a = none := I1.hok.fresh above
  obtain ⟨G, gs, gone⟩ := restrict h2 fun b => decide (b ≠ a)
  have same : ∀ b, b ≠ a → G.get? b = h2.get? b := fun b hb => gs b (decide_eq_true hb)
  have ga : G.get? a = none := gone a (by simp)
  have off : ∀ {b : Addr} {o : Obj}, hp.get? b = some o → b ≠ a := fun {b o} z => Nat.ne_of_lt (Nat.lt_of_lt_of_le (Heap.lt_size z) above)
  have laid : ∀ {b : Addr}, b ≠ a → H1 b = none → upd H1 a (exo a C none) b = none := fun {b} hb n => by rw [upd_ne hb]; exact n
  have U : Un (frs X.stack) [] H1 (L2.del H2 a) hp G :=
    { keep := fun b o z n hf _ => (same b (off z)).trans (un.keep b o (kp b o z) (laid (off z) n) hf (by simp))
      slot := fun b o z n hf _ => by
        rw [same b (off z)]
        exact un.slot b o (kp b o z) (laid (off z) n) hf (by simp)
      free := fun b o z n _ => (L2.del_ne (off z)).trans (un.free b o (kp b o z) (laid (off z) n) (by simp))
      there := fun b o z _ => by
        rw [same b (off z)]
        exact un.there b o (kp b o z) (by simp)
      tups := fun b xs z => (L2.del_ne (ne_of_none z fresh)).trans (un.tups b xs ((upd_ne (ne_of_none z fresh)).trans z))
      frzs := fun b o v z => (L2.del_ne (ne_of_none z fresh)).trans (un.frzs b o v ((upd_ne (ne_of_none z fresh)).trans z))
      tbls := fun b ps z => by
        rw [L2.del_ne (ne_of_none z fresh)]
        exact un.tbls b ps ((upd_ne (ne_of_none z fresh)).trans z) }
  have ok3 : HOk X.prog X.w (L2.del H2 a) G := fun b o z => by
    have hba : b ≠ a := fun e => by rw [e, L2.del_same] at z; cases z
    rw [L2.del_ne hba] at z
    have noa : ∀ {c : Addr}, H2 c = some (.own b) → c ≠ a := fun {c} hc => at_ne ea hc exo_own
    refine (hok b o z).stay (fun c v hc y => ?_) (fun c hc => (L2.del_ne (noa hc)).trans hc) fun c xs hc => (L2.del_ne (at_ne ea hc exo_tup)).trans hc
    rw [same c (hc.elim (fun e => e ▸ hba) fun e => noa e)]
    exact y
  have J : Inv X pins σ (L2.del H2 a) ⟨G, g2, d2, t2, os2⟩ := I1.call' (ch := []) ho U ok3 bare (fun b z => absurd z (by simp))
  refine ⟨a, _, _, ⟨G, g2, d2, t2, os2⟩, _, .ref C, none, rfl, J, fun b o z => ?_, ga, hoe, ⟨rfl, rfl, fun vs z => by cases z; rfl⟩, rfl, rfl, L2.del_same, rfl, bare, T, q⟩
  by_cases hba : b = a
  · rw [hba, ga] at z; cases z
  · exact (same b hba).symm.trans z
theorem pmk_oex0N {CX : CXT} {x : Str} {C fI : Addr} {k : Nat} {fd : FuncData} {ps : List Str} {sp : Sp} {p pos : Pos} (T : OexC X.K C) (iC : PySem.W.findIn X.K (.ref C) "__init__" = some (some (.ref fI))) (tI : PySem.W.typeIn X.K (.ref fI) = some (.type "function"))
    (F1 : FnOk X.prog X.w X.K X.mg X.base CX k fI fd ps sp) (hr : Room (k + 1) X.A) (hb : Binds X.K fd ps []) (hx : Passes CX X (fun _ _ _ => False)) (hg : Gl X x) (hm : X.mg x = some (.ref C)) (hdb : (x == ("__debug__" : Str)) = false := by decide) :
 L2N.PMk X (.Call (.Name x p) [] [] pos) (tMk0 C sp) := by
  intro pins s σ H Q I h
  obtain ⟨nm, qq, N, bs, bm, sn, sub, ab, col, dd, k0, k1, k2, k3, k5, hC, hbm⟩ := T.cls
  refine wpAny_Call_Name_kw (ld_glob I hg hm ?_ hdb)
  refine PySem.W.callWith_K0 I.kIn T.kC ?_
  show wpAny _ _ (call (.ref C) []) _ _ _
  obtain ⟨hp, g, dr, tk, os⟩ := s
  have lo : hp.objs.size ≤ hp.objs.size + 1 := Nat.le_succ _
  have q0 := h (hp.objs.size + 1) (I.hok.fresh lo)
  have kk : ∀ b o, hp.get? b = some o → ((hp.push (PySem.W.kdv_tup [])).push (PySem.HandSPX.excO C hp.objs.size)).get? b = some o := fun b o e => Heap.get?_push_of_some _ (Heap.get?_push_of_some _ e)
  have got : ((hp.push (PySem.W.kdv_tup [])).push (PySem.HandSPX.excO C hp.objs.size)).get? (hp.objs.size + 1) = some (PySem.HandSPX.excO C hp.objs.size) := by heap_get
  have J : Inv X pins σ (upd H (hp.objs.size + 1) (exo (hp.objs.size + 1) C none)) ⟨(hp.push (PySem.W.kdv_tup [])).push (PySem.HandSPX.excO C hp.objs.size), g, dr, tk, os⟩ :=
    I.laid (t' := tk) (a := hp.objs.size + 1) (o := exo (hp.objs.size + 1) C none) (h' := (hp.push (PySem.W.kdv_tup [])).push (PySem.HandSPX.excO C hp.objs.size)) kk lo (exo_ok got)
  have rv : Vals [V.ref (hp.objs.size + 1)] [Value.ref (hp.objs.size + 1)] := .cons rfl .nil
  have ln : ([Value.ref (hp.objs.size + 1)] : List Value).length = ps.length := by
    rw [← F1.len _ _ _ _ q0]; rfl
  refine wpAny_call (PySem.HandSPX.call_own F.excBase_ValueError (fun Y => PySem.HandSPX.refsVE_contains Y bm hbm) (I.kIn _ _ hC) (PySem.W.looks_findIn I.kIn iC) (fun self => PySem.W.bind_fn I.kIn self tI) (by decide)
    (codeAny_mono (F1.run _ X.stack _ _ ⟨[Value.ref (hp.objs.size + 1)], []⟩ [Value.ref (hp.objs.size + 1)] _ _ (fun _ _ _ => False) (hr.make C [] []) (J.env0.make C [] []) (hb _ [Value.ref (hp.objs.size + 1)] J.kIn (by simpa using ln)) rv q0) fun r s2 z => ?_))
  match r, z with
  | .error er, z => exact hx pins σ _ _ er s2 J z
  | .ok (.ret u), z =>
    obtain ⟨v, H2, os2, bare2, un2, hok2, rv2, ev, ea, q2⟩ := z
    subst ev
    obtain ⟨h2, g2, d2, t2, os'⟩ := s2
    exact ⟨rv2, made_noneN (raises_own T.exC T.tyC) I lo kk un2 hok2 os2 bare2 ea q2⟩
end
end Fv

/-! instances made, static methods called, where an error may fly: what is wanted of it knows the slots -/
namespace Fv
open PySem PySem.Spec PyProof.Rows L2 Evl StX
def tMakeS (C : Addr) (sp : Sp) (E : L2.St → XK) (t : TA) : TE := fun σ H Q => t σ H fun vs H1 => ∀ x dx, H1 x = none → H1 dx = none → dx ≠ x → sp (.ref x :: vs) (upd (upd H1 dx (.own x)) x (.ins C dx [])) (fun v H2 => v = .non ∧ Q (.ref x) H2) (E σ)
section
variable {X : Cx} {CX : CXT} {k : Nat} {f C : Addr} {fd : FuncData} {ps : List Str} {sp : Sp} {E : L2.St → XK} {x : Str} {p pos : Pos} {e : Expr} {es : List Expr} {t : TA}
theorem pe_makeS (M : Mk X.K C f) (F : FnOk X.prog X.w X.K X.mg X.base CX k f fd ps sp) (hr : Room (k + 1) X.A) (gl : Gl X x) (hm : X.mg x = some (.ref C)) (hb : Binds X.K fd ps []) (hx : ∀ σ, PassesAt CX X σ (E σ)) (ha : PA X (e :: es) t)
    (h1 : (x == ("__debug__" : Str)) = false := by decide) (h2 : starEach (e :: es) X.env = (false, eval e X.env) :: starEach es X.env := by rfl) (h3 : (backTo pos (starEach es X.env)).any (·.1) = false := by rfl) : PE X (.Call (.Name x p) (e :: es) [] pos) (tMakeS C sp E t) := by
  constructor
  intro pins s σ H Q I h
  refine wpAny_Call_Name_kw (ld_glob I gl hm (PySem.W.callWith_K (h₀ := X.base) I.ok.mod.kin M.kp (thn (ha.run pos pins s σ H _ I h) fun us s1 z => ?_) h2 h3) h1)
  obtain ⟨vs, H1, I1, rv, q⟩ := z
  refine ⟨I1.kIn, ?_⟩
  have q0 := q (s1.heap.objs.size + 1) s1.heap.objs.size (I1.hok.fresh (Nat.le_succ _)) (I1.hok.fresh (Nat.le_refl _)) (Nat.ne_of_lt (Nat.lt_succ_self _))
  have J := Inv.made (C := C) I1
  have r2 : Vals (V.ref (s1.heap.objs.size + 1) :: vs) (Value.ref (s1.heap.objs.size + 1) :: us) := .cons rfl rv
  have hl : (Value.ref (s1.heap.objs.size + 1) :: us ++ []).length = ps.length := by
    rw [List.append_nil, ← F.len _ _ _ _ q0]; exact r2.length.symm
  have bnd := hb _ (Value.ref (s1.heap.objs.size + 1) :: us) J.kIn hl
  rw [List.append_nil] at bnd
  refine wpAny_call (make_map (f := f) I1.kIn M.makes M.init (beq_iff_eq.mp M.fn) (codeAny_mono (F.run _ X.stack _ _ ⟨Value.ref (s1.heap.objs.size + 1) :: us, []⟩ (Value.ref (s1.heap.objs.size + 1) :: us) _ _ (E σ) (hr.make C us []) (J.env0.make C us []) bnd r2 q0) fun r s2 z => ?_))
  match r, z with
  | .error er, z => exact hx σ pins _ _ er s2 J z
  | .ok (.ret u), z =>
    obtain ⟨v, H2, I3, rv3, ev, q3⟩ := J.after z
    subst ev
    exact ⟨rv3, ⟨V.ref (s1.heap.objs.size + 1), H2, I3, rfl, q3⟩⟩
theorem pe_smethS {p g : Addr} {mc : Value} {m : Str} {px apos : Pos} {pl : Sem Bool} (gl : Gl X x) (hm : X.mg x = some (.ref C)) (r : ClX.CRead X.K C mc) (c : SMet X.K C mc m p g) (F : FnOk X.prog X.w X.K X.mg X.base CX k g fd ps sp) (hr : Room k X.A) (hb : Binds X.K fd ps []) (hx : ∀ σ, PassesAt CX X σ (E σ)) (ha : PA X (e :: es) t)
    (h1 : (x == ("__debug__" : Str)) = false := by decide) (h2 : starEach (e :: es) X.env = (false, eval e X.env) :: starEach es X.env := by rfl) (h3 : (backTo pos (starEach es X.env)).any (·.1) = false := by rfl)
    (ht : eval (.Call (.Attribute (.Name x px) m apos) (e :: es) [] pos) X.env = (do
      let ov ← eval (.Name x px) X.env
      standAt apos.atName
      let (f, first) ← holding [ov] (getMethod ov m pl)
      callWith pos f first (backTo pos (starEach (e :: es) X.env)) (backToKw pos (keywordEach [] X.env))) := by rfl) :
    PE X (.Call (.Attribute (.Name x px) m apos) (e :: es) [] pos) (tCallS sp E t) := by
  constructor
  intro pins s σ H Q I q
  obtain ⟨rest, rec_⟩ := c.rc
  refine PySem.W.methodCall_KW (pl := pl) (ld_glob I gl hm (PySem.W.method_cls I.kIn r.ga (PySem.W.cls_bind I.kIn r.rd c.at_ (wpAny_call (PySem.W.sm_get (s := { s with toks := s.toks + 1 }) I.kIn rec_ (PySem.W.handed_on rfl ?_))))) h1) ht
  exact PySem.W.callWith_K (h₀ := X.base) I.ok.mod.kin c.kp (thn (ha.run pos pins _ σ H _ (I.tok (s.toks + 1)) q) fun us s1 ⟨vs, H1, I1, rr, q1⟩ => ⟨I1.kIn, run_fnS F hr hb (hx σ) I1 rr q1⟩) h2 h3
def tMethE (C : Addr) (m : Str) (sp : Sp) (E : L2.St → XK) (ta : TE) (t : TA) : TE := fun σ H Q => ta σ H fun x H1 => ∃ a dx fs, x = .ref a ∧ H1 a = some (.ins C dx fs) ∧ fs.lookup m = none ∧ t σ H1 fun vs H2 => sp (x :: vs) H2 Q (E σ)
theorem pe_methE {m : Str} {o : Expr} {ta : TE} {apos : Pos} {pl : Sem Bool} (he : PE X o ta) (c : Cls X.K C) (hm : Meth X.K C m f) (F : FnOk X.prog X.w X.K X.mg X.base CX k f fd ps sp) (hr : Room k X.A) (hb : Binds X.K fd ps []) (hx : ∀ σ, PassesAt CX X σ (E σ)) (ha : PA X (e :: es) t)
    (h2 : starEach (e :: es) X.env = (false, eval e X.env) :: starEach es X.env := by rfl) (h3 : (backTo pos (starEach es X.env)).any (·.1) = false := by rfl)
    (ht : eval (.Call (.Attribute o m apos) (e :: es) [] pos) X.env = (do
      let ov ← eval o X.env
      standAt apos.atName
      let (f, first) ← holding [ov] (getMethod ov m pl)
      callWith pos f first (backTo pos (starEach (e :: es) X.env)) (backToKw pos (keywordEach [] X.env))) := by rfl) :
    PE X (.Call (.Attribute o m apos) (e :: es) [] pos) (tMethE C m sp E ta t) := by
  constructor
  intro pins s σ H Q I h
  refine PySem.W.methodCall_KW (pl := pl) (thn (he.run pins s σ H _ I h) fun u s1 z => ?_) ht
  obtain ⟨x, H1, I1, rx, a, dx, fs, rfl, ea, l, q⟩ := z
  obtain rfl : u = Value.ref a := rx
  exact getmeth_ok I1 ea c hm l (PySem.W.callWith_K (first := [.ref a]) (h₀ := X.base) I.ok.mod.kin hm.kp (thn (ha.run pos pins s1 σ H1 _ I1 q) fun us s2 ⟨vs, H2, I2, r, q2⟩ => ⟨I2.kIn, run_fnS (us := .ref a :: us) (vs := .ref a :: vs) F hr hb (hx σ) I2 (.cons rfl r) q2⟩) h2 h3)
end
end Fv

/-! more of what reads one's own list where it stands; a list that is known by a property -/
namespace Fv
open PySem PySem.Spec PyProof.Rows L2 Evl StX
section
variable {K : PySem.W.Frag} {pt : Option Pt} {σ : L2.St} {F F' F0 H0 H : Hp} {te ti ta tb : TE} {ts tr : TA} {t : TT} {R R1 R2 : PD} {d e y : PyData} {D : Ends} {tz : TS} {l : Addr} {ls ds : List PyData} {wi : TI} {r : L2.R2}
theorem w_listE {RS : List PyData → Prop} (h : EvG K pt te σ F (fun d => ∃ ds, d = .list ds ∧ RS ds)) : WiG K pt (iList K te) σ F RS := fun H1 i g RR q =>
  h H1 i g _ fun d v F2 H2 hd s hv => by
    obtain ⟨ds, rfl, hds⟩ := hd
    have := w_listI (K := K) (pt := pt) (te := fun _ H Q => Q v H) (σ := σ) (F := F2) (ds := ds) (fun H1 i g Q q => q _ v F2 H1 rfl (.refl i g) hv) H2 s.inn s.good RR fun ds' J F3 H3 hd3 s3 Y => q ds' J F3 H3 (by rw [show ds' = ds from hd3]; exact hds) (s.trans s3) Y
    exact this
theorem t_lcGM {i j : Nat} {vs : List Nat} (f : PyData → PyData) (s : Step pt F0 H0 F H) {RS : List PyData → Prop} (hw : WiG K pt wi σ F RS) (hz : ∀ ds, RS ds → ds.length ≤ 50000) (hwp : ∀ x, wipe ((wipe σ vs).set j (some x)) vs = wipe σ vs)
    (he : ∀ ds, RS ds → ∀ d ∈ ds, ∀ F', Ex F F' → ∀ x, Rp K F' x d → EvG K pt te ((wipe σ vs).set j (some x)) F' (Is (f d)))
    (q : ∀ l F2 H2 ds, H0 l = none → RS ds → Gst K pt F0 H0 l F2 H2 (ds.map f) → Ex F F2 → tz D (σ.set i (some (.ref l))) H2) : tSeq (tAsg (tLc wi (gName j) tYes te vs) (gName i)) tz D σ H :=
  hw H s.inn s.good _ fun ds' J F1 H1 eds s1 Y => fun Dl hD => by
    have gi := s1.inn
    have gg := s1.good
    have few := hz ds' eds
    refine ⟨fun k m H2 => m = ds'.length - k ∧ k ≤ ds'.length ∧ Grow K pt F1 H1 Dl (fun l => l = (ds'.take k).map f) H2, ⟨ds'.length, by simp, Nat.zero_le _, .start gi gg hD (by simp)⟩, ?_⟩
    rintro k m H2 ⟨rfl, hk, w⟩
    obtain ⟨F2, l2, acc, s2, off, e2, r2, a2⟩ := id w
    have eH : Ex F1 H2 := s2.sub.trans s2.inn
    by_cases lt : k < ds'.length
    · refine .inr ⟨Y.go k H2 eH lt, Grow K pt F1 H1 Dl (fun l => l = (ds'.take (k + 1)).map f), fun H3 p3 => ⟨ds'.length - (k + 1), by omega, rfl, lt, p3⟩, fun x H3 y => ?_⟩
      obtain ⟨rfl, d, hd, hx⟩ := Y.yld k H2 x H3 eH lt y
      refine ⟨hwp x, w.turn gg hD (fun l' a' => by rw [a', List.length_map, List.length_take]; omega) (· = true) (fun _ _ => et_yes) (fun _ F4 e4 => he ds' eds d (List.mem_of_getElem? hd) F4 (s1.sub.trans e4) x (Rp.mono e4 _ _ hx)) (fun _ l' x' a' ex => ?_) (fun z => by cases z)⟩
      rw [take_succ hd, List.map_append, a', show x' = f d from ex]; rfl
    · have hE : k = ds'.length := Nat.le_antisymm hk (Nat.le_of_not_lt lt)
      subst hE
      refine .inl ⟨Y.stop H2 eH, ?_⟩
      rw [List.take_length] at a2
      subst a2
      exact q Dl F2 H2 ds' ((s.trans s1).back Dl hD) eds ⟨(s.trans s1).trans s2, off, acc, e2, r2⟩ (s1.sub.trans s2.sub)
/-- x = e, where e reads the list and is a number -/
theorem t_asgFixI {i : Nat} {R : Int → Prop} (g0 : Good pt F0 H0) (h0 : H0 l = none) (g : Gst K pt F0 H0 l F H ls) (h : ∀ Fp, Ex F Fp → Rp K Fp (.ref l) (.list ls) → EvG K pt te σ Fp (fun d => ∃ k, d = .int k ∧ R k)) (q : ∀ k F2 H2, R k → Gst K pt F0 H0 l F2 H2 ls → Ex F F2 → tz D (σ.set i (some (.int k))) H2) : tSeq (tAsg te (gName i)) tz D σ H := by
  obtain ⟨Fp, e1, e2, gd, r, back⟩ := g.fix g0 h0
  exact h Fp e1 r H e2 gd _ fun d v F2 H2 hd s hv => by
    obtain ⟨F3, g3, e3, b1, b2⟩ := back F2 H2 s
    obtain ⟨k, rfl, hk⟩ := hd
    obtain rfl := b2 v k hv
    exact q k F3 H2 hk g3 e3
theorem at_ixOwn {o c j : Nat} (g : Gst K pt F0 H0 l F H ls) (ho : σ[o]? = some (some (.ref l))) (hc : σ[c]? = some (some (.int (j : Int)))) (hy : ls[j]? = some y) : EvAt K pt (tOp (rIxL K) (tVar o) (tVar c)) σ F H (Is y) := fun Q q => by
  obtain ⟨acc, e, r⟩ := g.ex
  have hjl : j < acc.length := by rw [r.length]; exact (List.getElem?_eq_some_iff.mp hy).1
  obtain ⟨y', hy', hr⟩ := r.get (List.getElem?_eq_getElem hjl)
  rw [hy] at hy'
  obtain rfl := Option.some.inj hy'
  exact ⟨.ref l, ho, .int j, hc, l, acc, (j : Int), acc[j], rfl, rfl, sq_of e, by unfold atI; rw [ixN_nat hjl]; exact List.getElem?_eq_getElem hjl, q _ _ F H rfl (.refl g.step.inn g.step.good) hr⟩
theorem at_opR (ha : EvAt K pt ta σ F H R1) (hb : ∀ F', Ex F F' → EvG K pt tb σ F' R2) (hr : ∀ d e, R1 d → R2 e → RvG K r d e R) : EvAt K pt (tOp r ta tb) σ F H R := fun Q q =>
  ha _ fun d v F2 H2 hd s hv => hb F2 s.sub H2 s.inn s.good _ fun e u F3 H3 he s3 hu =>
    hr d e hd he F3 H3 v u s3.inn (Rp.mono s3.sub _ _ hv) hu Q fun z x F4 H4 hz s4 hx => q z x F4 H4 hz ((s.trans s3).trans (s4.lift s3.good)) hx
theorem at_consG (g0 : Good pt F0 H0) (h0 : H0 l = none) (g : Gst K pt F0 H0 l F H ls) (h : EvG K pt te σ F (Is d)) (h2 : ∀ F2 H2, Gst K pt F0 H0 l F2 H2 ls → Ex F F2 → EvsAt K pt tr σ F2 H2 (· = ds)) : EvsAt K pt (tCons te tr) σ F H (· = d :: ds) := fun Q q => h H g.step.inn g.step.good _ fun d' v F2 H2 hd s hv => by
  subst hd
  exact h2 F2 H2 (g.run g0 h0 s) s.sub _ fun ds' vs F3 H3 hd3 s3 hvs => q _ (v :: vs) F3 H3 (by rw [show ds' = ds from hd3]) (s.trans s3) (.cons (Rp.mono s3.sub _ _ hv) hvs)
theorem at_lst (h : EvsAt K pt ts σ F H (· = ds)) (hz : ds.length ≤ 1000) : EvAt K pt (tLst ts) σ F H (Is (.list ds)) := fun Q q => h _ fun ds' vs F2 H2 hd s hvs => by
  have hd' : ds' = ds := hd
  subst hd'
  exact ⟨by rw [hvs.length]; exact sz_of (Nat.le_trans hz (by decide)), fun p hp => by
    have s3 : Step pt F2 H2 (upd F2 p (.lst vs)) (upd H2 p (.lst vs)) := .laid s.inn s.good hp
    exact q _ _ _ _ rfl (s.trans s3) (.lst upd_same (RpAll.mono s3.sub _ _ hvs))⟩
theorem at_pick {c : Int} (ha : EvAt K pt ta σ F H (Is (.list ds))) (hb : ∀ F', Ex F F' → EvG K pt tb σ F' (fun d => ∃ k : Int, d = .int k ∧ 0 ≤ k ∧ k < c)) (hc : c ≤ (ds.length : Int)) (hP : ∀ d ∈ ds, R d) : EvAt K pt (tOp (rIxL K) ta tb) σ F H R := at_opR ha hb fun d e hd he => by
  obtain ⟨k, rfl, k0, k1⟩ := he
  subst hd
  obtain ⟨j, rfl⟩ : ∃ j : Nat, k = (j : Int) := ⟨k.toNat, by omega⟩
  have hj : j < ds.length := by omega
  intro F H x y i hx hy Q q
  exact rv_ixL (d := ds[j]) (by unfold atI; rw [ixN_nat hj]; exact List.getElem?_eq_getElem hj) F H x y i hx hy Q fun z v F2 H2 hz s hv => q z v F2 H2 (by rw [show z = ds[j] from hz]; exact hP _ (List.getElem_mem hj)) s hv
theorem rpAll_rep : ∀ (k : Nat) {ds : List PyData} {vs : List V}, RpAll K F vs ds → RpAll K F (List.replicate k vs).flatten (List.replicate k ds).flatten
  | 0, _, _, _ => by simp; exact .nil
  | k + 1, ds, vs, h => by
    rw [List.replicate_succ, List.replicate_succ, List.flatten_cons, List.flatten_cons]
    exact h.append (rpAll_rep k h)
theorem rv_rep {ds : List PyData} {k : Nat} (hz : ds.length * k ≤ 100000) (hk : k ≤ 1000) : RvG K rRep (.list ds) (.int (k : Int)) (Is (.list (List.replicate k ds).flatten)) := fun F H x y e hx hy Q q => by
  obtain ⟨a, xs, rfl, hl, ha⟩ := rp_lst hx
  obtain rfl := rp_int hy
  refine ⟨a, (k : Int), xs, rfl, rfl, e _ _ hl, by omega, by omega, by rw [ha.length]; exact sz_of hz, fun p hp => ?_⟩
  have s : Step none F H (upd F p (.lst (List.replicate k xs).flatten)) (upd H p (.lst (List.replicate k xs).flatten)) := .laid e .nil hp
  exact q _ _ _ _ rfl s (.lst upd_same (RpAll.mono s.sub _ _ (rpAll_rep k ha)))
end
end Fv

/-! sets and sorts of rows; one's own instance read while it is made -/
namespace Fv
open PySem PySem.Spec PyProof.Rows L2 Evl StX
theorem code_inj : ∀ {a b : List Int}, a.length = b.length → TS.Bd 4 a → TS.Bd 4 b → TS.code 4 a = TS.code 4 b → a = b
  | [], [], _, _, _, _ => rfl
  | [], _ :: _, h, _, _, _ => by simp at h
  | _ :: _, [], h, _, _, _ => by simp at h
  | d :: r, e :: q, h, ha, hb, hc => by
    have hl : r.length = q.length := by simpa using h
    have h1 : ¬ d < e := fun z => by have := TS.code_lt (B := 4) (d := d) (e := e) hl ha.tail hb.tail z; omega
    have h2 : ¬ e < d := fun z => by have := TS.code_lt (B := 4) (d := e) (e := d) hl.symm hb.tail ha.tail z; omega
    have e1 : d = e := by omega
    subst e1
    rw [TS.code.eq_2, TS.code.eq_2, hl] at hc
    rw [code_inj hl ha.tail hb.tail (by omega)]
/-- ascending, each once -/
abbrev Asc (rs : List (List Int)) : Prop := rs.Pairwise fun a b => TS.code 4 a < TS.code 4 b
theorem Asc.nd {rs : List (List Int)} (h : Asc rs) : rs.Nodup := List.Pairwise.imp (fun h e => by rw [e] at h; omega) h
theorem asc_ext {a b : List (List Int)} (ha : Asc a) (hb : Asc b) (h : ∀ x, x ∈ a ↔ x ∈ b) : a = b :=
  ((List.perm_ext_iff_of_nodup ha.nd hb.nd).mpr h).eq_of_pairwise (fun x y _ _ h1 h2 => by omega) ha hb
theorem asc_of {n : Nat} {rs : List (List Int)} (hr : ∀ r ∈ rs, r.length = n ∧ TS.Bd 4 r) (hp : rs.Pairwise fun a b => TS.code 4 a ≤ TS.code 4 b) (nd : rs.Nodup) : Asc rs :=
  List.Pairwise.imp_of_mem (fun {x y} hx hy h => by
    obtain ⟨h1, h2⟩ := h
    rcases Int.lt_or_eq_of_le h1 with z | z
    · exact z
    · exact absurd (code_inj ((hr _ hx).1.trans (hr _ hy).1.symm) (hr _ hx).2 (hr _ hy).2 z) h2) (hp.and nd)
theorem c_setR {X : Cx} {K : PySem.W.Frag} {P : Program} {w : World} (hu : X.A.units + 65 < cLine) (hc : X.calm = true := by rfl) (h : X.K = K := by rfl) (hp : X.prog = P := by rfl) (hw : X.w = w := by rfl) : CallR X (.type "set") (rSetOfT K P w) := by
  subst h; subst hp; subst hw; exact cr_setOfT hc (by omega)
theorem c_sortSetR {X : Cx} {K : PySem.W.Frag} {P : Program} {w : World} (hc : X.calm = true := by rfl) (h : X.K = K := by rfl) (hp : X.prog = P := by rfl) (hw : X.w = w := by rfl) : CallR X (.builtin "sorted") (rSortedT K P w) := by
  subst h; subst hp; subst hw; exact cr_sortedT hc
theorem c_sortR {X : Cx} {K : PySem.W.Frag} (n : Nat) (hn : 1 ≤ n) (h : X.K = K := by rfl) : CallR X (.builtin "sorted") (rSortU K n 4) := by
  subst h; exact cr_sortT hn
section
variable {K : PySem.W.Frag} {P : Program} {w : World} {pt : Option Pt} {σ : L2.St} {F F' F0 H0 H : Hp} {te : TE} {n : Nat} {rs : List (List Int)}
theorem rows_of : ∀ {rs : List (List Int)} {xs : List V}, RpAll K F xs (rs.map dT) → ∃ ks : List (Addr × List Int), xs = ks.map (fun p => V.ref p.1) ∧ ks.map (·.2) = rs ∧ ∀ p ∈ ks, F p.1 = some (.tup (p.2.map V.int))
  | [], _, h => by cases h; exact ⟨[], rfl, rfl, by simp⟩
  | r :: rs, _, h => by
    cases h with
    | cons h1 h2 =>
      obtain ⟨ks, e1, e2, e3⟩ := rows_of h2
      obtain ⟨a, ys, rfl, hl, ha⟩ := rp_tup h1
      have e4 := rpAll_ints ha
      subst e4
      refine ⟨(a, r) :: ks, by rw [e1]; rfl, by rw [List.map_cons, e2], fun p hp => ?_⟩
      rcases List.mem_cons.mp hp with rfl | m
      · exact hl
      · exact e3 p m
theorem rows_back {ks : List (Addr × List Int)} (h : ∀ p ∈ ks, F p.1 = some (.tup (p.2.map V.int))) : RpAll K F (ks.map fun p => V.ref p.1) ((ks.map (·.2)).map dT) := by
  induction ks with
  | nil => exact .nil
  | cons p ks ih => exact .cons (.tup (h p (by simp)) (rpAll_of_ints p.2)) (ih fun q hq => h q (List.mem_cons_of_mem _ hq))
/-- sorted(set(rows)) -/
theorem g_sortSetR (h : EvG K pt te σ F (Is (dLT rs))) (hz : rs.length < 64) (hn : 1 ≤ n) (hr : ∀ r ∈ rs, r.length = n ∧ TS.Bd 4 r) :
    EvG K pt (tCB (rSortedT K P w) (tCons (tCB (rSetOfT K P w) (tCons te tNil)) tNil)) σ F (fun x => ∃ R, x = dLT R ∧ Asc R ∧ ∀ r, r ∈ R ↔ r ∈ rs) := fun H1 i g Q q =>
  h H1 i g _ fun d v F2 H2 hd s hv => by
    subst hd
    obtain ⟨a, xs, rfl, hl, ha⟩ := rp_lst hv
    obtain ⟨ks, rfl, hks, hF⟩ := rows_of ha
    refine ⟨a, ks, rfl, SqL.of (s.inn _ _ hl), fun p hp => SqT.of (s.inn _ _ (hF p hp)), by rw [← hks, List.length_map] at hz; exact hz, fun b L hb hL1 hL2 => ?_⟩
    have s3 : Step pt F2 H2 F2 (upd H2 b (SetTO P w b L)) := .litter s.inn s.good hb
    refine ⟨b, L, n, 4, rfl, upd_same, fun p hp => SqT.of (s3.inn _ _ (hF p (hL1 p hp))), hn, fun p hp => hr p.2 (by rw [← hks]; exact List.mem_map_of_mem (hL1 p hp)), fun L' p pL nd hlen pw hp => ?_⟩
    have hF' : ∀ q ∈ L', F2 q.1 = some (.tup (q.2.map V.int)) := fun q hq => hF q (hL1 q (pL.mem_iff.mp hq))
    have s4 : Step pt F2 (upd H2 b (SetTO P w b L)) (upd F2 p (.lst (L'.map fun q => V.ref q.1))) (upd (upd H2 b (SetTO P w b L)) p (.lst (L'.map fun q => V.ref q.1))) := .laid s3.inn s3.good hp
    refine q _ _ _ _ ⟨L'.map (·.2), rfl, asc_of (n := n) (fun r hr' => ?_) (List.pairwise_map.mpr pw) nd, fun r => ⟨fun h => ?_, fun h => ?_⟩⟩ ((s.trans s3).trans s4) (.lst upd_same (RpAll.mono s4.sub _ _ (rows_back hF')))
    · obtain ⟨q, hq, rfl⟩ := List.mem_map.mp hr'
      exact hr q.2 (by rw [← hks]; exact List.mem_map_of_mem (hL1 q (pL.mem_iff.mp hq)))
    · obtain ⟨q, hq, rfl⟩ := List.mem_map.mp h
      rw [← hks]; exact List.mem_map_of_mem (hL1 q (pL.mem_iff.mp hq))
    · rw [← hks] at h
      obtain ⟨q, hq, rfl⟩ := List.mem_map.mp h
      obtain ⟨q2, hq2, e⟩ := List.mem_map.mp (hL2 q hq)
      exact List.mem_map.mpr ⟨q2, pL.mem_iff.mpr hq2, e⟩
theorem perm_map {α β : Type} {f : α → β} {zs ys : List β} (h : zs.Perm ys) : ∀ ks : List α, zs = ks.map f → ∃ ks' : List α, ys = ks'.map f ∧ ks'.Perm ks := by
  induction h with
  | nil => intro ks e; exact ⟨[], rfl, by cases ks with
    | nil => exact .refl _
    | cons a r => simp at e⟩
  | cons a p ih =>
    intro ks e
    cases ks with
    | nil => simp at e
    | cons b r =>
      rw [List.map_cons] at e
      injection e with e1 e2
      obtain ⟨k2, h1, h2⟩ := ih r e2
      exact ⟨b :: k2, by rw [List.map_cons, ← e1, h1], h2.cons b⟩
  | swap a b l =>
    intro ks e
    match ks, e with
    | [], e => simp at e
    | [x], e => simp at e
    | x :: y :: r, e =>
      rw [List.map_cons, List.map_cons] at e
      injection e with e1 e2
      injection e2 with e2 e3
      exact ⟨y :: x :: r, by rw [List.map_cons, List.map_cons, ← e1, ← e2, ← e3], .swap x y r⟩
  | trans p1 p2 ih1 ih2 =>
    intro ks e
    obtain ⟨k2, h1, h2⟩ := ih1 ks e
    obtain ⟨k3, h3, h4⟩ := ih2 k2 h1
    exact ⟨k3, h3, h4.trans h2⟩
/-- sorted(rows) -/
theorem g_sortR (h : EvG K pt te σ F (Is (dLT rs))) (hz : rs.length < 64) (hr : ∀ r ∈ rs, r.length = n ∧ TS.Bd 4 r) :
    EvG K pt (tCB (rSortU K n 4) (tCons te tNil)) σ F (fun x => ∃ R : List (List Int), x = dLT R ∧ R.Perm rs ∧ R.Pairwise fun a b => TS.code 4 a ≤ TS.code 4 b) := fun H1 i g Q q =>
  h H1 i g _ fun d v F2 H2 hd s hv => by
    subst hd
    obtain ⟨a, xs, rfl, hl, ha⟩ := rp_lst hv
    obtain ⟨ks, rfl, hks, hF⟩ := rows_of ha
    refine ⟨a, _, rfl, SqL.of (s.inn _ _ hl), by rw [← hks, List.length_map] at hz; rw [List.length_map]; exact hz, fun x hx => ?_, fun ys p hy pw hp => ?_⟩
    · obtain ⟨p, hp, rfl⟩ := List.mem_map.mp hx
      obtain ⟨h1, h2⟩ := hr p.2 (by rw [← hks]; exact List.mem_map_of_mem hp)
      exact ⟨p.2, ⟨p.1, rfl, SqT.of (s.inn _ _ (hF p hp))⟩, h1, h2⟩
    · obtain ⟨ks', rfl, pk⟩ : ∃ ks' : List (Addr × List Int), ys = ks'.map (fun p => V.ref p.1) ∧ ks'.Perm ks := by
        exact perm_map hy.symm ks rfl
      have hF' : ∀ q ∈ ks', F2 q.1 = some (.tup (q.2.map V.int)) := fun q hq => hF q (pk.mem_iff.mp hq)
      have s4 : Step pt F2 H2 (upd F2 p (.lst (ks'.map fun q => V.ref q.1))) (upd H2 p (.lst (ks'.map fun q => V.ref q.1))) := .laid s.inn s.good hp
      refine q _ _ _ _ ⟨ks'.map (·.2), rfl, by rw [← hks]; exact pk.map _, List.pairwise_map.mpr (List.Pairwise.imp_of_mem (fun {x y} hx hy h => ?_) (List.pairwise_map.mp pw))⟩ (s.trans s4) (.lst upd_same (RpAll.mono s4.sub _ _ (rows_back hF')))
      exact h _ _ ⟨x.1, rfl, SqT.of (s.inn _ _ (hF' x hx))⟩ ⟨y.1, rfl, SqT.of (s.inn _ _ (hF' y hy))⟩
end
section
variable {K : PySem.W.Frag} {σ : L2.St} {F0 H0 F H : Hp} {te : TE} {D : Ends} {tz : TS} {x dx C : Addr} {fs : List (Str × V)} {i : Nat} {f : Str}
/-- self.f = e, where e reads what self has -/
theorem t_fldAt1 {Φ : V → Hp → Prop} (s : Step none F0 H0 F H) (h0 : H0 x = none) (hx : F x = none) (hi : σ[i]? = some (some (.ref x))) (ho : H x = some (.ins C dx fs)) (cl : Cls K C) (na : NoAttr K C f) (hz : fs.length < 1000)
    (h : ∀ Fp, Ex F Fp → Ex Fp H → Fp x = some (.ins C dx fs) → ∀ Q : VK, (∀ v F2 H2, Φ v F2 → Step none Fp H F2 H2 → Q v H2) → te σ H Q)
    (hΦ : ∀ v F2 F3, F2 x = some (.ins C dx fs) → (∀ a o, a ≠ x → F2 a = some o → F3 a = some o) → Φ v F2 → Φ v F3)
    (q : ∀ v F2 H2, Φ v F2 → Step none F0 H0 F2 H2 → Ex F F2 → F2 x = none → H2 x = some (.ins C dx (putF f v fs)) → D.nx σ H2) : sFld K (tVar i) te f D σ H := by
  have sp : Step none F0 H0 (upd F x (.ins C dx fs)) H := s.add hx ho h0
  refine h (upd F x (.ins C dx fs)) (Ex.new hx) sp.inn upd_same _ fun v F2 H2 hv s2 => ?_
  have st := sp.trans s2
  have f2 : F2 x = some (.ins C dx fs) := s2.sub _ _ upd_same
  have back : ∀ a o, a ≠ x → F2 a = some o → L2.del F2 x a = some o := fun a o z h => by rw [L2.del_ne z]; exact h
  have exF : Ex F (L2.del F2 x) := fun a o h => by
    have z : a ≠ x := fun z => by rw [z, hx] at h; cases h
    exact back a o z (s2.sub _ _ (by rw [upd_ne z]; exact h))
  have s3 : Step none F0 H0 (L2.del F2 x) H2 := ⟨s.sub.trans exF, fun a o h => by
    by_cases z : a = x
    · rw [z, L2.del_same] at h; cases h
    · rw [L2.del_ne z] at h; exact s2.inn _ _ h, st.keep, .nil, fun a h1 h2 => by
    by_cases z : a = x
    · rw [z, L2.del_same]
    · rw [L2.del_ne z]; exact st.new a h1 h2⟩
  exact ⟨.ref x, hi, x, C, dx, fs, rfl, s2.inn _ _ f2, cl, na, hz, q v (L2.del F2 x) _ (hΦ v F2 _ f2 back hv) (s3.put .nil h0 L2.del_same) exF L2.del_same upd_same⟩
end
end Fv

/-! `in` and `not in` by a class's own __contains__ -/
namespace L2
open PySem PySem.Spec PyProof.Rows Evl
section
variable {X : Cx} {k : Nat} {CX : CXT} {C f : Addr} {fd : FuncData} {ps : List Str} {sp : Sp} {E : XK}
/-- x in o: the class's own word is asked -/
def rInI (C : Addr) (sp : Sp) (E : XK) (neg : Bool) : R2 := fun x y H Q => ∃ a dx fs, y = .ref a ∧ H a = some (.ins C dx fs) ∧ sp [.ref a, x] H (fun v H' => ∃ b : Bool, v = .bl b ∧ Q (.bl (neg != b)) H') E
theorem truthy_bl {M : Model} {A : Around} {b : Bool} {Q : Bool → Shared → Prop} {Ex : Value → Shared → Prop} {s : Shared} (h : Q b s) : wpAny M A (truthy (.bool b)) Q Ex s := by
  unfold truthy
  exact wpAny_pure h
theorem inI_call (F : FnOk X.prog X.w X.K X.mg X.base CX k f fd ps sp) (hr : Room k X.A) (hb : Binds X.K fd ps []) (hx : Passes CX X E) {pins : List (Addr × Obj)} {s : Shared} {σ : St} {H : Hp} {a : Addr} {x : V} {v : Value} {Q : VK}
    (I : Inv X pins σ H s) (rx : RelV x v) (h : sp [.ref a, x] H Q E) : wpAny (model X.prog X.w) X.A (call (.ref f) [.ref a, v]) (EP X pins σ Q) X.xe s := by
  have e0 := I.env0
  have hl := F.len _ _ _ _ h
  have r2 : Vals [V.ref a, x] [Value.ref a, v] := .cons rfl (.cons rx .nil)
  refine wpAny_call (codeAny_mono (F.run X.A X.stack s H ⟨[.ref a, v], []⟩ [.ref a, v] [.ref a, x] _ E hr e0 (by
    have := hb s [.ref a, v] I.kIn (by simpa using hl)
    simpa using this) r2 h) fun r s' hq => ?_)
  cases r with
  | error e => exact hx pins σ H s e s' I hq
  | ok fl =>
    cases fl with
    | ret w =>
      obtain ⟨z, H', I', rz, q⟩ := I.after hq
      exact ⟨z, H', I', rz, q⟩
    | next => exact False.elim hq
    | brk => exact False.elim hq
    | cont => exact False.elim hq
theorem op_inI (F : FnOk X.prog X.w X.K X.mg X.base CX k f fd ps sp) (hr : Room k X.A) (hb : Binds X.K fd ps []) (hx : Passes CX X E) (hs : PySem.W.findIn X.K (.ref C) "__contains__" = some (some (.ref f))) (hf : PySem.W.isFn X.K (.ref f) = true) :
    OpR X (compareOp .In) (rInI C sp E false) := by
  intro pins s σ H x y v u Q I rx ry hq
  obtain ⟨a, dx, fs, rfl, ha, h⟩ := hq
  cases ry
  obtain ⟨mA, J, _⟩ := ins_get I.hok ha
  obtain ⟨od, J, _⟩ := J.look
  obtain ⟨m, hF⟩ := I.fr
  refine PySem.W.in_K hF I.ok.mod.kin J hs hf (wpAny_mono (inI_call F hr hb hx I rx h) (fun r s' z => ?_) fun _ _ x => x)
  obtain ⟨_, H', I', rz, b, rfl, q⟩ := z
  cases rz
  exact truthy_bl ⟨.bl b, H', I', rfl, by simpa using q⟩
theorem op_notInI (F : FnOk X.prog X.w X.K X.mg X.base CX k f fd ps sp) (hr : Room k X.A) (hb : Binds X.K fd ps []) (hx : Passes CX X E) (hs : PySem.W.findIn X.K (.ref C) "__contains__" = some (some (.ref f))) (hf : PySem.W.isFn X.K (.ref f) = true) :
    OpR X (compareOp .NotIn) (rInI C sp E true) := by
  intro pins s σ H x y v u Q I rx ry hq
  obtain ⟨a, dx, fs, rfl, ha, h⟩ := hq
  cases ry
  obtain ⟨mA, J, _⟩ := ins_get I.hok ha
  obtain ⟨od, J, _⟩ := J.look
  obtain ⟨m, hF⟩ := I.fr
  refine PySem.W.notIn_K hF I.ok.mod.kin J hs hf (wpAny_mono (inI_call F hr hb hx I rx h) (fun r s' z => ?_) fun _ _ x => x)
  obtain ⟨_, H', I', rz, b, rfl, q⟩ := z
  cases rz
  exact truthy_bl ⟨.bl (!b), H', I', rfl, by simpa using q⟩
/-- len(o) by the class's own __len__ -/
theorem c_lenI (F : FnOk X.prog X.w X.K X.mg X.base CX k f fd ps sp) (hr : Room (k + 1) X.A) (hb : Binds X.K fd ps []) (hx : Passes CX X E) (hs : PySem.W.findIn X.K (.ref C) "__len__" = some (some (.ref f))) (hf : PySem.W.isFn X.K (.ref f) = true) :
    CallR X (.builtin "len") fun xs H Q => ∃ a dx fs, xs = [.ref a] ∧ H a = some (.ins C dx fs) ∧ sp [.ref a] H (fun v H' => ∃ i : Int, v = .int i ∧ 0 ≤ i ∧ i < 2 ^ 63 ∧ Q (.int i) H') E := by
  intro pins s σ H xs us Q I rx hq
  obtain ⟨a, dx, fs, rfl, ha, h⟩ := hq
  cases rx with | cons rx r0 =>
  cases r0
  cases rx
  obtain ⟨mA, J, _⟩ := ins_get I.hok ha
  obtain ⟨od, J, _⟩ := J.look
  obtain ⟨m, hF⟩ := I.fr
  have sb : Sub X k X.A.in1 := Sub.in1 ⟨hr, rfl⟩
  have e0 : Env0 X.prog X.w X.K X.mg X.base X.A.in1 X.stack s H := by
    have e := I.env0
    exact ⟨by rw [sb.fr]; exact e.frames, e.mod, e.bs, e.bsz, e.funs, e.frf, e.hok, e.bare⟩
  have hl := F.len _ _ _ _ h
  have r2 : Vals [V.ref a] [Value.ref a] := .cons rfl .nil
  refine PySem.W.len_K hF I.ok.mod.kin J hs hf (wpAny_call (codeAny_mono (F.run X.A.in1 X.stack s H ⟨[.ref a], []⟩ [.ref a] [.ref a] _ E sb.room e0 (by
    have := hb s [.ref a] I.kIn (by simpa using hl)
    simpa using this) r2 h) fun r s' hq => ?_))
  cases r with
  | error e => exact hx pins σ H s e s' I hq
  | ok fl =>
    cases fl with
    | ret w =>
      obtain ⟨z, H', I', rz, i, rfl, h0, h1, q⟩ := I.after hq
      obtain ⟨t, rfl⟩ := rz
      exact ⟨⟨h0, h1⟩, .int i, H', I'.tok _, ⟨_, rfl⟩, q⟩
    | next => exact False.elim hq
    | brk => exact False.elim hq
    | cont => exact False.elim hq
end
end L2

/-! sorted of a list of data -/
namespace Fv
open PySem PySem.Spec PyProof.Rows L2 Evl StX
/-- data in Python's order -/
def sortD (ds : List PyData) : List PyData := ds.mergeSort (PySem.W.dataLe false id)
theorem sortD_perm (ds : List PyData) : (sortD ds).Perm ds := List.mergeSort_perm _ _
/-- what can be sorted -/
structure CanSort (ds : List PyData) : Prop where
  al : PySem.W.AllAlike ds
  so : PySem.W.Sortable ds
  dp : ∀ d ∈ ds, d.depth ≤ 10
def rSortG (K : PySem.W.Frag) : List V → Hp → VK → Prop := fun xs H Q => ∃ (l : Addr) (ps : List (V × PyData)), xs = [.ref l] ∧ H l = some (.lst (ps.map (·.1))) ∧ (∀ p ∈ ps, Rp K H p.1 p.2) ∧
  CanSort (ps.map (·.2)) ∧ ∀ (qs : List (V × PyData)) p, qs.Perm ps → qs.map (·.2) = sortD (ps.map (·.2)) → H p = none → Q (.ref p) (upd H p (.lst (qs.map (·.1))))
theorem c_sortG {X : Cx} {K : PySem.W.Frag} (hu : X.A.units + 65 < cLine) (h : X.K = K := by rfl) : CallR X (.builtin "sorted") (rSortG K) := by
  subst h
  intro pins s σ H xs us Q I r q
  obtain ⟨l, ps, rfl, hl, hp, hk, q⟩ := q
  rw [Vals.ref1 r]
  obtain ⟨its, rv, pl, hz⟩ := I.list (SqL.of hl)
  have ea : PySem.W.EachIs (fun u b => RelV b.1 u) its ps := each_of_vals rv
  have rd : ∀ u (b : V × PyData), b ∈ ps → RelV b.1 u → ∃ as, Reads s.heap u b.2 as := fun u b hb ru => Dp.reads I b.2 b.1 u (Rp.dp _ _ (hp b hb)) ru
  let hS : Heap := PySem.W.sortingHeap (PySem.W.copyHeap s.heap its) (s.heap.objs.size + 1) its
  have er0 : PySem.W.EachIs (fun u (b : V × PyData) => ∃ as, Reads hS u b.2 as) its ps := (PySem.W.each_mem ea).mono fun u b ⟨ru, hb⟩ => by
    obtain ⟨as, x⟩ := rd u b hb ru
    exact ⟨as, PyProof.Rows.Reads.keeps (fun _ _ => PySem.W.sorting_copy_old) x⟩
  have er1 : PySem.W.EachIs (fun u d => ∃ as, Reads hS u d as) its (ps.map fun b => b.2) := PySem.W.each_map (R := fun u d => ∃ as, Reads hS u d as) (fun b : V × PyData => b.2) er0
  have al : PySem.W.AllAlike (ps.map fun b => b.2) := hk.al
  have S : PySem.W.SortsAt X.prog X.w X.A.in1.in1 { s with heap := hS } (PySem.W.dataKind hS (ps.map fun b => b.2)) its := by
    refine PySem.W.SortsAt.data (s := { s with heap := hS }) er1 al hk.so fun d hd => ?_
    have := hk.dp d hd
    show X.A.units + 1 + 1 + _ < _
    omega
  have out := PySem.W.sortVals_data (h' := hS) (enc := fun b : V × PyData => b.2) false ea er0 al
  refine PySem.W.sorted_vals pl.isList S (by rw [← rv.length]; exact hz) ?_
  generalize PySem.W.sortVals (PySem.W.dataKind hS (ps.map fun b => b.2)) false its its = ou at out
  generalize eq : ps.mergeSort (PySem.W.dataLe false fun b : V × PyData => b.2) = qs at out
  have pq : qs.Perm ps := eq ▸ List.mergeSort_perm _ _
  have snd : qs.map (·.2) = sortD (ps.map (·.2)) := by
    rw [← eq]
    exact PySem.W.sort_maps (s := PySem.W.dataLe false id) (fun x : V × PyData => x.2) fun _ _ _ _ => rfl
  have vo : Vals (qs.map (·.1)) ou := vals_of_each out
  obtain ⟨c, hc⟩ := PyProof.Rows.sortedAll_at s.heap its ou.toArray
  have fr : H (s.heap.objs.size + 1) = none := I.hok.fresh (Nat.le_succ _)
  have len : (qs.map (·.1)).length ≤ sizeLine := by
    rw [List.length_map, pq.length_eq, ← List.length_map (f := (·.1))]; exact hz
  exact ⟨.ref (s.heap.objs.size + 1), upd H (s.heap.objs.size + 1) (.lst (qs.map (·.1))), I.laid (t' := s.toks) (fun _ _ => PyProof.Rows.sortedAll_old) (Nat.le_succ _) ⟨len, ou, c, vo, hc⟩, rfl, q qs _ pq snd fr⟩
section
variable {K : PySem.W.Frag} {w : World} {pt : Option Pt} {σ : L2.St} {F F' H : Hp} {te : TE}
theorem rp_pairs : ∀ {xs : List V} {ds : List PyData}, RpAll K F xs ds → (xs.zip ds).map (·.1) = xs ∧ (xs.zip ds).map (·.2) = ds ∧ ∀ p ∈ xs.zip ds, Rp K F p.1 p.2
  | _, [], h => by cases h; simp
  | _, d :: ds, h => by
    cases h with
    | cons h1 h2 =>
      obtain ⟨e1, e2, e3⟩ := rp_pairs h2
      refine ⟨by simp [e1], by simp [e2], fun p hp => ?_⟩
      rw [List.zip_cons_cons] at hp
      rcases List.mem_cons.mp hp with rfl | m
      · exact h1
      · exact e3 p m
theorem pairs_rp : ∀ {ps : List (V × PyData)}, (∀ p ∈ ps, Rp K F p.1 p.2) → RpAll K F (ps.map (·.1)) (ps.map (·.2))
  | [], _ => .nil
  | p :: ps, h => .cons (h p (by simp)) (pairs_rp fun q m => h q (List.mem_cons_of_mem _ m))
theorem g_sortG {ds : List PyData} (h : EvG K pt te σ F (Is (.list ds))) (hk : CanSort ds) : EvG K pt (tCB (rSortG K) (tCons te tNil)) σ F (Is (.list (sortD ds))) := fun H1 i g Q q =>
  h H1 i g _ fun d v F2 H2 hd s hv => by
    subst hd
    obtain ⟨a, xs, rfl, hl, ha⟩ := rp_lst hv
    obtain ⟨e1, e2, e3⟩ := rp_pairs ha
    refine ⟨a, xs.zip ds, rfl, by rw [e1]; exact s.inn _ _ hl, fun p hp => Rp.mono s.inn _ _ (e3 p hp), by rw [e2]; exact hk, fun qs p pq es hp => ?_⟩
    have s3 : Step pt F2 H2 (upd F2 p (.lst (qs.map (·.1)))) (upd H2 p (.lst (qs.map (·.1)))) := .laid s.inn s.good hp
    refine q _ _ _ _ rfl (s.trans s3) (.lst upd_same ?_)
    rw [e2] at es
    rw [← es]
    exact pairs_rp fun r hr => Rp.mono s3.sub _ _ (e3 r (pq.mem_iff.mp hr))
theorem alikeAll_rows : ∀ (a b : List (List Int)), PySem.W.alikeAll (a.map dT) (b.map dT) = true
  | [], _ => by rw [List.map_nil, PySem.W.alikeAll]
  | _ :: _, [] => by rw [List.map_nil, List.map_cons, PySem.W.alikeAll]
  | x :: a, y :: b => by
    have h : PySem.W.alike (dT x) (dT y) = true := by
      show PySem.W.alike (.tuple _) (.tuple _) = true
      rw [PySem.W.alike]; exact PySem.W.alike_ints x y
    rw [List.map_cons, List.map_cons, PySem.W.alikeAll, h, alikeAll_rows a b]; rfl
/-- lists of rows can be sorted -/
theorem canSort_rows (gs : List (List (List Int))) : CanSort (gs.map dLT) := by
  refine ⟨?_, .inr fun d hd => ?_, fun d hd => ?_⟩
  · refine PySem.W.AllAlike.of fun b b' => ?_
    show PySem.W.alike (.list _) (.list _) = true
    rw [PySem.W.alike]; exact alikeAll_rows b b'
  · obtain ⟨g, _, rfl⟩ := List.mem_map.mp hd
    exact ⟨(fun z => by cases z), (fun xs z => by cases z)⟩
  · obtain ⟨g, _, rfl⟩ := List.mem_map.mp hd
    have := depthAll_dT g
    simp only [dLT, PyData.depth]
    omega
end
end Fv

/-! two lists of one's own, one of them from a def that makes it anew -/
namespace Fv
open PySem PySem.Spec PyProof.Rows L2 Evl StX
section
variable {K : PySem.W.Frag} {pt : Option Pt} {σ : L2.St} {F F' F0 H0 H F2 H2 : Hp} {te ti ta tb : TE} {ts tr : TA} {t : TT} {R : PD} {d : PyData} {D : Ends} {tz tu tw : TS} {wi : TI} {l m a : Addr} {ls ms : List PyData}
theorem rp_beside {xs zs : List V} : ∀ {ns : List (List Int)}, F a = some (.lst zs) → RpAll K F xs (ns.map dT) → RpAll K (L2.del F a) xs (ns.map dT) := by
  induction xs with
  | nil =>
    intro ns hf h
    cases ns with
    | nil => exact .nil
    | cons n ns => cases h
  | cons x xs ih =>
    intro ns hf h
    cases ns with
    | nil => cases h
    | cons n ns =>
      cases h with
      | cons h1 h2 =>
        refine .cons ?_ (ih hf h2)
        obtain ⟨b, ys, rfl, hx, hb⟩ := rp_tup h1
        have e3 := rpAll_ints hb
        subst e3
        have z : b ≠ a := fun z => by rw [z, hf] at hx; cases hx
        exact .tup (by rw [L2.del_ne z]; exact hx) (rpAll_of_ints n)
/-- m = [], beside a list that was made anew -/
theorem t_thaw {j : Nat} {ns : List (List Int)} (g0 : Good pt F0 H0) (i0 : Ex F0 H0) (s : Step pt F0 H0 F H) (hr : Rp K F (.ref a) (dLT ns)) (ha : H0 a = none)
    (k : ∀ m F2 H2, Two K pt F0 H0 a m F2 H2 (ns.map dT) [] → Ex F0 F2 → tz D (σ.set j (some (.ref m))) H2) : tSeq (tAsg (tLst tNil) (gName j)) tz D σ H := by
  obtain ⟨b, xs, eb, hl, hxs⟩ := rp_lst hr
  cases eb
  have f0 : F0 a = none := not_in i0 ha
  have keepF : Ex F0 (L2.del F a) := fun b o h => by
    have z : b ≠ a := fun z => by rw [z, f0] at h; cases h
    rw [L2.del_ne z]; exact s.sub _ _ h
  have s1 : Step pt F0 H0 (L2.del F a) H := by
    refine ⟨keepF, fun b o h => ?_, s.keep, fun q hq => ⟨?_, (s.good q hq).2⟩, fun b h1 h2 => ?_⟩
    · by_cases z : b = a
      · rw [z, L2.del_same] at h; cases h
      · rw [L2.del_ne z] at h; exact s.inn _ _ h
    · by_cases z : q.p = a
      · rw [z, L2.del_same]
      · rw [L2.del_ne z]; exact (s.good q hq).1
    · by_cases z : b = a
      · rw [z, L2.del_same]
      · rw [L2.del_ne z]; exact s.new b h1 h2
  refine ⟨Nat.zero_le _, fun m hm => ?_⟩
  have hma : m ≠ a := fun z => by rw [z, s.inn _ _ hl] at hm; cases hm
  have hm0 := s.back m hm
  have fm : L2.del F a m = none := not_in s1.inn hm
  exact k m _ _ ⟨s1.put g0 hm0 fm, hma.symm, ha, hm0, L2.del_same, fm, ⟨xs, by rw [upd_ne hma.symm]; exact s.inn _ _ hl, rp_beside hl hxs⟩, ⟨[], upd_same, .nil⟩⟩ keepF
/-- the second list, read for a while as if it were fixed -/
theorem Two.fix (g0 : Good pt F0 H0) (w : Two K pt F0 H0 l m F H ls ms) : ∃ Fp, Ex F Fp ∧ Ex Fp H ∧ Good pt Fp H ∧ Rp K Fp (.ref m) (.list ms) ∧ ∀ F2 H2, Step pt Fp H F2 H2 → ∃ F3, Two K pt F0 H0 l m F3 H2 ls ms ∧ Ex F F3 := by
  obtain ⟨ys, b1, b2⟩ := w.e2
  obtain ⟨xs, a1, a2⟩ := w.e1
  have e1 : Ex F (upd F m (.lst ys)) := Ex.new w.o2
  have sp : Step pt F0 H0 (upd F m (.lst ys)) H := by
    refine ⟨w.step.sub.trans e1, fun b u hb => ?_, w.step.keep, fun q hq => ⟨?_, (w.step.good q hq).2⟩, fun b h1 h2 => ?_⟩
    · by_cases z : b = m
      · rw [z, upd_same] at hb; rw [z, b1]; exact hb
      · rw [upd_ne z] at hb; exact w.step.inn b u hb
    · rw [upd_ne (off_pot g0 w.h2 q hq).1.symm]; exact (w.step.good q hq).1
    · have z : b ≠ m := loose_ne h2 w.h2
      rw [upd_ne z]; exact w.step.new b h1 h2
  refine ⟨_, e1, sp.inn, sp.good, .lst upd_same (RpAll.mono e1 _ _ b2), fun F2 H2 s => ?_⟩
  have st := sp.trans s
  obtain ⟨f2l, h2l⟩ := Step.beside g0 w.h1 (by rw [upd_ne w.ne]; exact w.o1) a1 s
  have hm2 : F2 m = some (.lst ys) := s.sub _ _ upd_same
  have keepF : Ex F (L2.del F2 m) := fun b o h => by
    have z : b ≠ m := fun z => by rw [z, w.o2] at h; cases h
    rw [L2.del_ne z]; exact s.sub _ _ (e1 _ _ h)
  refine ⟨L2.del F2 m, ⟨⟨w.step.sub.trans keepF, fun b o h => ?_, st.keep, fun q hq => ⟨?_, (st.good q hq).2⟩, fun b h1 h2 => ?_⟩, w.ne, w.h1, w.h2, by rw [L2.del_ne w.ne]; exact f2l, L2.del_same, ⟨xs, h2l, RpAll.mono keepF _ _ a2⟩, ⟨ys, s.inn _ _ hm2, RpAll.mono keepF _ _ b2⟩⟩, keepF⟩
  · by_cases z : b = m
    · rw [z, L2.del_same] at h; cases h
    · rw [L2.del_ne z] at h; exact s.inn _ _ h
  · by_cases z : q.p = m
    · rw [z, L2.del_same]
    · rw [L2.del_ne z]; exact (st.good q hq).1
  · by_cases z : b = m
    · rw [z, L2.del_same]
    · rw [L2.del_ne z]; exact st.new b h1 h2
/-- if t: .. else: .., where t reads the second list -/
theorem t_if2Fix {b : Bool → Prop} (g0 : Good pt F0 H0) (w : Two K pt F0 H0 l m F H ls ms) (h : ∀ Fp, Ex F Fp → Rp K Fp (.ref m) (.list ms) → EtG pt t σ Fp b) (h1 : b true → ∀ F2 H2, Two K pt F0 H0 l m F2 H2 ls ms → Ex F F2 → tu D σ H2) (h2 : b false → ∀ F2 H2, Two K pt F0 H0 l m F2 H2 ls ms → Ex F F2 → tw D σ H2) : tIfS t tu tw D σ H := by
  obtain ⟨Fp, e1, e2, gd, r, back⟩ := w.fix g0
  exact h Fp e1 r H e2 gd _ fun c F2 H2 hc s => by
    obtain ⟨F3, w3, e3⟩ := back F2 H2 s
    cases c with
    | true => exact h1 hc F3 H2 w3 e3
    | false => exact h2 hc F3 H2 w3 e3
/-- if l: .. else: .. -/
theorem t_ifOwn2 {i : Nat} (w : Two K pt F0 H0 l m F H ls ms) (hl : σ[i]? = some (some (.ref l))) (h1 : ls ≠ [] → tu D σ H) (h2 : ls = [] → tw D σ H) : tIfS (fun σ H Q => tVar i σ H fun x H' => ∃ k, TruV K x H' k ∧ Q k H') tu tw D σ H := by
  obtain ⟨xs, a1, a2⟩ := w.e1
  have e : xs.isEmpty = ls.isEmpty := by have := a2.length; cases xs <;> cases ls <;> simp_all
  refine ⟨.ref l, hl, !xs.isEmpty, .inl ⟨xs, sq_of a1, rfl⟩, ?_⟩
  rw [e]
  cases ls with
  | nil => exact h2 rfl
  | cons x r => exact h1 (by simp)
/-- x = l.pop(draw(pot, len(l))) -/
theorem t_popAsg {q : Pt} {P : Int → Prop} {R : Int → PD} {E : XK} {il iv ip : Nat} (g0 : Good (some q) F0 H0) (w : Two K (some q) F0 H0 l m F H ls ms) (hl : σ[il]? = some (some (.ref l))) (hp : σ[ip]? = some (some (.ref q.p)))
    (hP : P (ls.length : Int)) (hz : ls.length ≤ 100000) (hR : ∀ d, R (ls.length : Int) d → ∃ k : Nat, d = .int (k : Int) ∧ k < ls.length)
    (k : ∀ (i : Nat) (hi : i < ls.length) v F2 H2, Two K (some q) F0 H0 l m F2 H2 (ls.eraseIdx i) ms → Ex F F2 → Rp K F2 v ls[i] → tz D (σ.set iv (some v)) H2) :
    tSeq (tAsg (tBM K "list" rPopAt (tVar il) (tCons (tCall (spP K P R) [] E (tCons (tVar ip) (tCons (tCB (rLen K) (tCons (tVar il) tNil)) tNil))) tNil)) (gName iv)) tz D σ H := by
  obtain ⟨xs, a1, a2⟩ := w.e1
  refine ⟨.ref l, hl, .inl ⟨rfl, xs, sq_of a1⟩, _, hp, .ref l, hl, l, xs, rfl, .inl (SqL.of a1), ?_⟩
  refine ⟨q, (xs.length : Int), F, rfl, by rw [a2.length]; exact hP, w.step.inn, w.step.good, fun d v F2 H2 hd s hv => ?_⟩
  rw [a2.length] at hd
  obtain ⟨j, rfl, hj⟩ := hR d hd
  obtain rfl := rp_int hv
  have w2 := w.run g0 s
  obtain ⟨xs', c1, c2⟩ := w2.e1
  have hxl := c2.length
  obtain ⟨y, hy, ry⟩ := RpAll.getD c2 (List.getElem?_eq_getElem hj)
  have w3 := w2.put1 g0 (RpAll.erase j c2)
  refine ⟨l, xs', (j : Int), j, y, rfl, rfl, c1, by omega, by omega, seqIndex_of (by omega) (by omega), hy, ?_⟩
  exact k j hj y _ _ w3 s.sub ry
end
end Fv

/-! sorted(xs, key=f), f a def of the text -/
namespace PySem.W
open PySem PySem.Calls PyProof.Rows
section
variable {prog : Program} {w : World} {A : Around} {E : Value → Shared → Prop} {s : Shared} {a ks : Addr} {b : Bool} {ws : List Value} {ep : Nat} {P : PySem.Fin → Shared → Prop} {dk : List PyData} {f : Value}
theorem keyI_rest (Iv : Nat → Array Value → Shared → Prop) (h0 : Iv 0 #[] s) (hka : ks ≠ a)
    (at_ : ∀ i kA s', Iv i kA s' → kA.size = i ∧ (∃ e, s'.heap.get? ks = some (seqObj "list" kA e)) ∧ s'.heap.get? a = some (seqObj "list" #[] ep))
    (turn : ∀ i v, ws[i]? = some v → ∀ kA s', Iv i kA s' → wpAny (model prog w) A (call f [v]) (fun u s'' => (∃ e, s''.heap.get? ks = some (seqObj "list" kA e)) ∧ Iv (i + 1) (kA.push u) { s'' with heap := s''.heap.update ks (Obj.mapSeq (·.push u)) }) (fun _ _ => False) s')
    (nl : dk.length = ws.length) (zl : ws.length ≤ sizeLine) (al : AllAlike dk) (so : Sortable dk) (up : ∀ d, d ∈ dk → A.units + d.depth < cLine)
    (fin : ∀ kA s', Iv ws.length kA s' → EachIs (fun v k => ∃ as, Reads s'.heap v k as) kA.toList dk ∧ ∀ h' tk out c, (∀ b o, b ≠ a → b ≠ ks → s'.heap.get? b = some o → h'.get? b = some o) → h'.get? a = some (seqObj "list" (List.toArray out) c) → KeyedOut b dk ws out → P (.done (.ret .none)) { s' with heap := h', toks := tk }) :
    wpAny (model prog w) A (ksk_rest a f b ws.toArray ep (.ref ks)) P E s := by
  unfold ksk_rest
  refine wpAny_bind (wpAny_rule ?_)
  first | rw [List.forIn_toArray] | (rw [← Array.forIn_toList]; simp only [List.toList_toArray]) | rw [← Array.forIn_toList]
  refine wpAny_bind (ksk_fold (fun i s' => ∃ kA, Iv i kA s') ws 0 s ⟨#[], h0⟩ ?step ?done)
  case step =>
    rintro j x s' hx ⟨kA, hI⟩
    simp only [Nat.zero_add] at hI ⊢
    have jl : j < ws.length := (List.getElem?_eq_some_iff.mp hx).1
    obtain ⟨hsz, _, _⟩ := at_ j kA s' hI
    refine wpAny_bind (wpAny_attempt (wpAny_mono (turn j x hx kA s' hI) (fun v s'' he => ?_) fun _ _ hF => hF.elim))
    obtain ⟨⟨e, nk⟩, hI2⟩ := he
    try dsimp only
    have hz : kA.size ≤ ws.length := by omega
    refine wpAny_bind (listUpdate_at nk rfl ?_ (Nat.le_trans hz zl) (Nat.le_trans (Nat.le_of_eq (Array.size_push ..)) (Nat.succ_le_succ (Nat.le_trans hz zl))))
    exact wpAny_pure ⟨rfl, kA.push v, hI2⟩
  case done =>
    rintro s' ⟨kA, hI⟩
    simp only [Nat.zero_add] at hI
    obtain ⟨hsz, ⟨e, nk⟩, na⟩ := at_ _ kA s' hI
    obtain ⟨hk', fin'⟩ := fin kA s' hI
    try dsimp only
    refine wpAny_bind (listItems_at nk rfl ?_)
    have sb := Heap.SameBut.update s'.heap ks fun o => { o with data := .freed }
    have gone : (s'.heap.update ks fun o => { o with data := .freed }).get? ks = none := PyProof.Rows.TI.get?_update_freed _ _
    refine keyH_end (κ := dataKind s'.heap dk) (h₁ := s'.heap.update ks fun o => { o with data := .freed }) (fun b o hb ob => ?_) gone nk na hka (SortsAt.data (s := s') hk' al so up) hsz zl fun h3 tk3 c k3 n3 => fin' h3 tk3 _ c (fun b o hb hbk ob => k3 b o hb ((sb.2 b hbk).trans ob)) n3 ⟨s'.heap, kA.toList, al, rfl, hk'⟩
    by_cases hbk : b = ks
    · rw [hbk, gone] at ob; cases ob
    · exact (sb.2 b hbk).symm.trans ob
theorem keyI_tree {n : Nat} (ob : s.heap.get? a = some (seqObj "list" ws.toArray n)) (zl : ws.length ≤ sizeLine)
    (body : ∀ h2 ep ks, (∀ b o, b ≠ a → s.heap.get? b = some o → h2.get? b = some o) → h2.get? a = some (seqObj "list" #[] ep) → ks ≠ a → s.heap.objs.size ≤ ks → h2.get? ks = some (seqObj "list" #[] 0) →
      wpAny (model prog w) A (ksk_rest a f b ws.toArray ep (.ref ks)) P E { s with heap := h2 }) :
    wpAny (model prog w) A (ksk_tree a f b) P E s := by
  have la : a < s.heap.objs.size := Heap.lt_size ob
  obtain ⟨ep, ob1⟩ : ∃ ep, (s.heap.update a (Obj.mapSeq fun _ => (#[] : Array Value))).get? a = some (seqObj "list" #[] ep) := ⟨_, get?_update_seq ob fun _ => #[]⟩
  have lk : ((s.heap.update a (Obj.mapSeq fun _ => (#[] : Array Value))).push (seqObj "tuple" ws.toArray 0)).objs.size = s.heap.objs.size + 1 := by rw [size_push', Heap.size_update]
  unfold ksk_tree
  refine wpAny_bind (listItems_at ob rfl ?_)
  refine wpAny_bind (listUpdate_at ob rfl ?_ (by rw [List.size_toArray]; exact zl) (Nat.zero_le _))
  refine wpAny_bind (seqEpoch_at ob1 rfl ?_)
  refine wpAny_bind (wpAny_newTuple ?_ (by show ws.length ≤ _; exact zl))
  refine wpAny_bind (wpAny_newList ?_ (Nat.zero_le _))
  refine wpAny_holding ?_
  exact body (((s.heap.update a (Obj.mapSeq fun _ => (#[] : Array Value))).push (seqObj "tuple" ws.toArray 0)).push (seqObj "list" #[] 0)) ep _ (fun b o hb q => sortingHeap_old hb q) (Heap.get?_push_of_some _ (Heap.get?_push_of_some _ ob1)) (by rw [lk]; exact Nat.ne_of_gt (Nat.lt_succ_of_lt la)) (by rw [lk]; exact Nat.le_succ _) (Heap.get?_push_size _ rfl)
end
end PySem.W

namespace Fv
open PySem PySem.Spec PyProof.Rows L2 Evl StX
def sortBy (ks : PyData → PyData) (ds : List PyData) : List PyData := ds.mergeSort (PySem.W.dataLe false ks)
theorem sortBy_perm (ks : PyData → PyData) (ds : List PyData) : (sortBy ks ds).Perm ds := List.mergeSort_perm _ _
section
variable {X : Cx} {K : PySem.W.Frag} {pt : Option Pt} {σ : L2.St} {F F' H : Hp} {te : TE} {ι : Type} {A : ι → List PyData} {Pi : ι → Prop} {fK : ι → PyData} {f : Addr} {fd : FuncData} {x : Str} {k : Nat}
def rSortKey (K : PySem.W.Frag) (A : ι → List PyData) (Pi : ι → Prop) (fK : ι → PyData) (f : Addr) (ks : PyData → PyData) : List V → List V → Hp → VK → Prop := fun xs zs H Q => ∃ (F : Hp) (l : Addr) (ps : List (V × PyData)), xs = [.ref l] ∧ zs = [.ref f] ∧ Ex F H ∧ F l = some (.lst (ps.map (·.1))) ∧ (∀ p ∈ ps, Rp K F p.1 p.2) ∧
  PySem.W.AllAlike (ps.map fun p => ks p.2) ∧ PySem.W.Sortable (ps.map fun p => ks p.2) ∧ (∀ p ∈ ps, (ks p.2).depth ≤ 10) ∧ (∀ p ∈ ps, ∃ i, A i = [p.2] ∧ Pi i ∧ fK i = ks p.2) ∧
  ∀ F2 H2 a, Step none F H F2 H2 → H2 a = none → Q (.ref a) (upd H2 a (.lst ((ps.mergeSort (PySem.W.dataLe false fun p => ks p.2)).map (·.1))))
theorem ad_ne {a b n : Nat} (h : a < n) (k : n ≤ b) : a ≠ b := by omega
/-- two new untracked objects beside what is tracked -/
theorem inv_pin {pins : List (Addr × Obj)} {s : Shared} {n : Nat} {a : Addr} {o : Obj} (I : Inv X pins σ H s) (hn : n ≤ a) (hs : X.env.locals < n) (hH : H a = none) (hf : a ∉ X.fs) (ho : s.heap.get? a = some o) (hd : ∀ v, o.data ≠ .cell v) : Inv X ((a, o) :: pins) σ H s :=
  I.pins_of fun p hp => by
    rcases List.mem_cons.mp hp with rfl | hp
    · exact ⟨ho, hH, (ad_ne hs hn).symm, hf, hd⟩
    · exact I.pin p (List.mem_append_right _ hp)
theorem inv_unpin {pins : List (Addr × Obj)} {s : Shared} {q : Addr × Obj} (I : Inv X (q :: pins) σ H s) : Inv X pins σ H s := I.pins_of fun p hp => I.pin p (List.mem_append_right _ (List.mem_cons_of_mem _ hp))
theorem reads_each {s : Shared} {pins : List (Addr × Obj)} (I : Inv X pins σ H s) : ∀ {vs : List V} {us : List Value} {ds : List PyData}, RpAll X.K H vs ds → Vals vs us → PySem.W.EachIs (fun v d => ∃ as, Reads s.heap v d as) us ds
  | _, _, [], h, r => by cases h; cases r; exact .nil
  | _, _, d :: ds, h, r => by
    cases h with
    | cons h1 h2 => cases r with
      | cons r1 r2 => exact .cons (Dp.reads I d _ _ (Rp.dp _ _ h1) r1) (reads_each I h2 r2)
theorem c_sortKey {ks : PyData → PyData} (G : FnOk X.prog X.w X.K X.mg X.base CX0 k f fd [x] (PSp K A Pi fK)) (hb : Binds X.K fd [x] []) (hr : Room (k + 2) X.A) (h : X.K = K := by rfl) : CallRK X (.builtin "sorted") [Str.ofString "key"] (rSortKey K A Pi fK f ks) := by
  subst h
  intro pins s σ H xs zs us ws Q I r rz q
  obtain ⟨F, l, ps, rfl, rfl, eF, hl, hp, hal, hso, hdp, hA, q⟩ := q
  obtain rfl := Vals.ref1 r
  obtain ⟨w1, rfl, e1⟩ := vals1 rz
  obtain rfl : w1 = Value.ref f := e1
  obtain ⟨its, rv, pl, hz⟩ := I.list (SqL.of (eF _ _ hl))
  have hz' : its.length ≤ sizeLine := by rw [← rv.length]; exact hz
  have ea : PySem.W.EachIs (fun u b => RelV b.1 u) its ps := each_of_vals rv
  have hlen : ps.length = its.length := ea.length.symm
  refine PySem.W.sorted_of_sort pl.isList hz' (PyProof.Rows.ksk_s1 _ _) (fun _ => PyProof.Rows.ksk_l1 _ _) fun E' => ?_
  show wpAny _ _ (Builtin.«list.sort» ⟨[.ref (s.heap.objs.size + 1)], [(Str.ofString "key", .ref f)]⟩) _ _ _
  rw [PyProof.Rows.ksk_t1]
  have n0 : s.heap.objs.size ≤ s.heap.objs.size + 1 := Nat.le_succ _
  have hsc : s.heap.objs.size + 1 < (PySem.W.copyHeap s.heap its).objs.size := Heap.lt_size (PySem.W.copyHeap_at s.heap its)
  refine PySem.W.keyI_tree (s := { s with heap := PySem.W.copyHeap s.heap its }) (PySem.W.copyHeap_at s.heap its) hz' fun h2 e1 kS kp na hka hkS nk => ?_
  have lkS : s.heap.objs.size ≤ kS := Nat.le_trans (Nat.le_of_lt (Nat.lt_of_succ_lt hsc)) hkS
  have k2 : ∀ b u, s.heap.get? b = some u → h2.get? b = some u := fun b u e => kp b u (Nat.ne_of_lt (Nat.lt_succ_of_lt (Heap.lt_size e))) (PySem.W.copyHeap_old e)
  have I2 : Inv X pins σ H { s with heap := h2 } := I.kept (t' := s.toks) k2
  have Ia : Inv X ((s.heap.objs.size + 1, seqObj "list" #[] e1) :: pins) σ H { s with heap := h2 } := inv_pin I2 n0 I.lt (I.hok.fresh n0) (I.nofs n0) na (fun v z => by cases z)
  have Ik : Inv X ((kS, seqObj "list" #[] 0) :: (s.heap.objs.size + 1, seqObj "list" #[] e1) :: pins) σ H { s with heap := h2 } := inv_pin Ia lkS I.lt (I.hok.fresh lkS) (I.nofs lkS) nk (fun v z => by cases z)
  have old : ∀ p ∈ X.pn ++ ((s.heap.objs.size + 1, seqObj "list" #[] e1) :: pins), p.1 ≠ kS := fun p hp z => by
    have hm : p ∈ X.pn ++ pins ∨ p = (s.heap.objs.size + 1, seqObj "list" #[] e1) := by
      rcases List.mem_append.mp hp with y | y
      · exact .inl (List.mem_append_left _ y)
      · rcases List.mem_cons.mp y with y | y
        · exact .inr y
        · exact .inl (List.mem_append_right _ y)
    rcases hm with y | y
    · exact ad_ne (Heap.lt_size (I.pin p y).1) lkS z
    · rw [y] at z; exact hka z.symm
  have cellk : ∀ y c, X.env.cells.lookup y = some c → c < s.heap.objs.size := fun y c e => by
    obtain ⟨v, o, ho, _⟩ := I.cell y c e
    exact Heap.lt_size ho
  refine PySem.W.keyI_rest (dk := ps.map fun p => ks p.2) (s := { s with heap := h2 }) (fun i kA s' => ∃ H' F' kvs e, Inv X ((kS, seqObj "list" kA e) :: (s.heap.objs.size + 1, seqObj "list" #[] e1) :: pins) σ H' s' ∧ Step none F H F' H' ∧ Vals kvs kA.toList ∧ RpAll X.K F' kvs ((ps.map fun p => ks p.2).take i) ∧ kA.size = i)
    ⟨H, F, [], 0, Ik, Step.refl eF .nil, .nil, .nil, rfl⟩ hka (fun i kA s' h => ?_) (fun i v hv kA s' h => ?_) (by rw [List.length_map]; exact hlen) hz' hal hso (fun d hd => ?_) (fun kA s' h => ?_)
  · obtain ⟨H', F', kvs, e, I', _, _, _, hs⟩ := h
    exact ⟨hs, ⟨e, (I'.pin _ (List.mem_append_right _ (List.mem_cons_self ..))).1⟩, (I'.pin (s.heap.objs.size + 1, seqObj "list" #[] e1) (List.mem_append_right _ (List.mem_cons_of_mem _ (List.mem_cons_self ..)))).1⟩
  · obtain ⟨H', F', kvs, e, I', st, rk, rp, hs⟩ := h
    have hi : i < its.length := (List.getElem?_eq_some_iff.mp hv).1
    obtain ⟨p, hpp⟩ : ∃ p, ps[i]? = some p := ⟨_, List.getElem?_eq_getElem (by omega)⟩
    obtain ⟨u, hu, ru⟩ := Vals.get rv (i := i) (x := p.1) (by rw [List.getElem?_map, hpp]; rfl)
    obtain rfl : u = v := by rw [hv] at hu; exact (Option.some.inj hu).symm
    have hm : p ∈ ps := List.mem_of_getElem? hpp
    obtain ⟨j, hj1, hj2, hj3⟩ := hA p hm
    have sp : PSp X.K A Pi fK [p.1] H' (fun v' H2 => ∃ F2, Step none F' H' F2 H2 ∧ Rp X.K F2 v' (ks p.2)) E0 := ⟨j, F', hj2, st.inn, by rw [hj1]; exact .one (Rp.mono st.sub _ _ (hp p hm)), fun v' F2 H2 s2 hv2 => ⟨F2, s2, by rw [← hj3]; exact hv2⟩⟩
    refine wpAny_call (codeAny_mono (G.run X.A.in1.in1 X.stack s' H' ⟨[u], []⟩ [u] [p.1] _ E0 hr.in1.in1 I'.env0.in1.in1 (by
      have := hb s' [u] I'.kIn rfl
      simpa using this) (.cons ru .nil) sp) fun r s'' hq => ?_)
    cases r with
    | error e => exact hq.elim
    | ok fl =>
      cases fl with
      | next => exact False.elim hq
      | brk => exact False.elim hq
      | cont => exact False.elim hq
      | ret w1 =>
        obtain ⟨v', H2, I3, rw1, F2, s2, hv2⟩ := I'.after hq
        have nk2 := (I3.pin (kS, seqObj "list" kA e) (List.mem_append_right _ (List.mem_cons_self ..)))
        refine ⟨⟨e, nk2.1⟩, ?_⟩
        have s1 := Heap.SameBut.update s''.heap kS (Obj.mapSeq (·.push w1))
        obtain ⟨c2, hc2⟩ : ∃ c2, (s''.heap.update kS (Obj.mapSeq (·.push w1))).get? kS = some (seqObj "list" (kA.push w1) c2) := ⟨_, get?_update_seq nk2.1 (·.push w1)⟩
        have I4 := (inv_unpin I3).turned (t' := s''.toks) (it := kS) (fun b o hb e => (s1.2 b hb).trans e) nk2.2.1 nk2.2.2.1 (.inr (Nat.le_trans I.sz lkS)) (fun y c e => ad_ne (cellk y c e) lkS) old
        have I5 := inv_pin I4 lkS I.lt nk2.2.1 nk2.2.2.2.1 hc2 (fun v z => by cases z)
        refine ⟨H2, F2, kvs ++ [v'], c2, I5, st.trans s2, ?_, ?_, ?_⟩
        · have : (kA.push w1).toList = kA.toList ++ [w1] := by simp
          rw [this]; exact rk.append (.cons rw1 .nil)
        · have : (ps.map fun p => ks p.2).take (i + 1) = (ps.map fun p => ks p.2).take i ++ [ks p.2] := by rw [List.take_add_one, List.getElem?_map, hpp]; rfl
          rw [this]; exact RpAll.append (RpAll.mono s2.sub _ _ rp) (.one hv2)
        · rw [Array.size_push, hs]
  · obtain ⟨p, hm, rfl⟩ := List.mem_map.mp hd
    have := hdp p hm
    have := hr.un
    show X.A.units + 1 + 1 + _ < _
    omega
  · obtain ⟨H', F', kvs, e, I', st, rk, rp, hs⟩ := h
    have tk : (ps.map fun p => ks p.2).take its.length = ps.map fun p => ks p.2 := List.take_of_length_le (by rw [List.length_map]; omega)
    rw [tk] at rp
    refine ⟨reads_each I' (RpAll.mono st.inn _ _ rp) rk, fun h' tk out c kk na' ko => ⟨rfl, ?_⟩⟩
    have out' := PySem.W.keyedOut_each (R := fun u (b : V × PyData) => RelV b.1 u) (fun b => ks b.2) ko ea
    generalize eq : ps.mergeSort (PySem.W.dataLe false fun b : V × PyData => ks b.2) = qs at out'
    have pq : qs.Perm ps := eq ▸ List.mergeSort_perm _ _
    have vo : Vals (qs.map (·.1)) out := vals_of_each out'
    have len : (qs.map (·.1)).length ≤ sizeLine := by rw [List.length_map, pq.length_eq]; omega
    have pa := I'.pin (s.heap.objs.size + 1, seqObj "list" #[] e1) (List.mem_append_right _ (List.mem_cons_of_mem _ (List.mem_cons_self ..)))
    have pk := I'.pin (kS, seqObj "list" kA e) (List.mem_append_right _ (List.mem_cons_self ..))
    have Hn : H' (s.heap.objs.size + 1) = none := pa.2.1
    have Hk : H' kS = none := pk.2.1
    have I6 := inv_unpin (inv_unpin I')
    have hq := q F' H' (s.heap.objs.size + 1) st Hn
    rw [eq] at hq
    refine ⟨.ref (s.heap.objs.size + 1), upd H' (s.heap.objs.size + 1) (.lst (qs.map (·.1))), ?_, rfl, hq⟩
    refine I6.step (g' := s'.gens) (d' := s'.drawn) (t' := tk) (ch := [s.heap.objs.size + 1, kS]) (fun b hb => ?_) (fun b o _ _ hc e _ => kk b o (fun z => hc (by simp [z])) (fun z => hc (by simp [z])) e) (fun b o _ _ hc e _ => ⟨o.slots, kk b o (fun z => hc (by simp [z])) (fun z => hc (by simp [z])) e⟩)
      (fun b o hc e n => by rw [upd_ne (fun z => hc (by simp [z]))]; exact n) (fun b o hc e => ⟨o, kk b o (fun z => hc (by simp [z])) (fun z => hc (by simp [z])) e⟩) (fun b xs e => by rw [upd_ne (ne_of_none e Hn)]; exact e) (fun b o u e => by rw [upd_ne (ne_of_none e Hn)]; exact e) (fun b p e => ⟨#[], by rw [upd_ne (ne_of_none e Hn), e]; simp⟩) (fun m hm => ?_) (fun b u e => ?_) I6.bare
    · have hb' : b = s.heap.objs.size + 1 ∨ b = kS := by simpa using hb
      have hb2 : s.heap.objs.size ≤ b := by
        rcases hb' with z | z
        · rw [z]; exact n0
        · rw [z]; exact lkS
      exact ⟨.inr (Nat.le_trans I.sz hb2), (ad_ne I.lt hb2).symm, fun y c e => ad_ne (cellk y c e) hb2, fun p hp => ad_ne (Heap.lt_size (I.pin p hp).1) hb2⟩
    · obtain ⟨o, es, ep, ho, r⟩ := hm
      exact ⟨o, es, ep, kk _ o (ad_ne I.lt n0) (ad_ne I.lt lkS) ho, r⟩
    · by_cases hb : b = s.heap.objs.size + 1
      · subst hb
        rw [upd_same] at e
        cases e
        exact ⟨len, out, c, vo, na'⟩
      · rw [upd_ne hb] at e
        refine (I6.hok b u e).stay (fun c v hc q => kk c v ?_ ?_ q) (fun c q => by rw [upd_ne (ne_of_none q Hn)]; exact q) fun c xs q => by rw [upd_ne (ne_of_none q Hn)]; exact q
        · rintro rfl
          rcases hc with z | z
          · exact hb z.symm
          · rw [Hn] at z; cases z
        · rintro rfl
          rcases hc with z | z
          · rw [← z, Hk] at e; cases e
          · rw [Hk] at z; cases z
theorem g_sortKey {ks : PyData → PyData} {ds : List PyData} (h : EvG K pt te σ F (Is (.list ds))) (hal : PySem.W.AllAlike (ds.map ks)) (hso : PySem.W.Sortable (ds.map ks)) (hdp : ∀ d ∈ ds, (ks d).depth ≤ 10) (hA : ∀ d ∈ ds, ∃ i, A i = [d] ∧ Pi i ∧ fK i = ks d) :
    EvG K pt (tCKw (rSortKey K A Pi fK f ks) (tCons te tNil) (tCons (tC (.ref f)) tNil)) σ F (Is (.list (sortBy ks ds))) := fun H1 i g Q q =>
  h H1 i g _ fun d v F2 H2 hd s hv => by
    subst hd
    obtain ⟨a, xs, rfl, hl, ha⟩ := rp_lst hv
    obtain ⟨e1, e2, e3⟩ := rp_pairs ha
    have e4 : ((xs.zip ds).map fun p => ks p.2) = ds.map ks := by rw [← e2, List.map_map, e2]; rfl
    have m2 : ∀ p ∈ xs.zip ds, p.2 ∈ ds := fun p hp => by rw [← e2]; exact List.mem_map_of_mem hp
    refine ⟨F2, a, xs.zip ds, rfl, rfl, s.inn, by rw [e1]; exact hl, e3, by rw [e4]; exact hal, by rw [e4]; exact hso, fun p hp => hdp _ (m2 p hp), fun p hp => hA _ (m2 p hp), fun F3 H3 p s2 hp => ?_⟩
    have s2' : Step pt F2 H2 F3 H3 := s2.lift s.good
    generalize eq : (xs.zip ds).mergeSort (PySem.W.dataLe false fun b : V × PyData => ks b.2) = qs
    have pq : qs.Perm (xs.zip ds) := eq ▸ List.mergeSort_perm _ _
    have snd : qs.map (·.2) = sortBy ks ds := by
      rw [← eq]
      have := PySem.W.sort_maps (r := PySem.W.dataLe false fun b : V × PyData => ks b.2) (s := PySem.W.dataLe false ks) (l := xs.zip ds) (fun x : V × PyData => x.2) fun _ _ _ _ => rfl
      rw [this, e2]; rfl
    have s3 : Step pt F3 H3 (upd F3 p (.lst (qs.map (·.1)))) (upd H3 p (.lst (qs.map (·.1)))) := .laid s2'.inn s2'.good hp
    refine q _ _ _ _ rfl ((s.trans s2').trans s3) (.lst upd_same ?_)
    rw [← snd]
    exact pairs_rp fun r hr => Rp.mono (s2'.sub.trans s3.sub) _ _ (e3 r (pq.mem_iff.mp hr))
end
end Fv

/-! an error of one's own whose context is told; comprehensions and calls while an error is handled -/
namespace Fv
open PySem PySem.Spec PyProof.Rows L2 L2H Evl StX
section
variable {X : Cx}
theorem pmk_oexN {CX : CXT} {x : Str} {C fI : Addr} {k : Nat} {fd : FuncData} {ps : List Str} {sp : Sp} {p pos : Pos} {e : Expr} {es : List Expr} {ta : TA} (T : OexC X.K C) (iC : PySem.W.findIn X.K (.ref C) "__init__" = some (some (.ref fI))) (tI : PySem.W.typeIn X.K (.ref fI) = some (.type "function"))
    (F1 : FnOk X.prog X.w X.K X.mg X.base CX k fI fd ps sp) (hr : Room (k + 1) X.A) (hb : Binds X.K fd ps []) (hx : Passes CX X (fun _ _ _ => False)) (hg : Gl X x) (hm : X.mg x = some (.ref C)) (ha : PA X (e :: es) ta)
    (hdb : (x == ("__debug__" : Str)) = false := by decide) (st : starEach (e :: es) X.env = (false, eval e X.env) :: starEach es X.env := by rfl) (np : (backTo pos (starEach es X.env)).any (·.1) = false := by rfl) :
 L2N.PMk X (.Call (.Name x p) (e :: es) [] pos) (tMkO C sp [] ta) := by
  intro pins s σ H Q I h
  obtain ⟨nm, qq, N, bs, bm, sn, sub, ab, col, dd, k0, k1, k2, k3, k5, hC, hbm⟩ := T.cls
  refine wpAny_Call_Name_kw (ld_glob I hg hm (PySem.W.callWith_K (h₀ := X.base) I.ok.mod.kin T.kC (thn (ha.run pos pins s σ H _ I h) fun us t z => ?_) st np) hdb)
  obtain ⟨vs, H1, I1, rv, few, q0⟩ := z
  refine ⟨I1.kIn, ?_⟩
  show wpAny _ _ (call (.ref C) us) _ _ _
  obtain ⟨hp, g, dr, tk, os⟩ := t
  have lo : hp.objs.size ≤ hp.objs.size + 1 := Nat.le_succ _
  have q1 := q0 (hp.objs.size + 1) (I1.hok.fresh lo)
  rw [List.append_nil] at q1
  have kk : ∀ b o, hp.get? b = some o → ((hp.push (PySem.W.kdv_tup us)).push (PySem.HandSPX.excO C hp.objs.size)).get? b = some o := fun _ _ z => Heap.get?_push_of_some _ (Heap.get?_push_of_some _ z)
  have got : ((hp.push (PySem.W.kdv_tup us)).push (PySem.HandSPX.excO C hp.objs.size)).get? (hp.objs.size + 1) = some (PySem.HandSPX.excO C hp.objs.size) := by heap_get
  have J : Inv X pins σ (upd H1 (hp.objs.size + 1) (exo (hp.objs.size + 1) C none)) ⟨(hp.push (PySem.W.kdv_tup us)).push (PySem.HandSPX.excO C hp.objs.size), g, dr, tk, os⟩ :=
    I1.laid (t' := tk) (a := hp.objs.size + 1) (o := exo (hp.objs.size + 1) C none) (h' := (hp.push (PySem.W.kdv_tup us)).push (PySem.HandSPX.excO C hp.objs.size)) kk lo (exo_ok got)
  have rv2 : Vals (V.ref (hp.objs.size + 1) :: vs) (Value.ref (hp.objs.size + 1) :: us) := .cons rfl rv
  have ln : (Value.ref (hp.objs.size + 1) :: us).length = ps.length := by rw [← rv2.length]; exact F1.len _ _ _ _ q1
  have few2 : us.length ≤ sizeLine := by rw [← Paired.length rv]; exact Nat.le_trans few (by decide)
  have bd := hb _ (Value.ref (hp.objs.size + 1) :: us) J.kIn (by simpa using ln)
  rw [List.append_nil] at bd
  refine wpAny_call (PySem.HandSPX.call_own F.excBase_ValueError (fun Y => PySem.HandSPX.refsVE_contains Y bm hbm) (I1.kIn _ _ hC) (PySem.W.looks_findIn I1.kIn iC) (fun self => PySem.W.bind_fn I1.kIn self tI) few2
    (codeAny_mono (F1.run _ X.stack _ _ ⟨Value.ref (hp.objs.size + 1) :: us, []⟩ (Value.ref (hp.objs.size + 1) :: us) _ _ (fun _ _ _ => False) (hr.make C us []) (J.env0.make C us []) bd rv2 q1) fun r s2 z => ?_))
  match r, z with
  | .error er, z => exact hx pins σ _ _ er s2 J z
  | .ok (.ret u), z =>
    obtain ⟨v, H2, os2, bare2, un2, hok2, rw2, ev, d, fs, ea, ed, hd1, q2⟩ := z
    subst ev
    obtain ⟨h2, g2, d2, t2, os'⟩ := s2
    obtain ⟨t0, G, J2, kG, ge, hoe, na⟩ := mk_end0 (d2 := d2) (t2 := t2) I1 lo kk un2 hok2 os2 bare2 ea ed hd1
    exact ⟨rw2, hp.objs.size + 1, _, _, ⟨G, g2, d2, t2, os'⟩, _, .ref C, some d, rfl, J2, kG, ge, hoe, ⟨rfl, rfl, fun vs hv => by cases hv; rfl⟩, rfl, rfl, na, rfl, bare2, raises_own T.exC T.tyC, q2⟩
theorem okXN {P : Program} {w : World} {K : PySem.W.Frag} {mg : Str → Option Value} {base : Heap} {x qual : Str} {st : Stmt} {f : Addr} {fd : FuncData} {N ps : List Str} {k : Nat} {sp : Sp} (Fn : Fun K x qual st f fd) (S : FnScope N ps (defScope st)) (len : ∀ vs H Q E, sp vs H Q E → vs.length = ps.length)
    (hb : ∀ (cv : Value) (A : Around) (out : List Env) (s : Shared) (H : Hp) (vs : List V) (Q : VK) (E : XK), Room k (A.deeper (envOfC qual (defScope st) s.heap.objs.size f cv)) → sp vs H Q E →
      ∃ t, PSs (cxOf (L2N.CX P w) P w K mg base N qual (defScope st) f cv A out s H E) (defBody st) t ∧ t { nx := fun _ H2 => Q .non H2, rt := Q } (start N vs) H) : FnOk P w K mg base (L2N.CX P w) (k + 1) f fd ps sp := by
  obtain ⟨oc, od, kV, doc, pm, an, cdv, ct, osl, rfl, lk, hc⟩ := Fn.ex
  exact fn_of lk hc S len fun A out s H vs Q E hr hs => hb cdv A out s H vs Q E hr hs
theorem okH {P : Program} {w : World} {K : PySem.W.Frag} {mg : Str → Option Value} {base : Heap} {x qual : Str} {st : Stmt} {f : Addr} {fd : FuncData} {N ps : List Str} {k : Nat} {sp : Sp} (Fn : Fun K x qual st f fd) (S : FnScope N ps (defScope st)) (len : ∀ vs H Q E, sp vs H Q E → vs.length = ps.length)
    (hb : ∀ (cv : Value) (A : Around) (out : List Env) (s : Shared) (H : Hp) (vs : List V) (Q : VK) (E : XK) (p : Addr × Obj), Hot1 A p → RoomH k (A.deeper (envOfC qual (defScope st) s.heap.objs.size f cv)) → sp vs H Q E →
      ∃ t, PSs (cxH CX0 P w K mg base N qual (defScope st) f cv A out s H E p) (defBody st) t ∧ t { nx := fun _ H2 => Q .non H2, rt := Q } (start N vs) H) : FnH P w K mg base CX0 (k + 1) f fd ps sp := by
  obtain ⟨oc, od, kV, doc, pm, an, cdv, ct, osl, rfl, lk, hc⟩ := Fn.ex
  exact fn_ofH lk hc S len fun A out s H vs Q E p hot hr hs => hb cdv A out s H vs Q E p hot hr hs
/-- the block of a comprehension keeps in mind what is handled -/
abbrev blkH (X : Cx) (s : Shared) (H : Hp) (sc : Scope) (en : Env) (fp : List Addr) : Cx := { X.blk s H sc en fp with pn := X.pn }
theorem blkH_ok {s : Shared} {H : Hp} {sc : Scope} {en : Env} {fp : List Addr} (o : (X.blk s H sc en fp).Ok) : (blkH X s H sc en fp).Ok :=
  ⟨o.mod, o.kind, o.glob, o.blt, o.above, o.inj, o.has, o.cab, o.hd, o.frames, o.stk, o.exf, o.bs, o.bsz, o.noex, o.exfs, o.funs, o.frf⟩
variable {pins : List (Addr × Obj)} {σ : L2.St} {H : Hp} {s : Shared}
theorem blkH_start {sc : Scope} {own : List (Str × Nat)} {fp : List Addr} (I : Inv X pins σ H s) (bo : BlkOk X.N X.env.scope sc own) (nd : X.N.Nodup) (hf : ∀ b ∈ fp, FpOk X pins H b ∧ b < s.heap.objs.size) :
    Inv (blkH X s H sc (compEnvC sc (cellsFrom (s.heap.objs.size + 1) sc.names (cloFrom X.env.cells sc.names [])) s.heap.objs.size X.env) fp) [] (wipe σ (own.map (·.2))) H { s with heap := pushCells (s.heap.push { cls := .type "dict", data := .dict #[] }) sc.names } := by
  have J := block_start I bo nd hf
  refine ⟨blkH_ok J.ok, J.os, J.bare, J.base, J.loc, J.cell, J.free, J.freeC, fun p hp => ?_, J.hok, J.len⟩
  have hm : p ∈ X.pn ++ pins := List.mem_append_left _ (by simpa using hp)
  obtain ⟨g1, g2, g3, g4, g5⟩ := I.pin p hm
  exact ⟨pushCells_keeps _ _ _ _ (Heap.get?_push_of_some _ g1), g2, ad_ne (Heap.lt_size g1) (Nat.le_refl _), fun z => (List.mem_cons.mp (I.stkSub p.1 z)).elim g3 g4, g5⟩
theorem pe_lcH {elt tg iter : Expr} {ifs : List Expr} {sc : Scope} {own : List (Str × Nat)} {pos : Pos} {wi : TI} {g : TG} {tt : TT} {te : TE} (hot : HotC X) (nd : X.N.Nodup) (hi : PIH X tg iter wi) (bo : BlkOk X.N X.env.scope sc own)
    (hg : ∀ (s : Shared) (H : Hp) (C : Addr) (cl : List (Str × Addr)) (fp : List Addr), PG (blkH X s H sc (compEnvC sc cl C X.env) fp) tg g) (ht : ∀ (s : Shared) (H : Hp) (C : Addr) (cl : List (Str × Addr)) (fp : List Addr), PTs (blkH X s H sc (compEnvC sc cl C X.env) fp) ifs tt)
    (he : ∀ (s : Shared) (H : Hp) (C : Addr) (cl : List (Str × Addr)) (fp : List Addr), PE (blkH X s H sc (compEnvC sc cl C X.env) fp) elt te) (hs : ∀ x, foldedSetIterable iter X.env x = pure x := by intro _; rfl) :
    PE X (.ListComp elt [⟨tg, iter, ifs, 0⟩] sc pos) (tLc wi g tt te (own.map (·.2))) := by
  refine ⟨fun pins s σ H Q I h => ?_⟩
  rw [eval_ListComp]
  have clo : ∀ y ∈ sc.names, y.2 = .free → ∃ c, X.env.cells.lookup y.1 = some c := fun y hy e => (bo.free y hy e).elim (fun z => I.ok.has _ (.inl z)) (fun z => I.ok.has _ (.inr z))
  refine wpAny_comprehension_free rfl hs (closure_ok clo) bo.kind (fun y hy e => by rw [bo.uniq y hy, e]) (thn (hi.run pins s σ H _ I h) fun xv s1 hx => thn hx fun itv s2 hh => ?_)
  obtain ⟨it, fp, tn, J, H2, rfl, I2, T, st2, f2, q⟩ := hh
  refine wpAny_newObj_type (newEnv_comp ?_) (by show 0 ≤ sizeLine; decide)
  -- the list that is made, at the end of the heap
  obtain ⟨D, hD⟩ : ∃ D, s2.heap.objs.size = D := ⟨_, rfl⟩
  rw [hD]
  obtain ⟨W, ⟨m0, w0⟩, turn⟩ := q D (I2.hok.fresh (Nat.le_of_eq hD))
  obtain ⟨s3, hs3⟩ : ∃ s3 : Shared, { s2 with heap := s2.heap.push { cls := .type "list", data := .seq ([] : List Value).toArray } } = s3 := ⟨_, rfl⟩
  have e3 : s3.heap = s2.heap.push { cls := .type "list", data := .seq ([] : List Value).toArray } := by rw [← hs3]
  have up3 : ∀ b o, s2.heap.get? b = some o → s3.heap.get? b = some o := fun b o z => by rw [e3]; exact Heap.get?_push_of_some _ z
  have I3 : Inv X pins σ (upd H2 D (.lst [])) s3 := by
    subst hs3
    exact I2.laid (t' := s2.toks) up3 (Nat.le_of_eq hD) ⟨Nat.zero_le _, [], 0, .nil, by rw [← hD]; exact Heap.get?_push_size _ rfl⟩
  have lt2 : ∀ b ∈ fp, b < s2.heap.objs.size := fun b hb => by
    obtain ⟨o, e, _⟩ := T.obj _ _ st2 b hb
    exact Heap.lt_size e
  have f3 : ∀ b ∈ fp, FpOk X pins (upd H2 D (.lst [])) b ∧ b < s3.heap.objs.size := fun b hb =>
    ⟨⟨by rw [upd_ne (ad_ne (lt2 b hb) (Nat.le_of_eq hD))]; exact (f2 b hb).1, (f2 b hb).2⟩, by rw [e3, Heap.size_push]; exact Nat.lt_succ_of_lt (lt2 b hb)⟩
  have I4 := blkH_start I3 bo nd f3
  have pg := hg s3 (upd H2 D (.lst [])) s3.heap.objs.size (cellsFrom (s3.heap.objs.size + 1) sc.names (cloFrom X.env.cells sc.names [])) fp
  have pt := ht s3 (upd H2 D (.lst [])) s3.heap.objs.size (cellsFrom (s3.heap.objs.size + 1) sc.names (cloFrom X.env.cells sc.names [])) fp
  have pe := he s3 (upd H2 D (.lst [])) s3.heap.objs.size (cellsFrom (s3.heap.objs.size + 1) sc.names (cloFrom X.env.cells sc.names [])) fp
  have n3 : ∀ b ∈ fp, (upd H2 D (.lst [])) b = none := fun b hb => (f3 b hb).1.1
  rw [hs3]
  show codeAny (model X.prog X.w) X.A (.compStart (.ListComp elt [⟨tg, iter, ifs, 0⟩] sc pos) 0 (.ref it) (.ref D) (compEnvC sc (cellsFrom (s3.heap.objs.size + 1) sc.names (cloFrom X.env.cells sc.names [])) s3.heap.objs.size X.env)) (compPost (model X.prog X.w) X.A X.xe none (EP X pins σ Q) (.ref D) s3.heap.objs.size) { s3 with heap := pushCells (s3.heap.push { cls := .type "dict", data := .dict #[] }) sc.names }
  generalize hce : compEnvC sc (cellsFrom (s3.heap.objs.size + 1) sc.names (cloFrom X.env.cells sc.names [])) s3.heap.objs.size X.env = ce at I4 pg pt pe ⊢
  have cL : ce.locals = s3.heap.objs.size := by subst hce; rfl
  generalize hH3 : upd H2 D (.lst []) = H3 at I3 I4 pg pt pe w0 n3 f3
  generalize hs4 : ({ s3 with heap := pushCells (s3.heap.push { cls := .type "dict", data := .dict #[] }) sc.names } : Shared) = s4 at I4 ⊢
  have st4 : tn 0 s4.heap := T.keep _ _ _ st2 fun b _ o z => by rw [← hs4]; exact pushCells_keeps _ _ _ _ (Heap.get?_push_of_some _ (up3 b o z))
  have hotB : HotC (blkH X s3 H3 sc ce fp) := by
    obtain ⟨p, h1, h2⟩ := hot
    exact ⟨p, h1, h2⟩
  have fpo : ∀ {σ' : L2.St} {H' : Hp} {s' : Shared}, Inv (blkH X s3 H3 sc ce fp) [] σ' H' s' → (∀ b ∈ fp, H' b = none) → ∀ b ∈ fp, FpOk (blkH X s3 H3 sc ce fp) [] H' b := fun {σ' H' s'} I' hn b hb =>
    ⟨hn b hb, (I'.ok.exf b hb).1, I'.ok.exfs b hb, .inl hb, fun x c e => (I'.ok.exf b hb).2 x c e, fun p hp => (f3 b hb).1.2.2.2.2.2 p (List.mem_append_left _ (by simpa using hp))⟩
  have loop : codeAny (model X.prog X.w) X.A (.compLoop (.ListComp elt [⟨tg, iter, ifs, 0⟩] sc pos) 0 (.ref it) (.ref D) ce) (compPost (model X.prog X.w) X.A X.xe none (EP X pins σ Q) (.ref D) s3.heap.objs.size) s4 := by
    refine compLoop_any (fun n s' => ∃ i H', Inv (blkH X s3 H3 sc ce fp) [] (wipe σ (own.map (·.2))) H' s' ∧ tn i s'.heap ∧ (∀ b ∈ fp, H' b = none) ∧ W i n H') (fun n s5 hyp => ?_) m0 ⟨0, H3, I4, st4, n3, w0⟩
    obtain ⟨i, H5, I5, st5, n5, w5⟩ := hyp
    rcases turn i n H5 w5 with ⟨stop, qq⟩ | ⟨go, Nx, hNx, step⟩
    · refine thnF (T.done (blkH X s3 H3 sc ce fp) rfl rfl rfl hotB i [] s5 _ H5 (fun _ _ => False) I5 (fpo I5 n5) st5 stop) fun r s6 z => ?_
      obtain ⟨rfl, I6⟩ := z
      have I7 : Inv X pins σ H5 s6 := I3.call' (ch := fp) I6.os I6.base I6.hok I6.bare fun b hb => ⟨(f3 b hb).1.2.2.2.1, (f3 b hb).1.2.1, (f3 b hb).1.2.2.2.2.1, (f3 b hb).1.2.2.2.2.2⟩
      have nC : H5 s3.heap.objs.size = none := by rw [← cL]; exact I6.free
      obtain ⟨m, ns, _⟩ := I6.loc
      have ns' : s6.heap.Ns s3.heap.objs.size m := by rw [← cL]; exact ns
      obtain ⟨z0, z1, z2, z3, z4, z5⟩ := I3.fpOk (Nat.le_refl _) nC
      exact ⟨m, ns', fun h'' sb => ⟨.ref D, H5, I7.turned (t' := s6.toks) (fun b o hb e => (sb.2 b hb).trans e) z0 z1 z3 z4 z5, rfl, qq⟩⟩
    · refine thnF (T.item (blkH X s3 H3 sc ce fp) rfl rfl rfl hotB i [] s5 _ H5 (fun _ _ => False) I5 (fpo I5 n5) st5 go) fun r s6 z => ?_
      obtain ⟨u, rfl, h6⟩ := z
      refine thnF h6 fun _ s7 z => ?_
      obtain ⟨x, H7, I7, r7, y7, st7, n7⟩ := z
      have pinned := I7.pinned (fpo I7 n7) (T.obj _ _ st7)
      refine thnF (pg.run _ s7 _ H7 x u _ pinned r7 (step x H7 y7)) fun _ s8 z => ?_
      obtain ⟨σ8, H8, I8, hw8, q8⟩ := z
      refine thnF (pt.run _ s8 σ8 H8 _ I8 q8) fun b s9 z => ?_
      obtain ⟨H9, I9, q9⟩ := z
      have fin : ∀ {t : Shared} {H' : Hp}, Inv (blkH X s3 H3 sc ce fp) ([] ++ pinsAt fp s7.heap) σ8 H' t → Nx H' → ∃ m, m < n ∧ ∃ i H', Inv (blkH X s3 H3 sc ce fp) [] (wipe σ (own.map (·.2))) H' t ∧ tn i t.heap ∧ (∀ b ∈ fp, H' b = none) ∧ W i m H' := fun {t H'} I' nx => by
        obtain ⟨m', hm, w'⟩ := hNx H' nx
        have pin' : ∀ b ∈ fp, ∀ o, s7.heap.get? b = some o → t.heap.get? b = some o ∧ H' b = none := fun b hb o e => by
          have z := I'.pin (b, o) (List.mem_append_right _ (List.mem_append_right _ (mem_pinsAt hb e)))
          exact ⟨z.1, z.2.1⟩
        refine ⟨m', hm, i + 1, H', (I'.unpinned (pins := [])).weak (by rw [← hw8, wipe_length]) (fun j v e => ?_), T.keep _ _ _ st7 fun b hb o e => (pin' b hb o e).1, fun b hb => ?_, w'⟩
        · rw [← hw8] at e
          exact (wipe_some e).1
        · obtain ⟨o, e, _⟩ := T.obj _ _ st7 b hb
          exact (pin' b hb o e).2
      cases b with
      | false => exact fin I9 (by simpa using q9)
      | true =>
        have q9' : te σ8 H9 fun y H4 => ∃ acc, H4 D = some (.lst acc) ∧ acc.length < sizeLine ∧ Nx (upd H4 D (.lst (acc ++ [y]))) := by simpa using q9
        refine thnF (pe.run _ s9 σ8 H9 _ I9 q9') fun z s10 hz => ?_
        obtain ⟨yv, H10, I10, r10, acc, hD10, hz10, nx⟩ := hz
        exact app_ok (X := blkH X s3 H3 sc ce fp) I10 hD10 hz10 r10 fun s11 I11 => fin I11 nx
  exact codeAny_compStart_list loop (T.self X.A 0 _ _ _ st4 loop)
end
end Fv

/-! d.setdefault(row, e) where rows are the keys; two values at once into two names -/
namespace Fv
open PySem PySem.Spec PyProof.Rows L2 Evl StX
def rSetdT : V → List V → Hp → VK → Prop := fun x vs H Q => ∃ (a b : Addr) (kvs : List (List Key × V)) (k : List Key) (z : V), x = .ref a ∧ vs = [.ref b, z] ∧ H a = some (.dT kvs) ∧ H b = some (.tup (k.map kV)) ∧ kvs.length < sizeLine ∧
  (∀ v, valV kvs k = some v → Q v H) ∧ (valV kvs k = none → Q z (upd H a (.dT (putK kvs k z))))
theorem mt_setdT {X : Cx} (hu : X.A.units + 1 < cLine) : MtR X "dict.setdefault" rSetdT := by
  intro pins s σ H x vs v us Q I r rv h
  obtain ⟨a, b, kvs, k, z, rfl, rfl, e, eb, hl, h1, h2⟩ := h
  obtain rfl : v = Value.ref a := r
  obtain ⟨u1, r1, rfl, ru, rz⟩ : ∃ u1 r1, us = [u1, r1] ∧ RelV (.ref b) u1 ∧ RelV z r1 := by
    cases rv with
    | cons r1 r2 => cases r2 with
      | cons r3 r4 => cases r4; exact ⟨_, _, rfl, r1, r3⟩
  obtain rfl : u1 = Value.ref b := ru
  obtain ⟨hz, hd, xs, rel, dd⟩ := dt_of I.hok e
  have hx : xs.length ≤ sizeLine := by rw [← Paired.length rel]; exact hz
  refine call_setdefault_heap (knd := tupleKind (mixKind X.prog X.w)) (tupleKind_room_in1 hu) (key_of I.hok eb) hd dd (fun p hp => ?_) (fun hn h' dd' hs => ?_) hx
  · have y := rel.val k
    rw [hp] at y
    cases w : valV kvs k with
    | none => rw [w] at y; exact (show False from y).elim
    | some v0 => rw [w] at y; exact ⟨v0, H, I.tok _, y, h1 v0 w⟩
  · have y := rel.val k
    rw [hn] at y
    cases w : valV kvs k with
    | some v0 => rw [w] at y; exact (show False from y).elim
    | none =>
      have l2 : (putK kvs k z).length ≤ sizeLine := by have := length_putK kvs k z; omega
      obtain ⟨q, es, ep, hq, g2, g3, g4, _, g5⟩ := dd'
      refine ⟨z, upd H a (.dT (putK kvs k z)), d_write I (by rw [e]; exact True.intro) hs ⟨q, hq⟩ ⟨l2, hd, _, (rel.put k eb rz).keeps fun c ys ec => ?_, q, es, ep, hq, g2, g3, g4, g5⟩, rz, h2 w⟩
      rw [upd_ne (ne_of ec e (fun z => nomatch z))]
      exact ec
section
variable {K : PySem.W.Frag} {pt : Option Pt} {σ : L2.St} {F F' F0 H0 H : Hp} {te ta tb : TE} {ts tr : TA} {t : TT} {D : Ends} {tz tu tw : TS}
/-- the truth of a number that is drawn -/
theorem et_truU {Pk : Int → Prop} (h : EvG K pt te σ F (fun d => ∃ k : Int, d = .int k ∧ Pk k)) : EtG pt (fun σ H Q => te σ H fun x H' => ∃ k, TruV K x H' k ∧ Q k H') σ F (fun _ => True) := fun H1 i g Q q =>
  h H1 i g _ fun d v F2 H2 ⟨k, hd, _⟩ s hv => by
    subst hd
    obtain rfl := rp_int hv
    exact ⟨k != 0, rfl, q _ F2 H2 trivial s⟩
theorem t_ifU (s : Step pt F0 H0 F H) (h : EtG pt t σ F (fun _ => True)) (h1 : ∀ F2 H2, Step pt F0 H0 F2 H2 → Ex F F2 → tu { D with nx := tz D } σ H2) (h2 : ∀ F2 H2, Step pt F0 H0 F2 H2 → Ex F F2 → tw { D with nx := tz D } σ H2) :
    tSeq (tIfS t tu tw) tz D σ H := h H s.inn s.good _ fun c F2 H2 _ s2 => by
  cases c with
  | true => exact h1 F2 H2 (s.trans s2) s2.sub
  | false => exact h2 F2 H2 (s.trans s2) s2.sub
/-- a, b = x, y where x, y are no data -/
theorem t_twoX {i j : Nat} {Φ Ψ : V → Hp → Prop} (s : Step pt F0 H0 F H) (h1 : EvX pt ta σ F Φ) (h2 : ∀ F', Ex F F' → EvX pt tb σ F' Ψ) (m1 : ∀ v F F', Ex F F' → Φ v F → Φ v F')
    (q : ∀ v u F2 H2, Φ v F2 → Ψ u F2 → Step pt F0 H0 F2 H2 → Ex F F2 → tz D ((σ.set i (some v)).set j (some u)) H2) :
    tSeq (tPar i j (tCons ta (tCons tb tNil))) tz D σ H :=
  h1 H s.inn s.good _ fun v F2 H2 hv s2 => h2 F2 s2.sub H2 s2.inn s2.good _ fun u F3 H3 hu s3 => ⟨v, u, rfl, q v u F3 H3 (m1 _ _ _ s3.sub hv) hu ((s.trans s2).trans s3) (s2.sub.trans s3.sub)⟩
/-- what a def has made, out of the part that stays -/
theorem Step.thaw {F2 H2 : Hp} {a : Addr} (s : Step pt F H F2 H2) (e : Ex F H) (h : H a = none) : Step pt F H (del F2 a) H2 := by
  have f : F a = none := by
    cases w : F a with
    | none => rfl
    | some o => rw [e _ _ w] at h; cases h
  refine ⟨fun b o hb => ?_, del_ex.trans s.inn, s.keep, fun q hq => ⟨?_, (s.good q hq).2⟩, fun b h1 h2 => ?_⟩
  · have : b ≠ a := fun z => by rw [z, f] at hb; cases hb
    rw [del_ne this]; exact s.sub b o hb
  · by_cases z : q.p = a
    · rw [z, del_same]
    · rw [del_ne z]; exact (s.good q hq).1
  · by_cases z : b = a
    · rw [z, del_same]
    · rw [del_ne z]; exact s.new b h1 h2
end
end Fv

/-! sorted(d), d a dict of rows -/
namespace PySem.W
open PySem PySem.Calls PyProof.Rows
section
variable {prog : Program} {w : World} {A : Around} {E : Value → Shared → Prop} {s : Shared} {T : String} {r d : Addr} {n : Nat} {P : Nat → Value → Prop} {OK : Heap → Prop} {Q : Value → Shared → Prop}
/-- sorted(r), r what has items: list.sort of a new list of them -/
theorem kdz_sorted (K : KdlSrc prog w T r d n P OK) (hh : A.handled = none) (hok : OK s.heap) (hn : n ≤ sizeLine)
    (h : ∀ (h' : Heap) (tk : Nat) (vs : List Value), (∀ b o, s.heap.get? b = some o → h'.get? b = some o) → vs.length = n → (∀ (j : Nat) (v : Value), vs[j]? = some v → P j v) →
      ∀ E' : Value → Shared → Prop, wpAny (model prog w) A.in1.in1 (Builtin.«list.sort» ⟨[.ref h'.objs.size], []⟩) (fun f s' => f = .done (.ret .none) ∧ Q (.ref h'.objs.size) s') E' { s with heap := h'.push (seqObj "list" vs.toArray 0), toks := tk }) :
    wpAny (model prog w) A (call (.builtin "sorted") [.ref r]) Q E s := by
  refine call_function_entry kind_sorted plain_sorted entry_sorted (args_sorted1 _) ?_
  unfold Builtin.«sorted»
  refine wpAny_bind (m := checkCount "sorted" 1 1 _) (wpAny_pure ?_)
  refine wpAny_bind (kdu_collect (A := A.in1) K hh hok hn fun h' tk acc hk hacc => ?_)
  have hl : acc.toList.length = n := by rw [Array.length_toList]; exact hacc.1
  refine wpAny_bind (wpAny_newList ?_ (by rw [hl]; exact hn))
  have hat : (h'.push (seqObj "list" acc.toList.toArray 0)).get? h'.objs.size = some (seqObj "list" acc.toList.toArray 0) := Heap.get?_push_size _ rfl
  refine wpAny_bind (wpAny_holding (wpAny_call_entry_kw slot_list_sort ⟨_, hat, rfl⟩ entry_list_sort ?body (args_list_sort _)))
  case body =>
    refine wpAny_mono (h h' tk acc.toList hk hl (fun j v e => hacc.2 j v (by rw [← Array.getElem?_toList]; exact e)) _) (fun f s' hf => ?_) fun _ _ e => e
    obtain ⟨rfl, hq⟩ := hf
    exact ⟨_, rfl, wpAny_pure ⟨_, rfl, hq⟩⟩
end
end PySem.W
namespace Fv
open PySem PySem.Spec PyProof.Rows L2 Evl StX
def rSortDT (K : PySem.W.Frag) : List V → Hp → VK → Prop := fun xs H Q => ∃ (d : Addr) (kvs : List (List Key × V)) (R : List (List Int)), xs = [.ref d] ∧ H d = some (.dT kvs) ∧ kvs.map (·.1) = R.map key ∧ CanSort (R.map dT) ∧
  ∀ (bs : List (Addr × List Int)) p, (bs.map (·.2)).Perm R → bs.map (·.2) = sortL R → (∀ b ∈ bs, H b.1 = some (.tup (b.2.map V.int))) → H p = none → Q (.ref p) (upd H p (.lst (bs.map fun b => V.ref b.1)))
theorem c_sortDT {X : Cx} {K : PySem.W.Frag} (hc : X.calm = true) (hu : X.A.units + 65 < cLine) (h : X.K = K := by rfl) : CallR X (.builtin "sorted") (rSortDT K) := by
  subst h
  intro pins s σ H xs us Q I r q
  obtain ⟨d, kvs, R, rfl, hd, hk, cs, q⟩ := q
  rw [Vals.ref1 r]
  obtain ⟨z, hs, ks, pr, o, es, ep, ho, hx, hdt, he, hn⟩ := (show ObjOk X.prog X.w H s.heap d (.dT kvs) from I.hok d _ hd)
  have l1 : es.size = ks.length := size_of_entries he
  have l2 : kvs.length = ks.length := Paired.length pr
  have l3 : kvs.length = R.length := by have := congrArg List.length hk; simpa using this
  refine PySem.W.kdz_sorted (kdl_raw hs hx hdt) (I.ok.hd hc) ho (by omega) fun h' tk vs kp hl hv E' => ?_
  -- the key's tuples
  let ps : List (Addr × List Int) := (ks.map fun x => x.2.1).zip R
  have pl : ps.length = R.length := by simp [ps]; omega
  have p2 : ps.map (·.2) = R := by
    show ((ks.map fun x => x.2.1).zip R).map Prod.snd = R
    exact List.map_snd_zip (by rw [List.length_map]; omega)
  have pg : ∀ (j : Nat) (b : Addr × List Int), ps[j]? = some b → H b.1 = some (.tup (b.2.map V.int)) ∧ vs[j]? = some (Value.ref b.1) := fun j b hb => by
    have hb' : ((ks.map fun x => x.2.1).zip R)[j]? = some b := hb
    rw [List.getElem?_zip_eq_some] at hb'
    obtain ⟨h1, h2⟩ := hb'
    rw [List.getElem?_map] at h1
    obtain ⟨x, hx1, hx2⟩ := Option.map_eq_some_iff.mp h1
    have hjv : j < vs.length := by have := (List.getElem?_eq_some_iff.mp hx1).1; omega
    have hjk : j < kvs.length := by have := (List.getElem?_eq_some_iff.mp hx1).1; omega
    obtain ⟨x', hx3, e1, e2, _⟩ := paired_get pr (List.getElem?_eq_getElem hjk)
    rw [hx1] at hx3
    cases hx3
    have ek : kvs[j].1 = key b.2 := by
      have a1 : (kvs.map (·.1))[j]? = some kvs[j].1 := by rw [List.getElem?_map, List.getElem?_eq_getElem hjk]; rfl
      rw [hk, List.getElem?_map, h2] at a1
      exact (Option.some.inj a1).symm
    refine ⟨?_, ?_⟩
    · rw [← hx2, e2, ek, key_kV]
    · obtain ⟨en, hen, hv2⟩ := hv j vs[j] (List.getElem?_eq_getElem hjv)
      have qe := entry_at he j
      rw [hen, hx1] at qe
      have e3 : en = entryOfKey (tupleKind (mixKind X.prog X.w)) x := Option.some.inj qe
      rw [List.getElem?_eq_getElem hjv, hv2, e3, ← hx2]; rfl
  have vl : vs.length = ps.length := by omega
  have ev : vs = ps.map fun b => Value.ref b.1 := by
    refine List.ext_getElem? fun j => ?_
    rw [List.getElem?_map]
    cases hb : ps[j]? with
    | none => rw [List.getElem?_eq_none_iff.mpr (by rw [vl]; exact List.getElem?_eq_none_iff.mp hb)]; rfl
    | some b => rw [(pg j b hb).2]; rfl
  have hps : ∀ b ∈ ps, H b.1 = some (.tup (b.2.map V.int)) := fun b hb => by
    obtain ⟨j, hj⟩ := List.getElem?_of_mem hb
    exact (pg j b hj).1
  have rv : Vals (ps.map fun b => V.ref b.1) vs := by
    have g : ∀ l : List (Addr × List Int), Vals (l.map fun b => V.ref b.1) (l.map fun b => Value.ref b.1) := fun l => by
      induction l with
      | nil => exact .nil
      | cons a r ih => exact .cons rfl ih
    rw [ev]; exact g ps
  have ea : PySem.W.EachIs (fun u (b : Addr × List Int) => RelV (V.ref b.1) u) vs ps := each_of_vals rv
  have I1 : Inv X pins σ H { s with heap := h', toks := tk } := I.kept (t' := tk) kp
  have rd : ∀ u (b : Addr × List Int), b ∈ ps → RelV (V.ref b.1) u → ∃ as, Reads h' u (dT b.2) as := fun u b hb ru => Dp.reads I1 (dT b.2) (V.ref b.1) u (Rp.dp _ _ (.tup (hps b hb) (rpAll_of_ints b.2))) ru
  let h1 : Heap := h'.push (seqObj "list" vs.toArray 0)
  have hat : h1.get? h'.objs.size = some (seqObj "list" vs.toArray 0) := Heap.get?_push_size _ rfl
  let hS : Heap := PySem.W.sortingHeap h1 h'.objs.size vs
  have kS : ∀ b o, h'.get? b = some o → hS.get? b = some o := fun b o e => PySem.W.sortingHeap_old (Nat.ne_of_lt (Heap.lt_size e)) (Heap.get?_push_of_some _ e)
  have er0 : PySem.W.EachIs (fun u (b : Addr × List Int) => ∃ as, Reads hS u (dT b.2) as) vs ps := (PySem.W.each_mem ea).mono fun u b ⟨ru, hb⟩ => by
    obtain ⟨as, x⟩ := rd u b hb ru
    exact ⟨as, PyProof.Rows.Reads.keeps (fun _ _ => kS _ _) x⟩
  have em : ps.map (fun b => dT b.2) = R.map dT := by
    have : ps.map (fun b => dT b.2) = (ps.map (·.2)).map dT := by rw [List.map_map]; rfl
    rw [this, p2]
  have er1 : PySem.W.EachIs (fun u d => ∃ as, Reads hS u d as) vs (ps.map fun b => dT b.2) := PySem.W.each_map (R := fun u d => ∃ as, Reads hS u d as) (fun b : Addr × List Int => dT b.2) er0
  have al : PySem.W.AllAlike (ps.map fun b => dT b.2) := by rw [em]; exact cs.al
  have S : PySem.W.SortsAt X.prog X.w X.A.in1.in1 { s with heap := hS, toks := tk } (PySem.W.dataKind hS (ps.map fun b => dT b.2)) vs := by
    refine PySem.W.SortsAt.data (s := { s with heap := hS, toks := tk }) er1 al (by rw [em]; exact cs.so) fun d hd => ?_
    have := cs.dp d (by rw [← em]; exact hd)
    show X.A.units + 1 + 1 + _ < _
    omega
  have out := PySem.W.sortVals_data (h' := hS) (enc := fun b : Addr × List Int => dT b.2) false ea er0 al
  refine PySem.W.list_sort_vals (s := { s with heap := h1, toks := tk }) hat S (by omega) ?_
  generalize PySem.W.sortVals (PySem.W.dataKind hS (ps.map fun b => dT b.2)) false vs vs = ou at out
  generalize eq : ps.mergeSort (PySem.W.dataLe false fun b : Addr × List Int => dT b.2) = qs at out
  have pq : qs.Perm ps := eq ▸ List.mergeSort_perm _ _
  have vo : Vals (qs.map fun b => V.ref b.1) ou := vals_of_each out
  obtain ⟨c, hc2⟩ := PyProof.Rows.sortedHeap_at (h := h1) (a := h'.objs.size) (vs := vs) (out := ou.toArray) hat
  have fr : H h'.objs.size = none := I1.hok.fresh (Nat.le_refl _)
  have len : (qs.map fun b => V.ref b.1).length ≤ sizeLine := by
    rw [List.length_map, pq.length_eq]; omega
  refine ⟨rfl, .ref h'.objs.size, upd H h'.objs.size (.lst (qs.map fun b => V.ref b.1)), I1.laid (t' := tk) (fun b u e => ?_) (Nat.le_refl _) ⟨len, ou, c, vo, hc2⟩, rfl, q qs _ ?_ ?_ (fun b hb => hps b (pq.mem_iff.mp hb)) fr⟩
  · have hl' := Heap.lt_size e
    exact (PyProof.Rows.sortedHeap_old (Nat.ne_of_lt hl') (by rw [size_push']; exact Nat.lt_succ_of_lt hl')).trans (Heap.get?_push_of_some _ e)
  · have := pq.map (·.2)
    rw [p2] at this; exact this
  · rw [← eq, ← p2]
    exact PySem.W.sort_maps (s := PySem.W.dataLe false dT) (fun x : Addr × List Int => x.2) fun _ _ _ _ => rfl
theorem canSort_rowsT {R : List (List Int)} (h : ∀ r ∈ R, r ≠ []) : CanSort (R.map dT) := by
  refine ⟨PySem.W.AllAlike.of fun b b' => ?_, .inl fun d hd => ?_, fun d hd => ?_⟩
  · show PySem.W.alike (.tuple _) (.tuple _) = true
    rw [PySem.W.alike]; exact PySem.W.alike_ints b b'
  · obtain ⟨g, hg, rfl⟩ := List.mem_map.mp hd
    cases g with
    | nil => exact absurd rfl (h _ hg)
    | cons a r => exact ⟨.int a, r.map PyData.int, rfl⟩
  · obtain ⟨g, _, rfl⟩ := List.mem_map.mp hd
    have := depth_dT g
    omega
section
variable {K : PySem.W.Frag} {pt : Option Pt} {σ : L2.St} {F F' H : Hp} {td : TE}
theorem rpAll_rows : ∀ {bs : List (Addr × List Int)}, (∀ b ∈ bs, F b.1 = some (.tup (b.2.map V.int))) → RpAll K F (bs.map fun b => V.ref b.1) ((bs.map (·.2)).map dT)
  | [], _ => .nil
  | b :: bs, h => .cons (.tup (h b (by simp)) (rpAll_of_ints b.2)) (rpAll_rows fun c hc => h c (List.mem_cons_of_mem _ hc))
theorem g_sortDT {R : List (List Int)} (hd : EvX pt td σ F (fun v F2 => ∃ (D : Addr) (kvs : List (List Key × V)), v = .ref D ∧ F2 D = some (.dT kvs) ∧ kvs.map (·.1) = R.map key)) (cs : CanSort (R.map dT)) :
    EvG K pt (tCB (rSortDT K) (tCons td tNil)) σ F (fun d => ∃ M : List (List Int), d = dLT M ∧ M.Perm R ∧ M = sortL R) := fun H1 i g Q q =>
  hd H1 i g _ fun v F2 H2 ⟨D, kvs, e, hD, hk⟩ s => by
    subst e
    refine ⟨D, kvs, R, rfl, s.inn _ _ hD, hk, cs, fun bs p hp hso hb hn => ?_⟩
    let G : Hp := fun a => if a ∈ bs.map (·.1) then H2 a else none
    have s3 : Step pt F2 H2 (join F2 G) H2 := Step.tups s.inn s.good fun a o h => by
      by_cases z : a ∈ bs.map (·.1)
      · have h' : H2 a = some o := by rw [← h]; exact (if_pos z).symm
        obtain ⟨b, hbm, rfl⟩ := List.mem_map.mp z
        rw [hb b hbm] at h'
        exact ⟨by rw [hb b hbm]; exact h', _, (Option.some.inj h').symm⟩
      · have : G a = none := if_neg z
        rw [this] at h; cases h
    have s4 : Step pt (join F2 G) H2 (upd (join F2 G) p (.lst (bs.map fun b => V.ref b.1))) (upd H2 p (.lst (bs.map fun b => V.ref b.1))) := .laid s3.inn s3.good hn
    have gi : Ex G H2 := fun a o h => by
      by_cases z : a ∈ bs.map (·.1)
      · rw [← h]; exact (if_pos z).symm
      · have : G a = none := if_neg z
        rw [this] at h; cases h
    refine q _ _ _ _ ⟨bs.map (·.2), rfl, hp, hso⟩ ((s.trans s3).trans s4) (.lst upd_same (rpAll_rows fun b hbm => s4.sub _ _ (join_r s.inn gi _ _ ?_)))
    have z : b.1 ∈ bs.map (·.1) := List.mem_map.mpr ⟨b, hbm, rfl⟩
    exact (if_pos z).trans (hb b hbm)
end
end Fv

/-! dicts whose keys are data: numbers, texts, None and tuples of such. The dict's one object is known (rawO); what it holds is told of that object (DNo); where the keys' tuples stand is told too -/
namespace Fv
open PySem PySem.Spec PyProof.Rows L2 Evl StX
abbrev NK := NestedKey
mutual
/-- data as a key -/
def nk : PyData → NK
  | .int i => .num i
  | .str x => .text x
  | .tuple ds => .tup (nkL ds)
  | _ => .none
def nkL : List PyData → List NK
  | [] => []
  | d :: ds => nk d :: nkL ds
end
mutual
/-- what may be a key -/
def kb : PyData → Bool
  | .none => true
  | .int _ => true
  | .str _ => true
  | .tuple ds => kbL ds
  | _ => false
def kbL : List PyData → Bool
  | [] => true
  | d :: ds => kb d && kbL ds
end
mutual
theorem nk_inj : ∀ {d e : PyData}, kb d = true → kb e = true → nk d = nk e → d = e
  | .none, .none, _, _, _ => rfl
  | .int a, .int b, _, _, h => by simp only [nk, NestedKey.num.injEq] at h; rw [h]
  | .str a, .str b, _, _, h => by simp only [nk, NestedKey.text.injEq] at h; rw [h]
  | .tuple a, .tuple b, ha, hb, h => by
    simp only [nk, NestedKey.tup.injEq] at h
    simp only [kb] at ha hb
    rw [nkL_inj ha hb h]
  | .none, .int _, _, _, h => by simp [nk] at h
  | .none, .str _, _, _, h => by simp [nk] at h
  | .none, .tuple _, _, _, h => by simp [nk] at h
  | .int _, .none, _, _, h => by simp [nk] at h
  | .int _, .str _, _, _, h => by simp [nk] at h
  | .int _, .tuple _, _, _, h => by simp [nk] at h
  | .str _, .none, _, _, h => by simp [nk] at h
  | .str _, .int _, _, _, h => by simp [nk] at h
  | .str _, .tuple _, _, _, h => by simp [nk] at h
  | .tuple _, .none, _, _, h => by simp [nk] at h
  | .tuple _, .int _, _, _, h => by simp [nk] at h
  | .tuple _, .str _, _, _, h => by simp [nk] at h
  | .bool _, _, h, _, _ => by simp [kb] at h
  | .list _, _, h, _, _ => by simp [kb] at h
  | .dict _, _, h, _, _ => by simp [kb] at h
  | _, .bool _, _, h, _ => by simp [kb] at h
  | _, .list _, _, h, _ => by simp [kb] at h
  | _, .dict _, _, h, _ => by simp [kb] at h
theorem nkL_inj : ∀ {a b : List PyData}, kbL a = true → kbL b = true → nkL a = nkL b → a = b
  | [], [], _, _, _ => rfl
  | [], _ :: _, _, _, h => by simp [nkL] at h
  | _ :: _, [], _, _, h => by simp [nkL] at h
  | d :: a, e :: b, ha, hb, h => by
    simp only [nkL, List.cons.injEq] at h
    simp only [kbL, Bool.and_eq_true] at ha hb
    rw [nk_inj ha.1 hb.1 h.1, nkL_inj ha.2 hb.2 h.2]
end
section
variable {X : Cx} {pins : List (Addr × Obj)} {σ : L2.St} {H : Hp} {s : Shared} {K : PySem.W.Frag}
mutual
/-- what represents such data is such a key -/
theorem rp_nested (I : Inv X pins σ H s) : ∀ (d : PyData) (v : V) (u : Value), kb d = true → Rp K H v d → RelV v u → NestedIs s.heap (nk d) u
  | .none, v, u, _, h, r => by cases h; cases r; exact .none
  | .int i, v, u, _, h, r => by cases h; obtain ⟨t, rfl⟩ := r; exact .int i t
  | .str x, v, u, _, h, r => by cases h; obtain ⟨t, rfl⟩ := r; exact .text x t
  | .tuple ds, v, u, hk, h, r => by
    obtain ⟨a, xs, rfl, ht, ha⟩ := rp_tup h
    cases (show u = Value.ref a from r)
    obtain ⟨_, its, rv, o, h1, h2, n, h3⟩ := (show ObjOk X.prog X.w H s.heap a (.tup xs) from I.hok a _ ht)
    simp only [kb] at hk
    exact .tup h1 h2 h3 (by simpa using rpL_nested I ds xs its hk ha rv)
  | .bool _, _, _, hk, _, _ => by simp [kb] at hk
  | .list _, _, _, hk, _, _ => by simp [kb] at hk
  | .dict _, _, _, hk, _, _ => by simp [kb] at hk
theorem rpL_nested (I : Inv X pins σ H s) : ∀ (ds : List PyData) (vs : List V) (us : List Value), kbL ds = true → RpAll K H vs ds → Vals vs us → NestedAll s.heap (nkL ds) us
  | [], vs, us, _, h, r => by cases h; cases r; exact .nil
  | d :: ds, vs, us, hk, h, r => by
    simp only [kbL, Bool.and_eq_true] at hk
    cases h with
    | cons h1 h2 =>
      cases r with
      | cons r1 r2 => exact .cons (rp_nested I d _ _ hk.1 h1 r1) (rpL_nested I ds _ _ hk.2 h2 r2)
end
end
/-- the one object at a -/
def rawO (a : Addr) (o : Obj) : HO := .ext fun h => h.get? a = some o
/-- an entry: the key, its tuple, the value -/
abbrev NEnt := NK × Addr × V
abbrev NPair : List NEnt → List (NK × Addr × Value) → Prop := Paired fun p q => p.1 = q.1 ∧ p.2.1 = q.2.1 ∧ RelV p.2.2 q.2.2
/-- the object o is a dict with the entries xs -/
def DNo (P : Program) (w : World) (o : Obj) (xs : List NEnt) : Prop := o.ExactDict ∧ (xs.map (·.1)).Nodup ∧ xs.length ≤ sizeLine ∧ ∃ es ep ys, o.data = .dict es ep ∧ es.toList = ys.map (entryOfKey (nestedKind P w)) ∧ NPair xs ys
def atN (xs : List NEnt) (k : NK) : Option (Addr × V) := (xs.find? fun x => decide (x.1 = k)).map (·.2)
def putAtN (k : NK) (v : V) (x : NEnt) : NEnt := if x.1 = k then (x.1, x.2.1, v) else x
def putN (xs : List NEnt) (k : NK) (a : Addr) (v : V) : List NEnt := if (atN xs k).isSome then xs.map (putAtN k v) else xs ++ [(k, a, v)]
theorem NPair.names {xs : List NEnt} {ys : List (NK × Addr × Value)} (h : NPair xs ys) : ys.map (·.1) = xs.map (·.1) := by
  induction h with
  | nil => rfl
  | cons a _ ih => rw [List.map_cons, List.map_cons, ih, a.1]
theorem NPair.at_ {xs : List NEnt} {ys : List (NK × Addr × Value)} (h : NPair xs ys) (k : NK) : match atN xs k, atKey ys k with
    | some p, some q => p.1 = q.1 ∧ RelV p.2 q.2
    | none, none => True
    | _, _ => False := by
  unfold atN atKey
  induction h with
  | nil => trivial
  | @cons p q ps qs a _ ih =>
    by_cases z : p.1 = k
    · rw [List.find?_cons_of_pos (by simpa using z), List.find?_cons_of_pos (by rw [← a.1]; simpa using z)]
      exact ⟨a.2.1, a.2.2⟩
    · rw [List.find?_cons_of_neg (by simpa using z), List.find?_cons_of_neg (by rw [← a.1]; simpa using z)]
      exact ih
theorem NPair.some_ {xs : List NEnt} {ys : List (NK × Addr × Value)} (h : NPair xs ys) {k : NK} {p : Addr × V} (e : atN xs k = some p) : ∃ q, atKey ys k = some q ∧ p.1 = q.1 ∧ RelV p.2 q.2 := by
  have := h.at_ k
  rw [e] at this
  cases w : atKey ys k with
  | none => rw [w] at this; exact this.elim
  | some q => rw [w] at this; exact ⟨q, rfl, this⟩
theorem NPair.none_ {xs : List NEnt} {ys : List (NK × Addr × Value)} (h : NPair xs ys) {k : NK} (e : atN xs k = none) : atKey ys k = none := by
  have := h.at_ k
  rw [e] at this
  cases w : atKey ys k with
  | none => rfl
  | some q => rw [w] at this; exact this.elim
theorem NPair.put {xs : List NEnt} {ys : List (NK × Addr × Value)} (h : NPair xs ys) (k : NK) (a : Addr) {v : V} {u : Value} (r : RelV v u) : NPair (putN xs k a v) (storedH ys k a u) := by
  unfold putN storedH
  cases w : atN xs k with
  | some p =>
    obtain ⟨q, hq, _⟩ := h.some_ w
    rw [hq]
    simp only [Option.isSome_some, if_true]
    clear w hq
    induction h with
    | nil => exact .nil
    | @cons p q ps qs b _ ih =>
      refine .cons ?_ ih
      unfold putAtN putAt
      by_cases z : p.1 = k
      · rw [if_pos z, if_pos (by rw [← b.1]; exact z)]; exact ⟨b.1, b.2.1, r⟩
      · rw [if_neg z, if_neg (by rw [← b.1]; exact z)]; exact b
  | none =>
    rw [h.none_ w]
    simp only [Option.isSome_none, Bool.false_eq_true, if_false]
    exact Paired.snoc h ⟨rfl, rfl, r⟩
theorem putN_len (xs : List NEnt) (k : NK) (a : Addr) (v : V) : (putN xs k a v).length ≤ xs.length + 1 := by
  unfold putN
  split
  · rw [List.length_map]; omega
  · simp
theorem NPair.length {xs : List NEnt} {ys : List (NK × Addr × Value)} (h : NPair xs ys) : xs.length = ys.length := Paired.length h
/-- the tuple of a key -/
def KeyOk (K : PySem.W.Frag) (H : Hp) (k : NK) (b : Addr) : Prop := ∃ d, Rp K H (.ref b) d ∧ kb d = true ∧ nk d = k ∧ k.depth ≤ 8
theorem KeyOk.mono {K : PySem.W.Frag} {H H' : Hp} {k : NK} {b : Addr} (e : Ex H H') (h : KeyOk K H k b) : KeyOk K H' k b := by
  obtain ⟨d, h1, h2⟩ := h
  exact ⟨d, Rp.mono e _ _ h1, h2⟩
/-- at a stands a dict with the entries xs -/
structure ND (P : Program) (w : World) (K : PySem.W.Frag) (H : Hp) (a : Addr) (xs : List NEnt) : Prop where
  low : (a == sysModules) = false
  ex : ∃ o, H a = some (rawO a o) ∧ DNo P w o xs
  keys : ∀ x ∈ xs, KeyOk K H x.1 x.2.1
theorem ND.mono {P : Program} {w : World} {K : PySem.W.Frag} {H H' : Hp} {a : Addr} {xs : List NEnt} (e : Ex H H') (h : ND P w K H a xs) : ND P w K H' a xs := by
  obtain ⟨o, h1, h2⟩ := h.ex
  exact ⟨h.low, ⟨o, e _ _ h1, h2⟩, fun x hx => (h.keys x hx).mono e⟩
section
variable {X : Cx} {pins : List (Addr × Obj)} {σ : L2.St} {H : Hp} {s : Shared} {K : PySem.W.Frag} {P : Program} {w : World}
theorem KeyOk.is (I : Inv X pins σ H s) {k : NK} {b : Addr} (h : KeyOk K H k b) : (nestedKind P w).is s.heap k b := by
  obtain ⟨d, h1, h2, h3, h4⟩ := h
  exact ⟨h3 ▸ rp_nested I d _ _ h2 h1 rfl, h4⟩
theorem ND.dict (I : Inv X pins σ H s) {a : Addr} {xs : List NEnt} (h : ND X.prog X.w K H a xs) : ∃ ys, NPair xs ys ∧ s.heap.DictOfH (nestedKind X.prog X.w) a ys ∧ ys.length ≤ sizeLine := by
  obtain ⟨o, h1, h2, h3, h4, es, ep, ys, h5, h6, h7⟩ := h.ex
  have ho : s.heap.get? a = some o := (show ObjOk X.prog X.w H s.heap a (rawO a o) from I.hok a _ h1).1
  refine ⟨ys, h7, ⟨o, es, ep, ho, h2, h5, h6, ?_, by rw [h7.names]; exact h3⟩, by rw [← h7.length]; exact h4⟩
  have all : ∀ {l : List NEnt} {m : List (NK × Addr × Value)}, NPair l m → (∀ x ∈ l, KeyOk K H x.1 x.2.1) → ∀ y ∈ m, (nestedKind X.prog X.w).is s.heap y.1 y.2.1 := by
    intro l m q
    induction q with
    | nil => intro _ y hy; exact nomatch hy
    | @cons p q ps qs a _ ih =>
      intro hk y hy
      rcases List.mem_cons.mp hy with e | hy
      · rw [e, ← a.1, ← a.2.1]; exact (hk p (by simp)).is I
      · exact ih (fun x hx => hk x (List.mem_cons_of_mem _ hx)) y hy
  exact all h7 h.keys
theorem raw_ok {h : Heap} {a : Addr} {o : Obj} (e : h.get? a = some o) : ObjOk P w H h a (rawO a o) := ⟨e, ⟨o, e⟩, fun _ _ h1 k => k _ h1⟩
theorem dno_of {h' : Heap} {a : Addr} {xs : List NEnt} {ys : List (NK × Addr × Value)} (hp : NPair xs ys) (hl : xs.length ≤ sizeLine) (hm : h'.DictOfH (nestedKind P w) a ys) : ∃ o, h'.get? a = some o ∧ DNo P w o xs := by
  obtain ⟨o, es, ep, h1, h2, h3, h4, _, h5⟩ := hm
  exact ⟨o, h1, h2, by rw [← hp.names]; exact h5, hl, es, ep, ys, h3, h4, hp⟩
end
/-! ### the rules -/
/-- {} -/
def tDNewN (P : Program) (w : World) : TE := fun _ H Q => ∀ a o, H a = none → (a == sysModules) = false → DNo P w o [] → Q (.ref a) (upd H a (rawO a o))
theorem pe_dnewN {X : Cx} {pos : Pos} {P : Program} {w : World} (hp : X.prog = P := by rfl) (hw : X.w = w := by rfl) : PE X (.Dict [] [] pos) (tDNewN P w) := ⟨fun pins s σ H Q I h => by
  subst hp; subst hw
  have low : (s.heap.objs.size == sysModules) = false := beq_eq_false_iff_ne.mpr (Ne.symm (Nat.ne_of_lt I.big))
  have at0 : (s.heap.push { cls := .type "dict", data := .dict #[] }).get? s.heap.objs.size = some { cls := .type "dict", data := .dict #[] } := Heap.get?_push_size _ rfl
  obtain ⟨o, h1, h2⟩ := dno_of (P := X.prog) (w := X.w) (xs := []) (ys := []) .nil (Nat.zero_le _) (Heap.DictOfH.new (knd := nestedKind X.prog X.w) s.heap)
  exact wpAny_Dict_empty ⟨.ref s.heap.objs.size, _, I.laid (a := s.heap.objs.size) (o := rawO s.heap.objs.size o) (t' := s.toks) (fun _ _ q => Heap.get?_push_of_some _ q) (Nat.le_refl _) (raw_ok h1), rfl, h _ o (I.hok.fresh (Nat.le_refl _)) low h2⟩⟩
/-- a key -/
def IsKey (K : PySem.W.Frag) (H : Hp) (b : Addr) (k : NK) : Prop := KeyOk K H k b
section
variable {X : Cx} {P : Program} {w : World} {K : PySem.W.Frag}
theorem roomN (hu : X.A.units + 65 < cLine) : (nestedKind X.prog X.w).room X.A.in1 := by
  show X.A.units + 1 + 8 < cLine
  omega
/-- d[k] -/
def rIxN (P : Program) (w : World) (K : PySem.W.Frag) : R2 := fun x y H Q => ∃ a xs k b p, x = .ref a ∧ y = .ref b ∧ ND P w K H a xs ∧ KeyOk K H k b ∧ atN xs k = some p ∧ Q p.2 H
theorem pe_dgetN {o i : Expr} {td ty : TE} {pos : Pos} (hu : X.A.units + 65 < cLine) (ho : PE X o td) (hi : PE X i ty) (hs : NoSl i) (hp : X.prog = P := by rfl) (hw : X.w = w := by rfl) : PE X (.Subscript o i pos) (tOp (rIxN P w K) td ty) := by
  subst hp; subst hw
  refine ⟨fun pins s σ H Q I h => ?_⟩
  refine subD_of PySem.F.slot_dict_getitem.lookup hs (thn (ho.run pins s σ H _ I h) fun u s1 ⟨x, H1, I1, rx, q1⟩ => thn (hi.run pins s1 σ H1 _ I1 q1) fun iv s2 ⟨y, H2, I2, ry, q2⟩ => ?_)
  obtain ⟨a, xs, k, b, p, rfl, rfl, nd, ko, hat, q⟩ := q2
  obtain rfl : u = Value.ref a := rx
  obtain rfl : iv = Value.ref b := ry
  obtain ⟨ys, hp, hm, hl⟩ := nd.dict I2
  obtain ⟨p', h1, h2, h3⟩ := hp.some_ hat
  exact ⟨hm.typeIs, wpAny_getItem_heap (roomN hu) (ko.is I2) hm h1 ⟨p.2, H2, I2.tok _, h3, q⟩⟩
/-- k in d, k not in d -/
def rInN (P : Program) (w : World) (K : PySem.W.Frag) (neg : Bool) : R2 := fun x y H Q => ∃ a xs k b, x = .ref b ∧ y = .ref a ∧ ND P w K H a xs ∧ KeyOk K H k b ∧ Q (.bl (if neg then !(atN xs k).isSome else (atN xs k).isSome)) H
theorem atN_some {xs : List NEnt} {ys : List (NK × Addr × Value)} (h : NPair xs ys) (k : NK) : (atKey ys k).isSome = (atN xs k).isSome := by
  cases w : atN xs k with
  | none => rw [h.none_ w]; rfl
  | some p => obtain ⟨q, h1, _⟩ := h.some_ w; rw [h1]; rfl
theorem o_inN (hu : X.A.units + 65 < cLine) (hp : X.prog = P := by rfl) (hw : X.w = w := by rfl) : OpR X (compareOp .In) (rInN P w K false) := by
  subst hp; subst hw
  intro pins s σ H x y v u Q I rx ry q
  obtain ⟨a, xs, k, b, rfl, rfl, nd, ko, q⟩ := q
  cases (show u = Value.ref a from ry)
  cases (show v = Value.ref b from rx)
  obtain ⟨ys, hp, hm, hl⟩ := nd.dict I
  refine wpAny_in_heap (roomN hu) (ko.is I) nd.low hm ?_
  rw [atN_some hp]
  exact ⟨.bl _, H, I.tok _, rfl, q⟩
theorem o_ninN (hu : X.A.units + 65 < cLine) (hp : X.prog = P := by rfl) (hw : X.w = w := by rfl) : OpR X (compareOp .NotIn) (rInN P w K true) := by
  subst hp; subst hw
  intro pins s σ H x y v u Q I rx ry q
  obtain ⟨a, xs, k, b, rfl, rfl, nd, ko, q⟩ := q
  cases (show u = Value.ref a from ry)
  cases (show v = Value.ref b from rx)
  obtain ⟨ys, hp, hm, hl⟩ := nd.dict I
  refine notIn_keyed (roomN hu) (ko.is I) nd.low ⟨ys, hm, rfl⟩ ?_
  rw [valueAt_pairsH, Option.isSome_map, atN_some hp]
  exact ⟨.bl _, H, I.tok _, rfl, q⟩
/-- d[k] = v -/
def rSetN (P : Program) (w : World) (K : PySem.W.Frag) : TSet := fun x y v H Q => ∃ a xs k b, x = .ref a ∧ y = .ref b ∧ ND P w K H a xs ∧ KeyOk K H k b ∧ xs.length < sizeLine ∧ ∀ o, DNo P w o (putN xs k b v) → Q (upd H a (rawO a o))
theorem set_N (hu : X.A.units + 65 < cLine) (hp : X.prog = P := by rfl) (hw : X.w = w := by rfl) : PSet X (rSetN P w K) := by
  subst hp; subst hw
  intro pins s σ H x y v ov iv u Q I rx ry rv q
  obtain ⟨a, xs, k, b, rfl, rfl, nd, ko, hz, q⟩ := q
  cases (show ov = Value.ref a from rx)
  cases (show iv = Value.ref b from ry)
  obtain ⟨ys, hp, hm, hl⟩ := nd.dict I
  refine wpAny_setItem_heap (hsz := hl) (roomN hu) (ko.is I) hm fun h' hm' hs => ?_
  obtain ⟨o, h1, h2⟩ := dno_of (hp.put k b rv) (by have := putN_len xs k b v; omega) hm'
  obtain ⟨o0, e0, _⟩ := nd.ex
  exact ⟨_, d_write I (by rw [e0]; exact True.intro) hs ⟨o, h1⟩ (raw_ok h1), q o h2⟩
/-- d.setdefault(k, v) -/
def rSdN (P : Program) (w : World) (K : PySem.W.Frag) : V → List V → Hp → VK → Prop := fun x vs H Q => ∃ a xs k b z, x = .ref a ∧ vs = [.ref b, z] ∧ ND P w K H a xs ∧ KeyOk K H k b ∧ xs.length < sizeLine ∧
  (∀ p, atN xs k = some p → Q p.2 H) ∧ (atN xs k = none → ∀ o, DNo P w o (putN xs k b z) → Q z (upd H a (rawO a o)))
theorem mt_sdN (hu : X.A.units + 65 < cLine) (hp : X.prog = P := by rfl) (hw : X.w = w := by rfl) : MtR X "dict.setdefault" (rSdN P w K) := by
  subst hp; subst hw
  intro pins s σ H x vs v us Q I r rv h
  obtain ⟨a, xs, k, b, z, rfl, rfl, nd, ko, hz, h1, h2⟩ := h
  obtain rfl : v = Value.ref a := r
  obtain ⟨u1, r1, rfl, ru, rz⟩ : ∃ u1 r1, us = [u1, r1] ∧ RelV (.ref b) u1 ∧ RelV z r1 := by
    cases rv with
    | cons r1 r2 => cases r2 with
      | cons r3 r4 => cases r4; exact ⟨_, _, rfl, r1, r3⟩
  obtain rfl : u1 = Value.ref b := ru
  obtain ⟨ys, hp, hm, hl⟩ := nd.dict I
  refine call_setdefault_heap (roomN hu) (ko.is I) nd.low hm (fun p hq => ?_) (fun hn h' hm' hs => ?_) hl
  · cases e : atN xs k with
    | none => rw [hp.none_ e] at hq; cases hq
    | some p' =>
      obtain ⟨p2, e1, e2, e3⟩ := hp.some_ e
      rw [hq] at e1
      cases e1
      exact ⟨p'.2, H, I.tok _, e3, h1 p' e⟩
  · have hn' : atN xs k = none := by
      cases e : atN xs k with
      | none => rfl
      | some p' => obtain ⟨p2, e1, _⟩ := hp.some_ e; rw [hn] at e1; cases e1
    obtain ⟨o, h3, h4⟩ := dno_of (hp.put k b rz) (by have := putN_len xs k b z; omega) hm'
    obtain ⟨o0, e0, _⟩ := nd.ex
    exact ⟨z, _, d_write I (by rw [e0]; exact True.intro) hs ⟨o, h3⟩ (raw_ok h3), rz, h2 hn' o h4⟩
/-- d.get(k) -/
def rGetN (P : Program) (w : World) (K : PySem.W.Frag) : V → List V → Hp → VK → Prop := fun x vs H Q => ∃ a xs k b, x = .ref a ∧ vs = [.ref b] ∧ ND P w K H a xs ∧ KeyOk K H k b ∧ Q (match atN xs k with | some p => p.2 | none => .non) H
theorem mt_getN (hu : X.A.units + 65 < cLine) (hp : X.prog = P := by rfl) (hw : X.w = w := by rfl) : MtR X "dict.get" (rGetN P w K) := by
  subst hp; subst hw
  intro pins s σ H x vs v us Q I r rv h
  obtain ⟨a, xs, k, b, rfl, rfl, nd, ko, q⟩ := h
  obtain rfl : v = Value.ref a := r
  obtain ⟨u1, rfl, ru⟩ : ∃ u1, us = [u1] ∧ RelV (.ref b) u1 := by
    cases rv with
    | cons r1 r2 => cases r2; exact ⟨_, rfl, r1⟩
  obtain rfl : u1 = Value.ref b := ru
  obtain ⟨ys, hp, hm, hl⟩ := nd.dict I
  refine get_keyed (roomN hu) (ko.is I) nd.low ⟨ys, hm, rfl⟩ ?_
  rw [valueAt_pairsH]
  cases e : atN xs k with
  | none => rw [hp.none_ e]; rw [e] at q; exact ⟨.non, H, I.tok _, rfl, q⟩
  | some p' =>
    obtain ⟨p2, e1, e2, e3⟩ := hp.some_ e
    rw [e1]; rw [e] at q
    exact ⟨p'.2, H, I.tok _, e3, q⟩
/-- len(d) -/
def rLenN (P : Program) (w : World) (K : PySem.W.Frag) : List V → Hp → VK → Prop := fun vs H Q => ∃ a xs, vs = [.ref a] ∧ ND P w K H a xs ∧ Q (.int ((xs.length : Nat) : Int)) H
theorem c_lenN (hp : X.prog = P := by rfl) (hw : X.w = w := by rfl) : CallR X (.builtin "len") (rLenN P w K) := by
  subst hp; subst hw
  intro pins s σ H vs us Q I r h
  obtain ⟨a, xs, rfl, nd, q⟩ := h
  obtain ⟨u, rfl, rx⟩ := vals1 r
  obtain rfl : u = .ref a := rx
  obtain ⟨ys, hp, hm, hl⟩ := nd.dict I
  refine call_len_dictH nd.low hm (by rw [sizeLine_eq] at hl; omega) ?_
  rw [← hp.length]
  exact ⟨.int ((xs.length : Nat) : Int), H, I.tok _, ⟨_, rfl⟩, q⟩
/-- isinstance(d, c) -/
def rIsiN (P : Program) (w : World) (K : PySem.W.Frag) : List V → Hp → VK → Prop := fun vs H Q => ∃ a xs c u b, vs = [.ref a, c] ∧ ClsV c u ∧ ND P w K H a xs ∧ PySem.W.kitOne K (.type "dict") u = some b ∧ Q (.bl b) H
theorem c_isiN (h : X.K = K := by rfl) (hp : X.prog = P := by rfl) (hw : X.w = w := by rfl) : CallR X (.builtin "isinstance") (rIsiN P w K) := by
  subst h; subst hp; subst hw
  intro pins s σ H vs us Q I r h
  obtain ⟨a, xs, c, u, b, rfl, k, nd, e, q⟩ := h
  obtain ⟨u1, u2, rfl, r1, r2⟩ := vals2 r
  have e2 := k.eq r2
  subst e2
  obtain rfl : u1 = Value.ref a := r1
  obtain ⟨o, h1, h2, _⟩ := nd.ex
  have ho : s.heap.get? a = some o := (show ObjOk X.prog X.w H s.heap a (rawO a o) from I.hok a _ h1).1
  exact PySem.W.kia_one PySem.W.kitx_dict I.kIn ⟨o, ho, h2.1⟩ e (fun z => nomatch z) fun tk => ⟨.bl b, H, I.tok tk, rfl, q⟩
/-- the call of a method of such a dict -/
def tyN (x : V) (H : Hp) : Prop := ∃ p o, x = .ref p ∧ H p = some (rawO p o) ∧ o.ExactDict
theorem tyN_is {pins : List (Addr × Obj)} {σ : L2.St} {H : Hp} {s : Shared} {x : V} {v : Value} (I : Inv X pins σ H s) (r : RelV x v) (ty : tyN x H) : s.TypeIs v "dict" ∧ ∀ a, v = .ref a → ∃ ob, s.heap.get? a = some ob ∧ ob.dict = none := by
  obtain ⟨p, o, rfl, h, ex⟩ := ty
  obtain rfl : v = Value.ref p := r
  have ho : s.heap.get? p = some o := (show ObjOk X.prog X.w H s.heap p (rawO p o) from I.hok p _ h).1
  exact ⟨⟨o, ho, ex.1⟩, fun a e => by cases e; exact ⟨o, ho, ex.2.1⟩⟩
theorem ND.ty {H : Hp} {a : Addr} {xs : List NEnt} (h : ND P w K H a xs) : tyN (.ref a) H := by
  obtain ⟨o, h1, h2, _⟩ := h.ex
  exact ⟨a, o, rfl, h1, h2⟩
def tBMN (r : V → List V → Hp → VK → Prop) (to : TE) (t : TA) : TE := fun σ H Q => to σ H fun x H1 => tyN x H1 ∧ t σ H1 fun xs H2 => r x xs H2 Q
theorem pe_bmN {o e : Expr} {es : List Expr} {to : TE} {t : TA} {name : Str} {apos cpos : Pos} {id : String} {r : V → List V → Hp → VK → Prop} (pa : PlainAttrs "dict") (slot : Slot "dict" name id) (hty : typeOf (.builtin id) = pure (.type "method_descriptor")) (hm : MtR X id r) (ho : PE X o to) (ha : PA X (e :: es) t)
    (hbase : attributeBase o name X.env (eval o X.env) = eval o X.env := by rfl)
    (hfew : ((backTo cpos (starEach (e :: es) X.env)).all (fun x => !x.1) && (backToKw cpos (keywordEach [] X.env)).all (fun x => x.1.isSome)
      && decide ((e :: es).length + ([] : List Keyword).length + (if ([] : List Keyword).isEmpty then 0 else 1) < 30)) = true := by rfl)
    (hline : (apos.endLine == cpos.line) = true := by rfl) (hs : starEach (e :: es) X.env = (false, eval e X.env) :: starEach es X.env := by rfl) (hplain : (backTo cpos (starEach es X.env)).any (·.1) = false := by rfl) :
    PE X (.Call (.Attribute o name apos) (e :: es) [] cpos) (tBMN r to t) := by
  refine ⟨fun pins s σ H Q I h => ?_⟩
  refine wpAny_Call_method_late hbase hfew hline rfl (thn (ho.run pins s σ H _ I h) fun v s1 ⟨x, H1, I1, r1, ty, q1⟩ => ?_)
  obtain ⟨h1, h2⟩ := tyN_is I1 r1 ty
  refine ⟨"dict", id, pa, slot, hty, h1, h2, ?_⟩
  have hA := ha.run cpos pins s1 σ H1 _ I1 q1
  rw [hs] at hA ⊢
  refine Calls.callWith_builtin (by show (false || (backTo cpos (starEach es X.env)).any (·.1)) = false; rw [hplain] <;> rfl) (Calls.evalArgs_plain ?_)
  exact thn hA fun us s2 ⟨vs, H2, I2, r2, q2⟩ => hm pins s2 σ H2 x vs v us Q I2 r1 r2 q2
/-- the keys' tuples, in order -/
def Itkn (P : Program) (w : World) (d : Addr) (o : Obj) (xs : List NEnt) : It :=
  ⟨fun i H => H d = some (rawO d o) ∧ i < xs.length, fun i H x H' => H' = H ∧ ∃ e, xs[i]? = some e ∧ x = .ref e.2.1, fun i H => H d = some (rawO d o) ∧ xs.length ≤ i⟩
theorem DNo.entries {o : Obj} {xs : List NEnt} (h : DNo P w o xs) : ∃ es ep, o.data = .dict es ep ∧ es.size = xs.length ∧ ∀ (i : Nat) (e : NEnt), xs[i]? = some e → ∃ en : DictEntry, es[i]? = some en ∧ en.key = .ref e.2.1 := by
  obtain ⟨_, _, _, es, ep, ys, h1, h2, h3⟩ := h
  refine ⟨es, ep, h1, ?_, fun i e he => ?_⟩
  · have := size_of_entries h2
    rw [this, h3.length]
  · obtain ⟨y, hy, e1⟩ := paired_get h3 he
    have q := entry_at h2 i
    rw [hy] at q
    exact ⟨_, q, by rw [e1.2.1]; rfl⟩
theorem turn_keysN {tg : Expr} {d : Addr} {o : Obj} {xs : List NEnt} {es : Array DictEntry} {ep : Nat} (dn : DNo P w o xs) (it : Addr) (hod : o.data = .dict es ep) : Turn P w K tg (Itkn P w d o xs) [it] it (fun i h => h.IsKeyIter it d i xs.length ep) where
  mem := by simp
  obj := fun i h st b hb => by
    have e : b = it := by simpa using hb
    subst e
    obtain ⟨oi, e, c, dd⟩ := st
    exact ⟨oi, e, fun v z => by rw [dd] at z; cases z⟩
  keep := fun i h h' st k => st.at fun oi e => k it (by simp) oi e
  item := by
    intro X hP hw hK hc i pins s σ H E I hf st hg
    subst hP hw hK
    obtain ⟨hd, hi⟩ := hg
    obtain ⟨f0, f1, f2, f3, f4, f5⟩ := hf it (by simp)
    obtain ⟨es', ep', hdt, hsz, ent⟩ := dn.entries
    obtain ⟨rfl, rfl⟩ := dict_ep hod hdt
    have hgd : s.heap.get? d = some o := (show ObjOk X.prog X.w H s.heap d (rawO d o) from I.hok d _ hd).1
    obtain ⟨e0, he0⟩ : ∃ p, xs[i]? = some p := ⟨xs[i], List.getElem?_eq_getElem hi⟩
    obtain ⟨en, hen, hkey⟩ := ent i e0 he0
    refine next_key_item st hgd hdt hsz hen fun h' st' sb => ?_
    have I1 : Inv X pins σ H { s with heap := h' } := I.turned (t' := s.toks) (fun b ob hb e => (sb.2 b hb).trans e) f0 f1 f3 f4 f5
    obtain ⟨oi, e, c, dd⟩ := id st'
    exact ⟨en.key, rfl, go_of (s := { s with heap := h' }) e c dd (by decide) ⟨.ref e0.2.1, H, I1, hkey, ⟨rfl, e0, he0, rfl⟩, st', fun b hb => (hf b hb).1⟩⟩
  done := by
    intro X hP hw hK hc i pins s σ H E I hf st hg
    subst hP hw hK
    obtain ⟨hd, hi⟩ := hg
    obtain ⟨f0, f1, f2, f3, f4, f5⟩ := hf it (by simp)
    obtain ⟨es', ep', hdt, hsz, ent⟩ := dn.entries
    obtain ⟨rfl, rfl⟩ := dict_ep hod hdt
    have hgd : s.heap.get? d = some o := (show ObjOk X.prog X.w H s.heap d (rawO d o) from I.hok d _ hd).1
    exact next_key_end (I.ok.hd hc) st hgd hdt hsz hi fun h' eb => ⟨rfl, I.turned (t' := s.toks) (fun b ob hb e => eb b ob hb e) f0 f1 f3 f4 f5⟩
  self := fun A i s Q E st h => by
    refine wpAny_pyIter_slot st.typeIs F.slot_dict_keyiterator_iter (wpAny_call_entry F.slot_dict_keyiterator_iter st.typeIs F.entry_dict_keyiterator_iter ?_ (F.args_dict_keyiterator_iter_1 _))
    show wpAny _ _ (ret (.ref it)) _ _ s
    exact wpAny_pure ⟨_, rfl, "dict_keyiterator", _, st.typeIs, F.slot_dict_keyiterator_next.lookup, h⟩
/-- for k in d -/
def iKeysN (P : Program) (w : World) (td : TE) : TI := fun σ H R => td σ H fun x H1 => ∃ d o xs, x = .ref d ∧ (d == sysModules) = false ∧ H1 d = some (rawO d o) ∧ DNo P w o xs ∧ R (Itkn P w d o xs) H1
theorem pi_keysN {tg e : Expr} {td : TE} (he : PE X e td) (hp : X.prog = P := by rfl) (hw : X.w = w := by rfl) : PI X tg e (iKeysN P w td) := by
  subst hp; subst hw
  refine ⟨fun pins s σ H R I h => ?_⟩
  refine thn (he.run pins s σ H _ I h) fun u s1 ⟨x, H1, I1, rx, d, o, xs, ex, low, hd, dn, q⟩ => ?_
  subst ex
  obtain rfl : u = Value.ref d := rx
  obtain ⟨es, ep, hdt, hsz, ent⟩ := dn.entries
  have hgd : s1.heap.get? d = some o := (show ObjOk X.prog X.w H1 s1.heap d (rawO d o) from I1.hok d _ hd).1
  refine iter_keys low hgd dn.1 hdt (pi_one (tk := s1.toks) I1 _ (turn_keysN dn _ hdt) ⟨_, Heap.get?_push_size _ rfl, rfl, ?_⟩ q)
  rw [hsz] <;> rfl
end
end Fv

/-! dicts whose keys are data, as part of what stays, or one's own; dicts of rows with any values, by comprehension -/
namespace Fv
open PySem PySem.Spec PyProof.Rows L2 L2H Evl StX
/-- what one has made is taken among what stays -/
theorem Step.freeze {pt : Option Pt} {F0 H0 F H : Hp} {a : Addr} {o : HO} (s : Step pt F0 H0 F H) (g : Good pt F0 H0) (h0 : H0 a = none) (f : F a = none) (h : H a = some o) : Step pt F0 H0 (upd F a o) H := by
  refine ⟨s.sub.trans (Ex.new f), fun b u hb => ?_, s.keep, fun q hq => ⟨?_, (s.good q hq).2⟩, fun b h1 h2 => ?_⟩
  · by_cases z : b = a
    · rw [z, upd_same] at hb; rw [z, h]; exact hb
    · rw [upd_ne z] at hb; exact s.inn b u hb
  · rw [upd_ne (off_pot g h0 q hq).1.symm]; exact (s.good q hq).1
  · rw [upd_ne (loose_ne h2 h0)]; exact s.new b h1 h2
theorem kbL_opt : ∀ l : List (Option Int), kbL (l.map optD) = true
  | [] => rfl
  | o :: l => by
    rw [List.map_cons, kbL, kbL_opt l]
    cases o <;> rfl
theorem kb_dO (vw : List (Option Int)) : kb (dO vw) = true := by rw [kb]; exact kbL_opt vw
theorem nk_opt (o : Option Int) : (nk (optD o)).depth = 0 := by cases o <;> rfl
theorem nkL_depth : ∀ l : List (Option Int), NestedKey.depthAll (nkL (l.map optD)) = 0
  | [] => rfl
  | o :: l => by
    rw [List.map_cons, nkL, NestedKey.depthAll, nk_opt, nkL_depth l]; rfl
theorem depth_dO (vw : List (Option Int)) : (nk (dO vw)).depth ≤ 8 := by
  rw [nk, NestedKey.depth, nkL_depth]; decide
theorem optD_inj {a b : Option Int} (h : optD a = optD b) : a = b := by
  cases a <;> cases b <;> simp [optD] at h
  · rfl
  · rw [h]
theorem dO_inj {a b : List (Option Int)} (h : dO a = dO b) : a = b := by
  injection h with h
  exact (List.map_inj_right (fun x y h => optD_inj h)).mp h
theorem nkO_inj {a b : List (Option Int)} (h : nk (dO a) = nk (dO b)) : a = b := dO_inj (nk_inj (kb_dO a) (kb_dO b) h)
section
variable {K : PySem.W.Frag} {P : Program} {w : World} {pt : Option Pt} {σ : L2.St} {F F' F0 H0 H F2 H2 : Hp} {te ta tb td ty tv : TE} {ts : TA} {t : TT} {D : Ends} {tz : TS} {l a : Addr} {xs : List NEnt} {wi : TI}
theorem keyO {vw : List (Option Int)} (h : Rp K F (.ref a) (dO vw)) : KeyOk K F (nk (dO vw)) a := ⟨_, h, kb_dO vw, rfl, depth_dO vw⟩
/-! a dict that stays -/
/-- d[view] -/
theorem g_dgetO {i : Nat} {z : PyData} {vw : List (Option Int)} {p : Addr × V} (h0 : σ[i]? = some (some (.ref l))) (nd : ND P w K F l xs) (h : EvG K pt ty σ F (Is (dO vw))) (hp : atN xs (nk (dO vw)) = some p) (hz : Rp K F p.2 z) : EvG K pt (tOp (rIxN P w K) (tVar i) ty) σ F (Is z) := fun H1 e g Q q =>
  ⟨_, h0, h H1 e g _ fun d v F2 H2 hd s hv => by
    subst hd
    obtain ⟨a, ys, rfl, hl, ha⟩ := rp_tup hv
    exact ⟨l, xs, _, a, p, rfl, rfl, nd.mono (s.sub.trans s.inn), (keyO hv).mono s.inn, hp, q _ p.2 F2 H2 rfl s (Rp.mono s.sub _ _ hz)⟩⟩
/-- the keys -/
theorem w_keysN {i : Nat} {ds : List PyData} (h0 : σ[i]? = some (some (.ref l))) (nd : ND P w K F l xs) (hk : RpAll K F (xs.map fun x => V.ref x.2.1) ds) : WiG K pt (iKeysN P w (tVar i)) σ F (· = ds) := fun H1 e g RR q => by
  obtain ⟨o, h1, h2⟩ := nd.ex
  have hl : xs.length = ds.length := by have := hk.length; rwa [List.length_map] at this
  refine ⟨_, h0, l, o, xs, rfl, nd.low, e _ _ h1, h2, q ds _ F H1 rfl (.refl e g) ⟨fun i H e hi => ⟨e _ _ h1, by omega⟩, fun H e => ⟨e _ _ h1, by omega⟩, fun i H x H' e hi y => ⟨y.1, ?_⟩⟩⟩
  obtain ⟨en, he, hx⟩ := y.2
  rw [hx]
  exact hk.get (by rw [List.getElem?_map, he]; rfl)
/-! a dict of one's own -/
structure Nst (P : Program) (w : World) (K : PySem.W.Frag) (pt : Option Pt) (F0 H0 : Hp) (D : Addr) (F H : Hp) (xs : List NEnt) : Prop where
  step : Step pt F0 H0 F H
  off : F D = none
  low : (D == sysModules) = false
  ex : ∃ o, H D = some (rawO D o) ∧ DNo P w o xs
  keys : ∀ x ∈ xs, KeyOk K F x.1 x.2.1
theorem Nst.nd (g : Nst P w K pt F0 H0 l F H xs) : ND P w K H l xs := ⟨g.low, g.ex, fun x hx => (g.keys x hx).mono g.step.inn⟩
theorem Nst.run (g0 : Good pt F0 H0) (h0 : H0 l = none) (g : Nst P w K pt F0 H0 l F H xs) (s : Step pt F H F2 H2) : Nst P w K pt F0 H0 l F2 H2 xs := by
  obtain ⟨o, h1, h2⟩ := g.ex
  exact ⟨g.step.trans s, s.new l g.off ⟨_, h1, fun ys z => nomatch z⟩, g.low, ⟨o, s.keep l _ (fun q hq => (off_pot g0 h0 q hq).1) h1, h2⟩, fun x hx => (g.keys x hx).mono s.sub⟩
theorem Nst.done (g0 : Good pt F0 H0) (h0 : H0 l = none) (g : Nst P w K pt F0 H0 l F H xs) : ∃ F2, Step pt F0 H0 F2 H ∧ Ex F F2 ∧ ND P w K F2 l xs := by
  obtain ⟨o, h1, h2⟩ := g.ex
  have e1 : Ex F (upd F l (rawO l o)) := Ex.new g.off
  exact ⟨_, g.step.freeze g0 h0 g.off h1, e1, g.low, ⟨o, upd_same, h2⟩, fun x hx => (g.keys x hx).mono e1⟩
theorem t_newN {i : Nat} (s : Step pt F0 H0 F H) (q : ∀ l H2, H l = none → H0 l = none → Nst P w K pt F0 H0 l F H2 [] → tz D (σ.set i (some (.ref l))) H2) : tSeq (tAsg (tDNewN P w) (gName i)) tz D σ H := fun l o hl low hd =>
  q l _ hl (s.back l hl) ⟨s.trans (.litter s.inn s.good hl), (by
    cases w : F l with
    | none => rfl
    | some o => rw [s.inn _ _ w] at hl; cases hl), low, ⟨o, upd_same, hd⟩, fun x hx => by cases hx⟩
/-- d[view] = e -/
theorem t_putN {i : Nat} {vw : List (Option Int)} {R : PD} (g0 : Good pt F0 H0) (h0 : H0 l = none) (g : Nst P w K pt F0 H0 l F H xs) (hi : σ[i]? = some (some (.ref l))) (hz : xs.length < 50000) (he : EvG K pt te σ F R) (hk : ∀ F', Ex F F' → EvG K pt ty σ F' (Is (dO vw)))
    (q : ∀ d v b F2 H2, R d → Nst P w K pt F0 H0 l F2 H2 (putN xs (nk (dO vw)) b v) → Ex F F2 → Rp K F2 v d → Rp K F2 (.ref b) (dO vw) → D.nx σ H2) : tAsg te (gSub (tVar i) ty (rSetN P w K)) D σ H :=
  he H g.step.inn g.step.good _ fun d v F2 H2 hd s hv => ⟨_, hi, hk F2 s.sub H2 s.inn s.good _ fun d2 v2 F3 H3 hd2 s2 hv2 => by
    subst hd2
    obtain ⟨b, ys, rfl, hl, ha⟩ := rp_tup hv2
    have g2 := (g.run g0 h0 s).run g0 h0 s2
    refine ⟨l, xs, _, b, rfl, rfl, g2.nd, (keyO hv2).mono s2.inn, Nat.lt_of_lt_of_le hz (by decide), fun o ho => ?_⟩
    refine q d v b F3 _ hd ⟨g2.step.put g0 h0 g2.off, g2.off, g2.low, ⟨o, upd_same, ho⟩, fun x hx => ?_⟩ (s.sub.trans s2.sub) (Rp.mono s2.sub _ _ hv) hv2
    unfold putN at hx
    split at hx
    · obtain ⟨y, hy, rfl⟩ := List.mem_map.mp hx
      have := g2.keys y hy
      unfold putAtN
      split
      · exact this
      · exact this
    · rcases List.mem_append.mp hx with m | m
      · exact g2.keys x m
      · rw [List.mem_singleton.mp m]; exact keyO hv2⟩
/-! dicts of rows with any values -/
abbrev DV (K : PySem.W.Frag) (F : Hp) : List (List Key × V) → List (List Int × PyData) → Prop := Paired fun kv pd => kv.1 = key pd.1 ∧ Rp K F kv.2 pd.2
theorem DV.mono {kvs : List (List Key × V)} {ps : List (List Int × PyData)} (e : Ex F F') (h : DV K F kvs ps) : DV K F' kvs ps := Paired.mapP h fun _ _ z => ⟨z.1, Rp.mono e _ _ z.2⟩
theorem DV.keys {kvs : List (List Key × V)} {ps : List (List Int × PyData)} (h : DV K F kvs ps) : kvs.map (·.1) = (ps.map (·.1)).map key := by
  induction h with
  | nil => rfl
  | cons a _ ih => rw [List.map_cons, List.map_cons, List.map_cons, ih, a.1]
theorem DV.none_ {kvs : List (List Key × V)} {ps : List (List Int × PyData)} (h : DV K F kvs ps) {r : List Int} (hr : r ∉ ps.map (·.1)) : valV kvs (key r) = none := by
  cases w : valV kvs (key r) with
  | none => rfl
  | some v =>
    have h1 := valV_any (key r) kvs
    have e1 : (kvs.any fun kv => decide (kv.1 = key r)) = ((kvs.map (·.1)).any fun k => decide (k = key r)) := by rw [List.any_map]; rfl
    rw [w, e1, h.keys, List.any_map, Option.isSome_some, List.any_eq_true] at h1
    obtain ⟨x, hx, e⟩ := h1
    have : key x = key r := by simpa using e
    rw [key_inj this] at hx
    exact absurd hx hr
theorem DV.get {kvs : List (List Key × V)} {ps : List (List Int × PyData)} (h : DV K F kvs ps) : (ps.map (·.1)).Nodup → ∀ {r : List Int} {d : PyData}, (r, d) ∈ ps → ∃ v, valV kvs (key r) = some v ∧ Rp K F v d := by
  induction h with
  | nil => intro _ r d hm; cases hm
  | @cons kv pd kvs ps a _ ih =>
    intro nd r d hm
    rw [List.map_cons, List.nodup_cons] at nd
    rcases List.mem_cons.mp hm with e | m
    · subst e
      exact ⟨kv.2, valV_pos a.1, a.2⟩
    · obtain ⟨v, h1, h2⟩ := ih nd.2 m
      refine ⟨v, ?_, h2⟩
      have ne : ¬ kv.1 = key r := by
        rw [a.1]
        intro z
        exact nd.1 (by rw [key_inj z]; exact List.mem_map.mpr ⟨_, m, rfl⟩)
      rw [valV_neg ne]; exact h1
theorem x_dcV {α : Type} {j : Nat} {vs : List Nat} (enc : α → PyData) (ys : List α) (p : α → Bool) (row : α → List Int) (val : α → PyData) (hw : WiG K pt wi σ F (· = ys.map enc)) (hz : ys.length ≤ 20000) (nd : ((ys.filter p).map row).Nodup) (hwp : ∀ x, wipe ((wipe σ vs).set j (some x)) vs = wipe σ vs)
    (ht : ∀ y ∈ ys, ∀ F', Ex F F' → ∀ v, Rp K F' v (enc y) → EtG pt t ((wipe σ vs).set j (some v)) F' (· = p y))
    (hk : ∀ y ∈ ys, p y = true → ∀ F', Ex F F' → ∀ v, Rp K F' v (enc y) → EvG K pt te ((wipe σ vs).set j (some v)) F' (Is (dT (row y)))) (hv : ∀ y ∈ ys, p y = true → ∀ F', Ex F F' → ∀ v, Rp K F' v (enc y) → EvG K pt tv ((wipe σ vs).set j (some v)) F' (Is (val y))) :
    EvX pt (tDcT wi (gName j) t te tv vs) σ F (fun v F2 => ∃ D kvs, v = .ref D ∧ F2 D = some (.dT kvs) ∧ DV K F2 kvs ((ys.filter p).map fun y => (row y, val y))) := fun H0 i0 g0 Q q =>
  hw H0 i0 g0 _ fun ds J F1 H1 hds s1 Y => fun D hD => by
    subst hds
    have gi := s1.inn
    have gg := s1.good
    have f1 : F1 D = none := by
      cases w : F1 D with
      | none => rfl
      | some o => rw [gi _ _ w] at hD; cases hD
    have hlen : (ys.map enc).length = ys.length := by simp
    refine ⟨fun i m H => m = ys.length - i ∧ i ≤ ys.length ∧ ∃ F' kvs, Step pt F1 H1 F' H ∧ F' D = none ∧ H D = some (.dT kvs) ∧ DV K F' kvs (((ys.take i).filter p).map fun y => (row y, val y)), ⟨ys.length, by simp, Nat.zero_le _, F1, [], .litter gi gg hD, f1, upd_same, .nil⟩, ?_⟩
    rintro i m H ⟨rfl, hi, F', kvs, s, f, e, dv⟩
    have eH : Ex F1 H := s.sub.trans s.inn
    by_cases hlt : i < ys.length
    · refine .inr ⟨Y.go i H eH (by rw [hlen]; exact hlt), fun H => ∃ F' kvs, Step pt F1 H1 F' H ∧ F' D = none ∧ H D = some (.dT kvs) ∧ DV K F' kvs (((ys.take (i + 1)).filter p).map fun y => (row y, val y)), fun H' p' => ⟨ys.length - (i + 1), by omega, rfl, hlt, p'⟩, fun v H' y => ?_⟩
      obtain ⟨rfl, d, hd, hx⟩ := Y.yld i H v H' eH (by rw [hlen]; exact hlt) y
      obtain ⟨y0, hy0, rfl⟩ := get_map hd
      have hm : y0 ∈ ys := List.mem_of_getElem? hy0
      refine ⟨hwp v, ?_⟩
      have off : ∀ q, pt = some q → D ≠ q.p := fun q hq => (off_pot gg hD q hq).1
      refine ht y0 hm F' (s1.sub.trans s.sub) v (Rp.mono s.sub _ _ hx) H' s.inn s.good _ fun b F1' H1' hb s1' => ?_
      have fA := s1'.new D f (by rw [e]; simp)
      have eA := s1'.keep D _ off e
      have sA := s.trans s1'
      rw [take_succA hy0, List.filter_append]
      cases hpy : p y0 with
      | false =>
        rw [hpy] at hb
        subst hb
        rw [if_neg (by simp)]
        refine ⟨F1', kvs, sA, fA, eA, ?_⟩
        rw [show [y0].filter p = [] by simp [hpy], List.append_nil]
        exact dv.mono s1'.sub
      | true =>
        rw [hpy] at hb
        subst hb
        rw [if_pos rfl]
        refine hk y0 hm hpy F1' (s1.sub.trans sA.sub) v (Rp.mono sA.sub _ _ hx) H1' sA.inn sA.good _ fun d2 y2 F2 H2 hd2 s2 hy2 => ?_
        have f2 := s2.new D fA (by rw [eA]; simp)
        have e2 := s2.keep D _ off eA
        refine hv y0 hm hpy F2 ((s1.sub.trans sA.sub).trans s2.sub) v (Rp.mono (sA.sub.trans s2.sub) _ _ hx) H2 s2.inn s2.good _ fun d3 y3 F3 H3 hd3 s3 hy3 => ?_
        have f3 := s3.new D f2 (by rw [e2]; simp)
        have e3 := s3.keep D _ off e2
        subst hd2; subst hd3
        obtain ⟨q2, zs, rfl, hq2, ha⟩ := rp_tup hy2
        have e1 := rpAll_ints ha
        subst e1
        have dv3 := dv.mono ((s1'.sub.trans s2.sub).trans s3.sub)
        have hnew : row y0 ∉ (((ys.take i).filter p).map fun y => (row y, val y)).map (·.1) := by
          have nd2 : (((ys.take (i + 1)).filter p).map row).Nodup := List.Nodup.sublist (((List.take_sublist (i + 1) ys).filter p).map row) nd
          rw [take_succA hy0, List.filter_append, show [y0].filter p = [y0] by simp [hpy], List.map_append, List.nodup_append] at nd2
          intro hmem
          rw [List.map_map] at hmem
          exact nd2.2.2 (row y0) hmem (row y0) (by simp) rfl
        have pn : putK kvs (key (row y0)) y3 = kvs ++ [(key (row y0), y3)] := putK_new y3 (dv3.none_ hnew)
        refine ⟨_, key (row y0), q2, rfl, by rw [key_kV]; exact s3.inn _ _ (s3.sub _ _ hq2), e3, sz_lt ?_, F3, kvs ++ [(key (row y0), y3)], ?_, f3, ?_, ?_⟩
        · have h1 : kvs.length = _ := Paired.length dv
          have h2 := List.length_filter_le p (ys.take i)
          rw [List.length_map] at h1
          rw [List.length_take] at h2
          omega
        · exact ((sA.trans s2).trans s3).put gg hD f3
        · rw [pn]; exact upd_same
        · rw [show [y0].filter p = [y0] by simp [hpy], List.map_append]
          exact Paired.snoc dv3 ⟨rfl, hy3⟩
    · have hE : i = ys.length := Nat.le_antisymm hi (Nat.le_of_not_lt hlt)
      subst hE
      rw [List.take_length] at dv
      have e1 : Ex F' (upd F' D (.dT kvs)) := Ex.new f
      exact .inl ⟨by have := Y.stop H eH; rw [hlen] at this; exact this, q _ (upd F' D (.dT kvs)) H ⟨D, kvs, rfl, upd_same, dv.mono e1⟩ (s1.trans (s.freeze gg hD f e))⟩
end
end Fv

/-! dicts whose keys are data: what is popped out of them -/
namespace Fv
open PySem PySem.Spec PyProof.Rows L2 L2H Evl StX
section
variable {X : Cx} {P : Program} {w : World} {K : PySem.W.Frag} {pt : Option Pt} {σ : L2.St} {F H F0 H0 F2 H2 : Hp} {l : Addr} {xs : List NEnt} {te tm ty : TE} {D : Ends} {tz : TS}
def delN (xs : List NEnt) (k : NK) : List NEnt := xs.filter fun x => decide (x.1 ≠ k)
theorem NPair.del {xs : List NEnt} {ys : List (NK × Addr × Value)} (h : NPair xs ys) (k : NK) : NPair (delN xs k) (withoutH ys k) := by
  induction h with
  | nil => exact .nil
  | cons h1 h2 ih =>
    unfold delN withoutH
    rw [List.filter_cons, List.filter_cons, h1.1]
    split
    · exact .cons h1 ih
    · exact ih
theorem delN_len (xs : List NEnt) (k : NK) : (delN xs k).length ≤ xs.length := List.length_filter_le _ _
theorem delN_sub {xs : List NEnt} {k : NK} {x : NEnt} (h : x ∈ delN xs k) : x ∈ xs := (List.mem_filter.mp h).1
def rPopN (P : Program) (w : World) (K : PySem.W.Frag) : V → List V → Hp → VK → Prop := fun x vs H Q => ∃ a xs k b p, x = .ref a ∧ vs = [.ref b] ∧ ND P w K H a xs ∧ KeyOk K H k b ∧ atN xs k = some p ∧ ∀ o, DNo P w o (delN xs k) → Q p.2 (upd H a (rawO a o))
theorem mt_popN (hu : X.A.units + 65 < cLine) (hp : X.prog = P := by rfl) (hw : X.w = w := by rfl) : MtR X "dict.pop" (rPopN P w K) := by
  subst hp; subst hw
  intro pins s σ H x vs v us Q I r rv h
  obtain ⟨a, xs, k, b, p, rfl, rfl, nd, ko, hat, h2⟩ := h
  obtain rfl : v = Value.ref a := r
  obtain ⟨u1, rfl, ru⟩ : ∃ u1, us = [u1] ∧ RelV (.ref b) u1 := by
    cases rv with
    | cons r1 r2 => cases r2; exact ⟨_, rfl, r1⟩
  obtain rfl : u1 = Value.ref b := ru
  obtain ⟨ys, hp, hm, hl⟩ := nd.dict I
  obtain ⟨p2, e1, e2, e3⟩ := hp.some_ hat
  refine call_pop_heap (.inl rfl) (PySem.F.args_dict_pop_2 _ _) (roomN hu) (ko.is I) nd.low hm e1 (fun h' hm' hs => ?_) hl
  obtain ⟨o, h3, h4⟩ := dno_of (hp.del k) (by have := delN_len xs k; have := hp.length; omega) hm'
  obtain ⟨o0, e0, _⟩ := nd.ex
  exact ⟨p.2, _, d_write I (by rw [e0]; exact True.intro) hs ⟨o, h3⟩ (raw_ok h3), e3, h2 o h4⟩
end
end Fv

/-! walking a list or a tuple, not known which; len(set(row)) -/
namespace Fv
open PySem PySem.Spec PyProof.Rows L2 L2H Evl StX
def iSeq (K : PySem.W.Frag) (tl : TE) : TI := fun σ H R => tl σ H fun x H1 => ∃ a, x = .ref a ∧ ((∃ xs, SqL K H1 a xs) ∧ R (Itl K a) H1 ∨ (∃ xs, SqT K H1 a xs) ∧ R (Itt K a) H1)
theorem pi_seq {X : Cx} {K : PySem.W.Frag} {tg l : Expr} {tl : TE} (hl : PE X l tl) (h : X.K = K := by rfl) : PI X tg l (iSeq K tl) := by
  subst h
  constructor
  intro pins s σ H R I ht
  refine thn (hl.run pins s σ H _ I ht) ?_
  rintro v s1 ⟨x, H1, I1, r1, a, rfl, z⟩
  cases r1
  have one : ∀ b ∈ [s1.heap.objs.size], FpOk X pins H1 b := fun b hb => by
    obtain rfl := List.mem_singleton.mp hb
    exact I1.fpOk (Nat.le_refl _) (I1.hok.fresh (Nat.le_refl _))
  rcases z with ⟨⟨xs, hq⟩, q⟩ | ⟨⟨xs, hq⟩, q⟩
  · obtain ⟨its, rv, p, hz⟩ := I1.list hq
    exact wpAny_pyIter_list p.isList ⟨_, [s1.heap.objs.size], _, _, H1, rfl, I1.kept (t' := s1.toks) fun b o e => Heap.get?_push_of_some _ e, turn_list a _, ⟨_, Heap.get?_push_size _ rfl, rfl, rfl⟩, one, q⟩
  · obtain ⟨its, rv, p, hz⟩ := I1.tuple hq
    exact wpAny_pyIter_tuple (show s1.heap.IsTuple a its.toArray from p) ⟨_, [s1.heap.objs.size], _, _, H1, rfl, I1.kept (t' := s1.toks) fun b o e => Heap.get?_push_of_some _ e, turn_tuple a _, ⟨_, Heap.get?_push_size _ rfl, rfl, rfl⟩, one, q⟩
section
variable {K : PySem.W.Frag} {w : World} {pt : Option Pt} {σ : L2.St} {F F' : Hp} {te : TE}
theorem w_seqI {d : PyData} {ds : List PyData} (hd : d = .list ds ∨ d = .tuple ds) (h : EvG K pt te σ F (Is d)) : WiG K pt (iSeq K te) σ F (· = ds) := fun H1 i g RR q =>
  h H1 i g _ fun d' v F2 H2 hd' s hv => by
    subst hd'
    rcases hd with rfl | rfl
    · obtain ⟨a, xs, rfl, hl, ha⟩ := rp_lst hv
      refine ⟨a, rfl, .inl ⟨⟨xs, sq_of (s.inn _ _ hl)⟩, q ds _ F2 H2 rfl s ⟨fun i H e hi => ?_, fun H e => ⟨xs, sq_of (e _ _ hl), Nat.le_of_eq ha.length⟩, fun i H x H' e hi y => ⟨y.1, ha.get (y.2 xs (sq_of (e _ _ hl)))⟩⟩⟩⟩
      have hi' : i < xs.length := by rw [ha.length]; exact hi
      exact ⟨xs, xs[i], sq_of (e _ _ hl), List.getElem?_eq_getElem hi'⟩
    · obtain ⟨a, xs, rfl, hl, ha⟩ := rp_tup hv
      refine ⟨a, rfl, .inr ⟨⟨xs, tx s.inn hl⟩, q ds _ F2 H2 rfl s ⟨fun i H e hi => ?_, fun H e => ⟨xs, tx e hl, Nat.le_of_eq ha.length⟩, fun i H x H' e hi y => ⟨y.1, ha.get (y.2 xs (tx e hl))⟩⟩⟩⟩
      have hi' : i < xs.length := by rw [ha.length]; exact hi
      exact ⟨xs, xs[i], tx e hl, List.getElem?_eq_getElem hi'⟩
/-- len(s) of a set of whole numbers: how many there are, told by any list of them without double -/
def rLenS (w : World) : List V → Hp → VK → Prop := fun vs H Q => ∃ a S n, vs = [.ref a] ∧ H a = some (SetO w a S n) ∧ ∀ ks : List Int, ks.Nodup → ks.length = n → (∀ k, S k = true ↔ k ∈ ks) → Q (.int ((n : Nat) : Int)) H
theorem c_lenS {X : Cx} {w : World} (hw : X.w = w := by rfl) : CallR X (.builtin "len") (rLenS w) := by
  subst hw
  rintro pins s σ H vs us Q I r ⟨a, S, n, rfl, hs, q⟩
  rw [Vals.ref1 r]
  obtain ⟨o, es, ep, t, ho, hex, hd, _, nd, hm, hb, hf, hn, _⟩ := setO_get I hs
  refine call_len_set ho hex hd hf (by unfold scanBound at hb; omega) ⟨.int ((n : Nat) : Int), H, I.tok _, ⟨_, by rw [hn]⟩, ?_⟩
  exact q _ nd (by rw [List.length_map, Array.length_toList]; exact hn) hm
def rSetU (K : PySem.W.Frag) (w : World) : List V → Hp → VK → Prop := fun xs H Q => rSetT K w xs H Q ∨ rSetLi K w xs H Q
theorem c_setU {X : Cx} (hc : X.calm = true := by rfl) (h : X.K = K := by rfl) (hw : X.w = w := by rfl) : CallR X (.type "set") (rSetU K w) := by
  intro pins s σ H xs us Q I r hq
  rcases hq with hq | hq
  · exact c_setT hc h hw pins s σ H xs us Q I r hq
  · exact c_setL hc h hw pins s σ H xs us Q I r hq
def once : List Int → List Int
  | [] => []
  | x :: xs => if x ∈ xs then once xs else x :: once xs
theorem once_mem : ∀ (b : List Int) (k : Int), k ∈ once b ↔ k ∈ b
  | [], _ => Iff.rfl
  | x :: xs, k => by
    rw [once]
    split
    · rename_i h
      rw [once_mem xs, List.mem_cons]
      exact ⟨.inr, fun z => z.elim (fun e => e ▸ h) id⟩
    · rw [List.mem_cons, List.mem_cons, once_mem xs]
theorem once_nd : ∀ b : List Int, (once b).Nodup
  | [] => List.nodup_nil
  | x :: xs => by
    rw [once]
    split
    · exact once_nd xs
    · rename_i h
      exact List.nodup_cons.mpr ⟨fun z => h ((once_mem xs x).mp z), once_nd xs⟩
theorem once_len : ∀ b : List Int, (once b).length ≤ b.length ∧ ((once b).length = b.length → b.Nodup)
  | [] => ⟨Nat.le_refl _, fun _ => List.nodup_nil⟩
  | x :: xs => by
    obtain ⟨h1, h2⟩ := once_len xs
    rw [once]
    split
    · exact ⟨by rw [List.length_cons]; omega, fun z => by rw [List.length_cons] at z; omega⟩
    · rename_i h
      refine ⟨by rw [List.length_cons, List.length_cons]; omega, fun z => List.nodup_cons.mpr ⟨h, h2 ?_⟩⟩
      rw [List.length_cons, List.length_cons] at z; omega
theorem nodup_same {a b : List Int} (ha : a.Nodup) (hm : ∀ k, k ∈ a ↔ k ∈ b) : a.length = b.length ↔ b.Nodup := by
  have e1 : a.length = (once b).length := ((List.perm_ext_iff_of_nodup ha (once_nd b)).mpr fun k => by rw [hm, once_mem]).length_eq
  refine ⟨fun h => (once_len b).2 (by omega), fun hb => ((List.perm_ext_iff_of_nodup ha hb).mpr hm).length_eq⟩
theorem g_lenSet {d : PyData} {ns : List Int} (hd : d = .list (ns.map .int) ∨ d = .tuple (ns.map .int)) (h : EvG K pt te σ F (Is d)) (hz : ns.length ≤ 60) : EvG K pt (tCB (rLenS w) (tCons (tCB (rSetU K w) (tCons te tNil)) tNil)) σ F
    (fun x => ∃ m : Nat, x = .int (m : Int) ∧ (m = ns.length ↔ ns.Nodup)) := fun H1 i g Q q =>
  h H1 i g _ fun d' v F2 H2 hd' s hv => by
    subst hd'
    have fin : ∀ b c, H2 b = none → rLenS w [V.ref b] (upd H2 b (SetO w b (fun j => decide (j ∈ ns)) c)) Q := fun b c hb => by
      have s3 : Step pt F2 H2 F2 (upd H2 b (SetO w b (fun j => decide (j ∈ ns)) c)) := .litter s.inn s.good hb
      exact ⟨b, _, c, rfl, upd_same, fun ks nd hl hm => q _ _ _ _ ⟨c, rfl, by rw [← hl]; exact nodup_same nd fun k => by rw [← hm k, decide_eq_true_eq]⟩ (s.trans s3) (.int _)⟩
    rcases hd with rfl | rfl
    · obtain ⟨a, xs, rfl, hl, ha⟩ := rp_lst hv
      have e1 := rpAll_ints ha
      subst e1
      exact .inr ⟨a, ns, rfl, SqL.of (s.inn _ _ hl), hz, fun b c hb _ => fin b c hb⟩
    · obtain ⟨a, xs, rfl, hl, ha⟩ := rp_tup hv
      have e1 := rpAll_ints ha
      subst e1
      exact .inl ⟨a, ns, rfl, tx s.inn hl, hz, fun b c hb _ => fin b c hb⟩
/-- a op b op c -/
theorem g_chain {tl tm tr : TE} {x y z : PyData} {r r' : L2.R2} {b : Bool} {R : PD} (ha : EvG K pt tl σ F (Is x)) (hb : EvG K pt tm σ F (Is y)) (hc : EvG K pt tr σ F (Is z)) (h1 : RvG K r x y (Is (.bool b))) (h2 : b = true → RvG K r' y z R) (hf : b = false → R (.bool false)) : EvG K pt (tChain r r' tl tm tr) σ F R := fun H1 i g Q q =>
  ha H1 i g _ fun d v F2 H2 hd s hv => hb.mono s.sub H2 s.inn s.good _ fun e u F3 H3 he s3 hu => by
    subst hd; subst he
    refine h1 F3 H3 v u s3.inn (Rp.mono s3.sub _ _ hv) hu _ fun d2 k F4 H4 hd2 s4 hk => ?_
    subst hd2
    obtain rfl := rp_bool hk
    have s04 := (s.trans s3).trans (s4.lift s3.good)
    refine ⟨b, rfl, ?_⟩
    split
    · rename_i hb1
      exact hc.mono s04.sub H4 s04.inn s04.good _ fun e w' F5 H5 he5 s5 hw => by
        subst he5
        exact h2 hb1 F5 H5 u w' s5.inn (Rp.mono (s4.sub.trans s5.sub) _ _ hu) hw Q fun z x F6 H6 hz s6 hx => q z x F6 H6 hz ((s04.trans s5).trans (s6.lift s5.good)) hx
    · rename_i hb1
      exact q _ _ F4 H4 (hf (by simpa using hb1)) s04 (.bl false)
/-- a slice of a list or a tuple, not known which -/
def like : PyData → List PyData → PyData
  | .list _, es => .list es
  | _, es => .tuple es
theorem like_seq (src : PyData) (es : List PyData) : like src es = .list es ∨ like src es = .tuple es := by cases src <;> first | exact .inl rfl | exact .inr rfl
def rSlU (K : PySem.W.Frag) : V → Option Int → Option Int → Hp → VK → Prop := fun x lo hi H Q => rSlL K x lo hi H Q ∨ rSlA K x lo hi H Q
theorem s_any {X : Cx} (h : X.K = K := by rfl) : SlR X (rSlU K) := SlR.or (s_list h) (s_tup h)
theorem cut_upto {xs : List V} {lo : Option Int} {i : Nat} (hlo : HT.sIx xs.length 0 lo = 0) : cutV xs lo (some (i : Int)) = xs.take i := by
  unfold cutV
  rw [hlo, show HT.sIx xs.length xs.length (some (i : Int)) = min i xs.length from HT.sIx_nat _ _ i, List.drop_zero, Nat.sub_zero]
  by_cases z : i ≤ xs.length
  · rw [Nat.min_eq_left z]
  · rw [Nat.min_eq_right (by omega), List.take_of_length_le (Nat.le_refl _), List.take_of_length_le (by omega)]
theorem slU_run {F2 H2 H1 H : Hp} {Q : VK} {src : PyData} {ds : List PyData} {lo : Option Int} {i : Nat} {v : V} (hs : src = .list ds ∨ src = .tuple ds) (hlo : ∀ n : Nat, HT.sIx n 0 lo = 0) (s : Step pt F H1 F2 H2) (hv : Rp K F2 v src)
    (q : ∀ z v F3 H3, z = like src (ds.take i) → Step pt F H1 F3 H3 → Rp K F3 v z → Q v H3) : rSlU K v lo (some (i : Int)) H2 Q := by
  rcases hs with rfl | rfl
  · obtain ⟨a, xs, rfl, hl, ha⟩ := rp_lst hv
    refine .inl ⟨a, xs, rfl, SqL.of (s.inn _ _ hl), fun p hp => ?_⟩
    rw [cut_upto (hlo _)]
    have s3 : Step pt F2 H2 (upd F2 p (.lst (xs.take i))) (upd H2 p (.lst (xs.take i))) := .laid s.inn s.good hp
    exact q _ _ _ _ rfl (s.trans s3) (.lst upd_same (RpAll.mono s3.sub _ _ (RpAll.take i ha)))
  · obtain ⟨a, xs, rfl, hl, ha⟩ := rp_tup hv
    have hln := ha.length
    refine .inr ⟨a, xs, rfl, tx s.inn hl, fun hw => ?_, fun hw p hp => ?_⟩
    · rw [show HT.sIx xs.length xs.length (some (i : Int)) = min i xs.length from HT.sIx_nat _ _ i] at hw
      refine q _ _ F2 H2 rfl s ?_
      show Rp K F2 _ (.tuple (ds.take i))
      rw [List.take_of_length_le (by omega)]
      exact .tup hl ha
    · rw [cut_upto (hlo _)]
      have s3 : Step pt F2 H2 (upd F2 p (.tup (xs.take i))) (upd H2 p (.tup (xs.take i))) := .laid s.inn s.good hp
      exact q _ _ _ _ rfl (s.trans s3) (.tup upd_same (RpAll.mono s3.sub _ _ (RpAll.take i ha)))
theorem g_slU {ti : TE} {src : PyData} {ds : List PyData} {i : Nat} (hs : src = .list ds ∨ src = .tuple ds) (h : EvG K pt te σ F (Is src)) (hi : EvG K pt ti σ F (Is (.int (i : Int)))) : EvG K pt (tSl (rSlU K) te tNoPart (tPart ti)) σ F (Is (like src (ds.take i))) := fun H1 e g Q q =>
  h H1 e g _ fun d v F2 H2 hd s hv => hi.mono s.sub H2 s.inn s.good _ fun e u F3 H3 he s2 hu => by
    subst hd; subst he
    exact ⟨(i : Int), rp_int hu, slU_run (H := H2) hs (fun _ => rfl) (s.trans s2) (Rp.mono s2.sub _ _ hv) q⟩
theorem g_slU0 {ti : TE} {src : PyData} {ds : List PyData} {i : Nat} (hs : src = .list ds ∨ src = .tuple ds) (h : EvG K pt te σ F (Is src)) (hi : EvG K pt ti σ F (Is (.int (i : Int)))) : EvG K pt (tSl (rSlU K) te (tPart (tC (.int 0))) (tPart ti)) σ F (Is (like src (ds.take i))) := fun H1 e g Q q =>
  h H1 e g _ fun d v F2 H2 hd s hv => ⟨0, rfl, hi.mono s.sub H2 s.inn s.good _ fun e u F3 H3 he s2 hu => by
    subst hd; subst he
    exact ⟨(i : Int), rp_int hu, slU_run (H := H2) hs (fun n => by rw [show (some (0 : Int)) = some ((0 : Nat) : Int) from rfl, HT.sIx_nat]; exact Nat.min_eq_left (Nat.zero_le _)) (s.trans s2) (Rp.mono s2.sub _ _ hv) q⟩⟩
/-- a view in a dict of views -/
theorem et_inN {P : Program} {l : Addr} {xs : List NEnt} {i : Nat} {vw : List (Option Int)} (h : EvG K pt te σ F (Is (dO vw))) (h0 : σ[i]? = some (some (.ref l))) (nd : ND P w K F l xs) : EtG pt (tTest (tOp (rInN P w K false) te (tVar i))) σ F (· = (atN xs (nk (dO vw))).isSome) := fun H1 e g Q q =>
  h H1 e g _ fun d v F2 H2 hd s hv => ⟨_, h0, by
    subst hd
    obtain ⟨a, ys, rfl, hl, ha⟩ := rp_tup hv
    exact ⟨l, xs, _, a, rfl, rfl, nd.mono (s.sub.trans s.inn), (keyO hv).mono s.inn, _, rfl, q _ F2 H2 rfl s⟩⟩
end
end Fv

/-! whether a dict of views holds something -/
namespace PySem
open PySem PySem.Spec PyProof.Rows
section
variable {prog : Program} {w : World} {A : Around} {E : Value → Shared → Prop} {s : Shared} {KK : Type} [DecidableEq KK] {knd : HeapKind prog w KK}
theorem truthy_views {d : Addr} {xs : List (KK × Addr × Value)} {Q : Bool → Shared → Prop} (hd : (d == sysModules) = false) (hm : s.heap.DictOfH knd d xs) (hfit : (xs.length : Int) < 2 ^ 63)
    (h : Q (!xs.isEmpty) { s with toks := s.toks + 1 + 1 }) : wpAny (model prog w) A (truthy (.ref d)) Q E s := by
  have hne : ((xs.length : Int) != 0) = !xs.isEmpty := by cases xs <;> simp <;> omega
  have key : wpAny (model prog w) A (runValue (.builtin "len" ⟨[.ref d], []⟩)) (fun r s' => r = .int xs.length (s.toks + 1) ∧ Q (!xs.isEmpty) s') E s := by
    refine wpAny_runValue (codeAny_builtin entry_len ?_)
    rw [Around.under_plainId plain_len _]
    refine wpAny_mono (wpAny_len_body_dictH (Q := fun r s' => r = .int xs.length (s.toks + 1) ∧ Q (!xs.isEmpty) s') hd hm hfit ⟨rfl, h⟩) (fun fin s' h' => ?_) fun _ _ e => e
    obtain ⟨r, rfl, hq⟩ := h'
    exact hq
  unfold truthy
  refine wpAny_bind ?_
  first
    | (refine wpAny_callSpecial?_none (name := Str.ofString "__bool__") hm.typeIs noBool_dict ?_)
    | (refine wpAny_pure (wpAny_bind (wpAny_callSpecial?_none (name := Str.ofString "__bool__") hm.typeIs noBool_dict ?_)))
  refine wpAny_bind ?_
  first
    | (refine wpAny_specialOf (name := Str.ofString "__len__") hm.typeIs F.slot_dict_len.lookup ?_)
    | (refine wpAny_pure (wpAny_bind (wpAny_specialOf (name := Str.ofString "__len__") hm.typeIs F.slot_dict_len.lookup ?_)))
  refine wpAny_bind ?_
  first
    | exact wpAny_mono key (fun r s' h' => by obtain ⟨rfl, hq⟩ := h'; exact wpAny_pure (hne ▸ hq)) fun _ _ e => e
    | exact wpAny_pure (wpAny_bind (wpAny_mono key (fun r s' h' => by obtain ⟨rfl, hq⟩ := h'; exact wpAny_pure (hne ▸ hq)) fun _ _ e => e))
end
end PySem
namespace Fv
open PySem PySem.Spec PyProof.Rows L2 L2H Evl StX
section
variable {X : Cx} {P : Program} {w : World} {K : PySem.W.Frag} {pt : Option Pt} {σ : L2.St} {F H : Hp} {l : Addr} {xs : List NEnt} {te : TE}
theorem e_truN {a : Expr} {ta : TE} (ha : PE X a ta) (hp : X.prog = P := by rfl) (hw : X.w = w := by rfl) (he : ∀ whole, isTrue a X.env whole = (do let v ← whole; standAt a.pos; holding [v] (truthy v)) := by intro _; rfl) :
    PT X a (fun σ H Q => ta σ H fun x H' => ∃ d xs, x = .ref d ∧ ND P w K H' d xs ∧ Q (!xs.isEmpty) H') := by
  subst hp; subst hw
  constructor
  intro pins s σ H Q I h
  refine isTrue_plain (thn (ha.run pins s σ H _ I h) fun v s1 ⟨x, H1, I1, r1, d, xs, e, nd, q⟩ => ?_) (he _)
  subst e
  obtain rfl : v = Value.ref d := r1
  obtain ⟨ys, hp, hm, hl⟩ := nd.dict I1
  refine truthy_views nd.low hm (by rw [sizeLine_eq] at hl; omega) ⟨H1, I1.tok _, ?_⟩
  have : ys.isEmpty = xs.isEmpty := by cases hp <;> rfl
  rw [this]; exact q
end
end Fv

/-! two promises of one def -/
namespace Fv
open PySem PySem.Spec PyProof.Rows L2 Evl StX
theorem FnOk.or {P : Program} {w : World} {K : PySem.W.Frag} {mg : Str → Option Value} {base : Heap} {CX : CXT} {k : Nat} {f : Addr} {fd : FuncData} {ps : List Str} {s1 s2 : Sp} (h1 : FnOk P w K mg base CX k f fd ps s1) (h2 : FnOk P w K mg base CX k f fd ps s2) : FnOk P w K mg base CX k f fd ps (fun vs H Q E => s1 vs H Q E ∨ s2 vs H Q E) :=
  ⟨fun vs H Q E h => h.elim (h1.len vs H Q E) (h2.len vs H Q E), fun A out s H as us vs Q E r e0 b rv h => h.elim (h1.run A out s H as us vs Q E r e0 b rv) (h2.run A out s H as us vs Q E r e0 b rv)⟩
section
variable {K : PySem.W.Frag} {pt : Option Pt} {σ : L2.St} {F F' F0 H0 H : Hp} {te ta tb : TE} {ts tr : TA}
theorem g_andU {a : Bool} {R : PD} (h1 : EvG K pt ta σ F (Is (.bool a))) (h2 : a = true → EvG K pt tb σ F R) (h3 : a = false → R (.bool false)) : EvG K pt (tAndV ta tb) σ F R := fun H1 i g Q q => h1 H1 i g _ fun d v F2 H2 hd s hv => by
  subst hd
  refine ⟨a, rp_bool hv, ?_⟩
  cases a with
  | true => exact (h2 rfl).mono s.sub H2 s.inn s.good Q fun d' v' F3 H3 hd' s3 hv' => q d' v' F3 H3 hd' (s.trans s3) hv'
  | false => exact q _ _ F2 H2 (h3 rfl) s (.bl false)
theorem g_int1U {S : Int → Prop} (h : EvG K pt te σ F (fun d => (∃ k, d = .int k ∧ S k) ∨ ∃ b : Bool, d = .bool b ∧ S (if b then 1 else 0))) : EvG K pt (tCB (fun xs H Q => (∃ i, xs = [.int i] ∧ Q (.int i) H) ∨ ∃ k, xs = [.bl k] ∧ Q (.int (if k then 1 else 0)) H) (tCons te tNil)) σ F (fun d => ∃ k, d = .int k ∧ S k) := fun H1 i g Q q => h H1 i g _ fun d v F2 H2 hd s hv => by
  rcases hd with ⟨k, rfl, hk⟩ | ⟨b, rfl, hk⟩
  · obtain rfl := rp_int hv
    exact .inl ⟨k, rfl, q _ _ F2 H2 ⟨k, rfl, hk⟩ s (.int k)⟩
  · obtain rfl := rp_bool hv
    exact .inr ⟨b, rfl, q _ _ F2 H2 ⟨_, rfl, hk⟩ s (.int _)⟩
/-- drawn items that know their place -/
theorem g_lcIx {β : Type} {j n : Nat} {vs : List Nat} {wi : TI} (enc : β → PyData) (R : Nat → β → Prop) (hw : WiG K pt wi σ F (· = (List.range n).map natD)) (hz : n ≤ 50000) (hwp : ∀ x, wipe ((wipe σ vs).set j (some x)) vs = wipe σ vs)
    (he : ∀ k, k < n → ∀ F', Ex F F' → ∀ v, Rp K F' v (natD k) → EvG K pt te ((wipe σ vs).set j (some v)) F' (fun x => ∃ y, x = enc y ∧ R k y)) :
    EvG K pt (tLc wi (gName j) tYes te vs) σ F (fun x => ∃ ys : List β, x = .list (ys.map enc) ∧ ys.length = n ∧ ∀ k (h : k < ys.length), R k ys[k]) := by
  refine (g_lc (RS := (· = (List.range n).map natD)) (fun _ i l => ∃ ys : List β, l = ys.map enc ∧ ys.length = i ∧ ∀ k (h : k < ys.length), R k ys[k]) hw (fun ds e => by rw [e]; simp; omega) hwp (fun ds i l _ a => ?_) (fun _ _ => ⟨[], rfl, rfl, fun k h => absurd h (Nat.not_lt_zero k)⟩) (fun ds' i d e hd => ?_)).imp fun x hx => ?_
  · obtain ⟨ys, rfl, e, _⟩ := a
    rw [List.length_map, e]; exact Nat.le_refl _
  · subst e
    obtain ⟨k, hk, rfl⟩ := get_map hd
    have hi : i < n := by
      have := (List.getElem?_eq_some_iff.mp hk).1
      rwa [List.length_range] at this
    have hki : k = i := by
      rw [List.getElem?_range hi] at hk
      exact (Option.some.inj hk).symm
    subst hki
    refine ⟨(· = true), fun x => ∃ y, x = enc y ∧ R k y, fun _ l x a ex => ?_, (fun hp => by cases hp), fun F' e v hv => ⟨et_yes, fun _ => he k hi F' e v hv⟩⟩
    obtain ⟨ys, rfl, e, hP⟩ := a
    obtain ⟨y, rfl, py⟩ := ex
    refine ⟨ys ++ [y], by simp, by simp [e], fun k2 h2 => ?_⟩
    by_cases z : k2 < ys.length
    · rw [List.getElem_append_left z]; exact hP k2 z
    · have : k2 = ys.length := by rw [List.length_append] at h2; simp at h2; omega
      subst this
      rw [List.getElem_append_right (Nat.le_refl _)]
      simp [e]; exact py
  · obtain ⟨ds', l, e1, e2, ys, rfl, e4, e5⟩ := hx
    subst e2
    exact ⟨ys, e1, by rw [e4]; simp, e5⟩
end
end Fv

/-! sorted of a tuple of whole numbers -/
namespace Fv
open PySem PySem.Spec PyProof.Rows L2 Evl StX
section
variable {prog : Program} {w : World} {A : Around} {E : Value → Shared → Prop} {s : Shared}
theorem gather_tup {t : Addr} {us : List Value} {Q : List Value → Shared → Prop} (ht : s.heap.IsTuple t us.toArray) (few : us.length ≤ sizeLine)
    (q : Q us { s with heap := (s.heap.push (seqObj "list" #[] 0)).update s.heap.objs.size (Obj.mapSeq (· ++ us.toArray)) }) : wpAny (model prog w) A (collect (.ref t)) Q E s := by
  obtain ⟨o, at_, cl, n, da⟩ := id ht
  have new : (s.heap.push (seqObj "list" #[] 0)).get? s.heap.objs.size = some (seqObj "list" #[] 0) := Heap.get?_push_size _ rfl
  have old : (s.heap.push (seqObj "list" #[] 0)).get? t = some o := Heap.get?_push_of_some _ at_
  have more : ∀ (A' : Around) (E' : Value → Shared → Prop), wpAny (model prog w) A' (Builtin.List.listExtendWith (.ref s.heap.objs.size) (.ref t) (.ref s.heap.objs.size)) (fun f s' => f = Fin.done (.ret (.ref s.heap.objs.size)) ∧ s' = { s with heap := (s.heap.push (seqObj "list" #[] 0)).update s.heap.objs.size (Obj.mapSeq (· ++ us.toArray)) }) E' { s with heap := s.heap.push (seqObj "list" #[] 0) } := by
    intro A' E'
    unfold Builtin.List.listExtendWith
    refine wpAny_bind (wpAny_typeOf (T := "tuple") ⟨o, old, cl⟩ ?_)
    rw [if_pos (by rw [show (Value.type "tuple" == Value.type "tuple") = true from rfl]; simp)]
    refine wpAny_bind (listItems_at old da (wpAny_bind (listItems_at new rfl ?_)))
    rw [if_neg (by simp)]
    refine wpAny_bind (listUpdate_at new rfl (wpAny_pure ⟨rfl, rfl⟩) (Nat.zero_le _) ?_)
    simp only [Array.size_append, List.size_toArray, List.length_nil]
    omega
  unfold collect
  refine wpAny_bind (wpAny_runValue (codeAny_builtin entry_proto_collect' ?_))
  show wpAny _ _ (newList [] >>= fun l => again (.builtin "list.__iadd__" ⟨[l, .ref t], []⟩)) _ _ s
  refine wpAny_bind (wpAny_newList (wpAny_pure ⟨Code.quiet_builtin _ (by decide +kernel), codeAny_builtin entry_list_iadd' ?_⟩))
  show wpAny _ _ (Builtin.List.listExtendWith (.ref s.heap.objs.size) (.ref t) (.ref s.heap.objs.size)) _ _ _
  refine wpAny_mono (more _ _) (fun f s' hf => ?_) fun _ _ x => x
  obtain ⟨hf1, hf2⟩ := hf
  subst hf1; subst hf2
  show wpAny (model prog w) A (load s.heap.objs.size >>= fun o => match o.data with
    | .seq xs _ => pure xs.toList
    | _ => unsupported "internal:collect") Q E _
  refine wpAny_bind (wpAny_load (get?_update_seq new _) ?_)
  have e : ((#[] : Array Value) ++ us.toArray).toList = us := by simp
  show wpAny _ _ (pure ((#[] : Array Value) ++ us.toArray).toList) Q E _
  rw [e]
  exact wpAny_pure q
theorem sorted_tupI {t : Addr} {us : List Value} {ns : List Int} {Q : Value → Shared → Prop} (ht : s.heap.IsTuple t us.toArray) (hI : IntsAre us ns) (few : us.length < 64)
    (q : ∀ (out : Array Value) (ms : List Int), IntsAre out.toList ms → ms.Perm ns → ms.Pairwise (· ≤ ·) → Q (.ref (s.heap.objs.size + 1)) { s with heap := sortedAll s.heap us out }) : wpAny (model prog w) A (call (.builtin "sorted") [.ref t]) Q E s := by
  have sz : us.length ≤ sizeLine := Nat.le_trans (Nat.le_of_lt few) (by decide)
  have n1 : ((s.heap.push (seqObj "list" #[] 0)).update s.heap.objs.size (Obj.mapSeq (· ++ us.toArray))).objs.size = s.heap.objs.size + 1 := by rw [Heap.size_update, size_push']
  have a1 : (((s.heap.push (seqObj "list" #[] 0)).update s.heap.objs.size (Obj.mapSeq (· ++ us.toArray))).push (seqObj "list" us.toArray 0)).get? (s.heap.objs.size + 1) = some (seqObj "list" us.toArray 0) := n1 ▸ Heap.get?_push_size _ rfl
  refine Calls.call_function_entry kind_sorted plain_sorted entry_sorted (args_sorted1 _) ?_
  unfold Builtin.«sorted»
  refine wpAny_bind (m := checkCount "sorted" 1 1 _) (wpAny_pure (wpAny_bind (gather_tup ht sz (wpAny_bind (wpAny_newList ?_ sz)))))
  rw [show ({ s with heap := (s.heap.push (seqObj "list" #[] 0)).update s.heap.objs.size (Obj.mapSeq (· ++ us.toArray)) } : Shared).heap.objs.size = s.heap.objs.size + 1 from n1]
  exact wpAny_bind (wpAny_holding (wpAny_call_entry slot_list_sort ⟨_, a1, rfl⟩ entry_list_sort (list_sort_tree a1 hI few fun out ms b1 b2 b3 => ⟨_, rfl, wpAny_pure ⟨_, rfl, q out ms b1 b2 b3⟩⟩) (args_list_sort _)))
end
def rSortedTI (K : PySem.W.Frag) : List V → Hp → VK → Prop := fun vs H Q => ∃ (a : Addr) (ns : List Int), vs = [.ref a] ∧ SqT K H a (ns.map V.int) ∧ ns.length < 64 ∧
  ∀ (ms : List Int) (p : Addr), ms.Perm ns → ms.Pairwise (· ≤ ·) → H p = none → Q (.ref p) (upd H p (.lst (ms.map V.int)))
theorem c_sortTI {X : Cx} {K : PySem.W.Frag} (h : X.K = K := by rfl) : CallR X (.builtin "sorted") (rSortedTI K) := by
  subst h
  intro pins s σ H vs us Q I r hq
  obtain ⟨a, ns, rfl, hs, few, q⟩ := hq
  obtain ⟨its, rv, tu, _⟩ := I.tuple hs
  rw [Vals.ref1 r]
  refine sorted_tupI tu rv.ints (by rw [← rv.length, List.length_map]; exact few) fun out ms k1 k2 k3 => ?_
  obtain ⟨ep, he⟩ := PyProof.Rows.sortedAll_at s.heap its out
  have hlen : (ms.map V.int).length ≤ sizeLine := by
    rw [List.length_map, k2.length_eq]
    exact Nat.le_trans (Nat.le_of_lt few) (by decide)
  exact ⟨.ref (s.heap.objs.size + 1), upd H (s.heap.objs.size + 1) (.lst (ms.map V.int)), I.laid (t' := s.toks) (fun _ _ => PyProof.Rows.sortedAll_old) (Nat.le_succ _) ⟨hlen, out.toList, ep, vals_of_ints k1, he⟩, rfl, q ms _ k2 k3 (I.hok.fresh (Nat.le_succ _))⟩
section
variable {K : PySem.W.Frag} {pt : Option Pt} {σ : L2.St} {F F' F0 H0 H : Hp} {te ta tb : TE} {ts tr : TA}
theorem g_sortTI {ns : List Int} (h : EvG K pt te σ F (Is (dT ns))) (few : ns.length < 64) : EvG K pt (tCB (rSortedTI K) (tCons te tNil)) σ F (fun d => ∃ ms : List Int, d = dI ms ∧ ms.Perm ns ∧ ms.Pairwise (· ≤ ·)) := fun H1 i g Q q => h H1 i g _ fun d v F2 H2 hd s hv => by
  subst hd
  obtain ⟨a, xs, rfl, hl, ha⟩ := rp_tup hv
  have e1 := rpAll_ints ha
  subst e1
  refine ⟨a, ns, rfl, tx s.inn hl, few, fun ms p k1 k2 hp => ?_⟩
  have s3 : Step pt F2 H2 (upd F2 p (.lst (ms.map V.int))) (upd H2 p (.lst (ms.map V.int))) := .laid s.inn s.good hp
  exact q (dI ms) _ _ _ ⟨ms, rfl, k1, k2⟩ (s.trans s3) (.lst upd_same (rpAll_of_ints ms))
end
end Fv

/-! == by a class's own __eq__; loops over what is known only here; picks out of a list whose items have something in common -/
namespace L2
open PySem PySem.Spec PyProof.Rows Evl
section
variable {X : Cx} {k : Nat} {CX : CXT} {C f : Addr} {fd : FuncData} {ps : List Str} {sp : Sp} {E : XK}
/-- o == p, two instances: the class's own word is asked -/
def rEqI (C : Addr) (sp : Sp) (E : XK) : R2 := fun x y H Q => ∃ a b dx dy fs gs, x = .ref a ∧ y = .ref b ∧ H a = some (.ins C dx fs) ∧ H b = some (.ins C dy gs) ∧ sp [.ref a, .ref b] H (fun v H' => ∃ c : Bool, v = .bl c ∧ Q (.bl c) H') E
theorem op_eqI (F : FnOk X.prog X.w X.K X.mg X.base CX k f fd ps sp) (hr : Room k X.A) (hb : Binds X.K fd ps []) (hx : Passes CX X E) (hs : PySem.W.findIn X.K (.ref C) "__eq__" = some (some (.ref f))) (hf : PySem.W.isFn X.K (.ref f) = true) :
    OpR X (compareOp .Eq) (rEqI C sp E) := by
  intro pins s σ H x y v u Q I rx ry hq
  obtain ⟨a, b, dx, dy, fs, gs, rfl, rfl, ha, hb', h⟩ := hq
  cases rx
  cases ry
  obtain ⟨mA, J, _⟩ := ins_get I.hok ha
  obtain ⟨mB, J', _⟩ := ins_get I.hok hb'
  obtain ⟨od, J, _⟩ := J.look
  obtain ⟨od', J', _⟩ := J'.look
  obtain ⟨m, hF⟩ := I.fr
  show wpAny (model X.prog X.w) X.A (richCompare .Eq (.ref a) (.ref b)) (EP X pins σ Q) X.xe s
  refine PySem.W.cmp_K (op := .Eq) (tb := .ref C) hr.units0 hF I.ok.mod.kin J J'.type (by simp [PySem.W.notFirst]) hs hf ?_
  have e0 := I.env0
  have hl := F.len _ _ _ _ h
  have r2 : Vals [V.ref a, V.ref b] [Value.ref a, Value.ref b] := .cons rfl (.cons rfl .nil)
  refine wpAny_call (codeAny_mono (F.run X.A X.stack s H ⟨[.ref a, .ref b], []⟩ [.ref a, .ref b] [.ref a, .ref b] _ E hr e0 (by
    have := hb s [.ref a, .ref b] I.kIn (by simpa using hl)
    simpa using this) r2 h) fun r s' hq => ?_)
  cases r with
  | error e => exact hx pins σ H s e s' I hq
  | ok fl =>
    cases fl with
    | ret w =>
      obtain ⟨z, H', I', rz, c, rfl, q⟩ := I.after hq
      cases rz
      exact ⟨.bl c, H', I', rfl, q⟩
    | next => exact False.elim hq
    | brk => exact False.elim hq
    | cont => exact False.elim hq
end
end L2
namespace Fv
open PySem PySem.Spec PyProof.Rows L2 Evl StX
section
variable {K : PySem.W.Frag} {pt : Option Pt} {σ : L2.St} {F F' F0 H0 H : Hp} {te ti ta tb : TE} {ts tr : TA} {R : PD} {D : Ends} {tz tu : TS} {wi : TI} {l : Addr}
/-- what is walked, seen just here -/
def WiAt (K : PySem.W.Frag) (pt : Option Pt) (wi : TI) (σ : L2.St) (F H : Hp) (R : List PyData → Prop) : Prop := ∀ RR : It → Hp → Prop, (∀ ds J F2 H2, R ds → Step pt F H F2 H2 → Yields K J F2 ds → RR J H2) → wi σ H RR
theorem w_lenOwn {i : Nat} {acc : List V} (h0 : σ[i]? = some (some (.ref l))) (hl : H l = some (.lst acc)) (e : Ex F H) (g : Good pt F H) (hz : acc.length ≤ 100000) : WiAt K pt (iRng1 (tCons (tCB (rLen K) (tCons (tVar i) tNil)) tNil)) σ F H (· = (List.range acc.length).map natD) := fun RR q => by
  refine ⟨_, h0, l, acc, rfl, .inl (SqL.of hl), (acc.length : Int), rfl, by omega, by omega, ?_⟩
  refine q _ _ F H rfl (.refl e g) ?_
  have := y_rng (K := K) 0 acc.length F
  rw [rng_nat] at this
  rw [show ((acc.length : Int)).toNat = acc.length by omega]
  exact this
theorem t_forHA {j : Nat} {RS : List PyData → Prop} (i0 : Ex F H) (g : Good pt F H) (hw : WiAt K pt wi σ F H RS) (I : List PyData → Nat → L2.St → Hp → Hp → Prop) (h0 : ∀ ds, RS ds → ∀ F1 H1, Step pt F H F1 H1 → I ds 0 σ F1 H1) (hI : ∀ ds i σ' F' H', I ds i σ' F' H' → Ex F' H')
    (hs : ∀ ds, RS ds → ∀ i d, ds[i]? = some d → ∀ σ' F' H' x, I ds i σ' F' H' → Ex F F' → Rp K F' x d →
      ∀ N : L2.St → Hp → Prop, (∀ σ2 F2 H2, I ds (i + 1) σ2 F2 H2 → Ex F' F2 → N σ2 H2) → tu { D with nx := N, ct := N, bk := tz D } (σ'.set j (some x)) H')
    (hd : ∀ ds, RS ds → ∀ σ' F' H', I ds ds.length σ' F' H' → Ex F F' → tz D σ' H') : tSeq (tFor wi (gName j) tu) tz D σ H :=
  hw _ fun ds' J F1 H1 e s1 Y => by
    refine ⟨fun i m σ' H' => m = ds'.length - i ∧ i ≤ ds'.length ∧ ∃ F', I ds' i σ' F' H' ∧ Ex F1 F', ⟨ds'.length, by simp, Nat.zero_le _, F1, h0 ds' e F1 H1 s1, Ex.refl _⟩, ?_⟩
    rintro i m σ' H' ⟨rfl, hil, F', p, e'⟩
    have eH : Ex F1 H' := e'.trans (hI ds' i σ' F' H' p)
    by_cases hlt : i < ds'.length
    · refine .inr ⟨Y.go i H' eH hlt, fun σ2 H2 => ∃ F2, I ds' (i + 1) σ2 F2 H2 ∧ Ex F1 F2, fun σ2 H2 ⟨F2, a, b⟩ => ⟨ds'.length - (i + 1), by omega, rfl, hlt, F2, a, b⟩, fun x H2 y => ?_⟩
      obtain ⟨rfl, d, hdd, hx⟩ := Y.yld i H' x H2 eH hlt y
      exact hs ds' e i d hdd σ' F' _ x p (s1.sub.trans e') (Rp.mono e' _ _ hx) _ fun σ2 F2 H2 a b => ⟨F2, a, e'.trans b⟩
    · have hE : i = ds'.length := Nat.le_antisymm hil (Nat.le_of_not_lt hlt)
      subst hE
      exact .inl ⟨Y.stop H' eH, hd ds' e σ' F' H' p (s1.sub.trans e')⟩
/-- xs[0:k], k drawn -/
theorem g_slU0R {src : PyData} {ds : List PyData} {N : Int} (hs : src = .list ds ∨ src = .tuple ds) (h : EvG K pt te σ F (Is src)) (hi : EvG K pt ti σ F (fun d => ∃ k : Int, d = .int k ∧ 0 ≤ k ∧ k < N)) : EvG K pt (tSl (rSlU K) te (tPart (tC (.int 0))) (tPart ti)) σ F (fun d => ∃ k : Nat, d = like src (ds.take k)) := fun H1 e g Q q =>
  h H1 e g _ fun d v F2 H2 hd s hv => ⟨0, rfl, hi.mono s.sub H2 s.inn s.good _ fun e u F3 H3 he s2 hu => by
    subst hd
    obtain ⟨k, rfl, k0, _⟩ := he
    obtain ⟨i, rfl⟩ : ∃ i : Nat, k = (i : Int) := ⟨k.toNat, by omega⟩
    exact ⟨(i : Int), rp_int hu, slU_run (H := H2) hs (fun n => by rw [show (some (0 : Int)) = some ((0 : Nat) : Int) from rfl, HT.sIx_nat]; exact Nat.min_eq_left (Nat.zero_le _)) (s.trans s2) (Rp.mono s2.sub _ _ hv) fun z v F4 H4 hz s4 hv4 => q z v F4 H4 ⟨i, hz⟩ s4 hv4⟩⟩
/-- rows of which each has R -/
abbrev AllR (R : PD) (c : Nat) : List PyData → Prop := fun ds => ds.length = c ∧ ∀ d ∈ ds, R d
theorem gs_consA {c : Nat} (ha : EvG K pt ta σ F R) (hb : EvsG K pt tr σ F (AllR R c)) : EvsG K pt (tCons ta tr) σ F (AllR R (c + 1)) := fun H1 i g Q q => gs_cons ha hb H1 i g Q fun ds vs F2 H2 ⟨d, ds', e, h1, h2, h3⟩ s hv => q ds vs F2 H2 (by
  rw [e]
  refine ⟨by simp [h2], fun x hx => ?_⟩
  rcases List.mem_cons.mp hx with z | z
  · rw [z]; exact h1
  · exact h3 x z) s hv
theorem gs_nilA : EvsG K pt tNil σ F (AllR R 0) := fun H1 i g Q q => gs_nil (K := K) H1 i g Q fun ds vs F2 H2 hd s hv => q ds vs F2 H2 ⟨by rw [hd]; rfl, fun x hx => by rw [hd] at hx; cases hx⟩ s hv
theorem g_pickA {c : Nat} {u : Int} (h : EvsG K pt ts σ F (AllR R c)) (hc : c ≤ 100) (hb : EvG K pt tb σ F (Is (.int u))) (h0 : 0 ≤ u) (h1 : u < (c : Int)) : EvG K pt (tOp (rIxL K) (tLst ts) tb) σ F R := g_op (g_lst h fun ds hd => by rw [hd.1]; omega) hb fun d e ⟨ds, hd, hl, hm⟩ he => by
  subst hd; subst he
  obtain ⟨k, rfl⟩ : ∃ k : Nat, u = (k : Int) := ⟨u.toNat, by omega⟩
  have hk : k < ds.length := by omega
  intro F H x y i hx hy Q q
  exact rv_ixL (atI_nat (List.getElem?_eq_getElem hk)) F H x y i hx hy Q fun z v F2 H2 hz s hv => q z v F2 H2 (by rw [show z = _ from hz]; exact hm _ (List.getElem_mem hk)) s hv
theorem flat_one {α : Type} (d : α) : ∀ k : Nat, (List.replicate k [d]).flatten = List.replicate k d
  | 0 => rfl
  | k + 1 => by rw [List.replicate_succ, List.flatten_cons, flat_one d k, List.replicate_succ]; rfl
/-- t * k -/
theorem o_repTG {X : Cx} (h : X.K = K := by rfl) : OpR X (binaryOp .Mult) (rRepT K) := h ▸ op_repT
theorem g_repTG {d : PyData} {k : Nat} (ha : EvG K pt ta σ F (Is (.tuple [d]))) (hb : EvG K pt tb σ F (Is (.int (k : Int)))) (h2 : 2 ≤ k) (h5 : k ≤ 1000) : EvG K pt (tOp (rRepT K) ta tb) σ F (Is (.tuple (List.replicate k d))) := g_opI ha hb fun F H x y e hx hy Q q => by
  obtain ⟨a, ys, rfl, hl, hv⟩ := rp_tup hx
  obtain rfl := rp_int hy
  have hly := hv.length
  have hrep := rpAll_rep k hv
  have e1 := flat_one d k
  rw [e1] at hrep
  refine ⟨a, k, ys, rfl, rfl, tx e hl, (fun z => by rw [z] at hly; cases hly), by omega, by omega, by rw [hly]; simp, fun p hp => ?_⟩
  rw [show ((k : Int)).toNat = k by omega]
  have s : Step none F H (upd F p (.tup (List.replicate k ys).flatten)) (upd H p (.tup (List.replicate k ys).flatten)) := .laid e .nil hp
  exact q _ _ _ _ rfl s (.tup upd_same (RpAll.mono s.sub _ _ hrep))
end
end Fv

/-! dicts whose keys are data: made by a comprehension, written down with one entry, sorted, get with another value -/
namespace Fv
open PySem PySem.Spec PyProof.Rows L2 Evl StX
/-- the store of one entry, the key a tuple that stands -/
theorem putNs {Y : Cx} {pins : List (Addr × Obj)} {τ : L2.St} {G : Hp} {s : Shared} {E : Value → Shared → Prop} {D b : Addr} {xs : List NEnt} {k : NK} {v : V} {u r : Value} {Q : Unit → Shared → Prop}
    (hu : Y.A.units + 65 < cLine) (I : Inv Y pins τ G s) (nd : ND Y.prog Y.w Y.K G D xs) (ko : KeyOk Y.K G k b) (hz : xs.length < sizeLine) (ru : RelV (.ref b) u) (rr : RelV v r)
    (fin : ∀ s' o, DNo Y.prog Y.w o (putN xs k b v) → Inv Y pins τ (upd G D (rawO D o)) s' → Q () s') : wpAny (model Y.prog Y.w) Y.A (dictSet D u r) Q E s := by
  cases (show u = Value.ref b from ru)
  obtain ⟨ys, hp, hm, hl⟩ := nd.dict I
  refine wpAny_dictSet_heap (hsz := hl) (show (nestedKind Y.prog Y.w).room Y.A by show Y.A.units + 8 < cLine; omega) (ko.is I) hm fun h' hm' hs => ?_
  obtain ⟨o, h1, h2⟩ := dno_of (hp.put k b rr) (by have := putN_len xs k b v; omega) hm'
  obtain ⟨o0, e0, _⟩ := nd.ex
  exact fin _ o h2 (d_write I (by rw [e0]; exact True.intro) hs ⟨o, h1⟩ (raw_ok h1))
/-- {k: v for target in iter if ..}: D is the new dict, each key data -/
def tDcN (P : Program) (w : World) (K : PySem.W.Frag) (wi : TI) (g : TG) (tt : TT) (tk tv : TE) (vs : List Nat) : TE := fun σ H Q => wi σ H fun J H1 => ∀ D o, H1 D = none → (D == sysModules) = false → DNo P w o [] →
  ∃ W : Nat → Nat → Hp → Prop, (∃ m, W 0 m (upd H1 D (rawO D o))) ∧ ∀ i m H, W i m H →
    (J.stop i H ∧ Q (.ref D) H) ∨
    (J.go i H ∧ ∃ Nx : Hp → Prop, (∀ H', Nx H' → ∃ m', m' < m ∧ W (i + 1) m' H') ∧
      ∀ x H', J.yld i H x H' → g x (wipe σ vs) H' fun σ2 H2 => wipe σ2 vs = wipe σ vs ∧ tt σ2 H2 fun b H3 =>
        if b = true then tk σ2 H3 fun y H4 => tv σ2 H4 fun z H5 => ∃ xs k b, y = .ref b ∧ ND P w K H5 D xs ∧ KeyOk K H5 k b ∧ xs.length < sizeLine ∧ ∀ o', DNo P w o' (putN xs k b z) → Nx (upd H5 D (rawO D o'))
        else Nx H3)
section
variable {X : Cx} {P : Program} {w : World} {K : PySem.W.Frag} {kx vx tg iter : Expr} {ifs : List Expr} {scope : Scope} {own : List (Str × Nat)} {pos : Pos} {wi : TI} {g : TG} {tt : TT} {tk tv : TE}
theorem pe_dcN (hc : X.calm = true) (hu : X.A.units + 65 < cLine) (hN : X.N.Nodup) (hi : PI X tg iter wi) (ok : BlkOk X.N X.env.scope scope own)
    (hg : Blk X scope fun Y => PG Y tg g) (ht : Blk X scope fun Y => PTs Y ifs tt) (hk : Blk X scope fun Y => PE Y kx tk) (hv : Blk X scope fun Y => PE Y vx tv) (hs : ∀ x, foldedSetIterable iter X.env x = pure x := by intro _; rfl) (hp : X.prog = P := by rfl) (hw : X.w = w := by rfl) (hKK : X.K = K := by rfl) :
    PE X (.DictComp kx vx [⟨tg, iter, ifs, 0⟩] scope pos) (tDcN P w K wi g tt tk tv (own.map (·.2))) := by
  subst hp; subst hw; subst hKK
  refine ⟨fun pins s σ H Q I q => ?_⟩
  rw [arm_eval_DictComp]
  have clo : ∀ n ∈ scope.names, n.2 = .free → ∃ c, X.env.cells.lookup n.1 = some c := fun n hn e => (ok.free n hn e).elim (fun z => I.ok.has _ (.inl z)) fun z => I.ok.has _ (.inr z)
  refine wpAny_comprehension_free (use := none) rfl hs (closure_ok clo) ok.kind (fun n hn e => by rw [ok.uniq n hn, e]) (thn (hi.run pins s σ H _ I q) fun xv sa ha => thn ha fun itv sb hb => ?_)
  obtain ⟨it, fp, tn, J, Hb, rfl, Ib, T, tb, fb, qb⟩ := hb
  refine wpAny_newObj_type (newEnv_comp ?_)
  -- the dict D, then the block's frame C
  generalize eD : sb.heap.objs.size = D
  have freeD : Hb D = none := Ib.hok.fresh (Nat.le_of_eq eD)
  have low : (D == sysModules) = false := by rw [← eD]; exact beq_eq_false_iff_ne.mpr (Ne.symm (Nat.ne_of_lt Ib.big))
  obtain ⟨o0, q1, q2⟩ := dno_of (P := X.prog) (w := X.w) (xs := []) (ys := []) .nil (Nat.zero_le _) (Heap.DictOfH.new (knd := nestedKind X.prog X.w) sb.heap)
  obtain ⟨W, ⟨m0, w0⟩, turn⟩ := qb D o0 freeD low q2
  generalize ec : ({ sb with heap := sb.heap.push { cls := .type "dict", data := .dict #[] } } : Shared) = sc
  have push : sc.heap = sb.heap.push { cls := .type "dict", data := .dict #[] } := by rw [← ec]
  have Ic : Inv X pins σ (upd Hb D (rawO D o0)) sc := by
    subst eD; subst ec
    exact Ib.laid (t' := sb.toks) (fun _ _ e => Heap.get?_push_of_some _ e) (Nat.le_refl _) (raw_ok q1)
  have fc : ∀ b ∈ fp, FpOk X pins (upd Hb D (rawO D o0)) b ∧ b < sc.heap.objs.size := fun b hb => by
    obtain ⟨o, e, _⟩ := T.obj _ _ tb b hb
    have lt := Heap.lt_size e
    have ne : b ≠ D := fun z => by rw [z, ← eD] at lt; exact Nat.lt_irrefl _ lt
    exact ⟨⟨by rw [upd_ne ne]; exact (fb b hb).1, (fb b hb).2⟩, by rw [push, Heap.size_push]; exact Nat.lt_succ_of_lt lt⟩
  have tc : tn 0 sc.heap := T.keep _ _ _ tb fun _ _ _ e => by rw [push]; exact Heap.get?_push_of_some _ e
  have Id := block_start Ic ok hN fc
  have none3 : ∀ b ∈ fp, upd Hb D (rawO D o0) b = none := fun b hb => (fc b hb).1.1
  have bg := hg sc (upd Hb D (rawO D o0)) sc.heap.objs.size (cellsFrom (sc.heap.objs.size + 1) scope.names (cloFrom X.env.cells scope.names [])) fp
  have bt := ht sc (upd Hb D (rawO D o0)) sc.heap.objs.size (cellsFrom (sc.heap.objs.size + 1) scope.names (cloFrom X.env.cells scope.names [])) fp
  have bk := hk sc (upd Hb D (rawO D o0)) sc.heap.objs.size (cellsFrom (sc.heap.objs.size + 1) scope.names (cloFrom X.env.cells scope.names [])) fp
  have bv := hv sc (upd Hb D (rawO D o0)) sc.heap.objs.size (cellsFrom (sc.heap.objs.size + 1) scope.names (cloFrom X.env.cells scope.names [])) fp
  show codeAny _ _ (.compStart (.DictComp kx vx [⟨tg, iter, ifs, 0⟩] scope pos) 0 (.ref it) (.ref D) (compEnvC scope (cellsFrom (sc.heap.objs.size + 1) scope.names (cloFrom X.env.cells scope.names [])) sc.heap.objs.size X.env))
    (compPost (model X.prog X.w) X.A X.xe none (EP X pins σ Q) (.ref D) sc.heap.objs.size) { sc with heap := pushCells (sc.heap.push { cls := .type "dict", data := .dict #[] }) scope.names }
  have td : tn 0 (pushCells (sc.heap.push { cls := .type "dict", data := .dict #[] }) scope.names) := T.keep _ _ _ tc fun _ _ _ e => pushCells_keeps _ _ _ _ (Heap.get?_push_of_some _ e)
  generalize eY : compEnvC scope (cellsFrom (sc.heap.objs.size + 1) scope.names (cloFrom X.env.cells scope.names [])) sc.heap.objs.size X.env = env1 at Id bg bt bk bv ⊢
  have locY : env1.locals = sc.heap.objs.size := by rw [← eY]; rfl
  generalize eH : upd Hb D (rawO D o0) = Hc at Ic Id bg bt bk bv w0 none3 fc
  generalize es0 : ({ sc with heap := pushCells (sc.heap.push { cls := .type "dict", data := .dict #[] }) scope.names } : Shared) = sd at Id ⊢
  have td' : tn 0 sd.heap := by rw [← es0]; exact td
  generalize eZ : X.blk sc Hc scope env1 fp = Y at Id bg bt bk bv
  have YA : Y.A = X.A := by rw [← eZ]
  have own1 : ∀ {τ : L2.St} {G : Hp} {s' : Shared}, Inv Y [] τ G s' → (∀ b ∈ fp, G b = none) → ∀ b ∈ fp, FpOk Y [] G b := fun {τ G s'} J1 hn b hb => by
    subst eZ
    exact ⟨hn b hb, (J1.ok.exf b hb).1, J1.ok.exfs b hb, .inl hb, fun x c e => (J1.ok.exf b hb).2 x c e, fun p hp => by simp at hp⟩
  have main : codeAny (model X.prog X.w) X.A (.compLoop (.DictComp kx vx [⟨tg, iter, ifs, 0⟩] scope pos) 0 (.ref it) (.ref D) env1) (compPost (model X.prog X.w) X.A X.xe none (EP X pins σ Q) (.ref D) sc.heap.objs.size) sd := by
    refine compLoop_anyD (fun n s' => ∃ i G, Inv Y [] (wipe σ (own.map (·.2))) G s' ∧ tn i s'.heap ∧ (∀ b ∈ fp, G b = none) ∧ W i n G) ?_ m0 ⟨0, Hc, Id, td', none3, w0⟩
    rintro n s1 ⟨i, G, J1, t1, n1, w1⟩
    rcases turn i n G w1 with ⟨stp, qq⟩ | ⟨go, Nx, hNx, step⟩
    · -- the end: back in the def's own frame
      have z := T.done Y (by subst eZ; rfl) (by subst eZ; rfl) (by subst eZ; rfl) (by subst eZ; exact hc) i [] s1 _ G (fun _ _ => False) J1 (own1 J1 n1) t1 stp
      rw [YA] at z
      refine thnF z fun r s2 ⟨er, J2⟩ => ?_
      subst er; subst eZ
      have nC : G sc.heap.objs.size = none := by
        have z : G env1.locals = none := J2.free
        rw [locY] at z; exact z
      obtain ⟨m, hm, _⟩ := J2.loc
      have hm : s2.heap.Ns env1.locals m := hm
      rw [locY] at hm
      have back : Inv X pins σ G s2 := Ic.call' (ch := fp) J2.os J2.base J2.hok J2.bare fun b hb => let y := (fc b hb).1.2; ⟨y.2.2.1, y.1, y.2.2.2.1, y.2.2.2.2⟩
      obtain ⟨f0, f1, f2, f3, f4, f5⟩ := Ic.fpOk (Nat.le_refl _) nC
      exact ⟨m, hm, fun h3 sb3 => ⟨.ref D, G, back.turned (t' := s2.toks) (fun b o hb e => (sb3.2 b hb).trans e) f0 f1 f3 f4 f5, rfl, qq⟩⟩
    · have z := T.item Y (by subst eZ; rfl) (by subst eZ; rfl) (by subst eZ; rfl) (by subst eZ; exact hc) i [] s1 _ G (fun _ _ => False) J1 (own1 J1 n1) t1 go
      rw [YA] at z
      refine thnF z fun r s2 ⟨u, er, h2⟩ => ?_
      subst er
      refine thnF h2 fun _ s3 ⟨x, G3, J3, r3, y3, t3, n3⟩ => ?_
      have J3' := J3.pinned (own1 J3 n3) (T.obj _ _ t3)
      have zg := bg.run _ s3 _ G3 x u _ J3' r3 (step x G3 y3)
      subst eZ
      refine thnF zg fun _ s4 ⟨τ, G4, J4, hw4, q4⟩ => ?_
      refine thnF (bt.run _ s4 τ G4 _ J4 q4) fun b s5 ⟨G5, J5, q5⟩ => ?_
      have len : (wipe σ (own.map (·.2))).length = τ.length := by rw [← hw4, wipe_length]
      have close : ∀ {s' : Shared} {G' : Hp}, Inv (X.blk sc Hc scope env1 fp) ([] ++ pinsAt fp s3.heap) τ G' s' → Nx G' → ∃ m, m < n ∧ ∃ i G, Inv (X.blk sc Hc scope env1 fp) [] (wipe σ (own.map (·.2))) G s' ∧ tn i s'.heap ∧ (∀ b ∈ fp, G b = none) ∧ W i m G := fun {s' G'} J' nx => by
        obtain ⟨m', lt, w'⟩ := hNx G' nx
        have held : ∀ b ∈ fp, ∀ o, s3.heap.get? b = some o → s'.heap.get? b = some o ∧ G' b = none := fun b hb o e =>
          have y := J'.pin (b, o) (List.mem_append_right _ (List.mem_append_right _ (mem_pinsAt hb e)))
          ⟨y.1, y.2.1⟩
        refine ⟨m', lt, i + 1, G', (J'.unpinned (pins := [])).weak len (fun j v e => (wipe_some (hw4 ▸ e)).1), T.keep _ _ _ t3 fun b hb o e => (held b hb o e).1, fun b hb => ?_, w'⟩
        obtain ⟨o, e, _⟩ := T.obj _ _ t3 b hb
        exact (held b hb o e).2
      cases b with
      | false => exact close J5 (by simpa using q5)
      | true =>
        have q5' := q5
        simp only [if_true] at q5'
        refine thnF (bk.run _ s5 τ G5 _ J5 q5') fun kv s6 ⟨yk, G6, J6, r6, q6⟩ => ?_
        refine thnF (bv.run _ s6 τ G6 _ J6 q6) fun vv s7 ⟨yv, G7, J7, r7, xs, k, b, ek, nd, ko, hz, nx⟩ => ?_
        subst ek
        exact putNs (Y := X.blk sc Hc scope env1 fp) hu J7 nd ko hz r6 r7 fun s8 o' ho' J8 => close J8 (nx o' ho')
  exact codeAny_compStart_dict main (T.self X.A 0 _ _ _ td' main)
/-- {k: v} -/
def tDPairN (P : Program) (w : World) (K : PySem.W.Frag) (tk tv : TE) : TE := fun σ H Q => ∀ D o, H D = none → (D == sysModules) = false → DNo P w o [] →
  tk σ (upd H D (rawO D o)) fun y H1 => tv σ H1 fun z H2 => ∃ k b, y = .ref b ∧ ND P w K H2 D [] ∧ KeyOk K H2 k b ∧ ∀ o', DNo P w o' (putN [] k b z) → Q (.ref D) (upd H2 D (rawO D o'))
theorem pe_dpairN (hu : X.A.units + 65 < cLine) (hk : PE X kx tk) (hv : PE X vx tv) (hp : X.prog = P := by rfl) (hw : X.w = w := by rfl) (hKK : X.K = K := by rfl) :
    PE X (.Dict [some kx] [vx] pos) (tDPairN P w K tk tv) := by
  subst hp; subst hw; subst hKK
  refine ⟨fun pins s σ H Q I h => ?_⟩
  have low : (s.heap.objs.size == sysModules) = false := beq_eq_false_iff_ne.mpr (Ne.symm (Nat.ne_of_lt I.big))
  obtain ⟨o, h1, h2⟩ := dno_of (P := X.prog) (w := X.w) (xs := []) (ys := []) .nil (Nat.zero_le _) (Heap.DictOfH.new (knd := nestedKind X.prog X.w) s.heap)
  have I1 : Inv X pins σ (upd H s.heap.objs.size (rawO s.heap.objs.size o)) { s with heap := s.heap.push { cls := .type "dict", data := .dict #[] } } := I.laid (a := s.heap.objs.size) (o := rawO s.heap.objs.size o) (t' := s.toks) (fun _ _ q => Heap.get?_push_of_some _ q) (Nat.le_refl _) (raw_ok h1)
  have q := h _ o (I.hok.fresh (Nat.le_refl _)) low h2
  have shape : (evalEachOpt [some kx] X.env).zip ((evalEach [vx] X.env).map fun v => (do let x ← v; standAt pos; pure x : Sem Value)) = [(eval kx X.env, (do let x ← eval vx X.env; standAt pos; pure x : Sem Value))].map fun p => (some p.1, p.2) := rfl
  rw [arm_eval_Dict]
  refine wpAny_bind (wpAny_standAt ?_)
  rw [shape, dictDisplay_pairs _ (by simp) (by simp)]
  refine wpAny_bind ?_
  unfold subDict
  refine wpAny_bind (wpAny_alloc ?_)
  refine wpAny_bind (wpAny_holding ?_)
  rw [if_pos (by simp)]
  refine wpAny_bind (evalPairs_cons (thn (hk.run pins _ σ _ _ I1 q) fun kv s2 ⟨y, H2, I2, r2, q2⟩ => wpAny_bind (thn (hv.run pins s2 σ H2 _ I2 q2) fun vv s3 ⟨z, H3, I3, r3, k, b, ey, nd, ko, fin⟩ => wpAny_bind (wpAny_standAt (wpAny_pure (evalPairs_nil ?_))))))
  subst ey
  refine wpAny_holding ?_
  rw [List.forIn_cons]
  refine wpAny_bind (wpAny_bind ?_)
  show wpAny (model X.prog X.w) X.A (dictSet s.heap.objs.size kv vv >>= fun _ => pure (ForInStep.yield PUnit.unit)) _ _ _
  refine wpAny_bind (putNs (Q := fun _ s' => wpAny (model X.prog X.w) X.A (pure (ForInStep.yield PUnit.unit)) _ _ s') hu I3 nd ko (Nat.lt_of_lt_of_le (Nat.zero_lt_succ 0) (by decide)) r2 r3 fun s4 o' ho' I4 => wpAny_pure ?_)
  show wpAny _ _ (forIn [] PUnit.unit _) _ _ _
  rw [List.forIn_nil]
  exact wpAny_pure (wpAny_pure (wpAny_pure (wpAny_pure ⟨.ref s.heap.objs.size, _, I4, rfl, fin o' ho'⟩)))
/-- d.get(k, x) -/
def rGet2N (P : Program) (w : World) (K : PySem.W.Frag) : V → List V → Hp → VK → Prop := fun x vs H Q => ∃ a xs k b z, x = .ref a ∧ vs = [.ref b, z] ∧ ND P w K H a xs ∧ KeyOk K H k b ∧ Q (match atN xs k with | some p => p.2 | none => z) H
theorem mt_get2N (hu : X.A.units + 65 < cLine) (hp : X.prog = P := by rfl) (hw : X.w = w := by rfl) (hKK : X.K = K := by rfl) : MtR X "dict.get" (rGet2N P w K) := by
  subst hp; subst hw; subst hKK
  intro pins s σ H x vs v us Q I r rv h
  obtain ⟨a, xs, k, b, z, rfl, rfl, nd, ko, q⟩ := h
  obtain rfl : v = Value.ref a := r
  obtain ⟨u1, r1, rfl, ru, rz⟩ : ∃ u1 r1, us = [u1, r1] ∧ RelV (.ref b) u1 ∧ RelV z r1 := by
    cases rv with
    | cons r1 r2 => cases r2 with
      | cons r3 r4 => cases r4; exact ⟨_, _, rfl, r1, r3⟩
  obtain rfl : u1 = Value.ref b := ru
  obtain ⟨ys, hp, hm, hl⟩ := nd.dict I
  refine getOr_keyed (roomN hu) (ko.is I) nd.low ⟨ys, hm, rfl⟩ ?_
  rw [valueAt_pairsH]
  cases e : atN xs k with
  | none => rw [hp.none_ e]; rw [e] at q; exact ⟨z, H, I.tok _, rz, q⟩
  | some p' =>
    obtain ⟨p2, e1, e2, e3⟩ := hp.some_ e
    rw [e1]; rw [e] at q
    exact ⟨p'.2, H, I.tok _, e3, q⟩
end
end Fv

/-! dicts whose keys are data: what they hold, told as data; sorted; a comprehension over triples -/
namespace Fv
open PySem PySem.Spec PyProof.Rows L2 Evl StX
/-- the entries, told as data -/
abbrev NV (K : PySem.W.Frag) (F : Hp) : List NEnt → List (PyData × PyData) → Prop := Paired fun x p => x.1 = nk p.1 ∧ Rp K F (.ref x.2.1) p.1 ∧ Rp K F x.2.2 p.2
section
variable {P : Program} {w : World} {K : PySem.W.Frag} {F F' : Hp} {xs : List NEnt} {ps : List (PyData × PyData)}
theorem NV.mono (e : Ex F F') (h : NV K F xs ps) : NV K F' xs ps := Paired.mapP h fun _ _ z => ⟨z.1, Rp.mono e _ _ z.2.1, Rp.mono e _ _ z.2.2⟩
theorem NV.len (h : NV K F xs ps) : xs.length = ps.length := Paired.length h
theorem NV.keys (h : NV K F xs ps) : RpAll K F (xs.map fun x => V.ref x.2.1) (ps.map (·.1)) := by
  induction h with
  | nil => exact .nil
  | cons a _ ih => exact .cons a.2.1 ih
theorem NV.none_ {k : PyData} (h : NV K F xs ps) (hk : kb k = true) (hb : ∀ p ∈ ps, kb p.1 = true) (hn : k ∉ ps.map (·.1)) : atN xs (nk k) = none := by
  unfold atN
  rw [Option.map_eq_none_iff]
  induction h with
  | nil => rfl
  | @cons x p xs ps a _ ih =>
    have ne : ¬ x.1 = nk k := fun z => by
      rw [a.1] at z
      have := nk_inj (hb p (by simp)) hk z
      exact hn (by rw [← this]; simp)
    rw [List.find?_cons_of_neg (by simpa using ne)]
    exact ih (fun q hq => hb q (List.mem_cons_of_mem _ hq)) fun z => hn (List.mem_cons_of_mem _ z)
theorem NV.get (h : NV K F xs ps) (hb : ∀ p ∈ ps, kb p.1 = true) : (ps.map (·.1)).Nodup → ∀ {k d : PyData}, (k, d) ∈ ps → ∃ p, atN xs (nk k) = some p ∧ Rp K F p.2 d := by
  induction h with
  | nil => intro _ _ _ hm; cases hm
  | @cons x p xs ps a _ ih =>
    intro nd k d hm
    rw [List.map_cons, List.nodup_cons] at nd
    rcases List.mem_cons.mp hm with e | m
    · subst e
      refine ⟨x.2, ?_, a.2.2⟩
      unfold atN
      rw [List.find?_cons_of_pos (by simpa using a.1)]; rfl
    · obtain ⟨q, h1, h2⟩ := ih (fun q hq => hb q (List.mem_cons_of_mem _ hq)) nd.2 m
      refine ⟨q, ?_, h2⟩
      have ne : ¬ x.1 = nk k := fun z => by
        rw [a.1] at z
        have := nk_inj (hb p (by simp)) (hb (k, d) (List.mem_cons_of_mem _ m)) z
        exact nd.1 (by rw [this]; exact List.mem_map.mpr ⟨_, m, rfl⟩)
      unfold atN
      rw [List.find?_cons_of_neg (by simpa using ne)]
      exact h1
theorem NV.put {k d : PyData} {b : Addr} {v : V} (h : NV K F xs ps) (hk : kb k = true) (hb : ∀ p ∈ ps, kb p.1 = true) (hn : k ∉ ps.map (·.1)) (h1 : Rp K F (.ref b) k) (h2 : Rp K F v d) : NV K F (putN xs (nk k) b v) (ps ++ [(k, d)]) := by
  unfold putN
  rw [h.none_ hk hb hn]
  exact Paired.snoc h ⟨rfl, h1, h2⟩
end
theorem rpAll3' {K : PySem.W.Frag} {F : Hp} {xs : List V} {a b c : PyData} (h : RpAll K F xs [a, b, c]) : ∃ x y z, xs = [x, y, z] ∧ Rp K F x a ∧ Rp K F y b ∧ Rp K F z c := by
  cases h with
  | cons h1 h2 => cases h2 with
    | cons h2 h3 => cases h3 with
      | cons h3 h4 => cases h4; exact ⟨_, _, _, rfl, h1, h2, h3⟩
/-- sorted(d) -/
def rSortN (P : Program) (w : World) (K : PySem.W.Frag) : List V → Hp → VK → Prop := fun vs H Q => ∃ (d : Addr) (xs : List NEnt) (ps : List (V × PyData)), vs = [.ref d] ∧ ND P w K H d xs ∧ ps.map (·.1) = (xs.map fun x => V.ref x.2.1) ∧ (∀ b ∈ ps, Rp K H b.1 b.2) ∧ CanSort (ps.map (·.2)) ∧
  ∀ (qs : List (V × PyData)) p, qs.Perm ps → qs.map (·.2) = sortD (ps.map (·.2)) → H p = none → Q (.ref p) (upd H p (.lst (qs.map (·.1))))
theorem c_sortN {X : Cx} {P : Program} {w : World} {K : PySem.W.Frag} (hc : X.calm = true) (hu : X.A.units + 65 < cLine) (h : X.K = K := by rfl) (hp : X.prog = P := by rfl) (hw : X.w = w := by rfl) : CallR X (.builtin "sorted") (rSortN P w K) := by
  subst h; subst hp; subst hw
  intro pins s σ H xs us Q I r q
  obtain ⟨d, ks, ps, rfl, nd, e1, e3, cs, q⟩ := q
  rw [Vals.ref1 r]
  obtain ⟨o, hd, dn⟩ := nd.ex
  have ho : s.heap.get? d = some o := (show ObjOk X.prog X.w H s.heap d (rawO d o) from I.hok d _ hd).1
  obtain ⟨es, ep, hdt, hsz, ent⟩ := dn.entries
  have hz : ks.length ≤ sizeLine := dn.2.2.1
  refine PySem.W.kdz_sorted (kdl_raw nd.low dn.1 hdt) (I.ok.hd hc) ho (by omega) fun h' tk vs kp hl hv E' => ?_
  have ev : vs = ks.map fun x => Value.ref x.2.1 := by
    refine List.ext_getElem? fun j => ?_
    rw [List.getElem?_map]
    cases hb : ks[j]? with
    | none => rw [List.getElem?_eq_none_iff.mpr (by rw [hl, hsz]; exact List.getElem?_eq_none_iff.mp hb)]; rfl
    | some b =>
      obtain ⟨en, h1, h2⟩ := ent j b hb
      have hjv : j < vs.length := by have := (List.getElem?_eq_some_iff.mp hb).1; omega
      obtain ⟨en2, h3, h4⟩ := hv j vs[j] (List.getElem?_eq_getElem hjv)
      rw [h1] at h3
      cases h3
      rw [List.getElem?_eq_getElem hjv, h4, h2]; rfl
  have rv : Vals (ps.map (·.1)) vs := by
    rw [e1, ev]
    have g : ∀ l : List NEnt, Vals (l.map fun x => V.ref x.2.1) (l.map fun x => Value.ref x.2.1) := fun l => by
      induction l with
      | nil => exact .nil
      | cons a r ih => exact .cons rfl ih
    exact g ks
  have ea : PySem.W.EachIs (fun u (b : V × PyData) => RelV b.1 u) vs ps := each_of_vals rv
  have I1 : Inv X pins σ H { s with heap := h', toks := tk } := I.kept (t' := tk) kp
  have rd : ∀ u (b : V × PyData), b ∈ ps → RelV b.1 u → ∃ as, Reads h' u b.2 as := fun u b hb ru => Dp.reads I1 b.2 b.1 u (Rp.dp _ _ (e3 b hb)) ru
  let h1 : Heap := h'.push (seqObj "list" vs.toArray 0)
  have hat : h1.get? h'.objs.size = some (seqObj "list" vs.toArray 0) := Heap.get?_push_size _ rfl
  let hS : Heap := PySem.W.sortingHeap h1 h'.objs.size vs
  have kS : ∀ b o, h'.get? b = some o → hS.get? b = some o := fun b o e => PySem.W.sortingHeap_old (Nat.ne_of_lt (Heap.lt_size e)) (Heap.get?_push_of_some _ e)
  have er0 : PySem.W.EachIs (fun u (b : V × PyData) => ∃ as, Reads hS u b.2 as) vs ps := (PySem.W.each_mem ea).mono fun u b ⟨ru, hb⟩ => by
    obtain ⟨as, x⟩ := rd u b hb ru
    exact ⟨as, PyProof.Rows.Reads.keeps (fun _ _ => kS _ _) x⟩
  have er1 : PySem.W.EachIs (fun u d => ∃ as, Reads hS u d as) vs (ps.map fun b => b.2) := PySem.W.each_map (R := fun u d => ∃ as, Reads hS u d as) (fun b : V × PyData => b.2) er0
  have al : PySem.W.AllAlike (ps.map fun b => b.2) := cs.al
  have S : PySem.W.SortsAt X.prog X.w X.A.in1.in1 { s with heap := hS, toks := tk } (PySem.W.dataKind hS (ps.map fun b => b.2)) vs := by
    refine PySem.W.SortsAt.data (s := { s with heap := hS, toks := tk }) er1 al cs.so fun d hd => ?_
    have := cs.dp d hd
    show X.A.units + 1 + 1 + _ < _
    omega
  have out := PySem.W.sortVals_data (h' := hS) (enc := fun b : V × PyData => b.2) false ea er0 al
  refine PySem.W.list_sort_vals (s := { s with heap := h1, toks := tk }) hat S (by omega) ?_
  generalize PySem.W.sortVals (PySem.W.dataKind hS (ps.map fun b => b.2)) false vs vs = ou at out
  generalize eq : ps.mergeSort (PySem.W.dataLe false fun b : V × PyData => b.2) = qs at out
  have pq : qs.Perm ps := eq ▸ List.mergeSort_perm _ _
  have snd : qs.map (·.2) = sortD (ps.map (·.2)) := by
    rw [← eq]
    exact PySem.W.sort_maps (s := PySem.W.dataLe false id) (fun x : V × PyData => x.2) fun _ _ _ _ => rfl
  have vo : Vals (qs.map (·.1)) ou := vals_of_each out
  obtain ⟨c, hc2⟩ := PyProof.Rows.sortedHeap_at (h := h1) (a := h'.objs.size) (vs := vs) (out := ou.toArray) hat
  have fr : H h'.objs.size = none := I1.hok.fresh (Nat.le_refl _)
  have len : (qs.map (·.1)).length ≤ sizeLine := by
    rw [List.length_map, pq.length_eq, ← List.length_map (f := (·.1)), e1, List.length_map]; exact hz
  refine ⟨rfl, .ref h'.objs.size, upd H h'.objs.size (.lst (qs.map (·.1))), I1.laid (t' := tk) (fun b u e => ?_) (Nat.le_refl _) ⟨len, ou, c, vo, hc2⟩, rfl, q qs _ pq snd fr⟩
  have hl' := Heap.lt_size e
  exact (PyProof.Rows.sortedHeap_old (Nat.ne_of_lt hl') (by rw [size_push']; exact Nat.lt_succ_of_lt hl')).trans (Heap.get?_push_of_some _ e)
section
variable {P : Program} {w : World} {K : PySem.W.Frag} {pt : Option Pt} {σ : L2.St} {F F' F0 H0 H F2 H2 : Hp} {l : Addr} {xs : List NEnt} {te tv td ty : TE} {ts : TA} {t : TT} {wi : TI} {D : Ends} {tz : TS} {ps : List (PyData × PyData)}
/-- sorted(d), d at slot i -/
theorem g_sortN {i : Nat} {ds : List PyData} (h0 : σ[i]? = some (some (.ref l))) (nd : ND P w K F l xs) (hk : RpAll K F (xs.map fun x => V.ref x.2.1) ds) (cs : CanSort ds) : EvG K pt (tCB (rSortN P w K) (tCons (tVar i) tNil)) σ F (Is (.list (sortD ds))) := fun H1 e g Q q => by
  obtain ⟨e1, e2, e3⟩ := rp_pairs hk
  refine ⟨_, h0, l, xs, _, rfl, nd.mono e, e1, fun b hb => Rp.mono e _ _ (e3 b hb), by rw [e2]; exact cs, fun qs p pq es hp => ?_⟩
  have s3 : Step pt F H1 (upd F p (.lst (qs.map (·.1)))) (upd H1 p (.lst (qs.map (·.1)))) := .laid e g hp
  refine q _ _ _ _ rfl s3 (.lst upd_same ?_)
  rw [e2] at es
  rw [← es]
  exact pairs_rp fun r hr => Rp.mono s3.sub _ _ (e3 r (pq.mem_iff.mp hr))
/-- d[k], k data -/
theorem g_dgetN {i : Nat} {k z : PyData} {p : Addr × V} (h0 : σ[i]? = some (some (.ref l))) (nd : ND P w K F l xs) (h : EvG K pt ty σ F (Is k)) (hk : ∀ b F', Rp K F' b k → ∃ a, b = .ref a) (hb : kb k = true) (hd : (nk k).depth ≤ 8) (hp : atN xs (nk k) = some p) (hz : Rp K F p.2 z) : EvG K pt (tOp (rIxN P w K) (tVar i) ty) σ F (Is z) := fun H1 e g Q q =>
  ⟨_, h0, h H1 e g _ fun d v F2 H2 hd' s hv => by
    rw [show d = k from hd'] at hv
    obtain ⟨b, rfl⟩ := hk v F2 hv
    exact ⟨l, xs, nk k, b, p, rfl, rfl, (nd.mono s.sub).mono s.inn, KeyOk.mono s.inn ⟨k, hv, hb, rfl, hd⟩, hp, q z _ F2 H2 rfl s (Rp.mono s.sub _ _ hz)⟩⟩
/-- a tuple is an object -/
theorem tup_ref {ds : List PyData} {b : V} {F' : Hp} (h : Rp K F' b (.tuple ds)) : ∃ a, b = .ref a := by
  obtain ⟨a, _, e, _⟩ := rp_tup h
  exact ⟨a, e⟩
/-- d[k] = e, k a tuple -/
theorem t_putNd {i : Nat} {ks : List PyData} {R : PD} (g0 : Good pt F0 H0) (h0 : H0 l = none) (g : Nst P w K pt F0 H0 l F H xs) (hi : σ[i]? = some (some (.ref l))) (hz : xs.length < 50000) (hb : kb (.tuple ks) = true) (hdp : (nk (.tuple ks)).depth ≤ 8) (he : EvG K pt te σ F R) (hk : ∀ F', Ex F F' → EvG K pt ty σ F' (Is (.tuple ks)))
    (q : ∀ d v b F2 H2, R d → Nst P w K pt F0 H0 l F2 H2 (putN xs (nk (.tuple ks)) b v) → Ex F F2 → Rp K F2 v d → Rp K F2 (.ref b) (.tuple ks) → D.nx σ H2) : tAsg te (gSub (tVar i) ty (rSetN P w K)) D σ H :=
  he H g.step.inn g.step.good _ fun d v F2 H2 hd s hv => ⟨_, hi, hk F2 s.sub H2 s.inn s.good _ fun d2 v2 F3 H3 hd2 s2 hv2 => by
    subst hd2
    obtain ⟨b, ys, rfl, hl, ha⟩ := rp_tup hv2
    have g2 := (g.run g0 h0 s).run g0 h0 s2
    have ko : KeyOk K F3 (nk (.tuple ks)) b := ⟨_, hv2, hb, rfl, hdp⟩
    refine ⟨l, xs, _, b, rfl, rfl, g2.nd, ko.mono s2.inn, Nat.lt_of_lt_of_le hz (by decide), fun o ho => ?_⟩
    refine q d v b F3 _ hd ⟨g2.step.put g0 h0 g2.off, g2.off, g2.low, ⟨o, upd_same, ho⟩, fun x hx => ?_⟩ (s.sub.trans s2.sub) (Rp.mono s2.sub _ _ hv) hv2
    unfold putN at hx
    split at hx
    · obtain ⟨y, hy, rfl⟩ := List.mem_map.mp hx
      have := g2.keys y hy
      unfold putAtN
      split
      · exact this
      · exact this
    · rcases List.mem_append.mp hx with m | m
      · exact g2.keys x m
      · rw [List.mem_singleton.mp m]; exact ko⟩
/-- {k: v}: the one entry -/
theorem x_dpair {ks : List PyData} {z : PyData} (hb : kb (.tuple ks) = true) (hdp : (nk (.tuple ks)).depth ≤ 8) (hk : EvG K pt te σ F (Is (.tuple ks))) (hv : ∀ F', Ex F F' → EvG K pt tv σ F' (Is z)) :
    EvX pt (tDPairN P w K te tv) σ F (fun v F2 => ∃ D xs, v = .ref D ∧ ND P w K F2 D xs ∧ NV K F2 xs [(.tuple ks, z)]) := fun H1 e g Q q => fun Dd o hD low hn => by
  have fD : F Dd = none := by
    cases w : F Dd with
    | none => rfl
    | some o => rw [e _ _ w] at hD; cases hD
  have n0 : Nst P w K pt F H1 Dd F (upd H1 Dd (rawO Dd o)) [] := ⟨.litter e g hD, fD, low, ⟨o, upd_same, hn⟩, fun x hx => by cases hx⟩
  refine hk _ n0.step.inn n0.step.good _ fun d y F2 H2 hd s hy => ?_
  subst hd
  have n1 := n0.run g hD s
  refine hv F2 s.sub H2 s.inn s.good _ fun d2 y2 F3 H3 hd2 s2 hy2 => ?_
  subst hd2
  have n2 := n1.run g hD s2
  obtain ⟨b, ys, rfl, hl, ha⟩ := rp_tup hy
  have ko : KeyOk K F3 (nk (.tuple ks)) b := ⟨_, Rp.mono s2.sub _ _ hy, hb, rfl, hdp⟩
  refine ⟨nk (.tuple ks), b, rfl, n2.nd, ko.mono s2.inn, fun o' ho' => ?_⟩
  have n3 : Nst P w K pt F H1 Dd F3 (upd H3 Dd (rawO Dd o')) (putN [] (nk (.tuple ks)) b y2) := ⟨n2.step.put g hD n2.off, n2.off, n2.low, ⟨o', upd_same, ho'⟩, fun x hx => by
    have : x = (nk (.tuple ks), b, y2) := by simpa [putN, atN] using hx
    rw [this]; exact ko⟩
  obtain ⟨F4, s4, e4, nd4⟩ := n3.done g hD
  exact q _ F4 _ ⟨Dd, _, rfl, nd4, NV.put (ps := []) .nil hb (fun p hp => by cases hp) (by simp) (Rp.mono (s2.sub.trans e4) _ _ hy) (Rp.mono e4 _ _ hy2)⟩ s4
/-- {k: v for a, b, c in ..}: the keys tuples, no two alike -/
theorem x_dcN3 {α : Type} {j1 j2 j3 : Nat} {vs : List Nat} (c1 c2 c3 : α → PyData) (ys : List α) (kd : α → List PyData) (vd : α → PyData) (hkb : ∀ y ∈ ys, kb (.tuple (kd y)) = true ∧ (nk (.tuple (kd y))).depth ≤ 8) (nd : (ys.map kd).Nodup)
    (hw : WiG K pt wi σ F (· = ys.map fun y => .tuple [c1 y, c2 y, c3 y])) (hz : ys.length ≤ 20000) (hwp : ∀ x1 x2 x3, wipe ((((wipe σ vs).set j1 (some x1)).set j2 (some x2)).set j3 (some x3)) vs = wipe σ vs)
    (hk : ∀ y ∈ ys, ∀ F', Ex F F' → ∀ x1 x2 x3, Rp K F' x1 (c1 y) → Rp K F' x2 (c2 y) → Rp K F' x3 (c3 y) → EvG K pt te ((((wipe σ vs).set j1 (some x1)).set j2 (some x2)).set j3 (some x3)) F' (Is (.tuple (kd y))))
    (hv : ∀ y ∈ ys, ∀ F', Ex F F' → ∀ x1 x2 x3, Rp K F' x1 (c1 y) → Rp K F' x2 (c2 y) → Rp K F' x3 (c3 y) → EvG K pt tv ((((wipe σ vs).set j1 (some x1)).set j2 (some x2)).set j3 (some x3)) F' (Is (vd y))) :
    EvX pt (tDcN P w K wi (gTup K 3 (gCons (gName j1) (gCons (gName j2) (gCons (gName j3) gNil)))) tYes te tv vs) σ F (fun v F2 => ∃ D xs, v = .ref D ∧ ND P w K F2 D xs ∧ NV K F2 xs (ys.map fun y => (.tuple (kd y), vd y))) := fun H0 i0 g0 Q q =>
  hw H0 i0 g0 _ fun ds J F1 H1 hds s1 Y => fun Dd o hD low hn => by
    subst hds
    have gi := s1.inn
    have gg := s1.good
    have f1 : F1 Dd = none := by
      cases w : F1 Dd with
      | none => rfl
      | some o => rw [gi _ _ w] at hD; cases hD
    have hlen : (ys.map fun y => PyData.tuple [c1 y, c2 y, c3 y]).length = ys.length := by simp
    refine ⟨fun i m H => m = ys.length - i ∧ i ≤ ys.length ∧ ∃ F' xs, Nst P w K pt F1 H1 Dd F' H xs ∧ NV K F' xs ((ys.take i).map fun y => (.tuple (kd y), vd y)), ⟨ys.length, by simp, Nat.zero_le _, F1, [], ⟨.litter gi gg hD, f1, low, ⟨o, upd_same, hn⟩, fun x hx => by cases hx⟩, .nil⟩, ?_⟩
    rintro i m H ⟨rfl, hi, F', xs, n1, dv⟩
    have eH : Ex F1 H := n1.step.sub.trans n1.step.inn
    by_cases hlt : i < ys.length
    · refine .inr ⟨Y.go i H eH (by rw [hlen]; exact hlt), fun H => ∃ F' xs, Nst P w K pt F1 H1 Dd F' H xs ∧ NV K F' xs ((ys.take (i + 1)).map fun y => (.tuple (kd y), vd y)), fun H' p' => ⟨ys.length - (i + 1), by omega, rfl, hlt, p'⟩, fun v H' y => ?_⟩
      obtain ⟨rfl, d, hd, hx⟩ := Y.yld i H v H' eH (by rw [hlen]; exact hlt) y
      obtain ⟨y0, hy0, rfl⟩ := get_map hd
      have hm : y0 ∈ ys := List.mem_of_getElem? hy0
      obtain ⟨a, zs, rfl, hl, ha⟩ := rp_tup (Rp.mono n1.step.sub _ _ hx)
      obtain ⟨x1, x2, x3, rfl, h1, h2, h3⟩ := rpAll3' ha
      refine ⟨a, _, rfl, SqT.of (n1.step.inn _ _ hl), rfl, x1, _, rfl, x2, _, rfl, x3, _, rfl, rfl, hwp x1 x2 x3, yes_of (ite_t ?_)⟩
      refine hk y0 hm F' (s1.sub.trans n1.step.sub) x1 x2 x3 h1 h2 h3 _ n1.step.inn n1.step.good _ fun d2 v2 F2 H2 hd2 s2 hv2 => ?_
      subst hd2
      have n2 := n1.run gg hD s2
      refine hv y0 hm F2 ((s1.sub.trans n1.step.sub).trans s2.sub) x1 x2 x3 (Rp.mono s2.sub _ _ h1) (Rp.mono s2.sub _ _ h2) (Rp.mono s2.sub _ _ h3) _ s2.inn s2.good _ fun d3 v3 F3 H3 hd3 s3 hv3 => ?_
      subst hd3
      have n3 := n2.run gg hD s3
      obtain ⟨b, zs2, rfl, hl2, ha2⟩ := rp_tup hv2
      obtain ⟨kb1, kb2⟩ := hkb y0 hm
      have ko : KeyOk K F3 (nk (.tuple (kd y0))) b := ⟨_, Rp.mono s3.sub _ _ hv2, kb1, rfl, kb2⟩
      have dv3 := dv.mono (s2.sub.trans s3.sub)
      have hxl : xs.length = i := by rw [dv.len, List.length_map, List.length_take]; omega
      refine ⟨xs, nk (.tuple (kd y0)), b, rfl, n3.nd, ko.mono s3.inn, by rw [hxl]; exact Nat.lt_of_le_of_lt (by omega) (show 20000 < sizeLine by decide), fun o' ho' => ⟨F3, _, ⟨n3.step.put gg hD n3.off, n3.off, n3.low, ⟨o', upd_same, ho'⟩, fun x hx => ?_⟩, ?_⟩⟩
      · unfold putN at hx
        split at hx
        · obtain ⟨z, hz, rfl⟩ := List.mem_map.mp hx
          have := n3.keys z hz
          unfold putAtN
          split
          · exact this
          · exact this
        · rcases List.mem_append.mp hx with m | m
          · exact n3.keys x m
          · rw [List.mem_singleton.mp m]; exact ko
      · rw [take_succA hy0, List.map_append]
        refine dv3.put kb1 (fun p hp => ?_) ?_ (Rp.mono s3.sub _ _ hv2) hv3
        · obtain ⟨z, hz, rfl⟩ := List.mem_map.mp hp
          exact (hkb z (List.mem_of_mem_take hz)).1
        · intro hc
          rw [List.map_map] at hc
          obtain ⟨z, hz, e⟩ := List.mem_map.mp hc
          have e' : kd z = kd y0 := by injection e
          have hi' : i < ys.length := hlt
          obtain ⟨j, hj, hjz⟩ := List.mem_iff_getElem.mp hz
          rw [List.length_take] at hj
          rw [List.getElem_take] at hjz
          have e0 : ys[i] = y0 := (List.getElem?_eq_some_iff.mp hy0).2
          have := (List.getElem_inj (h₀ := by rw [List.length_map]; omega) (h₁ := by rw [List.length_map]; omega) nd (i := j) (j := i)).mp (by rw [List.getElem_map, List.getElem_map, hjz, e0]; exact e')
          omega
    · have hE : i = ys.length := Nat.le_antisymm hi (Nat.le_of_not_lt hlt)
      subst hE
      rw [List.take_length] at dv
      obtain ⟨F4, s4, e4, nd4⟩ := n1.done gg hD
      exact .inl ⟨by have := Y.stop H eH; rw [hlen] at this; exact this, q _ F4 H ⟨Dd, xs, rfl, nd4, dv.mono e4⟩ (s1.trans s4)⟩
end
end Fv

/-! rows of things that are no data: lists made by a comprehension, tuples of them, what is read of them -/
namespace Fv
open PySem PySem.Spec PyProof.Rows L2 Evl StX
section
variable {P : Program} {w : World} {K : PySem.W.Frag} {pt : Option Pt} {σ : L2.St} {F F' F0 H0 H F2 H2 : Hp} {te ti ta tv : TE} {ts : TA} {t : TT} {wi : TI} {D : Ends} {tz : TS} {l C : Addr}
/-- the tuple at v holds things of which Φ speaks -/
def TupX {α : Type} (Φ : α → V → Hp → Prop) (F : Hp) (v : V) (ys : List α) : Prop := ∃ a xs, v = .ref a ∧ F a = some (.tup xs) ∧ Paired (fun x y => Φ y x F) xs ys
theorem TupX.mono {α : Type} {Φ : α → V → Hp → Prop} {v : V} {ys : List α} (hm : ∀ y v F F', Ex F F' → Φ y v F → Φ y v F') (e : Ex F F') (h : TupX Φ F v ys) : TupX Φ F' v ys := by
  obtain ⟨a, xs, rfl, h1, h2⟩ := h
  exact ⟨a, xs, rfl, e _ _ h1, Paired.mapP h2 fun _ _ z => hm _ _ _ _ e z⟩
theorem x_lcX {α : Type} {j : Nat} {vs : List Nat} (enc : α → PyData) (ys : List α) (Φ : α → V → Hp → Prop) (hm : ∀ y v F F', Ex F F' → Φ y v F → Φ y v F') (hw : WiG K pt wi σ F (· = ys.map enc)) (hz : ys.length ≤ 20000) (hwp : ∀ x, wipe ((wipe σ vs).set j (some x)) vs = wipe σ vs)
    (he : ∀ y ∈ ys, ∀ F', Ex F F' → ∀ v, Rp K F' v (enc y) → EvX pt te ((wipe σ vs).set j (some v)) F' (Φ y)) :
    EvX pt (tLc wi (gName j) tYes te vs) σ F (fun v F2 => ∃ a xs, v = .ref a ∧ F2 a = some (.lst xs) ∧ Paired (fun x y => Φ y x F2) xs ys) := fun H0 i0 g0 Q q =>
  hw H0 i0 g0 _ fun ds J F1 H1 hds s1 Y => fun Dd hD => by
    subst hds
    have gi := s1.inn
    have gg := s1.good
    have f1 : F1 Dd = none := by
      cases w : F1 Dd with
      | none => rfl
      | some o => rw [gi _ _ w] at hD; cases hD
    have hlen : (ys.map enc).length = ys.length := by simp
    have off : ∀ q, pt = some q → Dd ≠ q.p := fun q hq => (off_pot gg hD q hq).1
    refine ⟨fun i m H => m = ys.length - i ∧ i ≤ ys.length ∧ ∃ F' xs, Step pt F1 H1 F' H ∧ F' Dd = none ∧ H Dd = some (.lst xs) ∧ Paired (fun x y => Φ y x F') xs (ys.take i), ⟨ys.length, by simp, Nat.zero_le _, F1, [], .litter gi gg hD, f1, upd_same, .nil⟩, ?_⟩
    rintro i m H ⟨rfl, hi, F', xs, s, f, e, pr⟩
    have eH : Ex F1 H := s.sub.trans s.inn
    by_cases hlt : i < ys.length
    · refine .inr ⟨Y.go i H eH (by rw [hlen]; exact hlt), fun H => ∃ F' xs, Step pt F1 H1 F' H ∧ F' Dd = none ∧ H Dd = some (.lst xs) ∧ Paired (fun x y => Φ y x F') xs (ys.take (i + 1)), fun H' p' => ⟨ys.length - (i + 1), by omega, rfl, hlt, p'⟩, fun v H' y => ?_⟩
      obtain ⟨rfl, d, hd, hx⟩ := Y.yld i H v H' eH (by rw [hlen]; exact hlt) y
      obtain ⟨y0, hy0, rfl⟩ := get_map hd
      have hm0 : y0 ∈ ys := List.mem_of_getElem? hy0
      refine ⟨hwp v, yes_of (ite_t ?_)⟩
      refine he y0 hm0 F' (s1.sub.trans s.sub) v (Rp.mono s.sub _ _ hx) _ s.inn s.good _ fun u F2 H2 hu s2 => ?_
      obtain ⟨f2, e2⟩ := s2.beside gg hD f e
      have hl : xs.length = i := by have := Paired.length pr; rw [List.length_take] at this; omega
      refine ⟨xs, e2, by rw [hl]; exact Nat.lt_of_le_of_lt (by omega) (show 20000 < sizeLine by decide), F2, xs ++ [u], (s.trans s2).put gg hD f2, f2, upd_same, ?_⟩
      rw [take_succA hy0]
      exact Paired.snoc (Paired.mapP pr fun _ _ z => hm _ _ _ _ s2.sub z) hu
    · have hE : i = ys.length := Nat.le_antisymm hi (Nat.le_of_not_lt hlt)
      subst hE
      rw [List.take_length] at pr
      have ef : Ex F' (upd F' Dd (.lst xs)) := Ex.new f
      exact .inl ⟨by have := Y.stop H eH; rw [hlen] at this; exact this, q _ (upd F' Dd (.lst xs)) H ⟨Dd, xs, rfl, upd_same, Paired.mapP pr fun _ _ z => hm _ _ _ _ ef z⟩ (s1.trans (s.freeze gg hD f e))⟩
/-- tuple(a list of such things) -/
theorem x_tupX {α : Type} {Φ : α → V → Hp → Prop} {ys : List α} (hm : ∀ y v F F', Ex F F' → Φ y v F → Φ y v F') (h : EvX pt te σ F (fun v F2 => ∃ a xs, v = .ref a ∧ F2 a = some (.lst xs) ∧ Paired (fun x y => Φ y x F2) xs ys)) :
    EvX pt (tCB (rTup K) (tCons te tNil)) σ F (fun v F2 => TupX Φ F2 v ys) := fun H1 e g Q q => h H1 e g _ fun v F2 H2 ⟨a, xs, ev, h1, h2⟩ s => by
  subst ev
  refine ⟨a, xs, rfl, .inl ⟨SqL.of (s.inn _ _ h1), fun p hp => ?_⟩⟩
  have s3 : Step pt F2 H2 (upd F2 p (.tup xs)) (upd H2 p (.tup xs)) := .laid s.inn s.good hp
  exact q _ _ _ ⟨p, xs, rfl, upd_same, Paired.mapP h2 fun _ _ z => hm _ _ _ _ s3.sub z⟩ (s.trans s3)
/-- tuple(a tuple) is the same -/
theorem x_tupSame {i : Nat} {a : Addr} {xs : List V} (h0 : σ[i]? = some (some (.ref a))) (hl : F a = some (.tup xs)) : EvX pt (tCB (rTup K) (tCons (tVar i) tNil)) σ F (fun v _ => v = .ref a) := fun H1 e g Q q =>
  ⟨_, h0, a, xs, rfl, .inr ⟨SqT.of (e _ _ hl), q _ F H1 rfl (.refl e g)⟩⟩
theorem x_var {i : Nat} {v : V} (h0 : σ[i]? = some (some v)) : EvX pt (tVar i) σ F (fun u _ => u = v) := fun H1 e g Q q => ⟨_, h0, q _ F H1 rfl (.refl e g)⟩
/-- t[k] -/
theorem x_ixT {i : Nat} {a : Addr} {xs : List V} {k : Nat} {x : V} (h0 : σ[i]? = some (some (.ref a))) (hl : F a = some (.tup xs)) (hk : xs[k]? = some x) (h : EvG K pt ti σ F (Is (.int (k : Int)))) : EvX pt (tOp (rIxT K) (tVar i) ti) σ F (fun v _ => v = x) := fun H1 e g Q q =>
  ⟨_, h0, h H1 e g _ fun d v F2 H2 hd s hv => by
    subst hd
    exact ⟨a, xs, _, x, rfl, rp_int hv, SqT.of (s.inn _ _ (s.sub _ _ hl)), by rw [atI_nat hk], q _ F2 H2 rfl s⟩⟩
/-- len(t) -/
theorem g_lenX {i : Nat} {a : Addr} {xs : List V} (h0 : σ[i]? = some (some (.ref a))) (hl : F a = some (.tup xs)) : EvG K pt (tCB (rLen K) (tCons (tVar i) tNil)) σ F (Is (.int (xs.length : Int))) := fun H1 e g Q q =>
  ⟨_, h0, a, xs, rfl, .inr (SqT.of (e _ _ hl)), q _ _ F H1 rfl (.refl e g) (.int _)⟩
/-- e.f, e an instance -/
theorem g_fldX {Φ : V → Hp → Prop} {f : Str} {d : PyData} (h : EvX pt te σ F Φ) (cl : Cls K C) (na : NoAttr K C f) (hx : ∀ v F2, Ex F F2 → Φ v F2 → ∃ x dx fs u, v = .ref x ∧ F2 x = some (.ins C dx fs) ∧ fs.lookup f = some u ∧ Rp K F2 u d) : EvG K pt (tFld K te f) σ F (Is d) := fun H1 e g Q q =>
  h H1 e g _ fun v F2 H2 hv s => by
    obtain ⟨x, dx, fs, u, rfl, h1, h2, h3⟩ := hx v F2 s.sub hv
    exact ⟨x, C, dx, fs, u, rfl, s.inn _ _ h1, cl, na, h2, q d u F2 H2 rfl s h3⟩
/-- e.m(..), e an instance -/
theorem g_methX {m : Str} {sp : Sp} {E : XK} {ds : List PyData} {z : PyData} {x dx : Addr} {fs : List (Str × V)} (hv : EvX pt te σ F (fun v _ => v = .ref x)) (ho : F x = some (.ins C dx fs)) (hl : fs.lookup m = none) (h : ∀ F', Ex F F' → EvsG K pt ts σ F' (· = ds))
    (hs : ∀ F1 H1 vs, Ex F F1 → Ex F1 H1 → RpAll K F1 vs ds → ∀ Q : VK, (∀ v F2 H2, Step none F1 H1 F2 H2 → Rp K F2 v z → Q v H2) → sp (.ref x :: vs) H1 Q E) : EvG K pt (tMeth C m sp [] E te ts) σ F (Is z) := fun H1 e g Q q =>
  hv H1 e g _ fun v F2 H2 ev s => by
    subst ev
    exact ⟨x, dx, fs, rfl, s.inn _ _ (s.sub _ _ ho), hl, h F2 s.sub H2 s.inn s.good _ fun ds' vs F3 H3 hd s3 hv3 => by
      subst hd
      rw [List.append_nil]
      exact hs F3 H3 vs (s.sub.trans s3.sub) s3.inn hv3 Q fun v F4 H4 s4 hv4 => q _ v F4 H4 rfl ((s.trans s3).trans (s4.lift s3.good)) hv4⟩
end
end Fv

namespace KD
open PySem PySem.Spec PyProof.Rows L2 L2H Fv Evl StX
def topS (i : Nat) : Stmt := PySem.Challenge.pw_firmvalues_k30_whole_rounds_begin_again.main.body.getD i (.Pass ⟨0, 0, 0, 0⟩)
structure Tx (mg : Str → Option Value) : Prop where
  isinstance : mg "isinstance" = none
  list : mg "list" = none
  tuple : mg "tuple" = none
  bool : mg "bool" = none
  int : mg "int" = none
  str : mg "str" = none
  all : mg "all" = none
  any : mg "any" = none
  range : mg "range" = none
  sorted : mg "sorted" = none
  set : mg "set" = none
  max : mg "max" = none
  len : mg "len" = none
  min : mg "min" = none
  repr : mg "repr" = none
abbrev s_is_whole : Stmt := topS 4
theorem sc_is_whole : FnScope ["thing", "low", "high"] ["thing", "low", "high"] (defScope s_is_whole) := ⟨rfl, rfl, rfl, by decide +kernel, rfl, by decide +kernel, by decide +kernel⟩
abbrev s_is_sequence : Stmt := topS 5
theorem sc_is_sequence : FnScope ["thing"] ["thing"] (defScope s_is_sequence) := ⟨rfl, rfl, rfl, by decide +kernel, rfl, by decide +kernel, by decide +kernel⟩
abbrev s_as_tuples : Stmt := topS 6
theorem sc_as_tuples : FnScope ["thing", "part"] ["thing"] (defScope s_as_tuples) := ⟨rfl, rfl, rfl, by decide +kernel, rfl, by decide +kernel, by decide +kernel⟩
/-- is_whole has two defaults -/
abbrev FunW (K : PySem.W.Frag) (f : Addr) (fd : FuncData) : Prop := L2.FunD K "is_whole" "is_whole" (defArgs s_is_whole) (defBody s_is_whole) (defScope s_is_whole) [.non, .non] [] f fd
theorem okD {P : Program} {w : World} {K : PySem.W.Frag} {mg : Str → Option Value} {base : Heap} {x qual : Str} {params : Arguments} {body : List Stmt} {scope : Scope} {dvs : List V} {kws : List (Str × V)} {f : Addr} {fd : FuncData} {N ps : List Str} {k : Nat} {sp : Sp} (F : L2.FunD K x qual params body scope dvs kws f fd) (S : FnScope N ps scope) (len : ∀ vs H Q E, sp vs H Q E → vs.length = ps.length)
    (hbody : ∀ (cdv : Value) (A : Around) (outer : List Env) (s : Shared) (H : Hp) (vs : List V) (Q : VK) (E : XK), Room k (A.deeper (envOfC qual scope s.heap.objs.size f cdv)) → sp vs H Q E →
      ∃ t, PSs (cxOf CX0 P w K mg base N qual scope f cdv A outer s H E).nox body t ∧ t { nx := fun _ H' => Q .non H', rt := Q } (start N vs) H) : FnOk P w K mg base CX0 (k + 1) f fd ps sp :=
  F.ok S len fun cdv A outer s H vs Q E hr h => by
    obtain ⟨t, h1, q⟩ := hbody cdv A outer s H vs Q E hr h
    exact ⟨t, h1.nox, q⟩
def isL : PyData → Bool
  | .list _ => true
  | _ => false
def isT : PyData → Bool
  | .tuple _ => true
  | _ => false
def isB : PyData → Bool
  | .bool _ => true
  | _ => false
def isI : PyData → Bool
  | .bool _ => true
  | .int _ => true
  | _ => false
theorem kit_list : ∀ d : PyData, kitB (tyD d) "list" = some (isL d)
  | .none => by decide +kernel
  | .bool _ => by show kitB "bool" "list" = some false; decide +kernel
  | .int _ => by show kitB "int" "list" = some false; decide +kernel
  | .str _ => by show kitB "str" "list" = some false; decide +kernel
  | .list _ => by show kitB "list" "list" = some true; decide +kernel
  | .tuple _ => by show kitB "tuple" "list" = some false; decide +kernel
  | .dict _ => by show kitB "dict" "list" = some false; decide +kernel
theorem kit_tuple : ∀ d : PyData, kitB (tyD d) "tuple" = some (isT d)
  | .none => by decide +kernel
  | .bool _ => by show kitB "bool" "tuple" = some false; decide +kernel
  | .int _ => by show kitB "int" "tuple" = some false; decide +kernel
  | .str _ => by show kitB "str" "tuple" = some false; decide +kernel
  | .list _ => by show kitB "list" "tuple" = some false; decide +kernel
  | .tuple _ => by show kitB "tuple" "tuple" = some true; decide +kernel
  | .dict _ => by show kitB "dict" "tuple" = some false; decide +kernel
theorem kit_bool : ∀ d : PyData, kitB (tyD d) "bool" = some (isB d)
  | .none => by decide +kernel
  | .bool _ => by show kitB "bool" "bool" = some true; decide +kernel
  | .int _ => by show kitB "int" "bool" = some false; decide +kernel
  | .str _ => by show kitB "str" "bool" = some false; decide +kernel
  | .list _ => by show kitB "list" "bool" = some false; decide +kernel
  | .tuple _ => by show kitB "tuple" "bool" = some false; decide +kernel
  | .dict _ => by show kitB "dict" "bool" = some false; decide +kernel
theorem kit_int : ∀ d : PyData, kitB (tyD d) "int" = some (isI d)
  | .none => by decide +kernel
  | .bool _ => by show kitB "bool" "int" = some true; decide +kernel
  | .int _ => by show kitB "int" "int" = some true; decide +kernel
  | .str _ => by show kitB "str" "int" = some false; decide +kernel
  | .list _ => by show kitB "list" "int" = some false; decide +kernel
  | .tuple _ => by show kitB "tuple" "int" = some false; decide +kernel
  | .dict _ => by show kitB "dict" "int" = some false; decide +kernel
/-- None or a whole number -/
def oD : Option Int → PyData
  | none => .none
  | some i => .int i
def loOk (i : Int) : Option Int → Bool
  | none => true
  | some l => decide (l ≤ i)
def hiOk (i : Int) : Option Int → Bool
  | none => true
  | some h => decide (i ≤ h)
def isWhole (lo hi : Option Int) : PyData → Bool
  | .int i => loOk i lo && hiOk i hi
  | _ => false
section
variable {P : Program} {w : World} {K : PySem.W.Frag} {mg : Str → Option Value} {base : Heap}
theorem rpAll1 {F : Hp} {vs : List V} {d : PyData} (h : RpAll K F vs [d]) : ∃ v, vs = [v] ∧ Rp K F v d := by
  cases h with
  | cons h1 h2 => cases h2; exact ⟨_, rfl, h1⟩
theorem rpAll2 {F : Hp} {vs : List V} {d e : PyData} (h : RpAll K F vs [d, e]) : ∃ v x, vs = [v, x] ∧ Rp K F v d ∧ Rp K F x e := by
  cases h with
  | cons h1 h2 =>
    obtain ⟨x, rfl, hx⟩ := rpAll1 h2
    exact ⟨_, x, rfl, h1, hx⟩
theorem rpAll3 {F : Hp} {vs : List V} {d e g : PyData} (h : RpAll K F vs [d, e, g]) : ∃ v x y, vs = [v, x, y] ∧ Rp K F v d ∧ Rp K F x e ∧ Rp K F y g := by
  cases h with
  | cons h1 h2 =>
    obtain ⟨x, y, rfl, hx, hy⟩ := rpAll2 h2
    exact ⟨_, x, y, rfl, h1, hx, hy⟩
/-! is_sequence -/
abbrev spSeq (K : PySem.W.Frag) : Sp := PSp K (fun d : PyData => [d]) (fun _ => True) (fun d => .bool (isL d || isT d))
theorem ok_seq {f : Addr} {fd : FuncData} (Fn : Fun K "is_sequence" "is_sequence" s_is_sequence f fd) (T : Tx mg) : FnOk P w K mg base CX0 1 f fd ["thing"] (spSeq K) := by
  refine Fn.ok sc_is_sequence (PSp.len (fun _ => rfl)) (fun cdv A outer s H vs Q E hr h => ?_)
  obtain ⟨d, F, _, e, ha, q⟩ := h
  obtain ⟨v, rfl, hv⟩ := rpAll1 ha
  exact ⟨_, (pss_one (ps_ret (pe_callB (c_isiT (K := K)) (by rfl) T.isinstance (by decide +kernel) (pa_cons (pv 0) (pa_cons (pe_tup (pa_cons (pe_bltn (v := .ty "list") (by rfl) T.list (by decide +kernel) rfl) (pa_cons (pe_bltn (v := .ty "tuple") (by rfl) T.tuple (by decide +kernel) rfl) pa_nil))) pa_nil))))), t_retI (Step.refl e .nil) (g_isi2 (g_var rfl hv) (kit_list d) (kit_tuple d)) q⟩
/-! is_whole -/
abbrev spWhole (K : PySem.W.Frag) : Sp := PSp K (fun i : PyData × Option Int × Option Int => [i.1, oD i.2.1, oD i.2.2]) (fun _ => True) (fun i => .bool (isWhole i.2.1 i.2.2 i.1))
theorem ok_whole {f : Addr} {fd : FuncData} (Fn : FunW K f fd) (T : Tx mg) : FnOk P w K mg base CX0 1 f fd ["thing", "low", "high"] (spWhole K) := by
  refine okD Fn sc_is_whole (PSp.len (fun _ => rfl)) (fun cdv A outer s H vs Q E hr h => ?_)
  obtain ⟨⟨d, lo, hi⟩, F, _, e, ha, q⟩ := h
  obtain ⟨v, x, y, rfl, hv, hx, hy⟩ := rpAll3 ha
  refine ⟨_, (pss_cons (ps_if (PW.pt (pw_or (pt_val (pe_callB (c_isi (K := K)) (by rfl) T.isinstance (by decide +kernel) (pa_cons (pv 0) (pa_cons (pe_bltn (v := .ty "bool") (by rfl) T.bool (by decide +kernel) rfl) pa_nil)))) (pw_or1 (pt_not (pt_val (pe_callB (c_isi (K := K)) (by rfl) T.isinstance (by decide +kernel) (pa_cons (pv 0) (pa_cons (pe_bltn (v := .ty "int") (by rfl) T.int (by decide +kernel) rfl) pa_nil)))))))) (pss_one (ps_ret pe_bl)) pss_nil)
    (pss_one (ps_ret (pe_and (pe_or (pe_cmpR op_isN (pv 1) pe_non (nomark _)) (pe_one (pe_cmpR op_ge (pv 0) (pv 1) (nomark _)))) (pe_one (pe_or (pe_cmpR op_isN (pv 2) pe_non (nomark _)) (pe_one (pe_cmpR op_le (pv 0) (pv 2) (nomark _))))))))), ?_⟩
  refine t_when (b := isB d || !isI d) (Step.refl e .nil) (et_or (et_B (g_isi (g_var rfl hv) (kit_bool d))) fun _ => et_not (et_B (g_isi (g_var rfl hv) (kit_int d)))) (fun hb F2 H2 s2 e2 => ?_) (fun hb F2 H2 s2 e2 => ?_)
  · refine t_retI (K := K) s2 g_bl fun v F3 H3 s3 hv3 => q v F3 H3 s3 ?_
    have : isWhole lo hi d = false := by cases d <;> simp_all [isB, isI, isWhole]
    show Rp K F3 v (.bool (isWhole lo hi d))
    rw [this]; exact hv3
  · obtain ⟨i, rfl⟩ : ∃ i, d = .int i := by cases d <;> simp_all [isB, isI]
    have v1 := Rp.mono e2 _ _ hv
    have x1 := Rp.mono e2 _ _ hx
    have y1 := Rp.mono e2 _ _ hy
    refine t_retI s2 (g_andV (a := loOk i lo) (b := hiOk i hi) ?_ fun _ => ?_) q
    · refine (g_orV (a := isNone (oD lo)) (b := loOk i lo) (g_op (g_var rfl x1) g_non fun _ _ h1 h2 => h1 ▸ h2 ▸ rv_isN) fun hn => ?_).is ?_
      · cases lo with
        | none => cases hn
        | some l => exact g_op (g_var rfl v1) (g_var rfl x1) fun _ _ h1 h2 => h1 ▸ h2 ▸ rv_bl (g := fun i j => decide (j ≤ i))
      · cases lo <;> simp [oD, isNone, loOk]
    · refine (g_orV (a := isNone (oD hi)) (b := hiOk i hi) (g_op (g_var rfl y1) g_non fun _ _ h1 h2 => h1 ▸ h2 ▸ rv_isN) fun hn => ?_).is ?_
      · cases hi with
        | none => cases hn
        | some l => exact g_op (g_var rfl v1) (g_var rfl y1) fun _ _ h1 h2 => h1 ▸ h2 ▸ rv_bl (g := fun i j => decide (i ≤ j))
      · cases hi <;> simp [oD, isNone, hiOk]
/-! lot_within -/
end
end KD

namespace KD
open PySem PySem.Spec PyProof.Rows L2 Fv Evl StX
abbrev s_law_pot : Stmt := topS 27
theorem sc_law_pot : FnScope ["_law_script", "_law_salt", "_law_cell"] ["_law_script", "_law_salt"] (defScope s_law_pot) := ⟨rfl, rfl, rfl, by decide +kernel, rfl, by decide +kernel, by decide +kernel⟩
abbrev s_law_draw : Stmt := topS 28
theorem sc_law_draw : FnScope ["_law_pot_here", "_law_many", "_law_cell", "_law_digit"] ["_law_pot_here", "_law_many"] (defScope s_law_draw) := ⟨rfl, rfl, rfl, by decide +kernel, rfl, by decide +kernel, by decide +kernel⟩
section
variable {P : Program} {w : World} {K : PySem.W.Frag} {mg : Str → Option Value} {base : Heap}
abbrev spDraw (K : PySem.W.Frag) : Sp := spP K (fun m => 1 ≤ m ∧ m < 10000000000000000000000000000001) (fun m d => ∃ k : Int, d = .int k ∧ 0 ≤ k ∧ k < m)
theorem cm {i j : Int} (h0 : 0 ≤ i) (h1 : i < 2147483647) : CMul i j := .inl ⟨by omega, by omega⟩
theorem ok_draw {f : Addr} {fd : FuncData} (Fn : Fun K "_law_draw" "_law_draw" s_law_draw f fd) (T : Tx mg) : FnOk P w K mg base CX0 1 f fd ["_law_pot_here", "_law_many"] (spDraw K) := by
  refine Fn.ok sc_law_draw spP.len (fun cdv A outer s H vs Q E hr h => ?_)
  obtain ⟨q, m, F, rfl, ⟨m1, m2⟩, e, g, k0⟩ := h
  have k : ∀ k F2 H2, 0 ≤ k → k < m → Step (some q) F H F2 H2 → Q (.int k) H2 := fun k F2 H2 h1 h2 s => k0 _ _ F2 H2 ⟨k, rfl, h1, h2⟩ s (.int k)
  refine ⟨_, (pss_cons (ps_if (PW.pt (pw_and (pt_cmpR op_eq (pe_ix (o_ixL (K := K)) (pv 0) pe_int (fun _ _ => rfl)) pe_int (nomark _)) (pw_and1 (pt_cmpR op_lt (pe_ix (o_ixL (K := K)) (pv 0) pe_int (fun _ _ => rfl)) (pe_callB (c_len (K := K)) (by rfl) T.len (by decide +kernel) (pa_cons (pe_ix (o_ixL (K := K)) (pv 0) pe_int (fun _ _ => rfl)) pa_nil)) (nomark _))))) (pss_cons (ps_set (i := 2) sc_law_draw.nd rfl (by first | exact Or.inl rfl | exact Or.inr rfl) (pe_ix (o_ixL (K := K)) (pe_ix (o_ixL (K := K)) (pv 0) pe_int (fun _ _ => rfl)) (pe_ix (o_ixL (K := K)) (pv 0) pe_int (fun _ _ => rfl)) (fun _ _ => rfl)))
    (pss_cons (ps_asg (pe_op op_add (pe_ix (o_ixL (K := K)) (pv 0) pe_int (fun _ _ => rfl)) pe_int) (pg_sub (pv 0) pe_int set_list))
    (pss_one (ps_if (pt_cmpR op_ge (pv 2) pe_int (nomark _)) (pss_one (ps_asg (pv 2) (pg_sub (pv 0) pe_int set_list))) (pss_one (ps_asg (pe_op op_modN (pe_op op_add (pe_op op_add (pe_op op_mul (pe_ix (o_ixL (K := K)) (pv 0) pe_int (fun _ _ => rfl)) pe_int) (pe_op op_mul (pe_op op_modN (pe_callTy call_int1 (by rfl) T.int (by decide +kernel) (pa_cons (pv 2) pa_nil)) pe_int) pe_int)) pe_int) pe_int) (pg_sub (pv 0) pe_int set_list))))))) pss_nil)
    (pss_cons (ps_if (pt_cmpR op_gt (pe_ix (o_ixL (K := K)) (pv 0) pe_int (fun _ _ => rfl)) pe_int (nomark _)) (pss_cons (ps_set (i := 3) sc_law_draw.nd rfl (by first | exact Or.inl rfl | exact Or.inr rfl) (pe_op op_modN (pe_callTy call_int1 (by rfl) T.int (by decide +kernel) (pa_cons (pe_ix (o_ixL (K := K)) (pv 0) pe_int (fun _ _ => rfl)) pa_nil)) (pv 1)))
    (pss_cons (ps_asg (pe_op op_fdivW (pe_ix (o_ixL (K := K)) (pv 0) pe_int (fun _ _ => rfl)) (pv 1)) (pg_sub (pv 0) pe_int set_list))
    (pss_one (ps_ret (pv 3))))) pss_nil)
    (pss_cons (ps_asg (pe_op op_modN (pe_op op_add (pe_op op_mul (pe_ix (o_ixL (K := K)) (pv 0) pe_int (fun _ _ => rfl)) pe_int) pe_int) pe_int) (pg_sub (pv 0) pe_int set_list))
    (pss_one (ps_ret (pe_op op_modN (pe_op op_fdivN (pe_callTy call_int1 (by rfl) T.int (by decide +kernel) (pa_cons (pe_op op_modN (pe_op op_mul (pe_ix (o_ixL (K := K)) (pv 0) pe_int (fun _ _ => rfl)) pe_int) pe_int) pa_nil)) pe_int) (pv 1))))))), ?_⟩
  have get : ∀ {σ : L2.St} {H' : Hp} {a b c : Int}, σ[0]? = some (some (.ref q.p)) → Pot H' q a b c → ∀ {i : Int} {v : V}, atI [V.int a, .int b, .int c, .ref q.l] i = some v → EvC (tOp (rIxL K) (tVar 0) (tC (.int i))) σ H' v := fun h p _ _ hi => ec_ixL (ec_var h) ec_int p.at_ hi
  obtain ⟨a, b, c, p⟩ := Pot.of (g q rfl).2
  let J : L2.St → Hp → Prop := fun σ' H' => ∃ a b c x y, σ' = [some (.ref q.p), some (.int m), x, y] ∧ Pot H' q a b c ∧ Step (some q) F H F H'
  have mk : ∀ {H' : Hp} {a b c : Int}, Pot H' q a b c → Step (some q) F H F H' → ∀ {a' b' c' : Int}, 0 ≤ a' → 0 ≤ b' → b' < 2147483647 → 0 ≤ c' → c' ≤ q.ns.length → Pot (upd H' q.p (.lst [.int a', .int b', .int c', .ref q.l])) q a' b' c' ∧ Step (some q) F H F (upd H' q.p (.lst [.int a', .int b', .int c', .ref q.l])) := fun p s _ _ _ h1 h2 h3 h4 h5 => by
    have p' := p.put h1 h2 h3 h4 h5
    exact ⟨p', s.trans (Step.pot s.inn s.good p'.pot)⟩
  have s0 : Step (some q) F H F H := Step.refl e g
  refine ts_when J (b := decide (a = 0) && decide (c < (q.ns.map V.int).length)) (etc_and (etc_of (ec_eq (get rfl p rfl) ec_int)) fun _ => etc_of (ec_I0 (g := fun i j => .bl (decide (i < j))) (get rfl p rfl) (ec_len (get rfl p rfl) p.ls))) (fun hb N hN => ?_) (fun _ => ⟨a, b, c, none, none, rfl, p, s0⟩) (fun σ' H' hJ => ?_)
  · simp only [Bool.and_eq_true, decide_eq_true_eq, List.length_map] at hb
    obtain ⟨_, hc⟩ := hb
    have c0 := p.c0
    obtain ⟨j, rfl⟩ : ∃ j : Nat, c = (j : Int) := ⟨c.toNat, by omega⟩
    have hj : j < q.ns.length := by omega
    have hcell : atI (q.ns.map V.int) (j : Int) = some (.int q.ns[j]) := atI_nat (by rw [List.getElem?_map, List.getElem?_eq_getElem hj]; rfl)
    refine ts_asg (ec_ixL (get rfl p rfl) (get rfl p rfl) p.ls hcell) ?_
    -- pot[2] = pot[2] + 1
    obtain ⟨p1, s1⟩ := mk p s0 (a' := a) (b' := b) (c' := (j : Int) + 1) p.a0 p.b0 p.b1 (by omega) (by omega)
    refine ts_put (q := q) (j := 2) (ec_I0 (g := fun i j => .int (i + j)) (get rfl p rfl) ec_int) rfl p.at_ rfl ?_
    show tIfS _ _ _ _ _ (upd H q.p (.lst [.int a, .int b, .int ((j : Int) + 1), .ref q.l]))
    refine ts_if1 (etc_of (ec_I0 (g := fun i j => .bl (decide (j ≤ i))) (ec_var rfl) ec_int)) (fun hb2 => ?_) (fun hb2 => ?_)
    · simp only [decide_eq_true_eq] at hb2
      obtain ⟨p2, s2⟩ := mk p1 s1 (a' := q.ns[j]) (b' := b) (c' := (j : Int) + 1) (by omega) p.b0 p.b1 (by omega) (by omega)
      refine ts_put1 (q := q) (j := 0) (ec_var rfl) rfl p1.at_ rfl ?_
      exact hN _ _ ⟨_, _, _, _, _, rfl, p2, s2⟩
    · obtain ⟨z1, z2⟩ := fm0 (b * 48271 + (q.ns[j]).fmod 1000003 * 69621 + 77) (j := 2147483647) (by decide)
      obtain ⟨p2, s2⟩ := mk p1 s1 (a' := a) (c' := (j : Int) + 1) p.a0 z1 z2 (by omega) (by omega)
      have e1 : EvC _ _ _ _ := ec_I (C := CMul) (g := fun i j => .int (i * j)) (get (σ := [some (.ref q.p), some (.int m), some (.int q.ns[j]), none]) rfl p1 (i := 1) rfl) (ec_int (i := 48271)) (cm p.b0 p.b1)
      have e2 : EvC _ _ _ _ := ec_I (C := CMul) (g := fun i j => .int (i * j)) (ec_I (C := fun _ j => j ≠ 0) (g := fun i j => .int (i.fmod j)) (ec_int1 (ec_var (σ := [some (.ref q.p), some (.int m), some (.int q.ns[j]), none]) (i := 2) (H := upd H q.p (.lst [.int a, .int b, .int ((j : Int) + 1), .ref q.l])) rfl)) (ec_int (i := 1000003)) (by decide)) (ec_int (i := 69621)) (cm (fm0 _ (by decide)).1 (Int.lt_trans (fm0 _ (by decide)).2 (by decide)))
      refine ts_put1 (q := q) (j := 1) (ec_I (C := fun _ j => j ≠ 0) (g := fun i j => .int (i.fmod j)) (ec_I0 (g := fun i j => .int (i + j)) (ec_I0 (g := fun i j => .int (i + j)) e1 e2) ec_int) ec_int (show (2147483647 : Int) ≠ 0 by decide)) rfl p1.at_ rfl ?_
      exact hN _ _ ⟨_, _, _, _, _, rfl, p2, s2⟩
  · obtain ⟨a, b, c, x, y, rfl, p, s⟩ := hJ
    have m0 : m ≠ 0 := by omega
    refine ts_if (etc_of (ec_I0 (g := fun i j => .bl (decide (j < i))) (get rfl p rfl) ec_int)) (fun hb => ?_) (fun hb => ?_)
    · obtain ⟨z1, z2⟩ := fm0 a (j := m) (by omega)
      refine ts_asg (ec_I (C := fun _ j => j ≠ 0) (g := fun i j => .int (i.fmod j)) (ec_int1 (get rfl p rfl)) (ec_var rfl) m0) ?_
      obtain ⟨p1, s1⟩ := mk p s (a' := a / m) (b' := b) (c' := c) (Int.ediv_nonneg p.a0 (by omega)) p.b0 p.b1 p.c0 p.c1
      refine ts_put (q := q) (j := 0) (ec_I (C := CDivW) (g := fun i j => .int (i / j)) (get rfl p rfl) (ec_var rfl) ⟨by omega, by
        have h1 : m.natAbs < 2 ^ 110 := by
          have : (2 : Nat) ^ 110 = 1298074214633706907132624082305024 := by decide
          omega
        have := PySem.Flt.log2_lt_of (by decide) h1
        omega⟩) rfl p.at_ rfl ?_
      exact ts_ret (ec_var rfl) (k _ _ _ z1 z2 s1)
    · obtain ⟨z1, z2⟩ := fm0 (b * 48271 + 1013904223) (j := 2147483647) (by decide)
      obtain ⟨p1, s1⟩ := mk p s (a' := a) (c' := c) p.a0 z1 z2 p.c0 p.c1
      refine ts_put (q := q) (j := 1) (ec_I (C := fun _ j => j ≠ 0) (g := fun i j => .int (i.fmod j)) (ec_I0 (g := fun i j => .int (i + j)) (ec_I (C := CMul) (g := fun i j => .int (i * j)) (get rfl p rfl) ec_int (cm p.b0 p.b1)) ec_int) ec_int (show (2147483647 : Int) ≠ 0 by decide)) rfl p.at_ rfl ?_
      obtain ⟨y1, y2⟩ := fm0 ((((b * 48271 + 1013904223).fmod 2147483647 * 16807).fmod 2147483629).fdiv 5) (j := m) (by omega)
      refine ts_ret (ec_I (C := fun _ j => j ≠ 0) (g := fun i j => .int (i.fmod j)) (ec_I (C := CDivN) (g := fun i j => .int (i.fdiv j)) (ec_int1 (ec_I (C := fun _ j => j ≠ 0) (g := fun i j => .int (i.fmod j)) (ec_I (C := CMul) (g := fun i j => .int (i * j)) (get rfl p1 rfl) ec_int (cm p1.b0 p1.b1)) ec_int (show (2147483629 : Int) ≠ 0 by decide))) ec_int (show CDivN _ 5 from ⟨by decide, by decide⟩)) (ec_var rfl) m0) (k _ _ _ y1 y2 s1)
def spPot (K : PySem.W.Frag) : Sp := fun vs H Q _ => ∃ (a : Addr) (ns : List Int) (c : Int) (F : Hp), vs = [.ref a, .int c] ∧ SqL K F a (ns.map V.int) ∧ 0 ≤ c ∧ c < 2147483647 ∧ Ex F H ∧
  ∀ (q : Pt) F2 H2, Step none F H F2 H2 → Good (some q) F2 H2 → H q.p = none → Q (.ref q.p) H2
theorem ok_pot {f : Addr} {fd : FuncData} (Fn : Fun K "_law_pot" "_law_pot" s_law_pot f fd) (T : Tx mg) : FnOk P w K mg base CX0 1 f fd ["_law_script", "_law_salt"] (spPot K) := by
  refine Fn.ok sc_law_pot (fun vs H Q E ⟨_, _, _, _, h, _⟩ => by rw [h]; rfl) (fun cdv A outer s H vs Q E hr h => ?_)
  obtain ⟨a, ns, c, F, rfl, hl, c0, c1, e, k⟩ := h
  refine ⟨_, (pss_one (ps_ret (pe_lst (pa_cons pe_int (pa_cons (pv 1) (pa_cons pe_int (pa_cons (pe_lc (own := [("_law_cell", 2)]) (g := gName 2) rfl sc_law_pot.nd (i_list (K := K) (pe_slice (s_list (K := K)) (pv 0) (po_some pe_int) (po_some pe_int))) (blkOk_by (own := [("_law_cell", 2)]) (N := ["_law_script", "_law_salt", "_law_cell"]) (sc := (defScope s_law_pot)) (by decide +kernel)) (fun _ _ _ _ _ => pg_name (i := 2) sc_law_pot.nd rfl (by first | exact Or.inl rfl | exact Or.inr rfl)) (fun _ _ _ _ _ => pts_nil) (fun _ _ _ _ _ => (pe_callTy call_int1 (by rfl) T.int (by decide +kernel) (pa_cons (pv 2) pa_nil)))) pa_nil))))))), ?_⟩
  have hz : (ns.take 60).length ≤ 60 := by rw [List.length_take]; omega
  refine t_retLst (K := K) (Step.refl e .nil) (gs_consI (K := K) g_int (gs_consI (g_var (v := .int c) (d := .int c) rfl (.int c)) (gs_consI g_int (gs_one (g_lcEM PyData.int (ns.take 60) PyData.int (w_listI (g_slS (i := 0) rfl hl)) (by omega) (fun _ => rfl) fun i hi F' e' y hy => g_cbI (gs_one (g_var rfl hy)) rc_int1))))) fun vs F2 H2 s hv => ?_
  obtain ⟨v4, rfl, hv4⟩ : ∃ v4, vs = [.int 0, .int c, .int 0, v4] ∧ Rp K F2 v4 (.list ((ns.take 60).map .int)) := by
    cases hv with
    | cons a1 b1 =>
      cases b1 with
      | cons a2 b2 =>
        cases b2 with
        | cons a3 b3 =>
          cases b3 with
          | cons a4 b4 =>
            cases b4
            rw [rp_int a1, rp_int a2, rp_int a3]
            exact ⟨_, rfl, a4⟩
  obtain ⟨l, xs, rfl, hl4, hxs⟩ := rp_lst hv4
  have := rpAll_ints hxs
  subst this
  refine ⟨by show 4 ≤ _; decide, fun p hp => ?_⟩
  have hlp : l ≠ p := fun z => by rw [z] at hl4; have := s.inn _ _ hl4; rw [hp] at this; cases this
  have fp : F2 p = none := by
    cases z : F2 p with
    | none => rfl
    | some o => have := s.inn _ _ z; rw [hp] at this; cases this
  refine k ⟨p, l, ns.take 60⟩ F2 _ ?_ ?_ (s.back p hp)
  · exact ⟨s.sub, s.inn.trans (Ex.new hp), s.keep.trans (Keep.of (Ex.new hp)), .nil, s.new⟩
  · intro q hq
    obtain rfl := Option.some.inj hq
    refine ⟨fp, hlp, ?_, hz, 0, c, 0, upd_same, Int.le_refl _, c0, c1, Int.le_refl _, by omega⟩
    show upd H2 p _ l = _
    rw [upd_ne hlp]; exact s.inn _ _ hl4
end
end KD

namespace KD
open PySem PySem.Spec PyProof.Rows L2 L2H Fv Evl StX
/-- the houses 0 .. n - 1 -/
def hs (n : Nat) : List Int := (List.range n).map Int.ofNat
theorem rng_hs (n : Nat) : rng 0 n = (hs n).map PyData.int := by
  unfold rng hs
  rw [List.map_map]
  refine List.map_congr_left fun k _ => ?_
  simp
section
variable {P : Program} {w : World} {K : PySem.W.Frag} {mg : Str → Option Value} {base : Heap}
variable {pt : Option Pt} {σ : L2.St} {F F0 H0 H : Hp} {te ta tb : TE} {ts tr : TA} {D : Ends} {tz : TS}
/-! lot_within -/
theorem g_ifX {d : PyData} {b : Bool} {tt : TT} (h : EtG pt tt σ F (· = b)) (ha : b = true → EvG K pt ta σ F (Is d)) (hb : b = false → EvG K pt tb σ F (Is d)) : EvG K pt (tIf tt ta tb) σ F (Is d) := fun H1 i g Q q => h H1 i g _ fun c F2 H2 hc s => by
  subst hc
  cases c with
  | true => exact (ha rfl).mono s.sub H2 s.inn s.good Q fun d v F3 H3 hd s3 hv => q d v F3 H3 hd (s.trans s3) hv
  | false => exact (hb rfl).mono s.sub H2 s.inn s.good Q fun d v F3 H3 hd s3 hv => q d v F3 H3 hd (s.trans s3) hv
end
end KD

namespace KD
open PySem PySem.Spec PyProof.Rows L2 L2H Fv Evl StX
abbrev ORow := List (Option Int)
theorem hs_len (n : Nat) : (hs n).length = n := by simp [hs]
theorem hs_mem {n : Nat} {k : Int} : k ∈ hs n ↔ 0 ≤ k ∧ k < (n : Int) := by
  unfold hs
  rw [List.mem_map]
  constructor
  · rintro ⟨j, hj, rfl⟩
    rw [List.mem_range] at hj
    simp only [Int.ofNat_eq_natCast]; omega
  · rintro ⟨h1, h2⟩
    exact ⟨k.toNat, by rw [List.mem_range]; omega, by simp only [Int.ofNat_eq_natCast]; omega⟩
section
variable {P : Program} {w : World} {K : PySem.W.Frag} {mg : Str → Option Value} {base : Heap}
variable {pt : Option Pt} {σ : L2.St} {F F' F0 H0 H : Hp} {te ta tb ty td : TE} {ts tr : TA} {D : Ends} {tz : TS}
/-! sizes -/
end
end KD

namespace KD
open PySem PySem.Spec PyProof.Rows L2 L2H Fv Evl StX
def isS : PyData → Bool
  | .str _ => true
  | _ => false
theorem kit_str : ∀ d : PyData, kitB (tyD d) "str" = some (isS d)
  | .none => by decide +kernel
  | .bool _ => by show kitB "bool" "str" = some false; decide +kernel
  | .int _ => by show kitB "int" "str" = some false; decide +kernel
  | .str _ => by show kitB "str" "str" = some true; decide +kernel
  | .list _ => by show kitB "list" "str" = some false; decide +kernel
  | .tuple _ => by show kitB "tuple" "str" = some false; decide +kernel
  | .dict _ => by show kitB "dict" "str" = some false; decide +kernel
def atomS : PyData → Bool
  | .none => true
  | .int _ => true
  | .str _ => true
  | _ => false
/-- atoms, or tuples of what is fine -/
def upL (p : PyData → Prop) : PyData → Prop
  | .tuple ds => ds.length ≤ 1000 ∧ ∀ d ∈ ds, p d
  | d => atomS d = true
abbrev lv0 : PyData → Prop := upL fun _ => False
abbrev lv1 : PyData → Prop := upL lv0
abbrev lv2 : PyData → Prop := upL lv1
section
variable {P : Program} {w : World} {K : PySem.W.Frag} {mg : Str → Option Value} {base : Heap}
variable {pt : Option Pt} {σ : L2.St} {F F' F0 H0 H : Hp} {te ta tb ty td : TE} {ts tr : TA} {t : TT} {D : Ends} {tz tu tw : TS} {l : Addr} {ls : List PyData}
theorem rv_eqS {x y : Str} : RvG K rEq (.str x) (.str y) (Is (.bool (decide (x = y)))) := rv_val fun F H a b _ ha hb => by
  rw [rp_str ha, rp_str hb]
  refine ⟨.bl (decide (V.str x = V.str y)), fun Q q => ⟨rfl, q⟩, ?_⟩
  have : decide (V.str x = V.str y) = decide (x = y) := by by_cases h : x = y <;> simp [h]
  rw [this]; exact .bl _
end
end KD

namespace KD
open PySem PySem.Spec PyProof.Rows L2 L2H Fv Evl StX
abbrev s_law_longer : Stmt := topS 26
theorem sc_law_longer : FnScope ["_law_rows", "_law_marks", "_law_found", "_law_row", "_law_mark"] ["_law_rows", "_law_marks"] (defScope s_law_longer) := ⟨rfl, rfl, rfl, by decide +kernel, rfl, by decide +kernel, by decide +kernel⟩
/-- the marks of views -/
def oms (m : Nat) : ORow := none :: (List.range m).map fun k : Nat => some (k : Int)
def olonger (rows : List ORow) (marks : ORow) : List ORow := rows.flatMap fun r => marks.map fun m => r ++ [m]
theorem olonger_len (rows : List ORow) (marks : ORow) : (olonger rows marks).length = rows.length * marks.length := by
  induction rows with
  | nil => simp [olonger]
  | cons r rs ih =>
    have : olonger (r :: rs) marks = (marks.map fun m => r ++ [m]) ++ olonger rs marks := rfl
    rw [this, List.length_append, ih, List.length_map, List.length_cons, Nat.succ_mul]; omega
abbrev dLO (vs : List ORow) : PyData := .list (vs.map dO)
section
variable {P : Program} {w : World} {K : PySem.W.Frag} {mg : Str → Option Value} {base : Heap}
variable {pt : Option Pt} {σ : L2.St} {F F' F0 H0 H F2 H2 : Hp} {te ta tb ty td : TE} {ts tr : TA} {t : TT} {D : Ends} {tz tu tw : TS}
theorem g_listRg {m : Nat} (h : EvG K pt te σ F (Is (.int (m : Int)))) (hm : m ≤ 1000) : EvG K pt (tLstRg (tRg1 te)) σ F (Is (dI (hs m))) := fun H1 i g Q q =>
  h H1 i g _ fun d v F2 H2 hd s hv => by
    subst hd
    refine ⟨m, rp_int hv, .of_le (Int.le_refl _) (by omega) (by omega) (by omega), fun p hp => ?_⟩
    have s3 : Step pt F2 H2 (upd F2 p (.lst (rgV 0 m))) (upd H2 p (.lst (rgV 0 m))) := .laid s.inn s.good hp
    refine q _ _ _ _ rfl (s.trans s3) (.lst upd_same ?_)
    have := rgV_rng (K := K) 0 (m : Int) (upd F2 p (.lst (rgV 0 m)))
    rw [Int.sub_zero, show ((m : Nat) : Int).toNat = m by omega, rng_hs] at this
    exact this
variable {pt : Option Pt} {σ : L2.St} {F F0 H0 H : Hp} {te ta tb : TE} {ts tr : TA} {D : Ends} {tz : TS} {C : Addr}

abbrev spOLonger (K : PySem.W.Frag) : Sp := PSp K (fun i : List ORow × ORow => [dLO i.1, .list (i.2.map optD)]) (fun i => i.1.length ≤ 1100 ∧ i.2.length ≤ 10 ∧ ∀ r ∈ i.1, r.length ≤ 100) (fun i => dLO (olonger i.1 i.2))
theorem t_forG1 {l : Addr} {ls : List PyData} {wi : TI} {j : Nat} {ds : List PyData} (g0 : Good pt F0 H0) (h0 : H0 l = none) (g : Gst K pt F0 H0 l F H ls) (hw : WiG K pt wi σ F (· = ds)) (I : Nat → L2.St → Hp → List PyData → Prop) (hi : ∀ F2, Ex F F2 → I 0 σ F2 ls)
    (hs : ∀ i d, ds[i]? = some d → ∀ σ' F' H' x ls', I i σ' F' ls' → Gst K pt F0 H0 l F' H' ls' → Ex F F' → Rp K F' x d →
      ∀ N : L2.St → Hp → Prop, (∀ σ2 F2 H2 ls2, I (i + 1) σ2 F2 ls2 → Gst K pt F0 H0 l F2 H2 ls2 → Ex F' F2 → N σ2 H2) → tu { D with nx := N, ct := N, bk := D.nx } (σ'.set j (some x)) H')
    (hd : ∀ σ' F' H' ls', I ds.length σ' F' ls' → Gst K pt F0 H0 l F' H' ls' → Ex F F' → D.nx σ' H') : tFor wi (gName j) tu D σ H :=
  t_forG (D := { D with nx := D.nx }) (tz := fun D' σ H => D.nx σ H) g0 h0 g hw I hi hs hd
theorem ok_olonger {f : Addr} {fd : FuncData} (Fn : Fun K "_law_longer" "_law_longer" s_law_longer f fd) (T : Tx mg) : FnOk P w K mg base CX0 1 f fd ["_law_rows", "_law_marks"] (spOLonger K) := by
  refine Fn.ok sc_law_longer (PSp.len (fun _ => rfl)) (fun cdv A outer s H vs Q E hr h => ?_)
  obtain ⟨⟨rows, marks⟩, F, ⟨h1, h2, h3⟩, e, ha, q⟩ := h
  obtain ⟨v, x, rfl, hv, hx⟩ := rpAll2 ha
  simp only at h1 h2 h3
  refine ⟨_, (pss_cons (ps_set (i := 2) sc_law_longer.nd rfl (by first | exact Or.inl rfl | exact Or.inr rfl) (pe_lst pa_nil))
    (pss_cons (ps_for PassesOwn.never rfl (i_list (K := K) (pv 0)) (pg_name (i := 3) sc_law_longer.nd rfl (by first | exact Or.inl rfl | exact Or.inr rfl)) (pss_one (ps_for PassesOwn.never rfl (i_list (K := K) (pv 1)) (pg_name (i := 4) sc_law_longer.nd rfl (by first | exact Or.inl rfl | exact Or.inr rfl)) (pss_one (ps_expr (pe_bm PySem.F.plainAttrs_list PySem.F.slot_list_append PySem.F.type_list_append mt_append (pv 2) (pa_cons (pe_op (o_catA (K := K)) (pv 3) (pe_tup (pa_cons (pv 4) pa_nil))) pa_nil)))))))
    (pss_one (ps_ret (pv 2))))), ?_⟩
  have g0 : Good none F H := .nil
  refine t_newL (K := K) (Step.refl e .nil) (fun l h0 hl0 g1 => ?_) (fun _ h => h)
  refine t_forG (K := K) (ds := rows.map dO) g0 h0 g1 (w_listI (g_var rfl hv))
    (fun i σ' F' l' => (∃ y z, σ' = [some v, some x, some (.ref l), y, z]) ∧ l' = (olonger (rows.take i) marks).map dO) (fun F2 e2 => ⟨⟨none, none, rfl⟩, by simp [olonger]⟩) (fun i d hd σ' F' H' u l' hI g' e' hu N hN => ?_) (fun σ' F' H' l' hI g' e' => ?_)
  · obtain ⟨⟨y, z, rfl⟩, rfl⟩ := hI
    obtain ⟨r, hr2, rfl⟩ := get_map hd
    have hrl := h3 r (List.mem_of_getElem? hr2)
    have hlen : (olonger (rows.take i) marks).length ≤ 11000 := by
      rw [olonger_len, List.length_take]
      have : min i rows.length * marks.length ≤ 1100 * 10 := Nat.mul_le_mul (by omega) h2
      omega
    refine t_forG1 (K := K) (ds := marks.map optD) g0 h0 g' (w_listI (g_var rfl (Rp.mono e' _ _ hx)))
      (fun k σ' F' l' => (∃ z, σ' = [some v, some x, some (.ref l), some u, z]) ∧ l' = (olonger (rows.take i) marks ++ (marks.take k).map fun m => r ++ [m]).map dO) (fun F2 e2 => ⟨⟨z, rfl⟩, by simp⟩) (fun k d hd σ' F'' H'' y l' hI g'' e'' hy N2 hN2 => ?_) (fun σ' F'' H'' l' hI g'' e'' => ?_)
    · obtain ⟨⟨z, rfl⟩, rfl⟩ := hI
      obtain ⟨mk, hk, rfl⟩ := get_map hd
      have hkl : k < marks.length := (List.getElem?_eq_some_iff.mp hk).1
      refine t_app (K := K) (R := Is (dO (r ++ [mk]))) g0 h0 g'' rfl ((g_opI (g_var rfl (Rp.mono e'' _ _ hu)) (g_tupI (gs_one (g_var rfl hy)) (by simp)) (rv_catA (by simp; omega))).is (congrArg PyData.tuple (by rw [List.map_append]; rfl))) (by rw [List.length_map, List.length_append, List.length_map, List.length_take]; omega) fun d4 F4 H4 hd4 g4 e4 => ?_
      subst hd4
      refine hN2 _ F4 H4 _ ⟨⟨_, rfl⟩, ?_⟩ g4 e4
      rw [take_succA hk]
      simp
    · obtain ⟨⟨z, rfl⟩, rfl⟩ := hI
      refine hN _ F'' H'' _ ⟨⟨_, _, rfl⟩, ?_⟩ g'' e''
      rw [take_succA hr2, List.length_map, List.take_length]
      have : olonger (rows.take i ++ [r]) marks = olonger (rows.take i) marks ++ marks.map fun m => r ++ [m] := by simp [olonger]
      rw [this]
  · obtain ⟨⟨y, z, rfl⟩, rfl⟩ := hI
    obtain ⟨F2, s2, e2, r2⟩ := g'.done g0 h0
    refine t_retI (K := K) s2 (g_var rfl r2) fun v3 F3 H3 s3 hv3 => q v3 F3 H3 s3 ?_
    rw [List.length_map, List.take_length] at hv3
    exact hv3
end
end KD

namespace KD
open PySem PySem.Spec PyProof.Rows L2 L2H Fv Evl StX
abbrev s_check_frame : Stmt := topS 13
theorem sc_check_frame : FnScope ["houses", "states", "start", "index"] ["houses", "states", "start"] (defScope s_check_frame) := ⟨rfl, rfl, rfl, by decide +kernel, rfl, by decide +kernel, by decide +kernel⟩
abbrev s_is_row : Stmt := topS 14
theorem sc_is_row : FnScope ["houses", "others", "cell"] ["houses", "others"] (defScope s_is_row) := ⟨rfl, rfl, rfl, by decide +kernel, rfl, by decide +kernel, by decide +kernel⟩
abbrev s_is_move : Stmt := topS 15
theorem sc_is_move : FnScope ["states", "values", "move"] ["states", "values", "move"] (defScope s_is_move) := ⟨rfl, rfl, rfl, by decide +kernel, rfl, by decide +kernel, by decide +kernel⟩
abbrev s_place_of : Stmt := topS 16
theorem sc_place_of : FnScope ["state", "others", "cell"] ["state", "others"] (defScope s_place_of) := ⟨rfl, rfl, rfl, by decide +kernel, rfl, by decide +kernel, by decide +kernel⟩
abbrev s_entry_fault : Stmt := topS 18
theorem sc_entry_fault : FnScope ["houses", "states", "values", "row", "found"] ["houses", "states", "values", "row", "found"] (defScope s_entry_fault) := ⟨rfl, rfl, rfl, by decide +kernel, rfl, by decide +kernel, by decide +kernel⟩
def rankV (vw : ORow) : List Int := vw.map fun o => o.getD (-1)
/-- a move: to a state, or done with a value -/
abbrev Mw := Int ⊕ Int
def mvT (v : Int) : PyData := .tuple [.str "done", .int v]
def mwD : Mw → PyData
  | .inl s => .int s
  | .inr v => mvT v
/-- the state, what is seen of the others, the move -/
abbrev Ent := Int × ORow × Mw
def entD (x : Ent) : PyData := .tuple [.int x.1, dO x.2.1, mwD x.2.2]
def placeK (s : Int) (os : ORow) : List PyData := [.int s, dT (rankV os)]
def pairK (s : Int) (os : ORow) : List PyData := [.int s, dO os]
def MwOk (S m : Nat) : Mw → Prop
  | .inl s => 0 ≤ s ∧ s < (S : Int)
  | .inr v => 0 ≤ v ∧ v < (m : Int)
structure EntOk (n S m : Nat) (x : Ent) : Prop where
  s0 : 0 ≤ x.1
  s1 : x.1 < (S : Int)
  ln : x.2.1.length + 1 = n
  cells : ∀ o ∈ x.2.1, ∀ k, o = some k → 0 ≤ k ∧ k < 40
  mv : MwOk S m x.2.2
structure NSm (n S m : Nat) : Prop where
  n2 : 2 ≤ n
  n5 : n ≤ 5
  S1 : 1 ≤ S
  S40 : S ≤ 40
  m1 : 1 ≤ m
  m4 : m ≤ 4
theorem kb_pair {i : Int} {vw : ORow} : kb (.tuple [.int i, dO vw]) = true := by
  rw [kb, kbL, kbL, kbL, kb_dO]; rfl
theorem depth_pair {i : Int} {vw : ORow} : (nk (.tuple [.int i, dO vw])).depth ≤ 8 := by
  have : nk (dO vw) = .tup (nkL (vw.map optD)) := by rw [nk]
  rw [nk, nkL, nkL, nkL, this]
  simp only [NestedKey.depth, NestedKey.depthAll, nkL_depth, nk]
  decide
theorem dT_dO (l : List Int) : dT l = dO (l.map some) := by
  show PyData.tuple _ = PyData.tuple _
  rw [List.map_map]; rfl
theorem kb_place (s : Int) (os : ORow) : kb (.tuple (placeK s os)) = true ∧ (nk (.tuple (placeK s os))).depth ≤ 8 := by
  unfold placeK
  rw [dT_dO]
  exact ⟨kb_pair, depth_pair⟩
theorem kb_move (s : Int) (os : ORow) : kb (.tuple (pairK s os)) = true ∧ (nk (.tuple (pairK s os))).depth ≤ 8 := ⟨kb_pair, depth_pair⟩
/-- places tell what they are of -/
theorem rank_inj : ∀ {a b : ORow}, (∀ o ∈ a, ∀ k, o = some k → 0 ≤ k) → (∀ o ∈ b, ∀ k, o = some k → 0 ≤ k) → rankV a = rankV b → a = b
  | [], [], _, _, _ => rfl
  | [], _ :: _, _, _, h => by cases h
  | _ :: _, [], _, _, h => by cases h
  | x :: a, y :: b, ha, hb, h => by
    simp only [rankV, List.map_cons, List.cons.injEq] at h
    have e := rank_inj (fun o ho => ha o (List.mem_cons_of_mem _ ho)) (fun o ho => hb o (List.mem_cons_of_mem _ ho)) h.2
    have : x = y := by
      cases x with
      | none =>
        cases y with
        | none => rfl
        | some k => have := hb (some k) (by simp) k rfl; have := h.1; simp at this; omega
      | some j =>
        cases y with
        | none => have := ha (some j) (by simp) j rfl; have := h.1; simp at this; omega
        | some k => have := h.1; simp at this; rw [this]
    rw [this, e]
theorem ints_inj {a b : List Int} (h : a.map PyData.int = b.map PyData.int) : a = b := (List.map_inj_right (fun x y h => by injection h)).mp h
theorem place_inj {s t : Int} {a b : ORow} (ha : ∀ o ∈ a, ∀ k, o = some k → 0 ≤ k) (hb : ∀ o ∈ b, ∀ k, o = some k → 0 ≤ k) (h : placeK s a = placeK t b) : s = t ∧ a = b := by
  simp only [placeK, List.cons.injEq, PyData.int.injEq, and_true] at h
  refine ⟨h.1, rank_inj ha hb (ints_inj ?_)⟩
  have := h.2
  simpa [dT] using this
section
variable {P : Program} {w : World} {K : PySem.W.Frag} {mg : Str → Option Value} {base : Heap}
variable {pt : Option Pt} {σ : L2.St} {F F' F0 H0 H F2 H2 : Hp} {te ta tb ty td : TE} {ts tr : TA} {t : TT} {D : Ends} {tz tu tw : TS} {l a : Addr} {xs : List NEnt}
theorem rv_imp {r : L2.R2} {d e : PyData} {R R' : PD} (h : RvG K r d e R) (hi : ∀ z, R z → R' z) : RvG K r d e R' := fun F H x y i hx hy Q q => h F H x y i hx hy Q fun z v F2 H2 hz s hv => q z v F2 H2 (hi z hz) s hv
theorem rv_neI {K : PySem.W.Frag} {i j : Int} : RvG K rNe (.int i) (.int j) (Is (.bool (!decide (i = j)))) := rv_val fun F H x y _ hx hy => by
  rw [rp_int hx, rp_int hy]
  refine ⟨.bl (!decide (V.int i = V.int j)), fun Q q => ⟨rfl, q⟩, ?_⟩
  have : decide (V.int i = V.int j) = decide (i = j) := by by_cases h : i = j <;> simp [h]
  rw [this]; exact .bl _
theorem t_three {i j k n : Nat} {d1 d2 d3 : PyData} (s : Step pt F0 H0 F H) (h : EvG K pt te σ F (Is (.tuple [d1, d2, d3]))) (hn : n = 3) (q : ∀ v1 v2 v3 F2 H2, Step pt F0 H0 F2 H2 → Ex F F2 → Rp K F2 v1 d1 → Rp K F2 v2 d2 → Rp K F2 v3 d3 → tz D (((σ.set i (some v1)).set j (some v2)).set k (some v3)) H2) :
    tSeq (tAsg te (gTup K n (gCons (gName i) (gCons (gName j) (gCons (gName k) gNil))))) tz D σ H := h H s.inn s.good _ fun d v F2 H2 hd s2 hv => by
  subst hd
  obtain ⟨a, xs, rfl, hl, ha⟩ := rp_tup hv
  obtain ⟨x1, x2, x3, rfl, h1, h2, h3⟩ := rpAll3 ha
  exact ⟨a, _, rfl, SqT.of (s2.inn _ _ hl), hn.symm, x1, _, rfl, x2, _, rfl, x3, _, rfl, rfl, q x1 x2 x3 F2 H2 (s.trans s2) s2.sub h1 h2 h3⟩
theorem t_skipA (h : ∀ Q : Bool → Hp → Prop, (∀ F2 H2, Step pt F H F2 H2 → Q false H2) → t σ H Q) (q : ∀ F2 H2, Step pt F H F2 H2 → tz D σ H2) : tSeq (tIfS t tu tNext) tz D σ H := h _ fun F2 H2 s => by
  show (if false = true then _ else _)
  rw [if_neg (by simp)]
  exact q F2 H2 s
/-! as_tuples of tuples and atoms -/
abbrev spAsT (K : PySem.W.Frag) (p : PyData → Prop) : Sp := PSp K (fun d : PyData => [d]) p (fun d => d)
theorem as_step {j : Nat} {p : PyData → Prop} {f fS : Addr} {fd fdS : FuncData} (F_as_tuples : Fun K "as_tuples" "as_tuples" s_as_tuples f fd) (T : Tx mg) (b_as_tuples : Binds K fd ["thing"] []) (g_as_tuples : mg "as_tuples" = some (.ref f))
    (F_is_sequence : Fun K "is_sequence" "is_sequence" s_is_sequence fS fdS) (b_is_sequence : Binds K fdS ["thing"] []) (g_is_sequence : mg "is_sequence" = some (.ref fS))
    (hj : 1 ≤ j) (G_as_tuples : FnOk P w K mg base CX0 j f fd ["thing"] (spAsT K p)) : FnOk P w K mg base CX0 (j + 1) f fd ["thing"] (spAsT K (upL p)) := by
  have G_is_sequence : FnOk P w K mg base CX0 j fS fdS ["thing"] (spSeq K) := Fv.FnOk.up (ok_seq F_is_sequence T) hj
  refine Fun.ok F_as_tuples sc_as_tuples (PSp.len (fun _ => rfl)) (fun cdv A outer s H vs Q E hr h => ?_)
  obtain ⟨d, F, hd, e, ha, q⟩ := h
  obtain ⟨v, rfl, hv⟩ := rpAll1 ha
  refine ⟨_, (pss_cons (ps_if (pt_val (pe_call G_is_sequence hr (by rfl) g_is_sequence F_is_sequence.kp b_is_sequence .nil pass0 (pa_cons (pv 0) pa_nil))) (pss_one (ps_ret (pe_callTy (c_tup (K := K)) (by rfl) T.tuple (by decide +kernel) (pa_cons (pe_lc (own := [("part", 1)]) (g := gName 1) rfl sc_as_tuples.nd (i_tup (K := K) (pv 0)) (blkOk_by (own := [("part", 1)]) (N := ["thing", "part"]) (sc := (defScope s_as_tuples)) (by decide +kernel)) (fun _ _ _ _ _ => pg_name (i := 1) sc_as_tuples.nd rfl (by first | exact Or.inl rfl | exact Or.inr rfl)) (fun _ _ _ _ _ => pts_nil) (fun _ _ _ _ _ => (pe_call G_as_tuples hr (by rfl) g_as_tuples F_as_tuples.kp b_as_tuples .nil pass0 (pa_cons (pv 1) pa_nil)))) pa_nil)))) pss_nil)
    (pss_one (ps_ret (pv 0)))), ?_⟩
  refine t_when (b := isL d || isT d) (Step.refl e .nil) (et_B (g_call d (gs_one (g_var rfl hv)) rfl trivial)) (fun hb F2 H2 s2 e2 => ?_) (fun hb F2 H2 s2 e2 => ?_)
  · obtain ⟨ds, rfl⟩ : ∃ ds, d = .tuple ds := by
      cases d <;> simp_all [isL, isT, upL, atomS]
    obtain ⟨h1, h2⟩ := hd
    exact t_retI (K := K) s2 ((g_cbI (gs_one (g_lcEM id ds id (w_tupI ((g_var rfl (Rp.mono e2 _ _ hv)).is (by rw [List.map_id]))) (by omega) (fun _ => rfl) fun k hk F' e' y hy => g_call k (gs_one (g_var rfl hy)) rfl (h2 k hk))) rc_tupL).is (by rw [List.map_id])) q
  · exact t_retI (K := K) s2 (g_var rfl (Rp.mono e2 _ _ hv)) q
theorem ok_asT {f fS : Addr} {fd fdS : FuncData} (Fn : Fun K "as_tuples" "as_tuples" s_as_tuples f fd) (T : Tx mg) (b_as_tuples : Binds K fd ["thing"] []) (g_as_tuples : mg "as_tuples" = some (.ref f))
    (F_is_sequence : Fun K "is_sequence" "is_sequence" s_is_sequence fS fdS) (b_is_sequence : Binds K fdS ["thing"] []) (g_is_sequence : mg "is_sequence" = some (.ref fS)) : FnOk P w K mg base CX0 4 f fd ["thing"] (spAsT K lv2) :=
  as_step Fn T b_as_tuples g_as_tuples F_is_sequence b_is_sequence g_is_sequence (by decide) (as_step Fn T b_as_tuples g_as_tuples F_is_sequence b_is_sequence g_is_sequence (by decide) (as_step Fn T b_as_tuples g_as_tuples F_is_sequence b_is_sequence g_is_sequence (by decide)
    ⟨PSp.len (fun _ => rfl), fun _ _ _ _ _ _ _ _ _ _ _ _ _ h => by obtain ⟨_, _, hf, _⟩ := h; exact hf.elim⟩))
/-! the frame -/
def spFrame (K : PySem.W.Frag) : Sp := fun vs H Q _ => ∃ (n S m : Nat) (st : List Int) (F : Hp) (v : V), vs = [.int n, .int S, v] ∧ (NSm n S m ∧ st.length = m ∧ ∀ k ∈ st, 0 ≤ k ∧ k < (S : Int)) ∧ Ex F H ∧ Rp K F v (.list (st.map .int)) ∧ ∀ F2 H2, Step none F H F2 H2 → Q .non H2
theorem ok_frame {f fS fW : Addr} {fd fdS fdW : FuncData} (Fn : Fun K "_check_frame" "_check_frame" s_check_frame f fd) (T : Tx mg) {tH tS tV : Tok} (c_MOST_HOUSES : mg "MOST_HOUSES" = some (.int 5 tH)) (c_MOST_STATES : mg "MOST_STATES" = some (.int 40 tS)) (c_MOST_VALUES : mg "MOST_VALUES" = some (.int 4 tV))
    (F_is_sequence : Fun K "is_sequence" "is_sequence" s_is_sequence fS fdS) (b_is_sequence : Binds K fdS ["thing"] []) (g_is_sequence : mg "is_sequence" = some (.ref fS))
    (F_is_whole : FunW K fW fdW) (b_is_whole : Binds K fdW ["thing", "low", "high"] []) (g_is_whole : mg "is_whole" = some (.ref fW)) : FnOk P w K mg base CX0 2 f fd ["houses", "states", "start"] (spFrame K) := by
  have G_is_sequence : FnOk P w K mg base CX0 1 fS fdS ["thing"] (spSeq K) := ok_seq F_is_sequence T
  have G_is_whole : FnOk P w K mg base CX0 1 fW fdW ["thing", "low", "high"] (spWhole K) := ok_whole F_is_whole T
  refine Fn.ok sc_check_frame (fun vs H Q E ⟨_, _, _, _, _, _, h, _⟩ => by rw [h]; rfl) (fun cdv A outer s H vs Q E hr h => ?_)
  obtain ⟨n, S, m, st, F, v, rfl, ⟨nm, hst, hstb⟩, e, hv, q⟩ := h
  obtain ⟨n2, n5, S1, S40, m1, m4⟩ := nm
  refine ⟨_, (pss_cons (ps_if (pt_not (pt_val (pe_call G_is_whole (hr.mono (by decide)) (by rfl) g_is_whole F_is_whole.kp b_is_whole .nil pass0 (pa_cons (pv 0) (pa_cons pe_int (pa_cons (pe_glob (v := .int 5) (by rfl) c_MOST_HOUSES ⟨_, rfl⟩) pa_nil)))))) (pss_one ps_never) pss_nil)
    (pss_cons (ps_if (pt_not (pt_val (pe_call G_is_whole (hr.mono (by decide)) (by rfl) g_is_whole F_is_whole.kp b_is_whole .nil pass0 (pa_cons (pv 1) (pa_cons pe_int (pa_cons (pe_glob (v := .int 40) (by rfl) c_MOST_STATES ⟨_, rfl⟩) pa_nil)))))) (pss_one ps_never) pss_nil)
    (pss_cons (ps_if (PW.pt (pw_or (pt_not (pt_val (pe_call G_is_sequence (hr.mono (by decide)) (by rfl) g_is_sequence F_is_sequence.kp b_is_sequence .nil pass0 (pa_cons (pv 2) pa_nil)))) (pw_or1 (pt_not (pt_chain op_le op_le pe_int (pe_callB (c_len (K := K)) (by rfl) T.len (by decide +kernel) (pa_cons (pv 2) pa_nil)) (pe_glob (v := .int 4) (by rfl) c_MOST_VALUES ⟨_, rfl⟩)))))) (pss_one ps_never) pss_nil)
    (pss_one (ps_for PassesOwn.never rfl (pi_range1 (by rfl) T.range (pa_cons (pe_callB (c_len (K := K)) (by rfl) T.len (by decide +kernel) (pa_cons (pv 2) pa_nil)) pa_nil)) (pg_name (i := 3) sc_check_frame.nd rfl (by first | exact Or.inl rfl | exact Or.inr rfl)) (pss_one (ps_if (pt_not (pt_val (pe_call G_is_whole (hr.mono (by decide)) (by rfl) g_is_whole F_is_whole.kp b_is_whole .nil pass0 (pa_cons (pe_ix (o_ixL (K := K)) (pv 2) (pv 3) (fun _ _ => rfl)) (pa_cons pe_int (pa_cons (pe_op op_sub (pv 1) pe_int) pa_nil)))))) (pss_one ps_never) pss_nil))))))), ?_⟩
  have gm : ∀ {σ' : L2.St} {F' : Hp}, σ'[1]? = some (some (.int (S : Int))) → EvG K none (tVar 1) σ' F' (Is (.int (S : Int))) := fun h => g_var (v := .int S) h (.int _)
  refine t_skip (Step.refl e .nil) ((et_not (b := true) ((et_B (g_call (.int n, some 2, some 5) (gs_three (g_var (v := .int n) rfl (.int _)) g_int g_int) rfl trivial)).is ?_)).is rfl) fun F1 H1 s1 e1 => ?_
  · simp only [isWhole, loOk, hiOk, Bool.and_eq_true, decide_eq_true_eq]; omega
  refine t_skip s1 ((et_not (b := true) ((et_B (g_call (.int S, some 1, some 40) (gs_three (gm rfl) g_int g_int) rfl trivial)).is ?_)).is rfl) fun F2 H2 s2 e2 => ?_
  · simp only [isWhole, loOk, hiOk, Bool.and_eq_true, decide_eq_true_eq]; omega
  have hv2 := Rp.mono (e1.trans e2) _ _ hv
  have hl : (st.map PyData.int).length = m := by rw [List.length_map, hst]
  have gl : EvG K none (tCB (Fv.rLen K) (tCons (tVar 2) tNil)) [some (.int (n : Int)), some (.int (S : Int)), some v, none] F2 (Is (.int (m : Int))) := (g_cbI (gs_one (g_var rfl hv2)) (rc_lenS (.inl rfl))).is (by rw [hl])
  refine t_skip s2 (et_or (a := false) (b := false) (et_not (b := true) (et_B (g_call (PyData.list (st.map PyData.int)) (gs_one (g_var rfl hv2)) rfl trivial))) fun _ => et_not (b := true) (et_of (K := K) (g_chain (b := true) g_int gl g_int (rv_imp (rv_bl (g := fun i j => decide (i ≤ j))) fun z hz => by rw [hz]; simp; omega) (fun _ => rv_imp (rv_bl (g := fun i j => decide (i ≤ j))) fun z hz => by rw [hz]; simp; omega) fun hb => by cases hb))) fun F3 H3 s3 e3 => ?_
  have hv3 := Rp.mono e3 _ _ hv2
  refine t_for1 (K := K) (ds := rng 0 m) s3 (w_rng1I (n := (m : Int)) (gs_one ((g_cbI (gs_one (g_var rfl hv3)) (rc_lenS (.inl rfl))).is (by rw [hl]))) (by omega) (by omega)) (fun i σ' F' => ∃ y, σ' = [some (.int (n : Int)), some (.int (S : Int)), some v, y]) (fun F2 e2 => ⟨_, rfl⟩) (fun i d hd σ' F4 H4 u hI s4 e4 hu N hN => ?_) (fun σ' F4 H4 hI s4 e4 => q F4 H4 s4)
  obtain ⟨y, rfl⟩ := hI
  rw [rng_nat] at hd
  have hi : i < m := by have := (List.getElem?_eq_some_iff.mp hd).1; simpa using this
  have ed : d = natD i := by
    rw [List.getElem?_map, List.getElem?_range hi] at hd
    exact (Option.some.inj hd).symm
  subst ed
  have hil : i < st.length := by omega
  have hb := hstb _ (List.getElem_mem hil)
  refine t_if1 (b := false) s4 (et_not (b := true) (et_B (K := K) ((g_call (.int st[i], some 0, some ((S : Int) - 1)) (gs_three (g_opI (g_var rfl (Rp.mono e4 _ _ hv3)) (g_var rfl hu) (rv_ixL (d := .int st[i]) (atI_nat ?_))) g_int (g_opI (g_var (v := .int S) rfl (.int _)) g_int rv_sub)) rfl trivial).is ?_))) (fun z => by cases z) fun _ F5 H5 s5 e5 => hN _ F5 H5 ⟨_, rfl⟩ s5 e5
  · rw [List.getElem?_map, List.getElem?_eq_getElem hil]; rfl
  · simp only [isWhole, loOk, hiOk]; simp; omega
/-! a row of the others' marks, a move, a place -/
abbrev spIsRow (K : PySem.W.Frag) : Sp := PSp K (fun i : Nat × ORow => [.int i.1, dO i.2]) (fun i => i.2.length + 1 = i.1 ∧ i.1 ≤ 5 ∧ ∀ o ∈ i.2, ∀ k, o = some k → 0 ≤ k ∧ k < 40) (fun _ => .bool true)
theorem ok_isrow {f fS fW : Addr} {fd fdS fdW : FuncData} (Fn : Fun K "_is_row" "_is_row" s_is_row f fd) (T : Tx mg) {tS : Tok} (c_MOST_STATES : mg "MOST_STATES" = some (.int 40 tS))
    (F_is_sequence : Fun K "is_sequence" "is_sequence" s_is_sequence fS fdS) (b_is_sequence : Binds K fdS ["thing"] []) (g_is_sequence : mg "is_sequence" = some (.ref fS))
    (F_is_whole : FunW K fW fdW) (b_is_whole : Binds K fdW ["thing", "low", "high"] []) (g_is_whole : mg "is_whole" = some (.ref fW)) : FnOk P w K mg base CX0 2 f fd ["houses", "others"] (spIsRow K) := by
  have G_is_sequence : FnOk P w K mg base CX0 1 fS fdS ["thing"] (spSeq K) := ok_seq F_is_sequence T
  have G_is_whole : FnOk P w K mg base CX0 1 fW fdW ["thing", "low", "high"] (spWhole K) := ok_whole F_is_whole T
  refine Fn.ok sc_is_row (PSp.len (fun _ => rfl)) (fun cdv A outer s H vs Q E hr h => ?_)
  obtain ⟨⟨n, os⟩, F, ⟨hl, h5, hc⟩, e, ha, q⟩ := h
  replace hl : os.length + 1 = n := hl
  replace h5 : n ≤ 5 := h5
  obtain ⟨v1, v2, rfl, hv1, hv2⟩ := rpAll2 ha
  refine ⟨_, (pss_cons (ps_if (PW.pt (pw_or (pt_not (pt_val (pe_call G_is_sequence (hr.mono (by decide)) (by rfl) g_is_sequence F_is_sequence.kp b_is_sequence .nil pass0 (pa_cons (pv 1) pa_nil)))) (pw_or1 (pt_cmpR op_ne (pe_callB (c_len (K := K)) (by rfl) T.len (by decide +kernel) (pa_cons (pv 1) pa_nil)) (pe_op op_sub (pv 0) pe_int) (nomark _))))) (pss_one (ps_ret pe_bl)) pss_nil)
    (pss_one (ps_ret (pe_callB (c_all (K := K)) (by rfl) T.all (by decide +kernel) (pa_cons (pe_lc (own := [("cell", 2)]) (g := gName 2) rfl sc_is_row.nd (i_tup (K := K) (pv 1)) (blkOk_by (own := [("cell", 2)]) (N := ["houses", "others", "cell"]) (sc := (defScope s_is_row)) (by decide +kernel)) (fun _ _ _ _ _ => pg_name (i := 2) sc_is_row.nd rfl (by first | exact Or.inl rfl | exact Or.inr rfl)) (fun _ _ _ _ _ => pts_nil) (fun _ _ _ _ _ => (pe_or (pe_cmpR op_isN (pv 2) pe_non (nomark _)) (pe_one (pe_call G_is_whole (hr.mono (by decide)) (by rfl) g_is_whole F_is_whole.kp b_is_whole .nil pass0 (pa_cons (pv 2) (pa_cons pe_int (pa_cons (pe_op op_sub (pe_glob (v := .int 40) (by rfl) c_MOST_STATES ⟨_, rfl⟩) pe_int) pa_nil)))))))) pa_nil))))), ?_⟩
  refine t_skip (Step.refl e .nil) (et_or (a := false) (b := false) (et_not (b := true) (et_B (g_call (dO os) (gs_one (g_var rfl hv2)) rfl trivial))) fun _ => (et_of (K := K) (g_opI (g_cbI (gs_one (g_var rfl hv2)) rc_lenT) (g_opI (g_var rfl hv1) g_int rv_sub) rv_neI)).is (by rw [List.length_map]; simp; omega)) fun F2 H2 s2 e2 => ?_
  refine t_retI (K := K) s2 ((g_cbI (gs_one (g_lcEM optD os (fun _ => .bool true) (w_tupI (g_var rfl (Rp.mono e2 _ _ hv2))) (by omega) (fun _ => rfl) fun o ho F' e' y hy => ?_)) (rc_allM os fun _ => true)).is (by simp)) q
  refine (g_orV (a := o.isNone) (b := true) (g_opI (g_var rfl hy) g_non rv_isO) fun hb => ?_).is (by simp)
  cases o with
  | none => cases hb
  | some k =>
    have := hc _ ho k rfl
    refine (g_call (.int k, some 0, some (40 - 1)) (gs_three (g_var rfl hy) g_int (g_opI g_int g_int rv_sub)) rfl trivial).is ?_
    simp only [isWhole, loOk, hiOk]; simp; omega
abbrev spIsMove (K : PySem.W.Frag) : Sp := PSp K (fun i : Nat × Nat × Mw => [.int i.1, .int i.2.1, mwD i.2.2]) (fun i => MwOk i.1 i.2.1 i.2.2) (fun _ => .bool true)
theorem ok_ismove {f fS fW : Addr} {fd fdS fdW : FuncData} (Fn : Fun K "_is_move" "_is_move" s_is_move f fd) (T : Tx mg)
    (F_is_sequence : Fun K "is_sequence" "is_sequence" s_is_sequence fS fdS) (b_is_sequence : Binds K fdS ["thing"] []) (g_is_sequence : mg "is_sequence" = some (.ref fS))
    (F_is_whole : FunW K fW fdW) (b_is_whole : Binds K fdW ["thing", "low", "high"] []) (g_is_whole : mg "is_whole" = some (.ref fW)) : FnOk P w K mg base CX0 2 f fd ["states", "values", "move"] (spIsMove K) := by
  have G_is_sequence : FnOk P w K mg base CX0 1 fS fdS ["thing"] (spSeq K) := ok_seq F_is_sequence T
  have G_is_whole : FnOk P w K mg base CX0 1 fW fdW ["thing", "low", "high"] (spWhole K) := ok_whole F_is_whole T
  refine Fn.ok sc_is_move (PSp.len (fun _ => rfl)) (fun cdv A outer s H vs Q E hr h => ?_)
  obtain ⟨⟨S, m, mw⟩, F, hok, e, ha, q⟩ := h
  replace hok : MwOk S m mw := hok
  obtain ⟨v1, v2, v3, rfl, hv1, hv2, hv3⟩ := rpAll3 ha
  refine ⟨_, (pss_cons (ps_if (pt_not (pt_val (pe_call G_is_sequence (hr.mono (by decide)) (by rfl) g_is_sequence F_is_sequence.kp b_is_sequence .nil pass0 (pa_cons (pv 2) pa_nil)))) (pss_one (ps_ret (pe_call G_is_whole (hr.mono (by decide)) (by rfl) g_is_whole F_is_whole.kp b_is_whole .nil pass0 (pa_cons (pv 2) (pa_cons pe_int (pa_cons (pe_op op_sub (pv 0) pe_int) pa_nil)))))) pss_nil)
    (pss_one (ps_ret (pe_and (pe_cmpR op_eq (pe_callB (c_len (K := K)) (by rfl) T.len (by decide +kernel) (pa_cons (pv 2) pa_nil)) pe_int (nomark _)) (pe_and (pe_cmpR op_eq (pe_ix (o_ixT (K := K)) (pv 2) pe_int (fun _ _ => rfl)) pe_str (nomark _)) (pe_one (pe_call G_is_whole (hr.mono (by decide)) (by rfl) g_is_whole F_is_whole.kp b_is_whole .nil pass0 (pa_cons (pe_ix (o_ixT (K := K)) (pv 2) pe_int (fun _ _ => rfl)) (pa_cons pe_int (pa_cons (pe_op op_sub (pv 1) pe_int) pa_nil)))))))))), ?_⟩
  cases mw with
  | inl s =>
    obtain ⟨h0, h1⟩ := hok
    refine t_when (b := true) (Step.refl e .nil) (et_not (b := false) (et_B (g_call (PyData.int s) (gs_one (g_var rfl hv3)) rfl trivial))) (fun _ F2 H2 s2 e2 => ?_) (fun z => by cases z)
    refine t_retI (K := K) s2 ((g_call (.int s, some 0, some ((S : Int) - 1)) (gs_three (g_var rfl (Rp.mono e2 _ _ hv3)) g_int (g_opI (g_var rfl (Rp.mono e2 _ _ hv1)) g_int rv_sub)) rfl trivial).is ?_) q
    simp only [isWhole, loOk, hiOk]; simp; omega
  | inr k =>
    obtain ⟨h0, h1⟩ := hok
    refine t_skip (Step.refl e .nil) (et_not (b := true) (et_B (g_call (mvT k) (gs_one (g_var rfl hv3)) rfl trivial))) fun F2 H2 s2 e2 => ?_
    have hv32 := Rp.mono e2 _ _ hv3
    refine t_retI (K := K) s2 ((g_andV (a := true) (b := true) ((g_opI (g_cbI (gs_one (g_var rfl hv32)) rc_lenT) g_int rv_eqI).is (by simp)) fun _ => (g_andV (a := true) (b := true) ((g_opI (g_opI (g_var rfl hv32) g_int (rv_ixT (d := .str "done") (atI_nat (j := 0) rfl))) g_str rv_eqS).is (by simp)) fun _ => (g_call (.int k, some 0, some ((m : Int) - 1)) (gs_three (g_opI (g_var rfl hv32) g_int (rv_ixT (d := .int k) (atI_nat (j := 1) rfl))) g_int (g_opI (g_var rfl (Rp.mono e2 _ _ hv2)) g_int rv_sub)) rfl trivial).is ?_).is (by simp)).is (by simp)) q
    simp only [isWhole, loOk, hiOk]; simp; omega
abbrev spPlace (K : PySem.W.Frag) : Sp := PSp K (fun x : Int × ORow => [.int x.1, dO x.2]) (fun x => x.2.length ≤ 60) (fun x => .tuple (placeK x.1 x.2))
theorem ok_place {f : Addr} {fd : FuncData} (Fn : Fun K "_place_of" "_place_of" s_place_of f fd) (T : Tx mg) : FnOk P w K mg base CX0 1 f fd ["state", "others"] (spPlace K) := by
  refine Fn.ok sc_place_of (PSp.len (fun _ => rfl)) (fun cdv A outer s H vs Q E hr h => ?_)
  obtain ⟨⟨st, vw⟩, F, hz, e, ha, q⟩ := h
  replace hz : vw.length ≤ 60 := hz
  obtain ⟨v1, v2, rfl, hv1, hv2⟩ := rpAll2 ha
  refine ⟨_, (pss_one (ps_ret (pe_tup (pa_cons (pv 0) (pa_cons (pe_callTy (c_tup (K := K)) (by rfl) T.tuple (by decide +kernel) (pa_cons (pe_lc (own := [("cell", 2)]) (g := gName 2) rfl sc_place_of.nd (i_tup (K := K) (pv 1)) (blkOk_by (own := [("cell", 2)]) (N := ["state", "others", "cell"]) (sc := (defScope s_place_of)) (by decide +kernel)) (fun _ _ _ _ _ => pg_name (i := 2) sc_place_of.nd rfl (by first | exact Or.inl rfl | exact Or.inr rfl)) (fun _ _ _ _ _ => pts_nil) (fun _ _ _ _ _ => (pe_ifExp (pt_cmpR op_isN (pv 2) pe_non (nomark _)) (pe_un un_neg pe_int) (pv 2)))) pa_nil)) pa_nil))))), ?_⟩
  refine t_retI (K := K) (Step.refl e .nil) ((g_tupI (gs_two (g_var rfl hv1) ((g_cbI (gs_one (g_lcEM optD vw (fun o => .int (o.getD (-1))) (w_tupI (g_var rfl hv2)) (by omega) (fun _ => rfl) fun o ho F' e' y hy => ?_)) rc_tupL))) (by simp)).is ?_) q
  · refine g_ifX (b := o.isNone) (et_of (g_opI (g_var rfl hy) g_non rv_isO)) (fun hb => ?_) fun hb => ?_
    · cases o with
      | none => exact g_un1 g_int
      | some k => cases hb
    · cases o with
      | none => cases hb
      | some k => exact g_var rfl hy
  · show PyData.tuple _ = PyData.tuple [.int st, .tuple ((rankV vw).map PyData.int)]
    unfold rankV
    rw [List.map_map]; rfl
/-! what is wrong with a move: nothing, if its place is new -/
def spEF (P : Program) (w : World) (K : PySem.W.Frag) : Sp := fun vs H Q _ => ∃ (n S m : Nat) (x : Ent) (Df : Addr) (xs : List NEnt) (F : Hp) (v : V), vs = [.int n, .int S, .int m, v, .ref Df] ∧ (NSm n S m ∧ EntOk n S m x) ∧ Ex F H ∧ Rp K F v (entD x) ∧ ND P w K H Df xs ∧ atN xs (nk (.tuple (placeK x.1 x.2.1))) = none ∧
  ∀ u F2 H2, Step none F H F2 H2 → Rp K F2 u .none → Q u H2
theorem et_inNo {i : Nat} {ks : List PyData} (h : EvG K none te σ F (Is (.tuple ks))) (hb : kb (.tuple ks) = true) (hd : (nk (.tuple ks)).depth ≤ 8) (h0 : σ[i]? = some (some (.ref l))) (nd : ND P w K H l xs) (hn : atN xs (nk (.tuple ks)) = none) (e : Ex F H) {Q : Bool → Hp → Prop} (q : ∀ F2 H2, Step none F H F2 H2 → Q false H2) :
    tTest (tOp (rInN P w K false) te (tVar i)) σ H Q := h H e .nil _ fun d v F2 H2 hd' s hv => ⟨_, h0, by
  subst hd'
  obtain ⟨a, ys, rfl, hl, ha⟩ := rp_tup hv
  have ex : Ex H H2 := fun a o ho => s.keep.ex a o ho
  refine ⟨l, xs, _, a, rfl, rfl, nd.mono ex, KeyOk.mono s.inn ⟨_, hv, hb, rfl, hd⟩, _, rfl, ?_⟩
  rw [hn]
  exact q F2 H2 s⟩
theorem ok_ef {f fS fW fR fM fP : Addr} {fd fdS fdW fdR fdM fdP : FuncData} (Fn : Fun K "_entry_fault" "_entry_fault" s_entry_fault f fd) (T : Tx mg) {tS : Tok} (c_MOST_STATES : mg "MOST_STATES" = some (.int 40 tS))
    (F_is_sequence : Fun K "is_sequence" "is_sequence" s_is_sequence fS fdS) (b_is_sequence : Binds K fdS ["thing"] []) (g_is_sequence : mg "is_sequence" = some (.ref fS))
    (F_is_whole : FunW K fW fdW) (b_is_whole : Binds K fdW ["thing", "low", "high"] []) (g_is_whole : mg "is_whole" = some (.ref fW))
    (F_is_row : Fun K "_is_row" "_is_row" s_is_row fR fdR) (b_is_row : Binds K fdR ["houses", "others"] []) (g_is_row : mg "_is_row" = some (.ref fR))
    (F_is_move : Fun K "_is_move" "_is_move" s_is_move fM fdM) (b_is_move : Binds K fdM ["states", "values", "move"] []) (g_is_move : mg "_is_move" = some (.ref fM))
    (F_place_of : Fun K "_place_of" "_place_of" s_place_of fP fdP) (b_place_of : Binds K fdP ["state", "others"] []) (g_place_of : mg "_place_of" = some (.ref fP)) :
    FnOk P w K mg base CX0 3 f fd ["houses", "states", "values", "row", "found"] (spEF P w K) := by
  have G_is_sequence : FnOk P w K mg base CX0 1 fS fdS ["thing"] (spSeq K) := ok_seq F_is_sequence T
  have G_is_whole : FnOk P w K mg base CX0 1 fW fdW ["thing", "low", "high"] (spWhole K) := ok_whole F_is_whole T
  have G_is_row : FnOk P w K mg base CX0 2 fR fdR ["houses", "others"] (spIsRow K) := ok_isrow F_is_row T c_MOST_STATES F_is_sequence b_is_sequence g_is_sequence F_is_whole b_is_whole g_is_whole
  have G_is_move : FnOk P w K mg base CX0 2 fM fdM ["states", "values", "move"] (spIsMove K) := ok_ismove F_is_move T F_is_sequence b_is_sequence g_is_sequence F_is_whole b_is_whole g_is_whole
  have G_place_of : FnOk P w K mg base CX0 1 fP fdP ["state", "others"] (spPlace K) := ok_place F_place_of T
  refine Fn.ok sc_entry_fault (fun vs H Q E ⟨_, _, _, _, _, _, _, _, h, _⟩ => by rw [h]; rfl) (fun cdv A outer s H vs Q E hr h => ?_)
  obtain ⟨n, S, m, x, Df, xs, F, v, rfl, ⟨nm, ok⟩, e, hv, nd, hnew, q⟩ := h
  have n5 := nm.n5
  have S40 := nm.S40
  obtain ⟨s0, s1', ln, hc, hmv⟩ := ok
  refine ⟨_, (pss_cons (ps_if (PW.pt (pw_or (pt_not (pt_val (pe_call G_is_sequence (hr.mono (by decide)) (by rfl) g_is_sequence F_is_sequence.kp b_is_sequence .nil pass0 (pa_cons (pv 3) pa_nil)))) (pw_or1 (pt_cmpR op_ne (pe_callB (c_len (K := K)) (by rfl) T.len (by decide +kernel) (pa_cons (pv 3) pa_nil)) pe_int (nomark _))))) (pss_one (ps_ret pe_str)) pss_nil)
    (pss_cons (ps_if (pt_not (pt_val (pe_call G_is_whole (hr.mono (by decide)) (by rfl) g_is_whole F_is_whole.kp b_is_whole .nil pass0 (pa_cons (pe_ix (o_ixT (K := K)) (pv 3) pe_int (fun _ _ => rfl)) (pa_cons pe_int (pa_cons (pe_op op_sub (pv 1) pe_int) pa_nil)))))) (pss_one (ps_ret pe_str)) pss_nil)
    (pss_cons (ps_if (pt_not (pt_val (pe_call G_is_row (hr.mono (by decide)) (by rfl) g_is_row F_is_row.kp b_is_row .nil pass0 (pa_cons (pv 0) (pa_cons (pe_ix (o_ixT (K := K)) (pv 3) pe_int (fun _ _ => rfl)) pa_nil))))) (pss_one (ps_ret pe_str)) pss_nil)
    (pss_cons (ps_if (pt_not (pt_val (pe_call G_is_move (hr.mono (by decide)) (by rfl) g_is_move F_is_move.kp b_is_move .nil pass0 (pa_cons (pv 1) (pa_cons (pv 2) (pa_cons (pe_ix (o_ixT (K := K)) (pv 3) pe_int (fun _ _ => rfl)) pa_nil)))))) (pss_one (ps_ret pe_str)) pss_nil)
    (pss_cons (ps_if (pt_cmpR (o_inN (P := P) (w := w) (K := K) (hu65 hr)) (pe_call G_place_of (hr.mono (by decide)) (by rfl) g_place_of F_place_of.kp b_place_of .nil pass0 (pa_cons (pe_ix (o_ixT (K := K)) (pv 3) pe_int (fun _ _ => rfl)) (pa_cons (pe_ix (o_ixT (K := K)) (pv 3) pe_int (fun _ _ => rfl)) pa_nil))) (pv 4) (by rfl)) (pss_one (ps_ret pe_str)) pss_nil)
    (pss_one (ps_ret pe_non))))))), ?_⟩
  have gm : ∀ {σ' : L2.St} {F' : Hp}, σ'[1]? = some (some (.int (S : Int))) → EvG K none (tVar 1) σ' F' (Is (.int (S : Int))) := fun h => g_var (v := .int S) h (.int _)
  have gr : ∀ {σ' : L2.St} {F' : Hp} {j : Nat} {d : PyData}, Ex F F' → σ'[3]? = some (some v) → [PyData.int x.1, dO x.2.1, mwD x.2.2][j]? = some d → EvG K none (tOp (rIxT K) (tVar 3) (tC (.int (j : Int)))) σ' F' (Is d) := fun {σ' F' j d} ee h hj => g_opI (g_var h (Rp.mono ee _ _ hv)) g_int (rv_ixT (atI_nat hj))
  refine t_skip (Step.refl e .nil) (et_or (a := false) (b := false) (et_not (b := true) (et_B (g_call (entD x) (gs_one (g_var rfl hv)) rfl trivial))) fun _ => (et_of (K := K) (g_opI (g_cbI (gs_one (g_var rfl hv)) rc_lenT) g_int rv_neI)).is (by simp)) fun F2 H2 s2 e2 => ?_
  refine t_skip s2 (et_not (b := true) (et_B ((g_call (.int x.1, some 0, some ((S : Int) - 1)) (gs_three (gr (j := 0) e2 rfl rfl) g_int (g_opI (gm rfl) g_int rv_sub)) rfl trivial).is ?_))) fun F3 H3 s3 e3 => ?_
  · simp only [isWhole, loOk, hiOk]; simp; omega
  have e23 := e2.trans e3
  refine t_skip s3 (et_not (b := true) (et_B (g_call (n, x.2.1) (gs_two (g_var (v := .int n) rfl (.int _)) (gr (j := 1) e23 rfl rfl)) rfl ⟨ln, n5, hc⟩))) fun F4 H4 s4 e4 => ?_
  have e24 := e23.trans e4
  refine t_skip s4 (et_not (b := true) (et_B (g_call (S, m, x.2.2) (gs_three (gm rfl) (g_var (v := .int m) rfl (.int _)) (gr (j := 2) e24 rfl rfl)) rfl hmv))) fun F5 H5 s5 e5 => ?_
  have e25 := e24.trans e5
  have ex5 : Ex H H5 := fun a o ho => s5.keep.ex a o ho
  refine t_skipA (pt := none) (F := F5) (fun Q q => et_inNo (K := K) (g_call (x.1, x.2.1) (gs_two (gr (j := 0) e25 rfl rfl) (gr (j := 1) e25 rfl rfl)) rfl (by show x.2.1.length ≤ 60; omega)) (kb_place x.1 x.2.1).1 (kb_place x.1 x.2.1).2 rfl (nd.mono ex5) hnew s5.inn q) fun F6 H6 s6 => ?_
  exact t_retI (K := K) (s5.trans s6) g_non q
end
end KD

namespace KD
open PySem PySem.Spec PyProof.Rows L2 L2H Fv Evl StX
abbrev s_kept_moves : Stmt := topS 17
theorem sc_kept_moves : FnScope ["houses", "states", "values", "moves", "found", "index", "what", "state", "others", "move", "place"] ["houses", "states", "values", "moves"] (defScope s_kept_moves) := ⟨rfl, rfl, rfl, by decide +kernel, rfl, by decide +kernel, by decide +kernel⟩
def plD (x : Ent) : PyData := .tuple (placeK x.1 x.2.1)
def movesB (x : Ent) : Bool := !decide (x.2.2 = .inl x.1)
/-- the entries that say more than staying, by their places -/
def keptE (es : List Ent) : List Ent := (es.mergeSort (PySem.W.dataLe false plD)).filter movesB
theorem sortD_map {α : Type} (f : α → PyData) (l : List α) : sortD (l.map f) = (l.mergeSort (PySem.W.dataLe false f)).map f := by
  have := PySem.W.sort_maps (s := PySem.W.dataLe false id) (l := l) f (r := PySem.W.dataLe false f) fun _ _ _ _ => rfl
  exact this.symm
theorem kept_mem {es : List Ent} {x : Ent} : x ∈ keptE es ↔ x ∈ es ∧ movesB x = true := by
  unfold keptE
  rw [List.mem_filter, (List.mergeSort_perm es _).mem_iff]
theorem canSort_places (es : List Ent) (hz : ∀ x ∈ es, x.2.1.length ≤ 60) : CanSort (es.map plD) := by
  refine ⟨PySem.W.AllAlike.of fun b b' => ?_, .inl fun d hd => ?_, fun d hd => ?_⟩
  · simp only [plD, placeK, dT, PySem.W.alike, PySem.W.alikeAll, PySem.W.alike_ints]; rfl
  · obtain ⟨g, hg, rfl⟩ := List.mem_map.mp hd
    exact ⟨_, _, rfl⟩
  · obtain ⟨g, _, rfl⟩ := List.mem_map.mp hd
    have := depth_dT (rankV g.2.1)
    simp only [plD, placeK, PyData.depth, PyData.depthAll] at this ⊢
    omega
theorem shaped_mwD (k : Mw) : SeqAt.shaped (mwD k) = true := by
  cases k with
  | inl s => rfl
  | inr v =>
    refine shaped_of ?_ ?_
    · simp [mwD, mvT, PyData.canLay0, PyData.canLayAll0]
      decide +kernel
    · simp [mwD, mvT, PyData.depth, PyData.depthAll]
theorem eqv_mw (k : Mw) (s : Int) : PyData.eqv (mwD k) (.int s) = decide (k = .inl s) := by
  cases k with
  | inl j => by_cases h : j = s <;> simp [mwD, PyData.eqv, h]
  | inr v => simp [mwD, mvT, PyData.eqv]
theorem lv2_ent (x : Ent) (h : x.2.1.length ≤ 60) : lv2 (entD x) := by
  refine ⟨by simp, fun d hd => ?_⟩
  simp only [List.mem_cons, List.not_mem_nil, or_false] at hd
  rcases hd with rfl | rfl | rfl
  · rfl
  · exact ⟨by rw [List.length_map]; omega, fun d hd => by
      obtain ⟨k, _, rfl⟩ := List.mem_map.mp hd
      cases k <;> rfl⟩
  · cases x.2.2 with
    | inl s => rfl
    | inr v => exact ⟨by simp, fun d hd => by
        simp only [List.mem_cons, List.not_mem_nil, or_false] at hd
        rcases hd with rfl | rfl <;> rfl⟩
/-- entries of which no two have one place -/
structure EntsOk (n S m : Nat) (es : List Ent) : Prop where
  ok : ∀ x ∈ es, EntOk n S m x
  nd : (es.map fun x => (x.1, x.2.1)).Nodup
  few : es.length ≤ 10000
theorem EntsOk.pl {n S m : Nat} {es : List Ent} (h : EntsOk n S m es) : (es.map plD).Nodup := by
  have := h.nd
  unfold List.Nodup at this ⊢
  rw [List.pairwise_map] at this ⊢
  refine List.Pairwise.imp_of_mem (fun {a b} ha hb hab e => ?_) this
  have e2 : placeK a.1 a.2.1 = placeK b.1 b.2.1 := by injection e
  obtain ⟨h1, h2⟩ := place_inj (fun o ho k hk => ((h.ok a ha).cells o ho k hk).1) (fun o ho k hk => ((h.ok b hb).cells o ho k hk).1) e2
  exact hab (by rw [h1, h2])
section
variable {P : Program} {w : World} {K : PySem.W.Frag} {mg : Str → Option Value} {base : Heap}
variable {pt : Option Pt} {σ : L2.St} {F F' F0 H0 H F2 H2 : Hp} {te ta tb ty td : TE} {ts tr : TA} {t : TT} {wi : TI} {D : Ends} {tz tu tw : TS} {l a : Addr} {xs : List NEnt}
theorem t_forHR {j : Nat} {RS : List PyData → Prop} (i0 : Ex F H) (g : Good pt F H) (hw : WiG K pt wi σ F RS) (I : List PyData → Nat → L2.St → Hp → Hp → Prop) (h0 : ∀ ds, RS ds → ∀ F1 H1, Step pt F H F1 H1 → I ds 0 σ F1 H1) (hI : ∀ ds i σ' F' H', I ds i σ' F' H' → Ex F' H')
    (hs : ∀ ds, RS ds → ∀ i d, ds[i]? = some d → ∀ σ' F' H' x, I ds i σ' F' H' → Ex F F' → Rp K F' x d →
      ∀ N : L2.St → Hp → Prop, (∀ σ2 F2 H2, I ds (i + 1) σ2 F2 H2 → Ex F' F2 → N σ2 H2) → tu { D with nx := N, ct := N, bk := tz D } (σ'.set j (some x)) H')
    (hd : ∀ ds, RS ds → ∀ σ' F' H', I ds ds.length σ' F' H' → Ex F F' → tz D σ' H') : tSeq (tFor wi (gName j) tu) tz D σ H :=
  hw H i0 g _ fun ds' J F1 H1 e s1 Y => by
    refine ⟨fun i m σ' H' => m = ds'.length - i ∧ i ≤ ds'.length ∧ ∃ F', I ds' i σ' F' H' ∧ Ex F1 F', ⟨ds'.length, by simp, Nat.zero_le _, F1, h0 ds' e F1 H1 s1, Ex.refl _⟩, ?_⟩
    rintro i m σ' H' ⟨rfl, hil, F', p, e'⟩
    have eH : Ex F1 H' := e'.trans (hI ds' i σ' F' H' p)
    by_cases hlt : i < ds'.length
    · refine .inr ⟨Y.go i H' eH hlt, fun σ2 H2 => ∃ F2, I ds' (i + 1) σ2 F2 H2 ∧ Ex F1 F2, fun σ2 H2 ⟨F2, a, b⟩ => ⟨ds'.length - (i + 1), by omega, rfl, hlt, F2, a, b⟩, fun x H2 y => ?_⟩
      obtain ⟨rfl, d, hdd, hx⟩ := Y.yld i H' x H2 eH hlt y
      exact hs ds' e i d hdd σ' F' _ x p (s1.sub.trans e') (Rp.mono e' _ _ hx) _ fun σ2 F2 H2 a b => ⟨F2, a, e'.trans b⟩
    · have hE : i = ds'.length := Nat.le_antisymm hil (Nat.le_of_not_lt hlt)
      subst hE
      exact .inl ⟨Y.stop H' eH, hd ds' e σ' F' H' p (s1.sub.trans e')⟩
theorem rpAll4 {F : Hp} {vs : List V} {d e g j : PyData} (h : RpAll K F vs [d, e, g, j]) : ∃ v x y z, vs = [v, x, y, z] ∧ Rp K F v d ∧ Rp K F x e ∧ Rp K F y g ∧ Rp K F z j := by
  cases h with
  | cons h1 h2 =>
    obtain ⟨x, y, z, rfl, hx, hy, hz⟩ := rpAll3 h2
    exact ⟨_, x, y, z, rfl, h1, hx, hy, hz⟩
def spKept (K : PySem.W.Frag) : Sp := PSp K (fun i : Nat × Nat × Nat × List Ent => [.int i.1, .int i.2.1, .int i.2.2.1, .list (i.2.2.2.map entD)]) (fun i => NSm i.1 i.2.1 i.2.2.1 ∧ EntsOk i.1 i.2.1 i.2.2.1 i.2.2.2) (fun i => .tuple ((keptE i.2.2.2).map entD))
theorem ok_kept {f fE fA fP : Addr} {fd fdE fdA fdP : FuncData} (Fn : Fun K "_kept_moves" "_kept_moves" s_kept_moves f fd) (T : Tx mg)
    (F_entry_fault : Fun K "_entry_fault" "_entry_fault" s_entry_fault fE fdE) (b_entry_fault : Binds K fdE ["houses", "states", "values", "row", "found"] []) (g_entry_fault : mg "_entry_fault" = some (.ref fE)) (G_entry_fault : FnOk P w K mg base CX0 3 fE fdE ["houses", "states", "values", "row", "found"] (spEF P w K))
    (F_as_tuples : Fun K "as_tuples" "as_tuples" s_as_tuples fA fdA) (b_as_tuples : Binds K fdA ["thing"] []) (g_as_tuples : mg "as_tuples" = some (.ref fA)) (G_as_tuples : FnOk P w K mg base CX0 4 fA fdA ["thing"] (spAsT K lv2))
    (F_place_of : Fun K "_place_of" "_place_of" s_place_of fP fdP) (b_place_of : Binds K fdP ["state", "others"] []) (g_place_of : mg "_place_of" = some (.ref fP)) :
    FnOk P w K mg base CX0 5 f fd ["houses", "states", "values", "moves"] (spKept K) := by
  have G_place_of : FnOk P w K mg base CX0 1 fP fdP ["state", "others"] (spPlace K) := ok_place F_place_of T
  refine Fn.ok sc_kept_moves (PSp.len (fun _ => rfl)) (fun cdv A outer s H vs Q E hr h => ?_)
  obtain ⟨⟨n, S, m, es⟩, F, ⟨nm, eo⟩, e, ha, q⟩ := h
  replace eo : EntsOk n S m es := eo
  have n5 := nm.n5
  have few := eo.few
  obtain ⟨v1, v2, v3, v4, rfl, hv1, hv2, hv3, hv4⟩ := rpAll4 ha
  obtain rfl := rp_int hv1
  obtain rfl := rp_int hv2
  obtain rfl := rp_int hv3
  refine ⟨_, (pss_cons (ps_set (i := 4) sc_kept_moves.nd rfl (by first | exact Or.inl rfl | exact Or.inr rfl) (pe_dnewN (P := P) (w := w)))
    (pss_cons (ps_for PassesOwn.never rfl (pi_range1 (by rfl) T.range (pa_cons (pe_callB (c_len (K := K)) (by rfl) T.len (by decide +kernel) (pa_cons (pv 3) pa_nil)) pa_nil)) (pg_name (i := 5) sc_kept_moves.nd rfl (by first | exact Or.inl rfl | exact Or.inr rfl)) (pss_cons (ps_set (i := 6) sc_kept_moves.nd rfl (by first | exact Or.inl rfl | exact Or.inr rfl) (pe_call G_entry_fault (hr.mono (by decide)) (by rfl) g_entry_fault F_entry_fault.kp b_entry_fault .nil pass0 (pa_cons (pv 0) (pa_cons (pv 1) (pa_cons (pv 2) (pa_cons (pe_ix (o_ixL (K := K)) (pv 3) (pv 5) (fun _ _ => rfl)) (pa_cons (pv 4) pa_nil)))))))
    (pss_cons (ps_if (pt_cmpR op_notN (pv 6) pe_non (nomark _)) (pss_one ps_never) pss_nil)
    (pss_cons (ps_asg (pe_call G_as_tuples (hr.mono (by decide)) (by rfl) g_as_tuples F_as_tuples.kp b_as_tuples .nil pass0 (pa_cons (pe_ix (o_ixL (K := K)) (pv 3) (pv 5) (fun _ _ => rfl)) pa_nil)) (pg_tup rfl (pgs_cons (pg_name (i := 7) sc_kept_moves.nd rfl (by first | exact Or.inl rfl | exact Or.inr rfl)) (pgs_cons (pg_name (i := 8) sc_kept_moves.nd rfl (by first | exact Or.inl rfl | exact Or.inr rfl)) (pgs_cons (pg_name (i := 9) sc_kept_moves.nd rfl (by first | exact Or.inl rfl | exact Or.inr rfl)) pgs_nil)))))
    (pss_one (ps_asg (pe_tup (pa_cons (pv 7) (pa_cons (pv 8) (pa_cons (pv 9) pa_nil)))) (pg_sub (pv 4) (pe_call G_place_of (hr.mono (by decide)) (by rfl) g_place_of F_place_of.kp b_place_of .nil pass0 (pa_cons (pv 7) (pa_cons (pv 8) pa_nil))) (set_N (P := P) (w := w) (K := K) (hu65 hr)))))))))
    (pss_one (ps_ret (pe_callTy (c_tup (K := K)) (by rfl) T.tuple (by decide +kernel) (pa_cons (pe_lc (own := [("place", 10)]) (g := gName 10) rfl sc_kept_moves.nd (i_list (K := K) (pe_callB (c_sortN (P := P) (w := w) (K := K) rfl (hu65 hr)) (by rfl) T.sorted (by decide +kernel) (pa_cons (pv 4) pa_nil))) (blkOk_by (own := [("place", 10)]) (N := ["houses", "states", "values", "moves", "found", "index", "what", "state", "others", "move", "place"]) (sc := (defScope s_kept_moves)) (by decide +kernel)) (fun _ _ _ _ _ => pg_name (i := 10) sc_kept_moves.nd rfl (by first | exact Or.inl rfl | exact Or.inr rfl)) (fun _ _ _ _ _ => (pts_one (pt_cmpR (o_neD (K := K) hr.units) (pe_ix (o_ixT (K := K)) (pe_dgetN (P := P) (w := w) (K := K) (hu65 hr) (pv 4) (pv 10) (fun _ _ => rfl)) pe_int (fun _ _ => rfl)) (pe_ix (o_ixT (K := K)) (pv 10) pe_int (fun _ _ => rfl)) (nomark _)))) (fun _ _ _ _ _ => (pe_dgetN (P := P) (w := w) (K := K) (hu65 hr) (pv 4) (pv 10) (fun _ _ => rfl)))) pa_nil)))))), ?_⟩
  have hl60 : ∀ x ∈ es, x.2.1.length ≤ 60 := fun x hx => by have := (eo.ok x hx).ln; omega
  refine t_newN (K := K) (Step.refl e .nil) fun l H1 hl1 h0 g1 => ?_
  have g0 : Good none F H := .nil
  have hkb : ∀ (es' : List Ent), ∀ p ∈ (es'.map fun x => (plD x, entD x)), kb p.1 = true := fun es' p hp => by
    obtain ⟨x, _, rfl⟩ := List.mem_map.mp hp
    exact (kb_place x.1 x.2.1).1
  refine t_forHR (K := K) (RS := (· = (List.range es.length).map natD)) g1.step.inn g1.step.good ?hw (fun ds i σ' F' H' => ∃ y5 y6 y7 y8 y9 y10 xs, σ' = [some (.int n), some (.int S), some (.int m), some v4, some (.ref l), y5, y6, y7, y8, y9, y10] ∧ Nst P w K none F H l F' H' xs ∧ NV K F' xs ((es.take i).map fun x => (plD x, entD x)))
    (fun ds hds F3 H3 s3 => ⟨_, _, _, _, _, _, [], rfl, g1.run g0 h0 s3, .nil⟩) (fun ds i σ' F' H' ⟨_, _, _, _, _, _, _, _, w, _⟩ => w.step.inn) (fun ds hds i d hd σ' F' H' u hI e' hu N hN => ?_) (fun ds hds σ' F' H' hI e' => ?_)
  case hw =>
    have := w_rng1I (K := K) (pt := none) (σ := [some (.int n), some (.int S), some (.int m), some v4, some (.ref l), none, none, none, none, none, none]) (F := F) (n := (es.length : Int)) (gs_one ((g_cbI (gs_one (g_var (i := 3) rfl hv4)) (rc_lenS (.inl rfl))).is (by rw [List.length_map]))) (by omega) (by omega)
    rw [show ((es.length : Int)).toNat = es.length by omega, rng_nat] at this
    exact this
  · obtain ⟨y5, y6, y7, y8, y9, y10, xs, rfl, n1, dv⟩ := hI
    subst hds
    have hi : i < es.length := by have := (List.getElem?_eq_some_iff.mp hd).1; simpa using this
    have ed : d = natD i := by
      rw [List.getElem?_map, List.getElem?_range hi] at hd
      exact (Option.some.inj hd).symm
    subst ed
    obtain ⟨x, hx⟩ : ∃ x, es[i]? = some x := ⟨_, List.getElem?_eq_getElem hi⟩
    have hxm := List.mem_of_getElem? hx
    have okx := eo.ok x hxm
    have hl5 := hl60 x hxm
    have hnew : plD x ∉ ((es.take i).map fun x => (plD x, entD x)).map (·.1) := by
      rw [List.map_map]
      intro hc
      obtain ⟨z, hz, ez⟩ := List.mem_map.mp hc
      obtain ⟨j, hj, hjz⟩ := List.mem_iff_getElem.mp hz
      rw [List.length_take] at hj
      rw [List.getElem_take] at hjz
      have e0 : es[i] = x := (List.getElem?_eq_some_iff.mp hx).2
      have := (List.getElem_inj (h₀ := by rw [List.length_map]; omega) (h₁ := by rw [List.length_map]; omega) eo.pl (i := j) (j := i)).mp (by rw [List.getElem_map, List.getElem_map, hjz, e0]; exact ez)
      omega
    have hat := dv.none_ (kb_place x.1 x.2.1).1 (hkb _) hnew
    have gl : ∀ {σ' : L2.St} {F'' : Hp}, Ex F F'' → σ'[3]? = some (some v4) → σ'[5]? = some (some u) → Ex F' F'' → EvG K none (tOp (rIxL K) (tVar 3) (tVar 5)) σ' F'' (Is (entD x)) := fun {σ' F''} ee h3 h5 e5 => g_opI (g_var h3 (Rp.mono ee _ _ hv4)) (g_var (d := natD i) h5 (Rp.mono e5 _ _ hu)) (rv_ixL (d := entD x) (atI_nat (j := i) (by rw [List.getElem?_map, hx]; rfl)))
    refine ⟨_, rfl, _, rfl, _, rfl, gl e' rfl rfl (Ex.refl F') H' n1.step.inn n1.step.good _ fun d v F2 H2 hd2 s2 hv => ⟨_, rfl, n, S, m, x, l, xs, F2, v, rfl, ⟨nm, okx⟩, s2.inn, (by rw [← show d = entD x from hd2]; exact hv), n1.nd.mono (fun a o ho => s2.keep.ex a o ho), hat, fun uw F3 H3 s3 huw => ?_⟩⟩
    have s23 := s2.trans s3
    have n3 := n1.run g0 h0 s23
    have e3 : Ex F' F3 := s23.sub
    refine t_skip (Step.refl n3.step.inn n3.step.good) ((et_of (K := K) (g_opI (g_var (i := 6) rfl huw) g_non rv_notN)).is rfl) fun F4 H4 s4 e4 => ?_
    have n4 := n3.run g0 h0 s4
    refine t_three (Step.refl n4.step.inn n4.step.good) (g_call (entD x) (gs_one (gl (e'.trans (e3.trans e4)) rfl rfl (e3.trans e4))) rfl (lv2_ent x hl5)) rfl fun v7 v8 v9 F5 H5 s5 e5 h7 h8 h9 => ?_
    have n5' := n4.run g0 h0 s5
    have hxl : xs.length = i := by rw [dv.len, List.length_map, List.length_take]; omega
    refine t_putNd (K := K) (i := 4) (R := Is (entD x)) g0 h0 n5' rfl (by rw [hxl]; omega) (kb_place x.1 x.2.1).1 (kb_place x.1 x.2.1).2 (g_tupI (gs_three (g_var (i := 7) rfl h7) (g_var (i := 8) rfl h8) (g_var (i := 9) rfl h9)) (by simp)) (fun F'' e'' => g_call (x.1, x.2.1) (gs_two (g_var (i := 7) rfl (Rp.mono e'' _ _ h7)) (g_var (i := 8) rfl (Rp.mono e'' _ _ h8))) rfl hl5) fun d v b F6 H6 hd6 n6 e6 hv6 hb6 => ?_
    refine hN _ F6 H6 ⟨_, _, _, _, _, _, _, rfl, n6, ?_⟩ (((e3.trans e4).trans e5).trans e6)
    rw [take_succA hx, List.map_append]
    exact NV.put (dv.mono (((e3.trans e4).trans e5).trans e6)) (kb_place x.1 x.2.1).1 (hkb _) hnew hb6 (by rw [← show d = entD x from hd6]; exact hv6)
  · obtain ⟨y5, y6, y7, y8, y9, y10, xs, rfl, n1, dv⟩ := hI
    subst hds
    rw [List.length_map, List.length_range, List.take_length] at dv
    obtain ⟨F2, s2, e2, nd⟩ := n1.done g0 h0
    have dv2 := dv.mono e2
    have hnd : ((es.map fun x => (plD x, entD x)).map (·.1)).Nodup := by
      rw [List.map_map]; exact eo.pl
    have keys : RpAll K F2 (xs.map fun x => V.ref x.2.1) (es.map plD) := by
      have := dv2.keys
      rw [List.map_map] at this
      exact this
    have gd : ∀ x ∈ es, ∀ F3, Ex F2 F3 → ∀ (σ' : L2.St) (y : V), σ'[4]? = some (some (.ref l)) → σ'[10]? = some (some y) → Rp K F3 y (plD x) → EvG K none (tOp (rIxN P w K) (tVar 4) (tVar 10)) σ' F3 (Is (entD x)) := fun x hx F3 e3 σ' y h4 h10 hy => by
      obtain ⟨p, hp, hz⟩ := dv2.get (hkb _) hnd (k := plD x) (d := entD x) (List.mem_map.mpr ⟨x, hx, rfl⟩)
      exact g_dgetN h4 (nd.mono e3) (g_var h10 hy) (fun b F' hb => tup_ref hb) (kb_place x.1 x.2.1).1 (kb_place x.1 x.2.1).2 hp (Rp.mono e3 _ _ hz)
    have inS : ∀ x, x ∈ es.mergeSort (PySem.W.dataLe false plD) → x ∈ es := fun x hx => (List.mergeSort_perm es _).mem_iff.mp hx
    have lenS : (es.mergeSort (PySem.W.dataLe false plD)).length = es.length := (List.mergeSort_perm es _).length_eq
    refine t_retI (K := K) s2 (g_cbI (gs_one (g_lcE plD (es.mergeSort (PySem.W.dataLe false plD)) movesB entD (w_listI ((g_sortN (i := 4) rfl nd keys (canSort_places es hl60)).is (by rw [sortD_map]))) (by omega) (fun _ => rfl) (fun x hx F3 e3 y hy => ?_) (fun x hx _ F3 e3 y hy => gd x (inS x hx) F3 e3 _ y rfl rfl hy))) rc_tupL) q
    refine (et_of (K := K) (g_opI (g_opI (gd x (inS x hx) F3 e3 _ y rfl rfl hy) g_int (rv_ixT (d := mwD x.2.2) (atI_nat (j := 2) rfl))) (g_opI (g_var rfl hy) g_int (rv_ixT (d := .int x.1) (atI_nat (j := 0) rfl))) (rv_neD (shaped_mwD _) rfl))).is ?_
    rw [eqv_mw]; rfl
end
end KD

namespace KD
open PySem PySem.Spec PyProof.Rows L2 L2H Fv Evl StX
abbrev s_HouseTable___init__ : Stmt := inClass (topS 12) 0
theorem sc_HouseTable___init__ : FnScope ["self", "houses", "states", "start", "moves", "state", "others", "move"] ["self", "houses", "states", "start", "moves"] (defScope s_HouseTable___init__) := ⟨rfl, rfl, rfl, by decide +kernel, rfl, by decide +kernel, by decide +kernel⟩
abbrev s_HouseTable_next_move : Stmt := inClass (topS 12) 2
theorem sc_HouseTable_next_move : FnScope ["self", "state", "others"] ["self", "state", "others"] (defScope s_HouseTable_next_move) := ⟨rfl, rfl, rfl, by decide +kernel, rfl, by decide +kernel, by decide +kernel⟩
/-- its default is the empty tuple -/
abbrev FunTab (K : PySem.W.Frag) (dv : V) (f : Addr) (fd : FuncData) : Prop := L2.FunD K "__init__" "HouseTable.__init__" (defArgs s_HouseTable___init__) (defBody s_HouseTable___init__) (defScope s_HouseTable___init__) [dv] [] f fd
/-- the entries of a table -/
def entsD (es : List Ent) : List (PyData × PyData) := (keptE es).map fun x => (.tuple (pairK x.1 x.2.1), mwD x.2.2)
/-- an instance of HouseTable: n houses, S states, the start, the moves -/
structure TabAt (P : Program) (w : World) (K : PySem.W.Frag) (C : Addr) (F : Hp) (x : Addr) (n S : Nat) (st : List Int) (es : List Ent) : Prop where
  ex : ∃ dx sv mv Dd xs, F x = some (.ins C dx [("n", .int n), ("m", .int (st.length : Nat)), ("states", .int S), ("start", sv), ("moves", mv), ("_move_at", .ref Dd)]) ∧ F dx = some (.own x) ∧ Rp K F sv (dT st) ∧ ND P w K F Dd xs ∧ NV K F xs (entsD es)
theorem TabAt.mono {P : Program} {w : World} {K : PySem.W.Frag} {C : Addr} {F F' : Hp} {x : Addr} {n S : Nat} {st : List Int} {es : List Ent} (e : Ex F F') (h : TabAt P w K C F x n S st es) : TabAt P w K C F' x n S st es := by
  obtain ⟨dx, sv, mv, Dd, xs, h1, h2, h3, h4, h5⟩ := h.ex
  exact ⟨dx, sv, mv, Dd, xs, e _ _ h1, e _ _ h2, Rp.mono e _ _ h3, h4.mono e, h5.mono e⟩
theorem kept_pairs {n S m : Nat} {es : List Ent} (eo : EntsOk n S m es) : ((keptE es).map fun x => pairK x.1 x.2.1).Nodup := by
  have h1 : (es.map fun x => pairK x.1 x.2.1).Nodup := by
    have := eo.nd
    unfold List.Nodup at this ⊢
    rw [List.pairwise_map] at this ⊢
    refine List.Pairwise.imp (fun {a b} hab e => ?_) this
    simp only [pairK, List.cons.injEq, PyData.int.injEq, and_true] at e
    exact hab (by rw [e.1, dO_inj e.2])
  have h2 : ((es.mergeSort (PySem.W.dataLe false plD)).map fun x => pairK x.1 x.2.1).Nodup := (List.Perm.map _ (List.mergeSort_perm es _)).nodup_iff.mpr h1
  unfold keptE
  exact h2.sublist (List.Sublist.map _ List.filter_sublist)
structure TabC (K : PySem.W.Frag) (C : Addr) : Prop where
  cl : Cls K C
  nN : NoAttr K C "n"
  nM : NoAttr K C "m"
  nS : NoAttr K C "states"
  nT : NoAttr K C "start"
  nV : NoAttr K C "moves"
  nA : NoAttr K C "_move_at"
section
variable {K : PySem.W.Frag} {F : Hp} {a : Addr} {P : Program} {w : World} {xs : List NEnt} {ps : List (PyData × PyData)}
mutual
theorem rp_del (h1 : ∀ xs, F a ≠ some (.tup xs)) (h2 : ∀ xs, F a ≠ some (.lst xs)) : ∀ (d : PyData) (v : V), Rp K F v d → Rp K (L2.del F a) v d
  | .none, _, x => by cases x; exact .non
  | .bool b, _, x => by cases x; exact .bl b
  | .int i, _, x => by cases x; exact .int i
  | .str y, _, x => by cases x; exact .str y
  | .tuple ds, v, x => by
    obtain ⟨p, ys, rfl, hl, ha⟩ := rp_tup x
    have ne : p ≠ a := fun z => h1 ys (z ▸ hl)
    exact .tup (by rw [L2.del_ne ne]; exact hl) (rpAll_del h1 h2 ds ys ha)
  | .list ds, v, x => by
    obtain ⟨p, ys, rfl, hl, ha⟩ := rp_lst x
    have ne : p ≠ a := fun z => h2 ys (z ▸ hl)
    exact .lst (by rw [L2.del_ne ne]; exact hl) (rpAll_del h1 h2 ds ys ha)
  | .dict _, _, x => by cases x
theorem rpAll_del (h1 : ∀ xs, F a ≠ some (.tup xs)) (h2 : ∀ xs, F a ≠ some (.lst xs)) : ∀ (ds : List PyData) (vs : List V), RpAll K F vs ds → RpAll K (L2.del F a) vs ds
  | [], _, x => by cases x; exact .nil
  | d :: ds, _, x => by
    cases x with
    | cons x1 x2 => exact .cons (rp_del h1 h2 d _ x1) (rpAll_del h1 h2 ds _ x2)
end
end
section
variable {P : Program} {w : World} {K : PySem.W.Frag} {mg : Str → Option Value} {base : Heap} {CB CO CT fE CF C fI : Addr} {mc : Value}
variable {pt : Option Pt} {σ : L2.St} {F F' F0 H0 H F2 H2 : Hp} {te ta tb ty td : TE} {ts tr : TA} {t : TT} {D : Ends} {tz tu tw : TS} {l a x dx : Addr} {xs : List NEnt} {fs : List (Str × V)} {f : Str} {i : Nat}
/-- self.f = e, e reads self -/
theorem t_fldAt {Φ : V → Hp → Prop} (s : Step none F0 H0 F H) (h0 : H0 x = none) (hx : F x = none) (hi : σ[i]? = some (some (.ref x))) (ho : H x = some (.ins C dx fs)) (cl : Cls K C) (na : NoAttr K C f) (hz : fs.length < 1000)
    (h : ∀ Fp, Ex F Fp → Ex Fp H → Fp x = some (.ins C dx fs) → ∀ Q : VK, (∀ v F2 H2, Φ v F2 → Step none Fp H F2 H2 → Q v H2) → te σ H Q)
    (hΦ : ∀ v F2, F2 x = some (.ins C dx fs) → Φ v F2 → Φ v (L2.del F2 x))
    (q : ∀ v F2 H2, Φ v F2 → Step none F0 H0 F2 H2 → Ex F F2 → F2 x = none → H2 x = some (.ins C dx (putF f v fs)) → tz D σ H2) : tSeq (sFld K (tVar i) te f) tz D σ H := by
  have sp : Step none F0 H0 (upd F x (.ins C dx fs)) H := s.add hx ho h0
  refine h (upd F x (.ins C dx fs)) (Ex.new hx) sp.inn upd_same _ fun v F2 H2 hv s2 => ?_
  have st := sp.trans s2
  have f2 : F2 x = some (.ins C dx fs) := s2.sub _ _ upd_same
  have back : ∀ a o, a ≠ x → F2 a = some o → L2.del F2 x a = some o := fun a o z h => by rw [L2.del_ne z]; exact h
  have exF : Ex F (L2.del F2 x) := fun a o h => by
    have z : a ≠ x := fun z => by rw [z, hx] at h; cases h
    exact back a o z (s2.sub _ _ (by rw [upd_ne z]; exact h))
  have s3 : Step none F0 H0 (L2.del F2 x) H2 := ⟨s.sub.trans exF, fun a o h => by
    by_cases z : a = x
    · rw [z, L2.del_same] at h; cases h
    · rw [L2.del_ne z] at h; exact s2.inn _ _ h, st.keep, .nil, fun a h1 h2 => by
    by_cases z : a = x
    · rw [z, L2.del_same]
    · rw [L2.del_ne z]; exact st.new a h1 h2⟩
  exact ⟨.ref x, hi, x, C, dx, fs, rfl, s2.inn _ _ f2, cl, na, hz, q v (L2.del F2 x) _ (hΦ v F2 f2 hv) (s3.put .nil h0 L2.del_same) exF L2.del_same upd_same⟩
def spTabI (P : Program) (w : World) (K : PySem.W.Frag) (C : Addr) : Sp := fun vs H Q _ => ∃ (x dx : Addr) (n S m : Nat) (st : List Int) (es : List Ent) (F : Hp) (v u : V), vs = [.ref x, .int n, .int S, v, u] ∧ H x = some (.ins C dx []) ∧ H dx = some (.own x) ∧ dx ≠ x ∧ F x = none ∧ F dx = none ∧ Ex F H ∧ Rp K F v (.list (st.map .int)) ∧ Rp K F u (.list (es.map entD)) ∧
  (NSm n S m ∧ (st.length = m ∧ ∀ k ∈ st, 0 ≤ k ∧ k < (S : Int)) ∧ EntsOk n S m es) ∧ ∀ F2 H2, Step none F (Fv.del (Fv.del H x) dx) F2 H2 → TabAt P w K C F2 x n S st es → Q .non H2
theorem ok_tabI {f fF fS fK : Addr} {fd fdF fdS fdK : FuncData} {dv : V} (Fn : FunTab K dv f fd) (T : Tx mg) (TC : TabC K CT) {tMv : Tok} (c_MOST_MOVES : mg "MOST_MOVES" = some (.int 20000 tMv))
    (F_check_frame : Fun K "_check_frame" "_check_frame" s_check_frame fF fdF) (b_check_frame : Binds K fdF ["houses", "states", "start"] []) (g_check_frame : mg "_check_frame" = some (.ref fF)) (G_check_frame : FnOk P w K mg base CX0 2 fF fdF ["houses", "states", "start"] (spFrame K))
    (F_is_sequence : Fun K "is_sequence" "is_sequence" s_is_sequence fS fdS) (b_is_sequence : Binds K fdS ["thing"] []) (g_is_sequence : mg "is_sequence" = some (.ref fS))
    (F_kept_moves : Fun K "_kept_moves" "_kept_moves" s_kept_moves fK fdK) (b_kept_moves : Binds K fdK ["houses", "states", "values", "moves"] []) (g_kept_moves : mg "_kept_moves" = some (.ref fK)) (G_kept_moves : FnOk P w K mg base CX0 5 fK fdK ["houses", "states", "values", "moves"] (spKept K)) :
    FnOk P w K mg base CX0 6 f fd ["self", "houses", "states", "start", "moves"] (spTabI P w K CT) := by
  have G_is_sequence : FnOk P w K mg base CX0 1 fS fdS ["thing"] (spSeq K) := ok_seq F_is_sequence T
  refine okD Fn sc_HouseTable___init__ (fun vs H Q E ⟨_, _, _, _, _, _, _, _, _, _, h, _⟩ => by rw [h]; rfl) (fun cdv A outer s H vs Q E hr h => ?_)
  obtain ⟨x, dx, n, S, m, st, es, F, v, u, rfl, hox, hodx, hne, fx, fdx, e, hv, hu, ⟨nm, ⟨hst, hstb⟩, eo⟩, q⟩ := h
  have hl : (st.map PyData.int).length = m := by rw [List.length_map, hst]
  have few := eo.few
  refine ⟨_, (pss_cons (ps_expr (pe_call G_check_frame (hr.mono (by decide)) (by rfl) g_check_frame F_check_frame.kp b_check_frame .nil pass0 (pa_cons (pv 1) (pa_cons (pv 2) (pa_cons (pv 3) pa_nil)))))
    (pss_cons (ps_if (PW.pt (pw_or (pt_not (pt_val (pe_call G_is_sequence (hr.mono (by decide)) (by rfl) g_is_sequence F_is_sequence.kp b_is_sequence .nil pass0 (pa_cons (pv 4) pa_nil)))) (pw_or1 (pt_cmpR op_gt (pe_callB (c_len (K := K)) (by rfl) T.len (by decide +kernel) (pa_cons (pv 4) pa_nil)) (pe_glob (v := .int 20000) (by rfl) c_MOST_MOVES ⟨_, rfl⟩) (nomark _))))) (pss_one ps_never) pss_nil)
    (pss_cons (ps_fld (pv 0) (pv 1) rfl)
    (pss_cons (ps_fld (pv 0) (pe_callB (c_len (K := K)) (by rfl) T.len (by decide +kernel) (pa_cons (pv 3) pa_nil)) rfl)
    (pss_cons (ps_fld (pv 0) (pv 2) rfl)
    (pss_cons (ps_fld (pv 0) (pe_callTy (c_tup (K := K)) (by rfl) T.tuple (by decide +kernel) (pa_cons (pv 3) pa_nil)) rfl)
    (pss_cons (ps_fld (pv 0) (pe_call G_kept_moves (hr.mono (by decide)) (by rfl) g_kept_moves F_kept_moves.kp b_kept_moves .nil pass0 (pa_cons (pv 1) (pa_cons (pv 2) (pa_cons (e_fld (K := K) (pv 0) rfl) (pa_cons (pv 4) pa_nil))))) rfl)
    (pss_one (ps_fld (pv 0) (pe_dcN (P := P) (w := w) (K := K) (own := [("state", 5), ("others", 6), ("move", 7)]) (g := gTup K 3 (gCons (gName 5) (gCons (gName 6) (gCons (gName 7) gNil)))) rfl (hu65 hr) sc_HouseTable___init__.nd (i_tup (K := K) (e_fld (K := K) (pv 0) rfl)) (blkOk_by (own := [("state", 5), ("others", 6), ("move", 7)]) (N := ["self", "houses", "states", "start", "moves", "state", "others", "move"]) (sc := (defScope s_HouseTable___init__)) (by decide +kernel)) (fun _ _ _ _ _ => (pg_tup (n := 3) rfl (pgs_cons (pg_name (i := 5) sc_HouseTable___init__.nd rfl (by first | exact Or.inl rfl | exact Or.inr rfl)) (pgs_cons (pg_name (i := 6) sc_HouseTable___init__.nd rfl (by first | exact Or.inl rfl | exact Or.inr rfl)) (pgs_cons (pg_name (i := 7) sc_HouseTable___init__.nd rfl (by first | exact Or.inl rfl | exact Or.inr rfl)) pgs_nil))))) (fun _ _ _ _ _ => pts_nil) (fun _ _ _ _ _ => (pe_tup (pa_cons (pv 5) (pa_cons (pv 6) pa_nil)))) (fun _ _ _ _ _ => (pv 7))) rfl))))))))), ?_⟩
  have h0x : Fv.del (Fv.del H x) dx x = none := by rw [Fv.del_ne hne.symm, Fv.del_same]
  have b0 : Fv.del H x x = none := Fv.del_same
  have gn : ∀ {σ' : L2.St} {F' : Hp}, σ'[1]? = some (some (.int (n : Int))) → EvG K none (tVar 1) σ' F' (Is (.int (n : Int))) := fun h => g_var (v := .int n) h (.int _)
  have gm : ∀ {σ' : L2.St} {F' : Hp}, σ'[2]? = some (some (.int (S : Int))) → EvG K none (tVar 2) σ' F' (Is (.int (S : Int))) := fun h => g_var (v := .int S) h (.int _)
  refine ⟨_, rfl, _, rfl, _, rfl, n, S, m, st, F, v, rfl, ⟨nm, hst, hstb⟩, e, hv, fun F1 H1 s1 => ?_⟩
  have e1 := s1.sub
  have hu1 := Rp.mono e1 _ _ hu
  dsimp only
  refine t_skip s1 ((et_or (a := false) (b := false) ((et_not (b := true) ((et_B (g_call (PyData.list (es.map entD)) (gs_one (g_var rfl hu1)) rfl trivial)).is rfl)).is rfl) fun _ => ((et_of (K := K) (g_op (g_cbI (gs_one (g_var rfl hu1)) (rc_lenS (.inl rfl))) g_int fun _ _ h1 h2 => by subst h1 h2; exact rv_bl (g := fun i j => decide (j < i)))).is ?_)).is rfl) fun F2 H2 s2 e2 => ?_
  · rw [List.length_map]; simp; omega
  have e12 := e1.trans e2
  have f2x : F2 x = none := s2.new x fx (by rw [hox]; simp)
  have h2x : H2 x = some (.ins CT dx []) := s2.keep.ex x _ hox
  refine t_fld (K := K) ((Step.own1 e x).trans s2) b0 f2x rfl h2x TC.cl TC.nN (by decide) (EvG.toX (gn rfl)) fun v3 F3 H3 hv3 s3 e3 f3x h3x => ?_
  obtain rfl := rp_int hv3
  refine t_fld (K := K) s3 b0 f3x rfl h3x TC.cl TC.nM (by show 1 < 1000; decide) (EvG.toX ((g_cbI (gs_one (g_var rfl (Rp.mono (e12.trans e3) _ _ hv))) (rc_lenS (.inl rfl))).is (by rw [hl]))) fun v4 F4 H4 hv4 s4 e4 f4x h4x => ?_
  obtain rfl := rp_int hv4
  refine t_fld (K := K) s4 b0 f4x rfl h4x TC.cl TC.nS (by show 2 < 1000; decide) (EvG.toX (gm rfl)) fun v5 F5 H5 hv5 s5 e5 f5x h5x => ?_
  obtain rfl := rp_int hv5
  have e15 := ((e12.trans e3).trans e4).trans e5
  refine t_fld (K := K) s5 b0 f5x rfl h5x TC.cl TC.nT (by show 3 < 1000; decide) (EvG.toX (d := dT st) (g_cbI (gs_one (g_var rfl (Rp.mono e15 _ _ hv))) rc_tupL)) fun v6 F6 H6 hv6 s6 e6 f6x h6x => ?_
  have e16 := e15.trans e6
  refine t_fldAt (K := K) (Φ := fun v F2 => Rp K F2 v (.tuple ((keptE es).map entD))) s6 b0 f6x rfl h6x TC.cl TC.nV (by show 4 < 1000; decide) (fun Fp ep ip hp Q' q' => ?_) (fun v F2 h1 h2 => rp_del (fun ys z => by rw [h1] at z; cases z) (fun ys z => by rw [h1] at z; cases z) _ _ h2) fun v7 F7 H7 hv7 s7 e7 f7x h7x => ?_
  · refine (EvG.toX (g_call (n, S, m, es) (gs_consI (gn rfl) (gs_three (gm rfl) (g_fld (K := K) rfl hp TC.cl TC.nM rfl (.int (m : Int))) (g_var rfl (Rp.mono (e16.trans ep) _ _ hu)))) rfl ⟨nm, eo⟩)) H6 ip .nil Q' q'
  refine t_fldAt1 (K := K) (Φ := fun v F2 => ∃ Dd xs, v = .ref Dd ∧ ND P w K F2 Dd xs ∧ NV K F2 xs (entsD es)) s7 b0 f7x rfl h7x TC.cl TC.nA (by show 5 < 1000; decide) (fun Fp ep ip hp Q' q' => ?_) (fun v F2 F3 h1 h2 ⟨Dd, xs, h3, h4, h5⟩ => ?_) fun v8 F8 H8 hv8 s8 e8 f8x h8x => ?_
  · have kl : (keptE es).length ≤ 10000 := by
      unfold keptE
      exact Nat.le_trans (List.length_filter_le _ _) (by rw [(List.mergeSort_perm es _).length_eq]; exact few)
    refine x_dcN3 (K := K) (fun x : Ent => .int x.1) (fun x => dO x.2.1) (fun x => mwD x.2.2) (keptE es) (fun x => pairK x.1 x.2.1) (fun x => mwD x.2.2) (fun y _ => kb_move y.1 y.2.1) (kept_pairs eo) (w_tupI (g_fld (K := K) rfl hp TC.cl TC.nV rfl (Rp.mono ep _ _ hv7))) (by omega) (fun _ _ _ => rfl) (fun y hy F' e' x1 x2 x3 h1 h2 h3 => g_tupI (gs_two (g_var rfl h1) (g_var rfl h2)) (by show 2 ≤ 100000; decide)) (fun y hy F' e' x1 x2 x3 h1 h2 h3 => g_var rfl h3) H7 ip .nil Q' q'
  · obtain ⟨o, h6, h7⟩ := h4.ex
    have nx : Dd ≠ x := fun z => by rw [z, h1] at h6; cases h6
    have ft : ∀ ys, F2 x ≠ some (.tup ys) := fun ys z => by rw [h1] at z; cases z
    have fl : ∀ ys, F2 x ≠ some (.lst ys) := fun ys z => by rw [h1] at z; cases z
    have up : ∀ (d : PyData) (v : V), Rp K F2 v d → Rp K F3 v d := fun d v hd => Rp.mono (fun a o ha => by
      by_cases z : a = x
      · rw [z, L2.del_same] at ha; cases ha
      · rw [L2.del_ne z] at ha; exact h2 a o z ha) _ _ (rp_del ft fl d v hd)
    exact ⟨Dd, xs, h3, ⟨h4.low, ⟨o, h2 _ _ nx h6, h7⟩, fun y hy => by
      obtain ⟨d, a1, a2⟩ := h4.keys y hy
      exact ⟨d, up _ _ a1, a2⟩⟩, Paired.mapP h5 fun _ _ z => ⟨z.1, up _ _ z.2.1, up _ _ z.2.2⟩⟩
  obtain ⟨Dd, xs, rfl, nd, nv⟩ := hv8
  have hdx : (Fv.del H x) dx = some (.own x) := by rw [Fv.del_ne hne]; exact hodx
  have f8d : F8 dx = none := s8.new dx fdx (by rw [hdx]; simp)
  have h8d : H8 dx = some (.own x) := s8.keep.ex dx _ hdx
  have s9 : Step none F (Fv.del (Fv.del H x) dx) (upd F8 dx (.own x)) H8 := (s8.less Fv.del_ex).add f8d h8d Fv.del_same
  have f9x : upd F8 dx (.own x) x = none := by rw [upd_ne hne.symm]; exact f8x
  have s10 := s9.add (a := x) f9x h8x (by rw [Fv.del_ne hne.symm, Fv.del_same])
  have ee : Ex F8 (upd (upd F8 dx (.own x)) x (.ins CT dx (putF "_move_at" (.ref Dd) (putF "moves" v7 (putF "start" v6 (putF "states" (.int S) (putF "m" (.int m) (putF "n" (.int n) [])))))))) := (Ex.new f8d).trans (Ex.new f9x)
  subst hst
  refine q _ H8 s10 ⟨dx, v6, v7, Dd, xs, upd_same, ?_, Rp.mono ((e7.trans e8).trans ee) _ _ hv6, nd.mono ee, nv.mono ee⟩
  rw [upd_ne hne]; exact upd_same
/-! the next move -/
def nextOf (es : List Ent) (s : Int) (os : ORow) : Mw := match es.find? fun x => decide (x.1 = s ∧ x.2.1 = os) with
  | some x => x.2.2
  | none => .inl s
theorem next_at {n S m : Nat} {es : List Ent} {xs : List NEnt} {s : Int} {os : ORow} (eo : EntsOk n S m es) (nv : NV K F xs (entsD es)) : Rp K F (match atN xs (nk (.tuple [.int s, dO os])) with | some p => p.2 | none => .int s) (mwD (nextOf es s os)) := by
  have hkb : ∀ p ∈ entsD es, kb p.1 = true := fun p hp => by
    obtain ⟨x, _, rfl⟩ := List.mem_map.mp hp
    exact (kb_move x.1 x.2.1).1
  have hnd : ((entsD es).map (·.1)).Nodup := by
    unfold entsD
    rw [List.map_map]
    have := kept_pairs eo
    unfold List.Nodup at this ⊢
    rw [List.pairwise_map] at this ⊢
    exact List.Pairwise.imp (fun {a b} hab e => hab (by injection e)) this
  have no : ∀ (h : ∀ x ∈ keptE es, ¬ (x.1 = s ∧ x.2.1 = os)), atN xs (nk (.tuple [.int s, dO os])) = none := fun h => nv.none_ kb_pair hkb fun hc => by
    unfold entsD at hc
    rw [List.map_map] at hc
    obtain ⟨x, hx, e⟩ := List.mem_map.mp hc
    have e2 : pairK x.1 x.2.1 = [.int s, dO os] := by injection e
    simp only [pairK, List.cons.injEq, PyData.int.injEq, and_true] at e2
    exact h x hx ⟨e2.1, dO_inj e2.2⟩
  unfold nextOf
  cases hf : es.find? fun x => decide (x.1 = s ∧ x.2.1 = os) with
  | none =>
    rw [no fun x hx hc => by
      have := List.find?_eq_none.mp hf x (kept_mem.mp hx).1
      simp [hc] at this]
    exact .int s
  | some x =>
    have hx := List.mem_of_find?_eq_some hf
    have hp : x.1 = s ∧ x.2.1 = os := by simpa using List.find?_some hf
    dsimp only
    by_cases hm : movesB x = true
    · obtain ⟨p, h1, h2⟩ := nv.get hkb hnd (k := .tuple (pairK x.1 x.2.1)) (d := mwD x.2.2) (List.mem_map.mpr ⟨x, kept_mem.mpr ⟨hx, hm⟩, rfl⟩)
      have e1 : PyData.tuple (pairK x.1 x.2.1) = .tuple [.int s, dO os] := by rw [hp.1, hp.2]; rfl
      rw [e1] at h1
      rw [h1]; exact h2
    · have hs : x.2.2 = .inl x.1 := by simpa [movesB] using hm
      rw [no fun y hy hc => by
        have hy1 := (kept_mem.mp hy)
        have : x = y := by
          have nd := eo.nd
          obtain ⟨i, hi, ei⟩ := List.mem_iff_getElem.mp hx
          obtain ⟨j, hj, ej⟩ := List.mem_iff_getElem.mp hy1.1
          have := (List.getElem_inj (h₀ := by rw [List.length_map]; omega) (h₁ := by rw [List.length_map]; omega) nd (i := i) (j := j)).mp (by rw [List.getElem_map, List.getElem_map, ei, ej, hp.1, hp.2, hc.1, hc.2])
          subst this
          rw [← ei, ← ej]
        rw [← this] at hy1
        exact hm hy1.2]
      rw [hs, hp.1]
      exact .int s
def spNext (P : Program) (w : World) (K : PySem.W.Frag) (C : Addr) : Sp := fun vs H Q _ => ∃ (x : Addr) (n S m : Nat) (st : List Int) (es : List Ent) (s : Int) (os : ORow) (F : Hp) (v : V), vs = [.ref x, .int s, v] ∧ EntsOk n S m es ∧ Ex F H ∧ TabAt P w K C F x n S st es ∧ Rp K F v (dO os) ∧
  ∀ u F2 H2, Step none F H F2 H2 → Rp K F2 u (mwD (nextOf es s os)) → Q u H2
theorem ok_next {f : Addr} {fd : FuncData} (Fn : Fun K "next_move" "HouseTable.next_move" s_HouseTable_next_move f fd) (T : Tx mg) (TC : TabC K CT) : FnOk P w K mg base CX0 1 f fd ["self", "state", "others"] (spNext P w K CT) := by
  refine Fn.ok sc_HouseTable_next_move (fun vs H Q E ⟨_, _, _, _, _, _, _, _, _, _, h, _⟩ => by rw [h]; rfl) (fun cdv A outer s H vs Q E hr h => ?_)
  obtain ⟨x, n, S, m, stt, es, st, os, F, v, rfl, hz, e, tb, hv, q⟩ := h
  obtain ⟨dx, sv, mv, Dd, xs, h1, h2, h3, h4, h5⟩ := tb.ex
  refine ⟨_, (pss_one (ps_ret (pe_bmN PySem.F.plainAttrs_dict PySem.F.slot_dict_get PySem.F.type_dict_get (mt_get2N (K := K) (P := P) (w := w) (hu65 hr)) (e_fld (K := K) (pv 0) rfl) (pa_cons (pe_tup (pa_cons (pv 1) (pa_cons (pe_callTy (c_tup (K := K)) (by rfl) T.tuple (by decide +kernel) (pa_cons (pv 2) pa_nil)) pa_nil))) (pa_cons (pv 1) pa_nil))))), ?_⟩
  obtain ⟨o, h6, h7⟩ := h4.ex
  refine ⟨.ref x, rfl, x, CT, dx, _, .ref Dd, rfl, e _ _ h1, TC.cl, TC.nA, rfl, ⟨Dd, o, rfl, e _ _ h6, h7.1⟩, ?_⟩
  refine (g_tupI (K := K) (ds := [.int st, dO os]) (gs_two (g_var (v := .int st) rfl (.int _)) (g_cbI (gs_one (g_var rfl hv)) rc_tupT)) (by simp)) H e .nil _ fun d u F2 H2 hd s2 hu => ?_
  subst hd
  obtain ⟨b, rfl⟩ := tup_ref hu
  refine ⟨_, rfl, Dd, xs, nk (.tuple [.int st, dO os]), b, .int st, rfl, rfl, (h4.mono s2.sub).mono s2.inn, KeyOk.mono s2.inn ⟨_, hu, kb_pair, rfl, depth_pair⟩, ?_⟩
  exact q _ F2 H2 s2 (Rp.mono s2.sub _ _ (next_at hz h5))
end
end KD

namespace KD
open PySem PySem.Spec PyProof.Rows L2 L2H Fv Evl StX
abbrev s_cells_beside : Stmt := topS 21
theorem sc_cells_beside : FnScope ["standing", "house", "other"] ["standing", "house"] (defScope s_cells_beside) := ⟨rfl, rfl, rfl, by decide +kernel, rfl, by decide +kernel, by decide +kernel⟩
abbrev s_behind_step : Stmt := topS 20
theorem sc_behind_step : FnScope ["tables", "standing", "house", "step", "held", "cell", "seat", "move"] ["tables", "standing", "house"] (defScope s_behind_step) := ⟨rfl, rfl, rfl, by decide +kernel, rfl, by decide +kernel, by decide +kernel⟩
/-- where a house stands: the word, what it holds, its cell -/
abbrev Seat := Str × Int × Option Int
abbrev seat0 : Seat := ("", 0, none)
def seatD (x : Seat) : PyData := .tuple [.str x.1, .int x.2.1, optD x.2.2]
def standD (l : List Seat) : PyData := .tuple (l.map seatD)
def beside (l : List Seat) (h : Nat) : ORow := ((List.range l.length).filter fun k => !decide (k = h)).map fun k => (l.getD k seat0).2.2
/-- a table as it is told: states, start, entries -/
abbrev Tab := Nat × List Int × List Ent
def seatBy (mw : Mw) (cell : Option Int) : Seat := match mw with
  | .inl s => ("write", s, cell)
  | .inr v => ("done", v, cell)
def seatOf (T : Nat → Tab) (l : List Seat) (h : Nat) : Seat := if (l.getD h seat0).1 = "write" then ("scan", (l.getD h seat0).2.1, some (l.getD h seat0).2.1) else seatBy (nextOf (T h).2.2 (l.getD h seat0).2.1 (beside l h)) (l.getD h seat0).2.2
def stepS (T : Nat → Tab) (l : List Seat) (h : Nat) : List Seat := l.set h (seatOf T l h)
theorem step_len (T : Nat → Tab) (l : List Seat) (h : Nat) : (stepS T l h).length = l.length := by simp [stepS]
theorem set_take {α : Type} {l : List α} {h : Nat} {x : α} (hl : h < l.length) : l.set h x = l.take h ++ [x] ++ l.drop (h + 1) := by
  rw [List.set_eq_take_append_cons_drop, if_pos hl]; simp
/-- a program: a table for each house, in a list or a tuple -/
structure ProgX (P : Program) (w : World) (K : PySem.W.Frag) (C : Addr) (F : Hp) (v : V) (n m : Nat) (T : Nat → Tab) : Prop where
  ex : ∃ a us, v = .ref a ∧ (F a = some (.tup us) ∨ F a = some (.lst us)) ∧ us.length = n ∧ ∀ k < n, ∃ x, us[k]? = some (.ref x) ∧ TabAt P w K C F x n (T k).1 (T k).2.1 (T k).2.2
  ok : ∀ k < n, EntsOk n (T k).1 m (T k).2.2
theorem ProgX.mono {P : Program} {w : World} {K : PySem.W.Frag} {C : Addr} {F F' : Hp} {v : V} {n m : Nat} {T : Nat → Tab} (e : Ex F F') (h : ProgX P w K C F v n m T) : ProgX P w K C F' v n m T := by
  obtain ⟨⟨a, us, h1, h2, h3, h4⟩, h5⟩ := h
  exact ⟨⟨a, us, h1, h2.elim (fun z => .inl (e _ _ z)) (fun z => .inr (e _ _ z)), h3, fun k hk => by
    obtain ⟨x, a1, a2⟩ := h4 k hk
    exact ⟨x, a1, a2.mono e⟩⟩, h5⟩
section
variable {P : Program} {w : World} {K : PySem.W.Frag} {mg : Str → Option Value} {base : Heap} {CT : Addr}
variable {pt : Option Pt} {σ : L2.St} {F F' F0 H0 H F2 H2 : Hp} {te ti ta tb ty td : TE} {ts tr : TA} {t : TT} {D : Ends} {tz tu tw : TS} {l a x dx : Addr} {xs : List NEnt} {fs : List (Str × V)} {f : Str} {i : Nat}
theorem rv_seat {ls : List Seat} {k : Nat} (h : k < ls.length) : RvG K (rIxT K) (standD ls) (.int (k : Int)) (Is (seatD (ls.getD k seat0))) := rv_ixT (atI_nat (by rw [List.getElem?_map, List.getElem?_eq_getElem h, List.getD_eq_getElem?_getD, List.getElem?_eq_getElem h]; rfl))
/-! what stands beside a house -/
abbrev spBeside (K : PySem.W.Frag) : Sp := PSp K (fun i : List Seat × Nat => [standD i.1, .int i.2]) (fun i => i.1.length ≤ 60) (fun i => dO (beside i.1 i.2))
theorem ok_beside {f : Addr} {fd : FuncData} (Fn : Fun K "cells_beside" "cells_beside" s_cells_beside f fd) (T : Tx mg) : FnOk P w K mg base CX0 1 f fd ["standing", "house"] (spBeside K) := by
  refine Fn.ok sc_cells_beside (PSp.len (fun _ => rfl)) (fun cdv A outer s H vs Q E hr h => ?_)
  obtain ⟨⟨ls, h⟩, F, hz, e, ha, q⟩ := h
  replace hz : ls.length ≤ 60 := hz
  obtain ⟨v1, v2, rfl, hv1, hv2⟩ := rpAll2 ha
  refine ⟨_, (pss_one (ps_ret (pe_callTy (c_tup (K := K)) (by rfl) T.tuple (by decide +kernel) (pa_cons (pe_lc (own := [("other", 2)]) (g := gName 2) rfl sc_cells_beside.nd (pi_range1 (by rfl) T.range (pa_cons (pe_callB (c_len (K := K)) (by rfl) T.len (by decide +kernel) (pa_cons (pv 0) pa_nil)) pa_nil)) (blkOk_by (own := [("other", 2)]) (N := ["standing", "house", "other"]) (sc := (defScope s_cells_beside)) (by decide +kernel)) (fun _ _ _ _ _ => pg_name (i := 2) sc_cells_beside.nd rfl (by first | exact Or.inl rfl | exact Or.inr rfl)) (fun _ _ _ _ _ => (pts_one (pt_cmpR op_ne (pv 2) (pv 1) (nomark _)))) (fun _ _ _ _ _ => (pe_ix (o_ixT (K := K)) (pe_ix (o_ixT (K := K)) (pv 0) (pv 2) (fun _ _ => rfl)) pe_int (fun _ _ => rfl)))) pa_nil)))), ?_⟩
  refine t_retI (K := K) (Step.refl e .nil) ((g_cbI (gs_one (g_lcE natD (List.range ls.length) (fun k => !decide (k = h)) (fun k => optD (ls.getD k seat0).2.2) (w_len (g_var rfl hv1) (by simp) (by omega)) (by simp; omega) (fun _ => rfl) (fun k hk F' e' y hy => ?_) (fun k hk _ F' e' y hy => ?_))) rc_tupL).is ?_) q
  · exact (et_of (K := K) (g_opI (g_var rfl hy) (g_var rfl (Rp.mono e' _ _ hv2)) rv_neI)).is (by
      by_cases z : k = h
      · rw [z]; simp
      · have : (k : Int) ≠ (h : Int) := fun y => z (by omega)
        simp [z, this])
  · exact g_opI (g_opI (g_var rfl (Rp.mono e' _ _ hv1)) (g_var rfl hy) (rv_seat (List.mem_range.mp hk))) g_int (rv_ixT (d := optD (ls.getD k seat0).2.2) (atI_nat (j := 2) rfl))
  · show PyData.tuple _ = PyData.tuple _
    unfold beside
    rw [List.map_map]; rfl
/-- p[k], p a list or a tuple of tables -/
theorem x_ixP {i : Nat} {us : List V} {k : Nat} {x : V} (h0 : σ[i]? = some (some (.ref a))) (hl : F a = some (.tup us) ∨ F a = some (.lst us)) (hk : us[k]? = some x) (h : EvG K pt ti σ F (Is (.int (k : Int)))) : EvX pt (tOp (rIx K) (tVar i) ti) σ F (fun v _ => v = x) := fun H1 e g Q q =>
  ⟨_, h0, h H1 e g _ fun d v F2 H2 hd s hv => by
    subst hd
    rcases hl with hl | hl
    · exact .inr (.inl ⟨a, us, _, x, rfl, rp_int hv, SqT.of (s.inn _ _ (s.sub _ _ hl)), by rw [atI_nat hk], q _ F2 H2 rfl s⟩)
    · exact .inl ⟨a, us, _, x, rfl, rp_int hv, SqL.of (s.inn _ _ (s.sub _ _ hl)), by rw [atI_nat hk], q _ F2 H2 rfl s⟩⟩
/-! a step -/
def spBS (P : Program) (w : World) (K : PySem.W.Frag) (C : Addr) : Sp := fun vs H Q _ => ∃ (n m h : Nat) (T : Nat → Tab) (ls : List Seat) (F : Hp) (v u : V), vs = [v, u, .int h] ∧ (n ≤ 5 ∧ ls.length = n ∧ h < n) ∧ Ex F H ∧ ProgX P w K C F v n m T ∧ Rp K F u (standD ls) ∧
  ∀ z F2 H2, Step none F H F2 H2 → Rp K F2 z (standD (stepS T ls h)) → Q z H2
theorem ok_bs {f fN fB fS : Addr} {fd fdN fdB fdS : FuncData} (Fn : Fun K "behind_step" "behind_step" s_behind_step f fd) (TX : Tx mg) (TC : TabC K CT)
    (m_next_move : Meth K CT "next_move" fN) (G_next_move : FnOk P w K mg base CX0 1 fN fdN ["self", "state", "others"] (spNext P w K CT)) (b_next_move : Binds K fdN ["self", "state", "others"] [])
    (F_cells_beside : Fun K "cells_beside" "cells_beside" s_cells_beside fB fdB) (b_cells_beside : Binds K fdB ["standing", "house"] []) (g_cells_beside : mg "cells_beside" = some (.ref fB))
    (F_is_sequence : Fun K "is_sequence" "is_sequence" s_is_sequence fS fdS) (b_is_sequence : Binds K fdS ["thing"] []) (g_is_sequence : mg "is_sequence" = some (.ref fS)) :
    FnOk P w K mg base CX0 2 f fd ["tables", "standing", "house"] (spBS P w K CT) := by
  have G_cells_beside : FnOk P w K mg base CX0 1 fB fdB ["standing", "house"] (spBeside K) := ok_beside F_cells_beside TX
  have G_is_sequence : FnOk P w K mg base CX0 1 fS fdS ["thing"] (spSeq K) := ok_seq F_is_sequence TX
  refine Fn.ok sc_behind_step (fun vs H Q E ⟨_, _, _, _, _, _, _, _, h, _⟩ => by rw [h]; rfl) (fun cdv A outer s H vs Q E hr h => ?_)
  obtain ⟨n, m, h, TT, ls, F, v, u, rfl, ⟨n5, hln, hhn⟩, e, pr, hu, q⟩ := h
  have T := TX
  have hlt : h < ls.length := by omega
  obtain ⟨a, us, rfl, hl, hn, tabs⟩ := pr.ex
  obtain ⟨x, hx, tb⟩ := tabs h hhn
  refine ⟨_, (pss_cons (ps_asg (pe_ix (o_ixT (K := K)) (pv 1) (pv 2) (fun _ _ => rfl)) (pg_tup rfl (pgs_cons (pg_name (i := 3) sc_behind_step.nd rfl (by first | exact Or.inl rfl | exact Or.inr rfl)) (pgs_cons (pg_name (i := 4) sc_behind_step.nd rfl (by first | exact Or.inl rfl | exact Or.inr rfl)) (pgs_cons (pg_name (i := 5) sc_behind_step.nd rfl (by first | exact Or.inl rfl | exact Or.inr rfl)) pgs_nil)))))
    (pss_cons (ps_if (pt_cmpR op_eq (pv 3) pe_str (nomark _)) (pss_one (ps_set (i := 6) sc_behind_step.nd rfl (by first | exact Or.inl rfl | exact Or.inr rfl) (pe_tup (pa_cons pe_str (pa_cons (pv 4) (pa_cons (pv 4) pa_nil)))))) (pss_cons (ps_set (i := 7) sc_behind_step.nd rfl (by first | exact Or.inl rfl | exact Or.inr rfl) (pe_meth (pe_ix (o_ix (K := K)) (pv 0) (pv 2) (fun _ _ => rfl)) TC.cl m_next_move G_next_move (hr.mono (by decide)) b_next_move .nil pass0 (pa_cons (pv 4) (pa_cons (pe_call G_cells_beside (hr.mono (by decide)) (by rfl) g_cells_beside F_cells_beside.kp b_cells_beside .nil pass0 (pa_cons (pv 1) (pa_cons (pv 2) pa_nil))) pa_nil))))
    (pss_one (ps_set (i := 6) sc_behind_step.nd rfl (by first | exact Or.inl rfl | exact Or.inr rfl) (pe_ifExp (pt_val (pe_call G_is_sequence (hr.mono (by decide)) (by rfl) g_is_sequence F_is_sequence.kp b_is_sequence .nil pass0 (pa_cons (pv 7) pa_nil))) (pe_tup (pa_cons pe_str (pa_cons (pe_ix (o_ixT (K := K)) (pv 7) pe_int (fun _ _ => rfl)) (pa_cons (pv 5) pa_nil)))) (pe_tup (pa_cons pe_str (pa_cons (pv 7) (pa_cons (pv 5) pa_nil)))))))))
    (pss_one (ps_ret (pe_op (o_catA (K := K)) (pe_op (o_catA (K := K)) (pe_slice (s_any (K := K)) (pv 1) po_none (po_some (pv 2))) (pe_tup (pa_cons (pv 6) pa_nil))) (pe_slice (s_tup (K := K)) (pv 1) (po_some (pe_op op_add (pv 2) pe_int)) po_none)))))), ?_⟩
  have gh : ∀ {σ' : L2.St} {F' : Hp}, σ'[2]? = some (some (.int (h : Int))) → EvG K none (tVar 2) σ' F' (Is (.int (h : Int))) := fun h' => g_var (v := .int h) h' (.int _)
  refine t_three (Step.refl e .nil) (g_opI (g_var rfl hu) (gh rfl) (rv_seat hlt)) rfl fun v3 v4 v5 F1 H1 s1 e1 h3 h4 h5 => ?_
  obtain rfl := rp_str h3
  obtain rfl := rp_int h4
  have hu1 := Rp.mono e1 _ _ hu
  unfold stepS at q
  rw [set_take hlt] at q
  have tail : ∀ (F3 : Hp), Ex F1 F3 → ∀ (σ' : L2.St) (z : V) (sx : Seat), σ'[1]? = some (some u) → σ'[2]? = some (some (.int (h : Int))) → σ'[6]? = some (some z) → Rp K F3 z (seatD sx) → EvG K none (tOp (rCatA K) (tOp (rCatA K) (tSl (rSlU K) (tVar 1) tNoPart (tPart (tVar 2))) (tTup (tCons (tVar 6) tNil))) (tSl (rSlA K) (tVar 1) (tPart (tOp (rI0 fun i j => .int (i + j)) (tVar 2) (tC (.int 1)))) tNoPart)) σ' F3 (Is (standD (ls.take h ++ [sx] ++ ls.drop (h + 1)))) := fun F3 e3 σ' z sx h1 h2 h6 hz => by
    have hu3 := Rp.mono e3 _ _ hu1
    refine (g_opI (g_opI (g_slU (i := h) (ds := ls.map seatD) (.inr rfl) (g_var h1 hu3) (gh h2)) (g_tupI (gs_one (g_var h6 hz)) (by simp)) (rv_catA (by simp; omega))) (g_slA (i := h + 1) (g_var h1 hu3) ((g_opI (gh h2) g_int rv_add).is (by simp))) (rv_catA (by simp; omega))).is ?_
    show PyData.tuple _ = PyData.tuple _
    simp only [List.map_append, List.map_take, List.map_drop, List.map_cons, List.map_nil]
  refine t_if (b := decide ((ls.getD h seat0).1 = ("write" : Str))) s1 (et_of (K := K) (g_opI (g_var (v := .str (ls.getD h seat0).1) rfl (.str _)) g_str rv_eqS)) (fun hb F2 H2 s2 e2 => ?_) (fun hb F2 H2 s2 e2 => ?_)
  · have hw : (ls.getD h seat0).1 = "write" := of_decide_eq_true hb
    refine t_asg1 (K := K) s2 (g_tupI (gs_three g_str (g_var (v := .int (ls.getD h seat0).2.1) rfl (.int _)) (g_var (v := .int (ls.getD h seat0).2.1) rfl (.int _))) (by simp)) fun d z F3 H3 hd s3 e3 hz => ?_
    dsimp only
    refine t_retI (K := K) s3 (tail F3 (e2.trans e3) _ z (seatOf TT ls h) rfl rfl rfl ?_) q
    rw [show d = _ from hd] at hz
    unfold seatOf
    rw [if_pos hw]; exact hz
  · have hw : ¬ (ls.getD h seat0).1 = "write" := of_decide_eq_false hb
    have e12 := e1.trans e2
    obtain ⟨dx, sv, mvv, Dd, xs, h1', h2', h3', h4', h5'⟩ := id tb.ex
    have hl2 : F2 a = some (.tup us) ∨ F2 a = some (.lst us) := hl.elim (fun z => .inl (e12 _ _ z)) (fun z => .inr (e12 _ _ z))
    generalize hmw : nextOf (TT h).2.2 (ls.getD h seat0).2.1 (beside ls h) = mw
    refine t_asgI (K := K) (d := mwD mw) s2 ((g_methX (z := mwD (nextOf (TT h).2.2 (ls.getD h seat0).2.1 (beside ls h))) (ds := [.int (ls.getD h seat0).2.1, dO (beside ls h)]) (x_ixP (k := h) rfl hl2 hx (gh rfl)) (e12 _ _ h1') rfl (fun F' e' => gs_two (g_var (v := .int (ls.getD h seat0).2.1) rfl (.int _)) (g_call (ls, h) (gs_two (g_var rfl (Rp.mono (e2.trans e') _ _ hu1)) (gh rfl)) rfl (by show ls.length ≤ 60; omega))) fun F3 H3 vs e3 i3 hvs Q' q' => ?_).is (by rw [hmw])) fun z F3 H3 s3 e3 hz => ?_
    · obtain ⟨w1, w2, rfl, hw1, hw2⟩ := rpAll2 hvs
      obtain rfl := rp_int hw1
      exact ⟨x, n, (TT h).1, m, (TT h).2.1, (TT h).2.2, (ls.getD h seat0).2.1, beside ls h, F3, w2, rfl, pr.ok h hhn, i3, tb.mono (e12.trans e3), hw2, fun u F4 H4 s4 hu4 => q' u F4 H4 s4 hu4⟩
    · have h53 := Rp.mono (e2.trans e3) _ _ h5
      have eS : seatOf TT ls h = seatBy mw (ls.getD h seat0).2.2 := by
        unfold seatOf
        rw [if_neg hw, hmw]
      rw [eS] at q
      cases mw with
      | inr vv =>
        refine t_asg1 (K := K) s3 (g_ifX (b := true) (et_B (g_call (mvT vv) (gs_one (g_var rfl hz)) rfl trivial)) (fun _ => g_tupI (ds := [.str "done", .int vv, optD (ls.getD h seat0).2.2]) (gs_three g_str (g_opI (g_var rfl hz) g_int (rv_ixT (d := .int vv) (atI_nat (j := 1) rfl))) (g_var rfl h53)) (by simp)) (fun hb => by cases hb)) fun d z2 F4 H4 hd s4 e4 hz2 => ?_
        dsimp only
        refine t_retI (K := K) s4 (tail F4 ((e2.trans e3).trans e4) _ z2 ("done", vv, (ls.getD h seat0).2.2) rfl rfl rfl ?_) q
        rw [show d = _ from hd] at hz2
        exact hz2
      | inl ss =>
        refine t_asg1 (K := K) s3 (g_ifX (b := false) (et_B (g_call (PyData.int ss) (gs_one (g_var rfl hz)) rfl trivial)) (fun hb => by cases hb) (fun _ => g_tupI (ds := [.str "write", .int ss, optD (ls.getD h seat0).2.2]) (gs_three g_str (g_var rfl hz) (g_var rfl h53)) (by simp))) fun d z2 F4 H4 hd s4 e4 hz2 => ?_
        dsimp only
        refine t_retI (K := K) s4 (tail F4 ((e2.trans e3).trans e4) _ z2 ("write", ss, (ls.getD h seat0).2.2) rfl rfl rfl ?_) q
        rw [show d = _ from hd] at hz2
        exact hz2
end
end KD

/-! a list of one's own whose items are no data -/
namespace Fv
open PySem PySem.Spec PyProof.Rows L2 Evl StX
structure Xst {α : Type} (K : PySem.W.Frag) (Φ : α → V → Hp → Prop) (pt : Option Pt) (F0 H0 : Hp) (l : Addr) (F H : Hp) (ys : List α) : Prop where
  step : Step pt F0 H0 F H
  off : F l = none
  ex : ∃ acc, H l = some (.lst acc) ∧ Paired (fun x y => Φ y x F) acc ys
/-- a list, or a tuple, of such things, that stays -/
def LstX {α : Type} (Φ : α → V → Hp → Prop) (F : Hp) (v : V) (ys : List α) : Prop := ∃ a xs, v = .ref a ∧ F a = some (.lst xs) ∧ Paired (fun x y => Φ y x F) xs ys
section
variable {α : Type} {K : PySem.W.Frag} {Φ : α → V → Hp → Prop} {pt : Option Pt} {σ : L2.St} {F0 H0 F H F' F2 H2 : Hp} {te ta tb : TE} {ts tr : TA} {t u : TT} {wi : TI} {D : Ends} {tu tw tz : TS} {l : Addr} {ys : List α}
theorem LstX.mono {v : V} (hm : ∀ y v F F', Ex F F' → Φ y v F → Φ y v F') (e : Ex F F') (h : LstX Φ F v ys) : LstX Φ F' v ys := by
  obtain ⟨a, xs, rfl, h1, h2⟩ := h
  exact ⟨a, xs, rfl, e _ _ h1, Paired.mapP h2 fun _ _ z => hm _ _ _ _ e z⟩
theorem Xst.of (g : Gst K pt F0 H0 l F H []) : Xst K Φ pt F0 H0 l F H [] := ⟨g.step, g.off, by
  obtain ⟨acc, e, r⟩ := g.ex
  cases r
  exact ⟨[], e, .nil⟩⟩
theorem Xst.run (hm : ∀ y v F F', Ex F F' → Φ y v F → Φ y v F') (g0 : Good pt F0 H0) (h0 : H0 l = none) (g : Xst K Φ pt F0 H0 l F H ys) (s : Step pt F H F2 H2) : Xst K Φ pt F0 H0 l F2 H2 ys := by
  obtain ⟨acc, e, r⟩ := g.ex
  obtain ⟨f2, e2⟩ := Step.beside g0 h0 g.off e s
  exact ⟨g.step.trans s, f2, acc, e2, Paired.mapP r fun _ _ z => hm _ _ _ _ s.sub z⟩
theorem Xst.done (hm : ∀ y v F F', Ex F F' → Φ y v F → Φ y v F') (g0 : Good pt F0 H0) (h0 : H0 l = none) (g : Xst K Φ pt F0 H0 l F H ys) : ∃ F2, Step pt F0 H0 F2 H ∧ Ex F F2 ∧ LstX Φ F2 (.ref l) ys := by
  obtain ⟨acc, e, r⟩ := g.ex
  have e1 : Ex F (upd F l (.lst acc)) := Ex.new g.off
  exact ⟨_, g.step.freeze g0 h0 g.off e, e1, l, acc, rfl, upd_same, Paired.mapP r fun _ _ z => hm _ _ _ _ e1 z⟩
/-- xs.append(e), e no data -/
theorem t_appX {i : Nat} {y : α} (hm : ∀ y v F F', Ex F F' → Φ y v F → Φ y v F') (g0 : Good pt F0 H0) (h0 : H0 l = none) (g : Xst K Φ pt F0 H0 l F H ys) (hi : σ[i]? = some (some (.ref l))) (h : EvX pt te σ F (Φ y)) (hz : ys.length < 100000)
    (q : ∀ F2 H2, Xst K Φ pt F0 H0 l F2 H2 (ys ++ [y]) → Ex F F2 → D.nx σ H2) : tDrop (tBM K "list" rAppend (tVar i) (tCons te tNil)) D σ H := by
  obtain ⟨acc, e, r⟩ := g.ex
  refine ⟨.ref l, hi, .inl ⟨rfl, acc, sq_of e⟩, h H g.step.inn g.step.good _ fun v F2 H2 hv s => ?_⟩
  have g2 := g.run hm g0 h0 s
  obtain ⟨acc2, e2, r2⟩ := g2.ex
  have hl : acc2.length = ys.length := Paired.length r2
  exact ⟨l, acc2, v, rfl, rfl, e2, sz_lt (by rw [hl]; exact hz), q F2 _ ⟨g2.step.put g0 h0 g2.off, g2.off, acc2 ++ [v], upd_same, Paired.snoc r2 hv⟩ s.sub⟩
/-- what is read of such a list: xs[k], len(xs) -/
theorem x_ixL {i : Nat} {a : Addr} {xs : List V} {k : Nat} {x : V} {ti : TE} (h0 : σ[i]? = some (some (.ref a))) (hl : F a = some (.lst xs)) (hk : xs[k]? = some x) (h : EvG K pt ti σ F (Is (.int (k : Int)))) : EvX pt (tOp (rIxL K) (tVar i) ti) σ F (fun v _ => v = x) := fun H1 e g Q q =>
  ⟨_, h0, h H1 e g _ fun d v F2 H2 hd s hv => by
    subst hd
    exact ⟨a, xs, _, x, rfl, rp_int hv, SqL.of (s.inn _ _ (s.sub _ _ hl)), by rw [atI_nat hk], q _ F2 H2 rfl s⟩⟩
theorem g_lenLX {i : Nat} {a : Addr} {xs : List V} (h0 : σ[i]? = some (some (.ref a))) (hl : F a = some (.lst xs)) : EvG K pt (tCB (rLen K) (tCons (tVar i) tNil)) σ F (Is (.int (xs.length : Int))) := fun H1 e g Q q =>
  ⟨_, h0, a, xs, rfl, .inl (SqL.of (e _ _ hl)), q _ _ F H1 rfl (.refl e g) (.int _)⟩
end
end Fv

/-! min of a list or a tuple of whole numbers -/
namespace Fv
open PySem PySem.Spec PyProof.Rows L2 Evl StX
def rMinS (K : PySem.W.Frag) : List V → Hp → VK → Prop := fun xs H Q => ∃ (p : Addr) (n : Int) (ns : List Int), xs = [.ref p] ∧ (SqT K H p ((n :: ns).map V.int) ∨ SqL K H p ((n :: ns).map V.int)) ∧ Q (.int (ns.foldl min n)) H
theorem c_minS {X : Cx} {K : PySem.W.Frag} (hu : X.A.units + 65 < cLine) (hc : X.calm = true := by rfl) (h : X.K = K := by rfl) : CallR X (.builtin "min") (rMinS K) := by
  subst h
  intro pins s σ H xs us Q I r h
  obtain ⟨p, n, ns, rfl, hq, q⟩ := h
  rw [Vals.ref1 r]
  have kept : ∀ (v : V) (u : Value) (h' : Heap) (tk : Nat), RelV v u → (∀ b o, s.heap.get? b = some o → h'.get? b = some o) → Q v H → EP X pins σ Q u { s with heap := h', toks := tk } := fun v u h' tk rvu k hq => ⟨v, H, I.kept (t' := tk) k, rvu, hq⟩
  have al : PySem.W.AlikeAll (PyData.int n :: ns.map PyData.int) := ⟨fun x hx y hy => by
    have hx' : x ∈ (n :: ns).map PyData.int := hx
    have hy' : y ∈ (n :: ns).map PyData.int := hy
    obtain ⟨a, _, rfl⟩ := List.mem_map.mp hx'
    obtain ⟨b, _, rfl⟩ := List.mem_map.mp hy'
    rfl, fun x hx => by
    have hx' : x ∈ (n :: ns).map PyData.int := hx
    obtain ⟨a, _, rfl⟩ := List.mem_map.mp hx'
    intro z; cases z⟩
  have dp : X.A.units + 1 + PyData.depthAll (PyData.int n :: ns.map PyData.int) < cLine := by
    have := depthAll_ints (n :: ns)
    rw [List.map_cons] at this
    omega
  have fin : ∀ (i : Nat) (v : Value) (h' : Heap) (tk : Nat) (bs : List Addr), Reads h' v (PySem.W.minD (.int n) (ns.map .int)) bs → (∀ b o, s.heap.get? b = some o → h'.get? b = some o) → EP X pins σ Q v { s with heap := h', toks := tk } := fun i v h' tk bs hrd k => by
    rw [PySem.W.minD_ints] at hrd
    obtain ⟨t, rfl⟩ := intOf hrd
    exact kept (.int (ns.foldl min n)) _ h' tk ⟨t, rfl⟩ k q
  rcases hq with hq | hq
  · obtain ⟨its, rv, ht, hz⟩ := I.tuple hq
    obtain ⟨as, hr⟩ := Dp.readsAll I ((n :: ns).map .int) _ its (RpAll.dp _ _ (rpAll_of_ints (n :: ns))) rv
    exact PySem.W.min_tuple_data (I.ok.hd hc) ht hr al dp fun i v h' tk bs hv hrd k => fin i v h' tk bs hrd k
  · obtain ⟨its, rv, pl, hz⟩ := I.list hq
    obtain ⟨as, hr⟩ := Dp.readsAll I ((n :: ns).map .int) _ its (RpAll.dp _ _ (rpAll_of_ints (n :: ns))) rv
    exact PySem.W.min_list_data (I.ok.hd hc) pl.isList hr al dp fun i v h' tk bs hv hrd k => fin i v h' tk bs hrd k
section
variable {K : PySem.W.Frag} {pt : Option Pt} {σ : L2.St} {F H : Hp} {te : TE}
theorem g_minL {n : Int} {ns : List Int} (h : EvG K pt te σ F (Is (.list ((n :: ns).map .int)))) : EvG K pt (tCB (rMinS K) (tCons te tNil)) σ F (Is (.int (ns.foldl min n))) := fun H1 e g Q q => h H1 e g _ fun d v F2 H2 hd s hv => by
  subst hd
  obtain ⟨a, xs, rfl, hl, ha⟩ := rp_lst hv
  have e1 := rpAll_ints ha
  subst e1
  exact ⟨a, n, ns, rfl, .inr (SqL.of (s.inn _ _ hl)), q _ _ F2 H2 rfl s (.int _)⟩
theorem g_minT {n : Int} {ns : List Int} (h : EvG K pt te σ F (Is (.tuple ((n :: ns).map .int)))) : EvG K pt (tCB (rMinS K) (tCons te tNil)) σ F (Is (.int (ns.foldl min n))) := fun H1 e g Q q => h H1 e g _ fun d v F2 H2 hd s hv => by
  subst hd
  obtain ⟨a, xs, rfl, hl, ha⟩ := rp_tup hv
  have e1 := rpAll_ints ha
  subst e1
  exact ⟨a, n, ns, rfl, .inl (SqT.of (s.inn _ _ hl)), q _ _ F2 H2 rfl s (.int _)⟩
end
end Fv

namespace KD
open PySem PySem.Spec PyProof.Rows L2 L2H Fv Evl StX
abbrev s_law_readings : Stmt := topS 30
theorem sc_law_readings : FnScope ["_law_sizes", "_law_rows", "_law_size"] ["_law_sizes"] (defScope s_law_readings) := ⟨rfl, rfl, rfl, by decide +kernel, rfl, by decide +kernel, by decide +kernel⟩
abbrev s_law_drawn : Stmt := topS 32
theorem sc_law_drawn : FnScope ["_law_pot_here", "_law_m", "_law_size", "_law_others", "_law_start", "_law_value", "_law_rows", "_law_state", "_law_row", "_law_word", "_law_cell"] ["_law_pot_here", "_law_m", "_law_size", "_law_others"] (defScope s_law_drawn) := ⟨rfl, rfl, rfl, by decide +kernel, rfl, by decide +kernel, by decide +kernel⟩
/-- what can be read of houses with so many states -/
def readings (zs : List Nat) : List ORow := zs.foldl (fun rows z => olonger rows (oms z)) [[]]
theorem read_snoc (zs : List Nat) (z : Nat) : readings (zs ++ [z]) = olonger (readings zs) (oms z) := by simp [readings]
theorem oms_len (m : Nat) : (oms m).length = m + 1 := by simp [oms]
theorem oms_nd (m : Nat) : (oms m).Nodup := by
  unfold oms
  rw [List.nodup_cons]
  refine ⟨by simp, ?_⟩
  unfold List.Nodup
  rw [List.pairwise_map]
  exact List.Pairwise.imp (fun {a b} h e => h (by
    have : (a : Int) = (b : Int) := by injection e
    omega)) (List.nodup_range (n := m))
theorem oms_in {m : Nat} {o : Option Int} (h : o ∈ oms m) {k : Int} (e : o = some k) : 0 ≤ k ∧ k < (m : Int) := by
  subst e
  rcases List.mem_cons.mp h with y | y
  · cases y
  · obtain ⟨i, hi, e2⟩ := List.mem_map.mp y
    have : (i : Int) = k := by simpa using e2
    have := List.mem_range.mp hi
    omega
theorem olonger_nd {rows : List ORow} {marks : ORow} (h1 : rows.Nodup) (h2 : marks.Nodup) : (olonger rows marks).Nodup := by
  unfold olonger List.Nodup
  rw [List.pairwise_flatMap]
  refine ⟨fun r _ => ?_, ?_⟩
  · rw [List.pairwise_map]
    exact List.Pairwise.imp (fun {a b} hab e => hab (by simpa using e)) h2
  · refine List.Pairwise.imp (fun {a b} hab x hx y hy e => ?_) h1
    obtain ⟨m1, _, rfl⟩ := List.mem_map.mp hx
    obtain ⟨m2, _, rfl⟩ := List.mem_map.mp hy
    exact hab (List.append_inj_left' e rfl)
theorem read_factsK : ∀ (c : Nat) (zs : List Nat), zs.length = c → (∀ z ∈ zs, z ≤ 5) → (readings zs).length ≤ 6 ^ zs.length ∧ (readings zs).Nodup ∧ ∀ r ∈ readings zs, r.length = zs.length ∧ ∀ o ∈ r, ∀ k, o = some k → 0 ≤ k ∧ k < 5
  | 0, zs, hc, _ => by
    rw [List.eq_nil_of_length_eq_zero hc]
    exact ⟨by simp [readings], by simp [readings], fun r hr => by
      have : r = [] := by simpa [readings] using hr
      rw [this]; exact ⟨rfl, fun o ho => by cases ho⟩⟩
  | c + 1, zs0, hc, hz => by
    obtain ⟨zs, z, rfl⟩ : ∃ zs z, zs0 = zs ++ [z] := ⟨zs0.dropLast, zs0.getLast (by intro z; rw [z] at hc; simp at hc), (List.dropLast_concat_getLast _).symm⟩
    obtain ⟨h1, h2, h3⟩ := read_factsK c zs (by simpa using hc) fun y hy => hz y (List.mem_append_left _ hy)
    have hz5 := hz z (by simp)
    rw [read_snoc]
    refine ⟨?_, olonger_nd h2 (oms_nd z), fun r hr => ?_⟩
    · rw [olonger_len, oms_len, List.length_append, List.length_singleton, Nat.pow_succ]
      exact Nat.mul_le_mul h1 (by omega)
    · obtain ⟨r0, hr0, hr1⟩ := List.mem_flatMap.mp hr
      obtain ⟨j, hj, rfl⟩ := List.mem_map.mp hr1
      obtain ⟨a1, a2⟩ := h3 r0 hr0
      refine ⟨by simp [a1], fun o ho k e => ?_⟩
      rcases List.mem_append.mp ho with y | y
      · exact a2 o y k e
      · rw [List.mem_singleton.mp y] at e
        have := oms_in hj e
        omega
theorem read_facts (zs : List Nat) (_h : zs.length ≤ 3) (hz : ∀ z ∈ zs, z ≤ 5) : (readings zs).length ≤ 6 ^ zs.length ∧ (readings zs).Nodup ∧ ∀ r ∈ readings zs, r.length = zs.length ∧ ∀ o ∈ r, ∀ k, o = some k → 0 ≤ k ∧ k < 5 := read_factsK _ zs rfl hz
theorem read_few {zs : List Nat} (h : zs.length ≤ 3) (hz : ∀ z ∈ zs, z ≤ 5) : (readings zs).length ≤ 216 := by
  have h1 := (read_facts zs h hz).1
  have : 6 ^ zs.length ≤ 6 ^ 3 := Nat.pow_le_pow_right (by decide) h
  omega
/-- the keys of a table, state by state -/
def pairsTo (S : Nat) (rows : List ORow) : List (Int × ORow) := (List.range S).flatMap fun s : Nat => rows.map fun r => ((s : Int), r)
theorem pairs_succ (S : Nat) (rows : List ORow) : pairsTo (S + 1) rows = pairsTo S rows ++ rows.map fun r => ((S : Int), r) := by
  unfold pairsTo
  rw [List.range_succ, List.flatMap_append]; simp
theorem pairs_nd {rows : List ORow} (h : rows.Nodup) (S : Nat) : (pairsTo S rows).Nodup := by
  unfold pairsTo List.Nodup
  rw [List.pairwise_flatMap]
  refine ⟨fun s _ => ?_, ?_⟩
  · rw [List.pairwise_map]
    exact List.Pairwise.imp (fun {a b} hab e => hab (by injection e)) h
  · refine List.Pairwise.imp (fun {a b} hab x hx y hy e => ?_) (List.nodup_range (n := S))
    obtain ⟨r1, _, rfl⟩ := List.mem_map.mp hx
    obtain ⟨r2, _, rfl⟩ := List.mem_map.mp hy
    have : (a : Int) = (b : Int) := by injection e
    exact hab (by omega)
theorem pairs_len (S : Nat) (rows : List ORow) : (pairsTo S rows).length = S * rows.length := by
  unfold pairsTo
  induction S with
  | zero => simp
  | succ S ih => rw [List.range_succ, List.flatMap_append, List.length_append, ih, Nat.succ_mul]; simp
/-- the entries as they stand in the law's dict -/
def rowsD (es : List Ent) : List (PyData × PyData) := es.map fun x => (.tuple (pairK x.1 x.2.1), mwD x.2.2)
theorem rows_kb (es : List Ent) : ∀ p ∈ rowsD es, kb p.1 = true := fun p hp => by
  obtain ⟨x, _, rfl⟩ := List.mem_map.mp hp
  exact (kb_move x.1 x.2.1).1
theorem rows_not {es : List Ent} {s : Int} {os : ORow} (h : (s, os) ∉ es.map fun x => (x.1, x.2.1)) : PyData.tuple (pairK s os) ∉ (rowsD es).map (·.1) := fun hc => by
  unfold rowsD at hc
  rw [List.map_map] at hc
  obtain ⟨x, hx, e⟩ := List.mem_map.mp hc
  have e2 : pairK x.1 x.2.1 = pairK s os := by injection e
  simp only [pairK, List.cons.injEq, PyData.int.injEq, and_true] at e2
  exact h (List.mem_map.mpr ⟨x, hx, by rw [e2.1, dO_inj e2.2]⟩)
theorem min_fold : ∀ (ns : List Int) (n : Int), (ns.foldl min n ≤ n ∧ ∀ x ∈ ns, ns.foldl min n ≤ x) ∧ (0 ≤ n → (∀ x ∈ ns, 0 ≤ x) → 0 ≤ ns.foldl min n)
  | [], n => ⟨⟨Int.le_refl _, fun x h => by cases h⟩, fun h _ => h⟩
  | a :: ns, n => by
    obtain ⟨⟨h1, h2⟩, h3⟩ := min_fold ns (min n a)
    have m1 : min n a ≤ n := Int.min_le_left _ _
    have m2 : min n a ≤ a := Int.min_le_right _ _
    refine ⟨⟨Int.le_trans h1 m1, fun x hx => ?_⟩, fun h0 ha => h3 (by
      have := ha a (by simp)
      rcases Int.le_total n a with z | z
      · rw [Int.min_eq_left z]; exact h0
      · rw [Int.min_eq_right z]; exact this) fun x hx => ha x (List.mem_cons_of_mem _ hx)⟩
    rcases List.mem_cons.mp hx with z | z
    · rw [z]; exact Int.le_trans h1 m2
    · exact h2 x z
section
variable {P : Program} {w : World} {K : PySem.W.Frag} {mg : Str → Option Value} {base : Heap} {CT : Addr}
variable {pt : Option Pt} {σ : L2.St} {F F' F0 H0 H F2 H2 : Hp} {te ti ta tb ty td : TE} {ts tr : TA} {t u : TT} {wi : TI} {D : Ends} {tz tu tw : TS} {l a x dx : Addr} {xs : List NEnt} {fs : List (Str × V)} {f : Str} {i : Nat}
theorem t_ifJoin {t : TT} {tu tw : TS} (J : L2.St → Hp → Hp → Prop) (i : Ex F H) (g : Good pt F H) (h : EtG pt t σ F (fun _ => True)) (h1 : ∀ F2 H2, Step pt F H F2 H2 → ∀ N : L2.St → Hp → Prop, (∀ σ' F' H', J σ' F' H' → N σ' H') → tu { D with nx := N } σ H2)
    (h2 : ∀ F2 H2, Step pt F H F2 H2 → ∀ N : L2.St → Hp → Prop, (∀ σ' F' H', J σ' F' H' → N σ' H') → tw { D with nx := N } σ H2) (q : ∀ σ' F' H', J σ' F' H' → tz D σ' H') : tSeq (tIfS t tu tw) tz D σ H :=
  t_ifU (Step.refl i g) h (fun F2 H2 s _ => h1 F2 H2 s _ q) (fun F2 H2 s _ => h2 F2 H2 s _ q)
theorem t_forHR1 {j : Nat} {RS : List PyData → Prop} (i0 : Ex F H) (g : Good pt F H) (hw : WiG K pt wi σ F RS) (I : List PyData → Nat → L2.St → Hp → Hp → Prop) (h0 : ∀ ds, RS ds → ∀ F1 H1, Step pt F H F1 H1 → I ds 0 σ F1 H1) (hI : ∀ ds i σ' F' H', I ds i σ' F' H' → Ex F' H')
    (hs : ∀ ds, RS ds → ∀ i d, ds[i]? = some d → ∀ σ' F' H' x, I ds i σ' F' H' → Ex F F' → Rp K F' x d →
      ∀ N : L2.St → Hp → Prop, (∀ σ2 F2 H2, I ds (i + 1) σ2 F2 H2 → Ex F' F2 → N σ2 H2) → tu { D with nx := N, ct := N, bk := D.nx } (σ'.set j (some x)) H')
    (hd : ∀ ds, RS ds → ∀ σ' F' H', I ds ds.length σ' F' H' → Ex F F' → D.nx σ' H') : tFor wi (gName j) tu D σ H :=
  t_forHR (tz := fun _ => D.nx) (D := D) i0 g hw I h0 hI hs hd
theorem et_ofU (h : EvG K pt te σ F (fun d => ∃ b, d = .bool b)) : EtG pt (tTest te) σ F (fun _ => True) := fun H1 i g Q q => h H1 i g _ fun d v F2 H2 ⟨b, hd⟩ s hv => by
  subst hd
  obtain rfl := rp_bool hv
  exact ⟨b, rfl, q b F2 H2 trivial s⟩
theorem t_ifU1 {R : Bool → Prop} (s : Step pt F0 H0 F H) (h : EtG pt t σ F R) (h1 : R true → ∀ F2 H2, Step pt F0 H0 F2 H2 → Ex F F2 → tu D σ H2) (h2 : ∀ F2 H2, Step pt F0 H0 F2 H2 → Ex F F2 → tw D σ H2) : tIfS t tu tw D σ H := h H s.inn s.good _ fun b F2 H2 hb s2 => by
  cases b with
  | true => rw [if_pos rfl]; exact h1 hb F2 H2 (s.trans s2) s2.sub
  | false => rw [if_neg (by simp)]; exact h2 F2 H2 (s.trans s2) s2.sub
abbrev spRead (K : PySem.W.Frag) : Sp := PSp K (fun zs : List Nat => [.list (zs.map natD)]) (fun zs => zs.length ≤ 3 ∧ ∀ z ∈ zs, z ≤ 5) (fun zs => dLO (readings zs))
theorem ok_read {f fL : Addr} {fd fdL : FuncData} (Fn : Fun K "_law_readings" "_law_readings" s_law_readings f fd) (T : Tx mg)
    (F_law_longer : Fun K "_law_longer" "_law_longer" s_law_longer fL fdL) (b_law_longer : Binds K fdL ["_law_rows", "_law_marks"] []) (g_law_longer : mg "_law_longer" = some (.ref fL)) : FnOk P w K mg base CX0 2 f fd ["_law_sizes"] (spRead K) := by
  have G_law_longer : FnOk P w K mg base CX0 1 fL fdL ["_law_rows", "_law_marks"] (spOLonger K) := ok_olonger F_law_longer T
  refine Fn.ok sc_law_readings (PSp.len (fun _ => rfl)) (fun cdv A outer s H vs Q E hr h => ?_)
  obtain ⟨zs, F, ⟨h3, h5⟩, e, ha, q⟩ := h
  replace h3 : zs.length ≤ 3 := h3
  replace h5 : ∀ z ∈ zs, z ≤ 5 := h5
  obtain ⟨v, rfl, hv⟩ := rpAll1 ha
  refine ⟨_, (pss_cons (ps_set (i := 1) sc_law_readings.nd rfl (by first | exact Or.inl rfl | exact Or.inr rfl) (pe_lst (pa_cons (pe_tup pa_nil) pa_nil)))
    (pss_cons (ps_for PassesOwn.never rfl (i_list (K := K) (pv 0)) (pg_name (i := 2) sc_law_readings.nd rfl (by first | exact Or.inl rfl | exact Or.inr rfl)) (pss_one (ps_set (i := 1) sc_law_readings.nd rfl (by first | exact Or.inl rfl | exact Or.inr rfl) (pe_call G_law_longer (hr.mono (by decide)) (by rfl) g_law_longer F_law_longer.kp b_law_longer .nil pass0 (pa_cons (pv 1) (pa_cons (pe_op op_cat (pe_lst (pa_cons pe_non pa_nil)) (pe_listRg rfl (by rfl) T.list (prg_1 (by rfl) T.range (pv 2)))) pa_nil))))))
    (pss_one (ps_ret (pv 1))))), ?_⟩
  refine t_asgI (K := K) (d := dLO [[]]) (Step.refl e .nil) (g_lstI (gs_one (g_tupI gs_nil (by simp))) (by simp)) fun y F1 H1 s1 e1 hy => ?_
  refine t_for (K := K) (ds := zs.map natD) s1 (w_listI (g_var rfl (Rp.mono e1 _ _ hv))) (fun i σ' F' => ∃ y u, σ' = [some v, some y, u] ∧ Rp K F' y (dLO (readings (zs.take i)))) (fun F2 e2 => ⟨y, none, rfl, Rp.mono e2 _ _ hy⟩) (fun i d hd σ' F' H' z hI s' e' hz N hN => ?_) (fun σ' F' H' hI s' e' => ?_)
  · obtain ⟨y', u, rfl, hy'⟩ := hI
    obtain ⟨k, hk, rfl⟩ := get_map hd
    have hkm := List.mem_of_getElem? hk
    have k5 := h5 k hkm
    have tk : (zs.take i).length ≤ 3 := by rw [List.length_take]; omega
    have tz : ∀ z ∈ zs.take i, z ≤ 5 := fun z hz => h5 z (List.mem_of_mem_take hz)
    obtain ⟨f1, f2, f3⟩ := read_facts _ tk tz
    have few := read_few tk tz
    refine t_asg1 (K := K) s' (g_call (readings (zs.take i), oms k) (gs_two (g_var rfl hy') ((g_opI (g_lstI (gs_one g_non) (by simp)) (g_listRg (g_var rfl hz) (by omega)) (rv_cat (by simp [hs]; omega))).is (congrArg PyData.list (by
      show [PyData.none] ++ _ = _
      unfold oms hs
      rw [List.map_cons, List.map_map, List.map_map]; rfl)))) rfl ⟨by simp only; omega, by rw [oms_len]; omega, fun r hr => by have := (f3 r hr).1; omega⟩) fun d2 v2 F3 H3 hd2 s3 e3 hv3 => hN _ F3 H3 ⟨v2, some z, rfl, ?_⟩ s3 e3
    rw [show d2 = _ from hd2] at hv3
    rw [take_succA hk, read_snoc]
    exact hv3
  · obtain ⟨y', u, rfl, hy'⟩ := hI
    rw [List.length_map, List.take_length] at hy'
    exact t_retI s' (g_var rfl hy') q
end
end KD

namespace KD
open PySem PySem.Spec PyProof.Rows L2 L2H Fv Evl StX
/-- what the law knows of a table: every reading of every state has a move -/
structure TabOk (n S m : Nat) (zs : List Nat) (t : Tab) : Prop where
  st : t.1 = S
  len : t.2.1.length = m
  bd : ∀ k ∈ t.2.1, 0 ≤ k ∧ k < (S : Int)
  all : t.2.2.map (fun x => (x.1, x.2.1)) = pairsTo S (readings zs)
  mv : ∀ x ∈ t.2.2, MwOk S m x.2.2
/-- the law's table: (the start, the moves, how many states) -/
def LawTab (P : Program) (w : World) (K : PySem.W.Frag) (t : Tab) (v : V) (F : Hp) : Prop := ∃ a sv Dd xs, v = .ref a ∧ F a = some (.tup [sv, .ref Dd, .int (t.1 : Nat)]) ∧ Rp K F sv (.list (t.2.1.map .int)) ∧ ND P w K F Dd xs ∧ NV K F xs (rowsD t.2.2)
theorem LawTab.mono {P : Program} {w : World} {K : PySem.W.Frag} : ∀ (t : Tab) (v : V) (F F' : Hp), Ex F F' → LawTab P w K t v F → LawTab P w K t v F' := fun t v F F' e ⟨a, sv, Dd, xs, h1, h2, h3, h4, h5⟩ => ⟨a, sv, Dd, xs, h1, e _ _ h2, Rp.mono e _ _ h3, h4.mono e, h5.mono e⟩
/-- a row's cells that are there, the state and the last value -/
def cellsOf (r : ORow) : List Int := r.filterMap id
theorem cells_fil : ∀ r : ORow, (r.filter fun o => !o.isNone).map optD = (cellsOf r).map PyData.int
  | [] => rfl
  | none :: r => by
    rw [List.filter_cons_of_neg (by simp)]
    exact cells_fil r
  | some k :: r => by
    rw [List.filter_cons_of_pos (by simp), List.map_cons, cells_fil r]
    simp [cellsOf, optD]
theorem cells_in {r : ORow} {k : Int} (h : k ∈ cellsOf r) : some k ∈ r := by
  unfold cellsOf at h
  simpa using h
section
variable {P : Program} {w : World} {K : PySem.W.Frag} {mg : Str → Option Value} {base : Heap} {CT : Addr}
variable {pt : Option Pt} {σ : L2.St} {F F' F0 H0 H F2 H2 : Hp} {te ti ta tb ty td : TE} {ts tr : TA} {t u : TT} {wi : TI} {D : Ends} {tz tu tw : TS} {l a x dx : Addr} {xs : List NEnt} {fs : List (Str × V)} {f : Str} {i : Nat}
def spDrawn (P : Program) (w : World) (K : PySem.W.Frag) : Sp := fun vs H Q _ => ∃ (q : Pt) (m S : Nat) (zs : List Nat) (F : Hp) (v : V), vs = [.ref q.p, .int m, .int S, v] ∧ (1 ≤ m ∧ m ≤ 4 ∧ m ≤ S ∧ S ≤ 5 ∧ zs.length ≤ 3 ∧ ∀ z ∈ zs, z ≤ 5) ∧ Ex F H ∧ Good (some q) F H ∧ Rp K F v (.list (zs.map natD)) ∧
  ∀ z F2 H2 t, TabOk (zs.length + 1) S m zs t → Step (some q) F H F2 H2 → LawTab P w K t z F2 → Q z H2
/-- a list of draws, or 0 .. m - 1 -/
theorem ok_drawn {f fD fR : Addr} {fd fdD fdR : FuncData} (Fn : Fun K "_law_drawn" "_law_drawn" s_law_drawn f fd) (T : Tx mg)
    (F_law_draw : Fun K "_law_draw" "_law_draw" s_law_draw fD fdD) (b_law_draw : Binds K fdD ["_law_pot_here", "_law_many"] []) (g_law_draw : mg "_law_draw" = some (.ref fD))
    (F_law_readings : Fun K "_law_readings" "_law_readings" s_law_readings fR fdR) (b_law_readings : Binds K fdR ["_law_sizes"] []) (g_law_readings : mg "_law_readings" = some (.ref fR)) (G_law_readings : FnOk P w K mg base CX0 2 fR fdR ["_law_sizes"] (spRead K)) :
    FnOk P w K mg base CX0 3 f fd ["_law_pot_here", "_law_m", "_law_size", "_law_others"] (spDrawn P w K) := by
  have G_law_draw : FnOk P w K mg base CX0 1 fD fdD ["_law_pot_here", "_law_many"] (spDraw K) := ok_draw F_law_draw T
  refine Fn.ok sc_law_drawn (fun vs H Q E ⟨_, _, _, _, _, _, h, _⟩ => by rw [h]; rfl) (fun cdv A outer s H vs Q E hr h => ?_)
  obtain ⟨pq, m, S, zs, F, v, rfl, ⟨m1, m4, mS, S5, z3, z5⟩, e, g, hv, q⟩ := h
  obtain ⟨f1, f2, f3⟩ := read_facts zs z3 z5
  have few := read_few z3 z5
  refine ⟨_, (pss_cons (ps_setLc (i := 4) (own := [("_law_value", 5)]) (g := gName 5) rfl sc_law_drawn.nd rfl rfl (sw_true rfl rfl rfl (by decide +kernel)) (pi_range1 (by rfl) T.range (pa_cons (pv 1) pa_nil)) (blkOk_by (own := [("_law_value", 5)]) (N := ["_law_pot_here", "_law_m", "_law_size", "_law_others", "_law_start", "_law_value", "_law_rows", "_law_state", "_law_row", "_law_word", "_law_cell"]) (sc := (defScope s_law_drawn)) (by decide +kernel)) (fun _ _ _ _ _ => pg_name (i := 5) sc_law_drawn.nd rfl (by first | exact Or.inl rfl | exact Or.inr rfl)) (fun _ _ _ _ _ => pts_nil) (fun _ _ _ _ _ => (pe_call G_law_draw (hr.mono (by decide)) (by rfl) g_law_draw F_law_draw.kp b_law_draw .nil pass0 (pa_cons (pv 0) (pa_cons (pv 2) pa_nil)))))
    (pss_cons (ps_if (e_truth (K := K) (pe_call G_law_draw (hr.mono (by decide)) (by rfl) g_law_draw F_law_draw.kp b_law_draw .nil pass0 (pa_cons (pv 0) (pa_cons pe_int pa_nil)))) (pss_one (ps_set (i := 4) sc_law_drawn.nd rfl (by first | exact Or.inl rfl | exact Or.inr rfl) (pe_listRg rfl (by rfl) T.list (prg_1 (by rfl) T.range (pv 1))))) pss_nil)
    (pss_cons (ps_set (i := 6) sc_law_drawn.nd rfl (by first | exact Or.inl rfl | exact Or.inr rfl) (pe_dnewN (P := P) (w := w)))
    (pss_cons (ps_for PassesOwn.never rfl (pi_range1 (by rfl) T.range (pa_cons (pv 2) pa_nil)) (pg_name (i := 7) sc_law_drawn.nd rfl (by first | exact Or.inl rfl | exact Or.inr rfl)) (pss_one (ps_for PassesOwn.never rfl (i_list (K := K) (pe_call G_law_readings (hr.mono (by decide)) (by rfl) g_law_readings F_law_readings.kp b_law_readings .nil pass0 (pa_cons (pv 3) pa_nil))) (pg_name (i := 8) sc_law_drawn.nd rfl (by first | exact Or.inl rfl | exact Or.inr rfl)) (pss_cons (ps_set (i := 9) sc_law_drawn.nd rfl (by first | exact Or.inl rfl | exact Or.inr rfl) (pe_call G_law_draw (hr.mono (by decide)) (by rfl) g_law_draw F_law_draw.kp b_law_draw .nil pass0 (pa_cons (pv 0) (pa_cons pe_int pa_nil))))
    (pss_one (ps_if (pt_cmpR op_lt (pv 9) pe_int (nomark _)) (pss_one (ps_asg (pe_tup (pa_cons pe_str (pa_cons (pe_call G_law_draw (hr.mono (by decide)) (by rfl) g_law_draw F_law_draw.kp b_law_draw .nil pass0 (pa_cons (pv 0) (pa_cons (pv 1) pa_nil))) pa_nil))) (pg_sub (pv 6) (pe_tup (pa_cons (pv 7) (pa_cons (pv 8) pa_nil))) (set_N (P := P) (w := w) (K := K) (hu65 hr))))) (pss_one (ps_if (pt_cmpR op_eq (pv 9) pe_int (nomark _)) (pss_one (ps_asg (pe_tup (pa_cons pe_str (pa_cons (pe_callB (c_minS (K := K) (hu65 hr)) (by rfl) T.min (by decide +kernel) (pa_cons (pe_op op_cat (pe_lc (own := [("_law_cell", 10)]) (g := gName 10) rfl sc_law_drawn.nd (i_tup (K := K) (pv 8)) (blkOk_by (own := [("_law_cell", 10)]) (N := ["_law_pot_here", "_law_m", "_law_size", "_law_others", "_law_start", "_law_value", "_law_rows", "_law_state", "_law_row", "_law_word", "_law_cell"]) (sc := (defScope s_law_drawn)) (by decide +kernel)) (fun _ _ _ _ _ => pg_name (i := 10) sc_law_drawn.nd rfl (by first | exact Or.inl rfl | exact Or.inr rfl)) (fun _ _ _ _ _ => (pts_one (pt_cmpR op_notN (pv 10) pe_non (nomark _)))) (fun _ _ _ _ _ => (pv 10))) (pe_lst (pa_cons (pv 7) (pa_cons (pe_op op_sub (pv 1) pe_int) pa_nil)))) pa_nil)) pa_nil))) (pg_sub (pv 6) (pe_tup (pa_cons (pv 7) (pa_cons (pv 8) pa_nil))) (set_N (P := P) (w := w) (K := K) (hu65 hr))))) (pss_one (ps_asg (pe_call G_law_draw (hr.mono (by decide)) (by rfl) g_law_draw F_law_draw.kp b_law_draw .nil pass0 (pa_cons (pv 0) (pa_cons (pv 2) pa_nil))) (pg_sub (pv 6) (pe_tup (pa_cons (pv 7) (pa_cons (pv 8) pa_nil))) (set_N (P := P) (w := w) (K := K) (hu65 hr)))))))))))))
    (pss_one (ps_ret (pe_tup (pa_cons (pv 4) (pa_cons (pv 6) (pa_cons (pv 2) pa_nil)))))))))), ?_⟩
  have s0 : Step (some pq) F H F H := Step.refl e g
  have gm : ∀ {σ' : L2.St} {F' : Hp}, σ'[1]? = some (some (.int (m : Int))) → EvG K (some pq) (tVar 1) σ' F' (Is (.int (m : Int))) := fun h => g_var (v := .int m) h (.int _)
  have gS : ∀ {σ' : L2.St} {F' : Hp}, σ'[2]? = some (some (.int (S : Int))) → EvG K (some pq) (tVar 2) σ' F' (Is (.int (S : Int))) := fun h => g_var (v := .int S) h (.int _)
  refine t_asg (K := K) (R := fun d => ∃ st : List Int, d = .list (st.map .int) ∧ st.length = m ∧ ∀ k ∈ st, 0 ≤ k ∧ k < (S : Int)) s0 ((g_lcR (α := Unit) PyData.int (fun k => 0 ≤ k ∧ k < (S : Int)) (w_range (n := m) (gm rfl) (by omega)) (fun ds h => by rw [h, List.length_map, List.length_range]; omega) (fun _ => rfl) fun F' e' u => (g_callP (m := (S : Int)) rfl (gS rfl) ⟨by omega, by omega⟩).imp fun d ⟨j, hj, j0, j1⟩ => ⟨j, hj, j0, j1⟩).imp fun d ⟨ds, ys, hds, hd, hl, hp⟩ => ⟨ys, hd, by rw [hl, show ds = _ from hds, List.length_map, List.length_range], hp⟩) fun d sv F1 H1 hd s1 e1 hsv => ?_
  obtain ⟨st1, rfl, hl1, hb1⟩ := hd
  refine t_ifJoin (fun σ' F' H' => ∃ (sv : V) (st : List Int), σ' = [some (.ref pq.p), some (.int m), some (.int S), some v, some sv, none, none, none, none, none, none] ∧ Rp K F' sv (.list (st.map .int)) ∧ st.length = m ∧ (∀ k ∈ st, 0 ≤ k ∧ k < (S : Int)) ∧ Ex F1 F' ∧ Step (some pq) F H F' H') s1.inn s1.good (et_truU (K := K) (Pk := fun k => 0 ≤ k ∧ k < 4) (g_callP (m := 4) rfl g_int ⟨by omega, by omega⟩)) (fun F2 H2 s2 N hN => ?_) (fun F2 H2 s2 N hN => ?_) fun σ' F2 H2 ⟨sv, st, eσ, hsv, hl, hb, e12, s2⟩ => ?_
  · refine t_asg1 (K := K) (R := Is (dI (hs m))) (s1.trans s2) (g_listRg (gm rfl) (by omega)) fun d sv3 F3 H3 hd3 s3 e3 hsv3 => ?_
    refine hN _ F3 H3 ⟨sv3, hs m, rfl, ?_, hs_len m, fun k hk => by have := hs_mem.mp hk; omega, s2.sub.trans e3, s3⟩
    rw [show d = _ from hd3] at hsv3
    exact hsv3
  · exact hN _ F2 H2 ⟨sv, st1, rfl, Rp.mono s2.sub _ _ hsv, hl1, hb1, s2.sub, s1.trans s2⟩
  subst eσ
  have hv2 := Rp.mono (e1.trans e12) _ _ hv
  refine t_newN (K := K) s2 fun l H3 hl3 h0 g1 => ?_
  have g0 : Good (some pq) F H := g
  have step : ∀ (i : Nat) (r : ORow) (j : Nat), i < S → (readings zs)[j]? = some r → ∀ (es : List Ent), es.map (fun x => (x.1, x.2.1)) = pairsTo i (readings zs) ++ ((readings zs).take j).map (fun r => ((i : Int), r)) → ((i : Int), r) ∉ es.map fun x => (x.1, x.2.1) := fun i r j hi hr es he hc => by
    rw [he] at hc
    have nd := pairs_nd f2 (i + 1)
    rw [pairs_succ] at nd
    have h1 : (readings zs).take (j + 1) = (readings zs).take j ++ [r] := take_succA hr
    have sub : (pairsTo i (readings zs) ++ (((readings zs).take j).map (fun r => ((i : Int), r)) ++ [((i : Int), r)])).Nodup := by
      have e2 : ((readings zs).take j).map (fun r => ((i : Int), r)) ++ [((i : Int), r)] = ((readings zs).take (j + 1)).map (fun r => ((i : Int), r)) := by rw [h1, List.map_append]; rfl
      rw [e2]
      exact nd.sublist (List.Sublist.append (List.Sublist.refl _) (List.Sublist.map _ (List.take_sublist _ _)))
    rw [← List.append_assoc, List.nodup_append] at sub
    exact sub.2.2 _ hc _ (by simp) rfl
  refine t_forHR (K := K) (RS := (· = (List.range S).map natD)) g1.step.inn g1.step.good (w_range (n := S) (gS rfl) (by omega)) (fun ds i σ' F' H' => ∃ z7 z8 z9 es xs, σ' = [some (.ref pq.p), some (.int m), some (.int S), some v, some sv, none, some (.ref l), z7, z8, z9, none] ∧ Nst P w K (some pq) F H l F' H' xs ∧ NV K F' xs (rowsD es) ∧ es.map (fun x => (x.1, x.2.1)) = pairsTo i (readings zs) ∧ (∀ x ∈ es, MwOk S m x.2.2) ∧ Ex F2 F')
    (fun ds hds F4 H4 s4 => ⟨_, _, _, [], [], rfl, g1.run g0 h0 s4, .nil, rfl, (fun x hx => by cases hx), s4.sub⟩) (fun ds i σ' F' H' ⟨_, _, _, _, _, _, w, _⟩ => w.step.inn) (fun ds hds i d hd σ' F' H' u hI e' hu N hN => ?_) (fun ds hds σ' F' H' hI e' => ?_)
  · obtain ⟨z7, z8, z9, es0, xs0, rfl, n0, nv0, he0, hm0, e20⟩ := hI
    subst hds
    have hi : i < S := by have := (List.getElem?_eq_some_iff.mp hd).1; simpa using this
    have ed : d = natD i := by
      rw [List.getElem?_map, List.getElem?_range hi] at hd
      exact (Option.some.inj hd).symm
    subst ed
    obtain rfl := rp_int hu
    have gi : ∀ {σ' : L2.St} {F' : Hp}, σ'[7]? = some (some (.int (i : Int))) → EvG K (some pq) (tVar 7) σ' F' (Is (.int (i : Int))) := fun h => g_var (v := .int (i : Int)) h (.int _)
    refine t_forHR1 (K := K) (RS := (· = (readings zs).map dO)) n0.step.inn n0.step.good (w_listI (g_call zs (gs_one (g_var (i := 3) rfl (Rp.mono e20 _ _ hv2))) rfl ⟨z3, z5⟩)) (fun ds j σ' F' H' => ∃ z8 z9 es xs, σ' = [some (.ref pq.p), some (.int m), some (.int S), some v, some sv, none, some (.ref l), some (.int (i : Int)), z8, z9, none] ∧ Nst P w K (some pq) F H l F' H' xs ∧ NV K F' xs (rowsD es) ∧ es.map (fun x => (x.1, x.2.1)) = pairsTo i (readings zs) ++ ((readings zs).take j).map (fun r => ((i : Int), r)) ∧ (∀ x ∈ es, MwOk S m x.2.2) ∧ Ex F2 F')
      (fun ds hds F4 H4 s4 => ⟨_, _, es0, xs0, rfl, n0.run g0 h0 s4, nv0.mono s4.sub, by rw [he0]; simp, hm0, e20.trans s4.sub⟩) (fun ds i σ' F' H' ⟨_, _, _, _, _, w, _⟩ => w.step.inn) (fun ds hds j d hd σ' F4 H4 y hI e4 hy N2 hN2 => ?_) (fun ds hds σ' F4 H4 hI e4 => ?_)
    · obtain ⟨z8, z9, es, xs, rfl, n1, nv, he, hm, e24⟩ := hI
      subst hds
      obtain ⟨r, hr, rfl⟩ := get_map hd
      obtain ⟨r1, r2⟩ := f3 r (List.mem_of_getElem? hr)
      have hnew := step i r j hi hr es he
      have hxl : xs.length < 50000 := by
        have h1 := nv.len
        have h2 : es.length = (pairsTo i (readings zs) ++ ((readings zs).take j).map (fun r => ((i : Int), r))).length := by rw [← he, List.length_map]
        rw [List.length_append, pairs_len, List.length_map, List.length_take] at h2
        have h3 : (rowsD es).length = es.length := by simp [rowsD]
        have h4 : i * (readings zs).length ≤ 5 * 216 := Nat.mul_le_mul (by omega) few
        omega
      refine t_asg (K := K) (R := fun d => ∃ k : Int, d = .int k ∧ 0 ≤ k ∧ k < 6) (Step.refl n1.step.inn n1.step.good) (g_callP (m := 6) rfl g_int ⟨by omega, by omega⟩) fun d wv F5 H5 hd5 s5 e5 hwv => ?_
      obtain ⟨wd, rfl, _, _⟩ := hd5
      obtain rfl := rp_int hwv
      have n5 := n1.run g0 h0 s5
      have fin : ∀ {F7 H7 : Hp} {mw : Mw} {vv : V} {b : Addr}, MwOk S m mw → Nst P w K (some pq) F H l F7 H7 (putN xs (nk (.tuple (pairK (i : Int) r))) b vv) → Ex F5 F7 → Rp K F7 vv (mwD mw) → Rp K F7 (.ref b) (.tuple (pairK (i : Int) r)) → N2 [some (.ref pq.p), some (.int m), some (.int S), some v, some sv, none, some (.ref l), some (.int (i : Int)), some y, some (.int wd), none] H7 := fun {F7 H7 mw vv b} hmw n7 e7 hv7 hb7 =>
        hN2 _ F7 H7 ⟨_, _, es ++ [((i : Int), r, mw)], _, rfl, n7, by
          have := NV.put (nv.mono (e5.trans e7)) (kb_move (i : Int) r).1 (rows_kb es) (rows_not hnew) hb7 hv7
          simpa [rowsD] using this, by rw [List.map_append, he, take_succA hr, List.map_append, List.append_assoc]; rfl, fun x hx => by
          rcases List.mem_append.mp hx with z | z
          · exact hm x z
          · rw [List.mem_singleton.mp z]; exact hmw, (e24.trans e5).trans e7⟩ (e5.trans e7)
      have hk : ∀ {F6 : Hp}, Ex F5 F6 → ∀ F'', Ex F6 F'' → EvG K (some pq) (tTup (tCons (tVar 7) (tCons (tVar 8) tNil))) [some (.ref pq.p), some (.int m), some (.int S), some v, some sv, none, some (.ref l), some (.int (i : Int)), some y, some (.int wd), none] F'' (Is (.tuple (pairK (i : Int) r))) := fun {F6} e6 F'' e'' => g_tupI (ds := pairK (i : Int) r) (gs_two (gi rfl) (g_var (i := 8) rfl (Rp.mono ((e5.trans e6).trans e'') _ _ hy))) (by show 2 ≤ 100000; decide)
      refine t_if1 (b := decide (wd < 2)) (Step.refl n5.step.inn n5.step.good) (et_of (K := K) (g_opI (g_var (v := .int wd) (d := .int wd) rfl (.int _)) g_int (rv_bl (g := fun i j => decide (i < j))))) (fun _ F6 H6 s6 e6 => ?_) (fun _ F6 H6 s6 e6 => ?_)
      · refine t_putNd (K := K) (i := 6) (R := fun d => ∃ mw, d = mwD mw ∧ MwOk S m mw) g0 h0 (n5.run g0 h0 s6) rfl hxl (kb_move (i : Int) r).1 (kb_move (i : Int) r).2 ((g_tup (gs_cons g_str (g_consR (g_callP (m := (m : Int)) rfl (gm rfl) ⟨by omega, by omega⟩))) fun ds ⟨d1, ds1, a1, a2, d2, a3, a4⟩ => by subst a1; subst a3; show 2 ≤ 100000; decide).imp fun d ⟨ds, a7, d1, ds1, a1, a2, d2, a3, k, a4, a5, a6⟩ => ⟨.inr k, by rw [a7, a1, a3, show d1 = _ from a2, a4]; rfl, a5, a6⟩) (hk e6) fun d vv b F7 H7 ⟨mw, hd7, hmw⟩ n7 e7 hv7 hb7 => ?_
        subst hd7
        exact fin hmw n7 (e6.trans e7) hv7 hb7
      · refine t_if1 (b := decide (wd = 2)) (Step.refl s6.inn s6.good) (et_of (K := K) (g_opI (g_var (v := .int wd) (d := .int wd) rfl (.int _)) g_int rv_eqI)) (fun _ F7 H7 s7 e7 => ?_) (fun _ F7 H7 s7 e7 => ?_)
        · have hc : ∀ k ∈ cellsOf r, 0 ≤ k ∧ k < 5 := fun k hk => r2 _ (cells_in hk) k rfl
          obtain ⟨c0, cs, hcs⟩ : ∃ c0 cs, cellsOf r ++ [(i : Int), (m : Int) - 1] = c0 :: cs := by
            cases cellsOf r with
            | nil => exact ⟨_, _, rfl⟩
            | cons a b => exact ⟨_, _, rfl⟩
          have all0 : ∀ k ∈ c0 :: cs, 0 ≤ k := fun k hk => by
            rw [← hcs] at hk
            rcases List.mem_append.mp hk with z | z
            · exact (hc k z).1
            · simp only [List.mem_cons, List.not_mem_nil, or_false] at z
              rcases z with z | z <;> omega
          obtain ⟨⟨mf1, mf2⟩, mf3⟩ := min_fold cs c0
          have hlast : cs.foldl min c0 ≤ (m : Int) - 1 := by
            have : (m : Int) - 1 ∈ c0 :: cs := by rw [← hcs]; simp
            rcases List.mem_cons.mp this with z | z
            · rw [z]; exact mf1
            · exact mf2 _ z
          have h00 := mf3 (all0 c0 (by simp)) fun x hx => all0 x (List.mem_cons_of_mem _ hx)
          have e57 := (e5.trans e6).trans e7
          refine t_putNd (K := K) (i := 6) (R := fun d => ∃ mw, d = mwD mw ∧ MwOk S m mw) g0 h0 ((n5.run g0 h0 s6).run g0 h0 s7) rfl hxl (kb_move (i : Int) r).1 (kb_move (i : Int) r).2 ((g_tupI (ds := [.str "done", .int (cs.foldl min c0)]) (gs_two g_str (g_minL ((g_opI (g_lcE optD r (fun o => !o.isNone) optD (w_tupI (g_var (i := 8) rfl (Rp.mono e57 _ _ hy))) (by omega) (fun _ => rfl) (fun o ho F8 e8 w hw => et_of (K := K) (g_opI (g_var rfl hw) g_non rv_notO)) (fun o ho _ F8 e8 w hw => g_var rfl hw)) (g_lstI (gs_two (gi rfl) (g_opI (gm rfl) g_int rv_sub)) (by simp)) (rv_cat (by
            rw [List.length_map]
            have := List.length_filter_le (fun o : Option Int => !o.isNone) r
            simp only [List.length_cons, List.length_nil]
            omega))).is (by rw [cells_fil, ← hcs, List.map_append]; rfl)))) (by simp)).imp fun d hd => ⟨.inr (cs.foldl min c0), hd, h00, by omega⟩) (hk (e6.trans e7)) fun d vv b F8 H8 ⟨mw, hd8, hmw⟩ n8 e8 hv8 hb8 => ?_
          subst hd8
          exact fin hmw n8 ((e6.trans e7).trans e8) hv8 hb8
        · refine t_putNd (K := K) (i := 6) (R := fun d => ∃ mw, d = mwD mw ∧ MwOk S m mw) g0 h0 ((n5.run g0 h0 s6).run g0 h0 s7) rfl hxl (kb_move (i : Int) r).1 (kb_move (i : Int) r).2 ((g_callP (m := (S : Int)) rfl (gS rfl) ⟨by omega, by omega⟩).imp fun d ⟨k, a4, a5, a6⟩ => ⟨.inl k, by rw [a4]; rfl, a5, a6⟩) (hk (e6.trans e7)) fun d vv b F8 H8 ⟨mw, hd8, hmw⟩ n8 e8 hv8 hb8 => ?_
          subst hd8
          exact fin hmw n8 ((e6.trans e7).trans e8) hv8 hb8
    · obtain ⟨z8, z9, es, xs, rfl, n1, nv, he, hm, e24⟩ := hI
      subst hds
      rw [List.length_map, List.take_length] at he
      exact hN _ F4 H4 ⟨_, _, _, es, xs, rfl, n1, nv, by rw [he, pairs_succ], hm, e24⟩ e4
  · obtain ⟨z7, z8, z9, es, xs, rfl, n1, nv, he, hm, e24⟩ := hI
    subst hds
    rw [List.length_map, List.length_range] at he
    obtain ⟨F5, s5, e5, nd⟩ := n1.done g0 h0
    have e25 := e24.trans e5
    refine t_retX (Φ := fun z F6 => LawTab P w K (S, st, es) z F6) s5 (fun H6 i6 g6 Q6 q6 => ⟨_, rfl, _, rfl, _, rfl, sz_of (by show 3 ≤ 100000; decide), fun p hp => ?_⟩) fun z F6 H6 lt s6 => q z F6 H6 (S, st, es) ⟨rfl, hl, hb, he, hm⟩ s6 lt
    have s7 : Step (some pq) F5 H6 (upd F5 p (.tup [sv, .ref l, .int (S : Nat)])) (upd H6 p (.tup [sv, .ref l, .int (S : Nat)])) := .laid i6 g6 hp
    exact q6 _ _ _ ⟨p, sv, l, xs, rfl, upd_same, Rp.mono (e25.trans s7.sub) _ _ hsv, nd.mono s7.sub, (nv.mono e5).mono s7.sub⟩ s7
end
end KD

/-! t * 1 is t -/
namespace L2
open PySem PySem.Spec PyProof.Rows
theorem tuple_mul1 (l : Addr) (items : Array Value) (n : Nat) (dd : Option Addr) (sl : Array (Option Value)) (u : Tok) :
    Meets (Builtin.«tuple.__mul__» ⟨[.ref l, .int 1 u], []⟩) (fun _ R s => s.heap.get? l = some { cls := .type "tuple", dict := dd, data := .seq items n, slots := sl } ∧
      R (.ok (.ret (Value.ref l))) s) :=
  .of_wp fun prog w A R s h => by
    obtain ⟨hp, g, d, tk, os⟩ := s
    obtain ⟨hl, h⟩ := h
    have f1 := AutoSeq1.idx_int
    have c0 : (decide ((1 : Int) < -(2 ^ 63)) || decide ((1 : Int) ≥ 2 ^ 63)) = false := by decide
    wp_walk using wpAny_loadPart' hl
    repeat (first
      | (refine wpAny_ite_false (decide_eq_false (by rw [c0]; exact Bool.false_ne_true)) ?_; wp_walk using wpAny_loadPart' hl))
    exact ⟨_, rfl, h⟩
def rRepU (K : PySem.W.Frag) : R2 := fun x y H Q => rRepT K x y H Q ∨ ∃ l xs, x = .ref l ∧ y = .int 1 ∧ SqT K H l xs ∧ Q (.ref l) H
theorem op_repU {X : Cx} : OpR X (binaryOp .Mult) (rRepU X.K) := by
  intro pins s σ H x y v u Q I rx ry h
  rcases h with h | ⟨l, xs, rfl, rfl, hT, q⟩
  · exact op_repT pins s σ H x y v u Q I rx ry h
  · cases rx
    obtain ⟨t, rfl⟩ := ry
    obtain ⟨its, r, ⟨⟨cls, dd, data, sl⟩, ho, hc, n, hd⟩, hs⟩ := I.tuple hT
    simp only at hc hd
    subst hc hd
    exact wpAny_binaryOp_repeat_ref (T := "tuple") (U := "int") (by decide) ⟨_, ho, rfl⟩ (fun s' => typeIs_int s' 1 t) noFill_tuple_mul F.fills_int_mul F.slot_int_rmul repeat_tuple F.slot_int_index.lookup
      (call_meets F.slot_int_rmul (typeIs_int s 1 t) F.entry_int_rmul (F.args_int_rmul_2 _ _) (int_rmul_tuple 1 t l its.toArray n dd sl)
        ⟨ho, rfl, ⟨_, ho, rfl⟩, call_meets F.slot_tuple_mul ⟨_, ho, rfl⟩ F.entry_tuple_mul (F.args_tuple_mul_2 _ _) (tuple_mul1 l its.toArray n dd sl t) ⟨ho, .ref l, H, I, rfl, q⟩⟩)
end L2
namespace Fv
open PySem PySem.Spec PyProof.Rows L2 Evl StX
section
variable {K : PySem.W.Frag} {pt : Option Pt} {σ : L2.St} {F F' H : Hp} {ta tb : TE}
theorem o_repU {X : Cx} (h : X.K = K := by rfl) : OpR X (binaryOp .Mult) (rRepU K) := h ▸ op_repU
/-- t * k, k at least 1 -/
theorem g_repU {d : PyData} {k : Nat} (ha : EvG K pt ta σ F (Is (.tuple [d]))) (hb : EvG K pt tb σ F (Is (.int (k : Int)))) (h1 : 1 ≤ k) (h5 : k ≤ 1000) : EvG K pt (tOp (rRepU K) ta tb) σ F (Is (.tuple (List.replicate k d))) := g_opI ha hb fun F H x y e hx hy Q q => by
  obtain ⟨a, ys, rfl, hl, hv⟩ := rp_tup hx
  obtain rfl := rp_int hy
  by_cases z : k = 1
  · subst z
    exact .inr ⟨a, ys, rfl, rfl, tx e hl, q _ _ F H rfl (.refl e .nil) (.tup hl hv)⟩
  · have hly := hv.length
    have hrep := rpAll_rep k hv
    have e1 := flat_one d k
    rw [e1] at hrep
    refine .inl ⟨a, k, ys, rfl, rfl, tx e hl, (fun z => by rw [z] at hly; cases hly), by omega, by omega, by rw [hly]; simp, fun p hp => ?_⟩
    rw [show ((k : Int)).toNat = k by omega]
    have s : Step none F H (upd F p (.tup (List.replicate k ys).flatten)) (upd H p (.tup (List.replicate k ys).flatten)) := .laid e .nil hp
    exact q _ _ _ _ rfl s (.tup upd_same (RpAll.mono s.sub _ _ hrep))
/-- [x] * k -/
theorem g_repL {d : PyData} {k : Nat} (ha : EvG K pt ta σ F (Is (.list [d]))) (hb : EvG K pt tb σ F (Is (.int (k : Int)))) (h5 : k ≤ 1000) : EvG K pt (tOp rRep ta tb) σ F (Is (.list (List.replicate k d))) := g_opI ha hb fun F H x y e hx hy Q q => by
  obtain ⟨a, ys, rfl, hl, hv⟩ := rp_lst hx
  obtain rfl := rp_int hy
  have hly := hv.length
  have hrep := rpAll_rep k hv
  have e1 := flat_one d k
  rw [e1] at hrep
  refine ⟨a, k, ys, rfl, rfl, e _ _ hl, by omega, by omega, by rw [hly, show ((k : Int)).toNat = k by omega, sizeLine_eq]; simp; omega, fun p hp => ?_⟩
  rw [show ((k : Int)).toNat = k by omega]
  have s : Step none F H (upd F p (.lst (List.replicate k ys).flatten)) (upd H p (.lst (List.replicate k ys).flatten)) := .laid e .nil hp
  exact q _ _ _ _ rfl s (.lst upd_same (RpAll.mono s.sub _ _ hrep))
end
end Fv

namespace KD
open PySem PySem.Spec PyProof.Rows L2 L2H Fv Evl StX
section
variable {P : Program} {w : World} {K : PySem.W.Frag} {mg : Str → Option Value} {base : Heap} {CT : Addr}
variable {pt : Option Pt} {σ : L2.St} {F F' F0 H0 H F2 H2 : Hp} {te ti ta tb ty td : TE} {ts tr : TA} {t u : TT} {wi wj : TI} {D : Ends} {tz tu tw body : TS} {l a x dx : Addr} {xs : List NEnt} {fs : List (Str × V)} {f : Str} {i : Nat}
/-- for state in ..: for row in ..: rows[state, row] = a move -/
theorem t_fill {pq : Pt} {S m si ri : Nat} {rows : List ORow} (J : L2.St → Prop) (g0 : Good (some pq) F0 H0) (h0 : H0 l = none) (g1 : Nst P w K (some pq) F0 H0 l F H []) (hJ : J σ) (hJs : ∀ σ x, J σ → J (σ.set si (some x))) (hJr : ∀ σ x, J σ → J (σ.set ri (some x))) (hlen : ∀ σ, J σ → si < σ.length ∧ ri < σ.length) (hne : si ≠ ri)
    (nd : rows.Nodup) (few : rows.length ≤ 216) (S40 : S ≤ 40) (hw : WiG K (some pq) wi σ F (· = (List.range S).map natD)) (hwj : ∀ σ' F', J σ' → Ex F F' → WiG K (some pq) wj σ' F' (· = rows.map dO))
    (hb : ∀ (i : Nat) r σ' F' H' y xs, i < S → r ∈ rows → J σ' → σ'[si]? = some (some (.int (i : Int))) → σ'[ri]? = some (some y) → Rp K F' y (dO r) → Nst P w K (some pq) F0 H0 l F' H' xs → xs.length < 40000 → Ex F F' → ∀ D' : Ends, (∀ σ2 F2 H2 mw b v, J σ2 → σ2[si]? = some (some (.int (i : Int))) → MwOk S m mw → Nst P w K (some pq) F0 H0 l F2 H2 (putN xs (nk (.tuple (pairK (i : Int) r))) b v) → Ex F' F2 → Rp K F2 v (mwD mw) → Rp K F2 (.ref b) (.tuple (pairK (i : Int) r)) → D'.nx σ2 H2) → body D' σ' H')
    (q : ∀ σ2 F2 H2 es xs, J σ2 → Nst P w K (some pq) F0 H0 l F2 H2 xs → NV K F2 xs (rowsD es) → es.map (fun x => (x.1, x.2.1)) = pairsTo S rows → (∀ x ∈ es, MwOk S m x.2.2) → Ex F F2 → tz D σ2 H2) :
    tSeq (tFor wi (gName si) (tFor wj (gName ri) body)) tz D σ H := by
  have step : ∀ (i : Nat) (r : ORow) (j : Nat), rows[j]? = some r → ∀ (es : List Ent), es.map (fun x => (x.1, x.2.1)) = pairsTo i rows ++ (rows.take j).map (fun r => ((i : Int), r)) → ((i : Int), r) ∉ es.map fun x => (x.1, x.2.1) := fun i r j hr es he hc => by
    rw [he] at hc
    have nd := pairs_nd nd (i + 1)
    rw [pairs_succ] at nd
    have h1 : rows.take (j + 1) = rows.take j ++ [r] := take_succA hr
    have sub : (pairsTo i rows ++ ((rows.take j).map (fun r => ((i : Int), r)) ++ [((i : Int), r)])).Nodup := by
      have e2 : (rows.take j).map (fun r => ((i : Int), r)) ++ [((i : Int), r)] = (rows.take (j + 1)).map (fun r => ((i : Int), r)) := by rw [h1, List.map_append]; rfl
      rw [e2]
      exact nd.sublist (List.Sublist.append (List.Sublist.refl _) (List.Sublist.map _ (List.take_sublist _ _)))
    rw [← List.append_assoc, List.nodup_append] at sub
    exact sub.2.2 _ hc _ (by simp) rfl
  refine t_forHR (K := K) (RS := (· = (List.range S).map natD)) g1.step.inn g1.step.good hw (fun ds i σ' F' H' => ∃ es xs, J σ' ∧ Nst P w K (some pq) F0 H0 l F' H' xs ∧ NV K F' xs (rowsD es) ∧ es.map (fun x => (x.1, x.2.1)) = pairsTo i rows ∧ (∀ x ∈ es, MwOk S m x.2.2) ∧ Ex F F')
    (fun ds hds F4 H4 s4 => ⟨[], [], hJ, g1.run g0 h0 s4, .nil, rfl, (fun x hx => by cases hx), s4.sub⟩) (fun ds i σ' F' H' ⟨_, _, _, w, _⟩ => w.step.inn) (fun ds hds i d hd σ' F' H' u hI e' hu N hN => ?_) (fun ds hds σ' F' H' hI e' => ?_)
  · obtain ⟨es0, xs0, j0, n0, nv0, he0, hm0, e20⟩ := hI
    subst hds
    have hi : i < S := by have := (List.getElem?_eq_some_iff.mp hd).1; simpa using this
    have ed : d = natD i := by
      rw [List.getElem?_map, List.getElem?_range hi] at hd
      exact (Option.some.inj hd).symm
    subst ed
    obtain rfl := rp_int hu
    have ls := hlen _ j0
    refine t_forHR1 (K := K) (RS := (· = rows.map dO)) n0.step.inn n0.step.good (hwj _ _ (hJs _ _ j0) e20) (fun ds j σ' F' H' => ∃ es xs, J σ' ∧ σ'[si]? = some (some (.int (i : Int))) ∧ Nst P w K (some pq) F0 H0 l F' H' xs ∧ NV K F' xs (rowsD es) ∧ es.map (fun x => (x.1, x.2.1)) = pairsTo i rows ++ (rows.take j).map (fun r => ((i : Int), r)) ∧ (∀ x ∈ es, MwOk S m x.2.2) ∧ Ex F F')
      (fun ds hds F4 H4 s4 => ⟨es0, xs0, hJs _ _ j0, List.getElem?_set_self ls.1, n0.run g0 h0 s4, nv0.mono s4.sub, by rw [he0]; simp, hm0, e20.trans s4.sub⟩) (fun ds i σ' F' H' ⟨_, _, _, _, w, _⟩ => w.step.inn) (fun ds hds j d hd σ' F4 H4 y hI e4 hy N2 hN2 => ?_) (fun ds hds σ' F4 H4 hI e4 => ?_)
    · obtain ⟨es, xs, j1, hsi, n1, nv, he, hm, e24⟩ := hI
      subst hds
      obtain ⟨r, hr, rfl⟩ := get_map hd
      have hnew := step i r j hr es he
      have ls1 := hlen _ j1
      have hxl : xs.length < 40000 := by
        have h1 := nv.len
        have h2 : es.length = (pairsTo i rows ++ (rows.take j).map (fun r => ((i : Int), r))).length := by rw [← he, List.length_map]
        rw [List.length_append, pairs_len, List.length_map, List.length_take] at h2
        have h3 : (rowsD es).length = es.length := by simp [rowsD]
        have h4 : i * rows.length ≤ 40 * 216 := Nat.mul_le_mul (by omega) few
        omega
      refine hb i r _ F4 H4 y xs hi (List.mem_of_getElem? hr) (hJr _ _ j1) (by rw [List.getElem?_set_ne (fun z => hne z.symm)]; exact hsi) (List.getElem?_set_self ls1.2) hy n1 hxl e24 _ fun σ2 F2 H2 mw b v j2 hsi2 hmw n2 e2 hv2 hb2 => ?_
      refine hN2 σ2 F2 H2 ⟨es ++ [((i : Int), r, mw)], _, j2, hsi2, n2, by
        have := NV.put (nv.mono e2) (kb_move (i : Int) r).1 (rows_kb es) (rows_not hnew) hb2 hv2
        simpa [rowsD] using this, by rw [List.map_append, he, take_succA hr, List.map_append, List.append_assoc]; rfl, fun x hx => by
        rcases List.mem_append.mp hx with z | z
        · exact hm x z
        · rw [List.mem_singleton.mp z]; exact hmw, e24.trans e2⟩ e2
    · obtain ⟨es, xs, j1, hsi, n1, nv, he, hm, e24⟩ := hI
      subst hds
      rw [List.length_map, List.take_length] at he
      exact hN _ F4 H4 ⟨es, xs, j1, n1, nv, by rw [he, pairs_succ], hm, e24⟩ e4
  · obtain ⟨es, xs, j1, n1, nv, he, hm, e24⟩ := hI
    subst hds
    rw [List.length_map, List.length_range] at he
    exact q σ' F' H' es xs j1 n1 nv he hm e24
end
end KD

namespace KD
open PySem PySem.Spec PyProof.Rows L2 L2H Fv Evl StX
abbrev s_law_meeting : Stmt := topS 33
theorem sc_law_meeting : FnScope ["_law_pot_here", "_law_n", "_law_m", "_law_size", "_law_named", "_law_state", "_law_tables_here", "_law_house", "_law_rows", "_law_row"] ["_law_pot_here", "_law_n", "_law_m", "_law_size"] (defScope s_law_meeting) := ⟨rfl, rfl, rfl, by decide +kernel, rfl, by decide +kernel, by decide +kernel⟩
theorem canLayAll_opts : ∀ ns : ORow, PyData.canLayAll0 (ns.map optD) = true
  | [] => by simp [PyData.canLayAll0]
  | none :: ns => by simp [PyData.canLayAll0, PyData.canLay0, canLayAll_opts ns, optD]
  | some n :: ns => by simp [PyData.canLayAll0, PyData.canLay0, canLayAll_opts ns, optD]
theorem depthAll_opts : ∀ ns : ORow, PyData.depthAll (ns.map optD) ≤ 1
  | [] => by simp [PyData.depthAll]
  | n :: ns => by
    have := depthAll_opts ns
    simp only [List.map_cons, PyData.depthAll]
    cases n <;> simp only [optD, PyData.depth] <;> omega
theorem shaped_dO (ns : ORow) : SeqAt.shaped (dO ns) = true := shaped_of (by simp only [PyData.canLay0]; exact canLayAll_opts ns) (by have := depthAll_opts ns; simp only [PyData.depth]; omega)
/-- tables of a law: one for each house, as many states as Ss tells -/
structure TabsOk (n m : Nat) (Ss : List Nat) (ts : List Tab) : Prop where
  len : ts.length = n
  lenS : Ss.length = n
  ok : ∀ k t, ts[k]? = some t → TabOk n (Ss.getD k 0) m (Ss.eraseIdx k) t
section
variable {P : Program} {w : World} {K : PySem.W.Frag} {mg : Str → Option Value} {base : Heap} {CT : Addr}
variable {pt : Option Pt} {σ : L2.St} {F F' F0 H0 H F2 H2 : Hp} {te ti ta tb ty td : TE} {ts tr : TA} {t u : TT} {wi wj : TI} {D : Ends} {tz tu tw body : TS} {l a x dx : Addr} {xs : List NEnt} {fs : List (Str × V)} {f : Str} {i : Nat}
/-- (start, rows, size), the rows a dict of one's own that stays now -/
theorem x_tab3 {i2 i3 : Nat} {Dd : Addr} {S : Nat} {st : List Int} {es : List Ent} (h1 : EvG K pt te σ F (Is (.list (st.map .int)))) (h2 : σ[i2]? = some (some (.ref Dd))) (h3 : σ[i3]? = some (some (.int (S : Int)))) (nd : ND P w K F Dd xs) (nv : NV K F xs (rowsD es)) :
    EvX pt (tTup (tCons te (tCons (tVar i2) (tCons (tVar i3) tNil)))) σ F (LawTab P w K (S, st, es)) := fun H1 i g Q q => h1 H1 i g _ fun d v F2 H2 hd s hv => ⟨_, h2, _, h3, sz_of (by show 3 ≤ 100000; decide), fun p hp => by
  rw [show d = _ from hd] at hv
  have s7 : Step pt F2 H2 (upd F2 p (.tup [v, .ref Dd, .int (S : Int)])) (upd H2 p (.tup [v, .ref Dd, .int (S : Int)])) := .laid s.inn s.good hp
  exact q _ _ _ ⟨p, v, Dd, xs, rfl, upd_same, Rp.mono s7.sub _ _ hv, nd.mono (s.sub.trans s7.sub), nv.mono (s.sub.trans s7.sub)⟩ (s.trans s7)⟩
def spMeet (P : Program) (w : World) (K : PySem.W.Frag) : Sp := fun vs H Q _ => ∃ (q : Pt) (n m S : Nat) (F : Hp), vs = [.ref q.p, .int n, .int m, .int S] ∧ (2 ≤ n ∧ n ≤ 4 ∧ 1 ≤ m ∧ m ≤ 4 ∧ m ≤ S ∧ S ≤ 5) ∧ Ex F H ∧ Good (some q) F H ∧
  ∀ z F2 H2 ts, ts.length = n → (∀ t ∈ ts, TabOk n S m (List.replicate (n - 1) S) t) → Step (some q) F H F2 H2 → LstX (LawTab P w K) F2 z ts → Q z H2
theorem ok_meet {f fD fR : Addr} {fd fdD fdR : FuncData} (Fn : Fun K "_law_meeting" "_law_meeting" s_law_meeting f fd) (T : Tx mg)
    (F_law_draw : Fun K "_law_draw" "_law_draw" s_law_draw fD fdD) (b_law_draw : Binds K fdD ["_law_pot_here", "_law_many"] []) (g_law_draw : mg "_law_draw" = some (.ref fD))
    (F_law_readings : Fun K "_law_readings" "_law_readings" s_law_readings fR fdR) (b_law_readings : Binds K fdR ["_law_sizes"] []) (g_law_readings : mg "_law_readings" = some (.ref fR)) (G_law_readings : FnOk P w K mg base CX0 2 fR fdR ["_law_sizes"] (spRead K)) :
    FnOk P w K mg base CX0 3 f fd ["_law_pot_here", "_law_n", "_law_m", "_law_size"] (spMeet P w K) := by
  have G_law_draw : FnOk P w K mg base CX0 1 fD fdD ["_law_pot_here", "_law_many"] (spDraw K) := ok_draw F_law_draw T
  refine Fn.ok sc_law_meeting (fun vs H Q E ⟨_, _, _, _, _, h, _⟩ => by rw [h]; rfl) (fun cdv A outer s H vs Q E hr h => ?_)
  obtain ⟨pq, n, m, S, F, rfl, ⟨n2, n4, m1, m4, mS, S5⟩, e, g, q⟩ := h
  have z3 : (List.replicate (n - 1) S).length ≤ 3 := by rw [List.length_replicate]; omega
  have z5 : ∀ z ∈ List.replicate (n - 1) S, z ≤ 5 := fun z hz => by rw [List.eq_of_mem_replicate hz]; exact S5
  obtain ⟨f1, f2, f3⟩ := read_facts _ z3 z5
  have few := read_few z3 z5
  refine ⟨_, (pss_cons (ps_set (i := 4) sc_law_meeting.nd rfl (by first | exact Or.inl rfl | exact Or.inr rfl) (pe_op op_cat (pe_listRg rfl (by rfl) T.list (prg_1 (by rfl) T.range (pv 2))) (pe_lc (own := [("_law_state", 5)]) (g := gName 5) rfl sc_law_meeting.nd (pi_range1 (by rfl) T.range (pa_cons (pe_op op_sub (pv 3) (pv 2)) pa_nil)) (blkOk_by (own := [("_law_state", 5)]) (N := ["_law_pot_here", "_law_n", "_law_m", "_law_size", "_law_named", "_law_state", "_law_tables_here", "_law_house", "_law_rows", "_law_row"]) (sc := (defScope s_law_meeting)) (by decide +kernel)) (fun _ _ _ _ _ => pg_name (i := 5) sc_law_meeting.nd rfl (by first | exact Or.inl rfl | exact Or.inr rfl)) (fun _ _ _ _ _ => pts_nil) (fun _ _ _ _ _ => (pe_call G_law_draw (hr.mono (by decide)) (by rfl) g_law_draw F_law_draw.kp b_law_draw .nil pass0 (pa_cons (pv 0) (pa_cons (pv 2) pa_nil)))))))
    (pss_cons (ps_set (i := 6) sc_law_meeting.nd rfl (by first | exact Or.inl rfl | exact Or.inr rfl) (pe_lst pa_nil))
    (pss_cons (ps_for PassesOwn.never rfl (pi_range1 (by rfl) T.range (pa_cons (pv 1) pa_nil)) (pg_name (i := 7) sc_law_meeting.nd rfl (by first | exact Or.inl rfl | exact Or.inr rfl)) (pss_cons (ps_set (i := 8) sc_law_meeting.nd rfl (by first | exact Or.inl rfl | exact Or.inr rfl) (pe_dnewN (P := P) (w := w)))
    (pss_cons (ps_for PassesOwn.never rfl (pi_range1 (by rfl) T.range (pa_cons (pv 3) pa_nil)) (pg_name (i := 5) sc_law_meeting.nd rfl (by first | exact Or.inl rfl | exact Or.inr rfl)) (pss_one (ps_for PassesOwn.never rfl (i_list (K := K) (pe_call G_law_readings (hr.mono (by decide)) (by rfl) g_law_readings F_law_readings.kp b_law_readings .nil pass0 (pa_cons (pe_op op_rep (pe_lst (pa_cons (pv 3) pa_nil)) (pe_op op_sub (pv 1) pe_int)) pa_nil))) (pg_name (i := 9) sc_law_meeting.nd rfl (by first | exact Or.inl rfl | exact Or.inr rfl)) (pss_one (ps_if (pt_cmpR (o_eqD (K := K) hr.units) (pv 9) (pe_op (o_repU (K := K)) (pe_tup (pa_cons (pv 5) pa_nil)) (pe_op op_sub (pv 1) pe_int)) (nomark _)) (pss_one (ps_asg (pe_tup (pa_cons pe_str (pa_cons (pe_ix (o_ixL (K := K)) (pv 4) (pv 5) (fun _ _ => rfl)) pa_nil))) (pg_sub (pv 8) (pe_tup (pa_cons (pv 5) (pa_cons (pv 9) pa_nil))) (set_N (P := P) (w := w) (K := K) (hu65 hr))))) (pss_one (ps_asg (pe_call G_law_draw (hr.mono (by decide)) (by rfl) g_law_draw F_law_draw.kp b_law_draw .nil pass0 (pa_cons (pv 0) (pa_cons (pv 3) pa_nil))) (pg_sub (pv 8) (pe_tup (pa_cons (pv 5) (pa_cons (pv 9) pa_nil))) (set_N (P := P) (w := w) (K := K) (hu65 hr))))))))))
    (pss_one (ps_expr (pe_bm PySem.F.plainAttrs_list PySem.F.slot_list_append PySem.F.type_list_append mt_append (pv 6) (pa_cons (pe_tup (pa_cons (pe_listRg rfl (by rfl) T.list (prg_1 (by rfl) T.range (pv 2))) (pa_cons (pv 8) (pa_cons (pv 3) pa_nil)))) pa_nil)))))))
    (pss_one (ps_ret (pv 6)))))), ?_⟩
  have s0 : Step (some pq) F H F H := Step.refl e g
  have g0 : Good (some pq) F H := g
  have gn : ∀ {σ' : L2.St} {F' : Hp}, σ'[1]? = some (some (.int (n : Int))) → EvG K (some pq) (tVar 1) σ' F' (Is (.int (n : Int))) := fun h => g_var (v := .int n) h (.int _)
  have gm : ∀ {σ' : L2.St} {F' : Hp}, σ'[2]? = some (some (.int (m : Int))) → EvG K (some pq) (tVar 2) σ' F' (Is (.int (m : Int))) := fun h => g_var (v := .int m) h (.int _)
  have gS : ∀ {σ' : L2.St} {F' : Hp}, σ'[3]? = some (some (.int (S : Int))) → EvG K (some pq) (tVar 3) σ' F' (Is (.int (S : Int))) := fun h => g_var (v := .int S) h (.int _)
  have gn1 : ∀ {σ' : L2.St} {F' : Hp}, σ'[1]? = some (some (.int (n : Int))) → EvG K (some pq) (tOp (rI0 fun i j => .int (i - j)) (tVar 1) (tC (.int 1))) σ' F' (Is (.int ((n - 1 : Nat) : Int))) := fun h => (g_opI (gn h) g_int rv_sub).is (congrArg PyData.int (by omega))
  -- the values that are named
  refine t_asg (K := K) (R := fun d => ∃ nm : List Int, d = .list (nm.map .int) ∧ nm.length = S ∧ ∀ k ∈ nm, 0 ≤ k ∧ k < (m : Int)) s0 (g_op (R1 := Is (dI (hs m))) (S2 := fun d => ∃ ys : List Int, d = .list (ys.map .int) ∧ ys.length = S - m ∧ ∀ k ∈ ys, 0 ≤ k ∧ k < (m : Int)) (g_listRg (gm rfl) (by omega)) ((g_lcR (α := Unit) PyData.int (fun k => 0 ≤ k ∧ k < (m : Int)) (w_range (n := S - m) ((g_opI (gS rfl) (gm rfl) rv_sub).is (congrArg PyData.int (by omega))) (by omega)) (fun ds h => by rw [h, List.length_map, List.length_range]; omega) (fun _ => rfl) fun F' e' u => (g_callP (m := (m : Int)) rfl (gm rfl) ⟨by omega, by omega⟩).imp fun d ⟨j, hj, j0, j1⟩ => ⟨j, hj, j0, j1⟩).imp fun d ⟨ds, ys, hds, hd, hl, hp⟩ => ⟨ys, hd, by rw [hl, show ds = _ from hds, List.length_map, List.length_range], hp⟩) fun d1 d2 h1 ⟨ys, h2, h3, h4⟩ => ?_) fun d nv F1 H1 hd s1 e1 hnv => ?_
  · subst h1; subst h2
    intro F H x y i hx hy Q q
    refine rv_cat (ds := (hs m).map .int) (es := ys.map .int) (by rw [List.length_map, List.length_map, hs_len]; omega) F H x y i hx hy Q fun z v F2 H2 hz s hv => q z v F2 H2 ⟨hs m ++ ys, by rw [show z = _ from hz, List.map_append], by rw [List.length_append, hs_len, h3]; omega, fun k hk => ?_⟩ s hv
    rcases List.mem_append.mp hk with z | z
    · exact hs_mem.mp z
    · exact h4 k z
  obtain ⟨nm, rfl, hnl, hnb⟩ := hd
  refine t_newL (K := K) s1 (fun l hl0 hlH gst => ?_) (fun l h => s1.back l h)
  have gx0 : Xst K (LawTab P w K) (some pq) F H l F1 (upd H1 l (.lst [])) [] := Xst.of gst
  refine t_forHR (K := K) (RS := (· = (List.range n).map natD)) gx0.step.inn gx0.step.good (w_range (n := n) (gn rfl) (by omega)) (fun ds i σ' F' H' => ∃ z5 z7 z8 z9 ts, σ' = [some (.ref pq.p), some (.int n), some (.int m), some (.int S), some nv, z5, some (.ref l), z7, z8, z9] ∧ Xst K (LawTab P w K) (some pq) F H l F' H' ts ∧ ts.length = i ∧ (∀ t ∈ ts, TabOk n S m (List.replicate (n - 1) S) t) ∧ Ex F1 F')
    (fun ds hds F3 H3 s3 => ⟨_, _, _, _, [], rfl, gx0.run LawTab.mono g0 hl0 s3, rfl, (fun t ht => by cases ht), s3.sub⟩) (fun ds i σ' F' H' ⟨_, _, _, _, _, _, w, _⟩ => w.step.inn) (fun ds hds i d hd σ' F' H' u hI e' hu N hN => ?_) (fun ds hds σ' F' H' hI e' => ?_)
  · obtain ⟨z5', z7, z8, z9, tss, rfl, gx, htl, hts, e12⟩ := hI
    subst hds
    have hi : i < n := by have := (List.getElem?_eq_some_iff.mp hd).1; simpa using this
    have gI : Good (some pq) F' H' := gx.step.good
    refine t_newN (K := K) (Step.refl gx.step.inn gI) fun l2 H3 hl3 h02 g1 => ?_
    refine t_fill (K := K) (m := m) (S := S) (rows := readings (List.replicate (n - 1) S)) (fun σ => ∃ z5 z9, σ = [some (.ref pq.p), some (.int n), some (.int m), some (.int S), some nv, z5, some (.ref l), some u, some (.ref l2), z9]) gI h02 g1 ⟨_, _, rfl⟩ (fun σ x ⟨a, b, hs⟩ => ⟨some x, b, by rw [hs]; rfl⟩) (fun σ x ⟨a, b, hs⟩ => ⟨a, some x, by rw [hs]; rfl⟩) (fun σ ⟨a, b, hs⟩ => by rw [hs]; exact ⟨by show 5 < 10; decide, by show 9 < 10; decide⟩) (by decide) f2 few (by omega) (w_range (n := S) (gS rfl) (by omega)) (fun σ' F4 ⟨a, b, hs⟩ e4 => ?_) (fun k r σ' F4 H4 y xs hk hr hJ hsi hri hy n1 hxl e4 D' fin => ?_) fun σ2 F4 H4 es xs hJ n1 nv1 he hm e4 => ?_
    · subst hs
      exact w_listI (g_call (List.replicate (n - 1) S) (gs_one ((g_repL (g_lstI (gs_one (gS rfl)) (by simp)) (gn1 rfl) (by omega)).is (by rw [List.map_replicate]))) rfl ⟨z3, z5⟩)
    · obtain ⟨a, b, rfl⟩ := hJ
      obtain rfl : a = some (.int (k : Int)) := by simpa using hsi
      obtain rfl : b = some y := by simpa using hri
      have gk : ∀ {σ' : L2.St} {F' : Hp}, σ'[5]? = some (some (.int (k : Int))) → EvG K (some pq) (tVar 5) σ' F' (Is (.int (k : Int))) := fun h => g_var (v := .int (k : Int)) h (.int _)
      have hkey : ∀ {F5 : Hp}, Ex F4 F5 → ∀ F'', Ex F5 F'' → EvG K (some pq) (tTup (tCons (tVar 5) (tCons (tVar 9) tNil))) [some (.ref pq.p), some (.int n), some (.int m), some (.int S), some nv, some (.int (k : Int)), some (.ref l), some u, some (.ref l2), some y] F'' (Is (.tuple (pairK (k : Int) r))) := fun {F5} e5 F'' e'' => g_tupI (ds := pairK (k : Int) r) (gs_two (gk rfl) (g_var (i := 9) rfl (Rp.mono (e5.trans e'') _ _ hy))) (by show 2 ≤ 100000; decide)
      refine t_if1 (b := PyData.eqv (dO r) (.tuple (List.replicate (n - 1) (.int (k : Int))))) (Step.refl n1.step.inn n1.step.good) (et_of (K := K) (g_opI (g_var (i := 9) rfl hy) (g_repU (g_tupI (gs_one (gk rfl)) (by simp)) (gn1 rfl) (by omega) (by omega)) (rv_eqD (shaped_dO r) (by have := shaped_dT (List.replicate (n - 1) (k : Int)); rwa [show dT (List.replicate (n - 1) (k : Int)) = .tuple (List.replicate (n - 1) (.int (k : Int))) by unfold dT; rw [List.map_replicate]] at this)))) (fun _ F5 H5 s5 e5 => ?_) (fun _ F5 H5 s5 e5 => ?_)
      · have hkn : k < nm.length := by omega
        have hb := hnb _ (List.getElem_mem hkn)
        refine t_putNd (K := K) (i := 8) (R := fun d => ∃ mw, d = mwD mw ∧ MwOk S m mw) gI h02 (n1.run gI h02 s5) rfl (by omega) (kb_move (k : Int) r).1 (kb_move (k : Int) r).2 ((g_tupI (ds := [.str "done", .int nm[k]]) (gs_two g_str (g_opI (g_var (i := 4) rfl (Rp.mono ((e12.trans e4).trans e5) _ _ hnv)) (gk rfl) (rv_ixL (d := .int nm[k]) (atI_nat (by rw [List.getElem?_map, List.getElem?_eq_getElem hkn]; rfl))))) (by simp)).imp fun d hd => ⟨.inr nm[k], hd, hb⟩) (hkey e5) fun d vv b F6 H6 ⟨mw, hd6, hmw⟩ n6 e6 hv6 hb6 => ?_
        subst hd6
        exact fin _ F6 H6 mw b vv ⟨_, _, rfl⟩ rfl hmw n6 (e5.trans e6) hv6 hb6
      · refine t_putNd (K := K) (i := 8) (R := fun d => ∃ mw, d = mwD mw ∧ MwOk S m mw) gI h02 (n1.run gI h02 s5) rfl (by omega) (kb_move (k : Int) r).1 (kb_move (k : Int) r).2 ((g_callP (m := (S : Int)) rfl (gS rfl) ⟨by omega, by omega⟩).imp fun d ⟨j, a4, a5, a6⟩ => ⟨.inl j, by rw [a4]; rfl, a5, a6⟩) (hkey e5) fun d vv b F6 H6 ⟨mw, hd6, hmw⟩ n6 e6 hv6 hb6 => ?_
        subst hd6
        exact fin _ F6 H6 mw b vv ⟨_, _, rfl⟩ rfl hmw n6 (e5.trans e6) hv6 hb6
    · obtain ⟨a, b, rfl⟩ := hJ
      obtain ⟨F5, s5, e5, nd5⟩ := n1.done gI h02
      have gx5 := gx.run LawTab.mono g0 hl0 s5
      refine t_appX (y := (S, hs m, es)) LawTab.mono g0 hl0 gx5 rfl (x_tab3 (K := K) (g_listRg (gm rfl) (by omega)) rfl rfl nd5 (nv1.mono e5)) (by omega) fun F6 H6 gx6 e6 => hN _ F6 H6 ⟨_, _, _, _, tss ++ [(S, hs m, es)], rfl, gx6, by rw [List.length_append, htl]; rfl, fun t ht => ?_, e12.trans ((e4.trans e5).trans e6)⟩ ((e4.trans e5).trans e6)
      rcases List.mem_append.mp ht with z | z
      · exact hts t z
      · rw [List.mem_singleton.mp z]
        exact ⟨rfl, hs_len m, fun k hk => by have := hs_mem.mp hk; omega, he, hm⟩
  · obtain ⟨z5', z7, z8, z9, tss, rfl, gx, htl, hts, e12⟩ := hI
    subst hds
    rw [List.length_map, List.length_range] at htl
    obtain ⟨F5, s5, e5, lx⟩ := gx.done LawTab.mono g0 hl0
    exact t_retX (Φ := fun z F6 => LstX (LawTab P w K) F6 z tss) s5 (fun H6 i6 g6 Q6 q6 => ⟨_, rfl, q6 _ F5 H6 lx (.refl i6 g6)⟩) fun z F6 H6 lz s6 => q z F6 H6 tss htl hts s6 lz
end
end KD

namespace KD
open PySem PySem.Spec PyProof.Rows L2 L2H Fv Evl StX
abbrev s_law_inputs : Stmt := topS 31
theorem sc_law_inputs : FnScope ["_law_n", "_law_m", "_law_rows", "_law_house"] ["_law_n", "_law_m"] (defScope s_law_inputs) := ⟨rfl, rfl, rfl, by decide +kernel, rfl, by decide +kernel, by decide +kernel⟩
abbrev IRow (n m : Nat) (r : List Int) : Prop := r.length = n ∧ ∀ k ∈ r, 0 ≤ k ∧ k < (m : Int)
/-- ALL inputs -/
def allR (m : Nat) : Nat → List (List Int)
  | 0 => [[]]
  | n + 1 => (allR m n).flatMap fun r => (hs m).map fun k => r ++ [k]
abbrev someR (r : List Int) : ORow := r.map some
theorem dO_some (r : List Int) : dO (someR r) = dT r := by
  show PyData.tuple _ = PyData.tuple _
  rw [List.map_map]; rfl
theorem dLO_some (rs : List (List Int)) : dLO (rs.map someR) = dLT rs := by
  show PyData.list _ = PyData.list _
  rw [List.map_map]
  exact congrArg PyData.list (List.map_congr_left fun r _ => dO_some r)
theorem allR_step (m n : Nat) : olonger ((allR m n).map someR) ((hs m).map some) = (allR m (n + 1)).map someR := by
  unfold olonger
  show _ = List.map someR ((allR m n).flatMap fun r => (hs m).map fun k => r ++ [k])
  rw [List.flatMap_map, List.map_flatMap]
  refine congrArg (fun f => List.flatMap f (allR m n)) (funext fun r => ?_)
  rw [List.map_map, List.map_map]
  refine List.map_congr_left fun k _ => ?_
  simp [someR]
theorem allR_row (m : Nat) : ∀ n, ∀ r ∈ allR m n, IRow n m r
  | 0, r, h => by rw [List.mem_singleton.mp h]; exact ⟨rfl, fun k hk => by cases hk⟩
  | n + 1, r, h => by
    obtain ⟨r0, h0, h1⟩ := List.mem_flatMap.mp h
    obtain ⟨k, hk, rfl⟩ := List.mem_map.mp h1
    obtain ⟨a, b⟩ := allR_row m n r0 h0
    refine ⟨by simp [a], fun j hj => ?_⟩
    rcases List.mem_append.mp hj with z | z
    · exact b j z
    · rw [List.mem_singleton.mp z]; exact hs_mem.mp hk
theorem allR_len (m : Nat) : ∀ n, (allR m n).length = m ^ n
  | 0 => rfl
  | n + 1 => by
    have h := congrArg List.length (allR_step m n)
    rw [olonger_len, List.length_map, List.length_map, List.length_map, hs_len, allR_len m n] at h
    rw [← h, Nat.pow_succ]
theorem pow_few {n m i : Nat} (hn : n ≤ 4) (hm : m ≤ 4) (hi : i ≤ n) : m ^ i ≤ 256 := by
  have k : ∀ m ∈ List.range 5, ∀ i ∈ List.range 5, m ^ i ≤ 256 := by decide
  exact k m (List.mem_range.mpr (by omega)) i (List.mem_range.mpr (by omega))
section
variable {P : Program} {w : World} {K : PySem.W.Frag} {mg : Str → Option Value} {base : Heap}
variable {pt : Option Pt} {σ : L2.St} {F F' F0 H0 H : Hp} {te ta tb ty td : TE} {ts tr : TA} {D : Ends} {tz : TS} {x : Addr}
abbrev spInp (K : PySem.W.Frag) : Sp := PSp K (fun i : Nat × Nat => [.int i.1, .int i.2]) (fun i => i.1 ≤ 4 ∧ i.2 ≤ 4) (fun i => dLT (allR i.2 i.1))
theorem ok_inputs {f fL : Addr} {fd fdL : FuncData} (Fn : Fun K "_law_inputs" "_law_inputs" s_law_inputs f fd) (T : Tx mg)
    (F_law_longer : Fun K "_law_longer" "_law_longer" s_law_longer fL fdL) (b_law_longer : Binds K fdL ["_law_rows", "_law_marks"] []) (g_law_longer : mg "_law_longer" = some (.ref fL)) : FnOk P w K mg base CX0 2 f fd ["_law_n", "_law_m"] (spInp K) := by
  have G_law_longer : FnOk P w K mg base CX0 1 fL fdL ["_law_rows", "_law_marks"] (spOLonger K) := ok_olonger F_law_longer T
  refine Fn.ok sc_law_inputs (PSp.len (fun _ => rfl)) (fun cdv A outer s H vs Q E hr h => ?_)
  obtain ⟨⟨n, m⟩, F, nm, e, ha, q⟩ := h
  obtain ⟨nb1, nb2⟩ : n ≤ 4 ∧ m ≤ 4 := nm
  obtain ⟨v, x, rfl, hv, hx⟩ := rpAll2 ha
  refine ⟨_, (pss_cons (ps_set (i := 2) sc_law_inputs.nd rfl (by first | exact Or.inl rfl | exact Or.inr rfl) (pe_lst (pa_cons (pe_tup pa_nil) pa_nil)))
    (pss_cons (ps_for PassesOwn.never rfl (pi_range1 (by rfl) T.range (pa_cons (pv 0) pa_nil)) (pg_name (i := 3) sc_law_inputs.nd rfl (by first | exact Or.inl rfl | exact Or.inr rfl)) (pss_one (ps_set (i := 2) sc_law_inputs.nd rfl (by first | exact Or.inl rfl | exact Or.inr rfl) (pe_call G_law_longer (hr.mono (by decide)) (by rfl) g_law_longer F_law_longer.kp b_law_longer .nil pass0 (pa_cons (pv 2) (pa_cons (pe_listRg rfl (by rfl) T.list (prg_1 (by rfl) T.range (pv 1))) pa_nil))))))
    (pss_one (ps_ret (pv 2))))), ?_⟩
  refine t_asgI (K := K) (d := dLT [[]]) (Step.refl e .nil) (g_lstI (gs_one (g_tupI gs_nil (by simp))) (by simp)) fun y F1 H1 s1 e1 hy => ?_
  refine t_for (K := K) s1 (w_rng1I (n := n) (gs_one (g_var rfl (Rp.mono e1 _ _ hv))) (by omega) (by omega)) (fun i σ' F' => ∃ y u, σ' = [some v, some x, some y, u] ∧ Rp K F' y (dLT (allR m i)) ∧ i ≤ n) (fun F2 e2 => ⟨y, none, rfl, Rp.mono e2 _ _ hy, Nat.zero_le _⟩) (fun i d hd σ' F' H' z hI s' e' hz N hN => ?_) (fun σ' F' H' hI s' e' => ?_)
  · obtain ⟨y', u, rfl, hy', hi⟩ := hI
    have hin : i < n := by
      have := (List.getElem?_eq_some_iff.mp hd).1
      rw [rng_len] at this
      simpa using this
    have p := pow_few nb1 nb2 (Nat.le_of_lt hin)
    rw [← dLO_some] at hy'
    refine t_asg1 (K := K) s' (g_call ((allR m i).map someR, (hs m).map some) (gs_two (g_var rfl hy') ((g_listRg (g_var rfl (Rp.mono (e1.trans e') _ _ hx)) (by omega)).is (congrArg PyData.list (by rw [List.map_map]; rfl)))) rfl ⟨by simp only [List.length_map]; rw [allR_len]; omega, by simp [hs_len]; omega, fun r hr => by
      obtain ⟨r0, h0, rfl⟩ := List.mem_map.mp hr
      rw [List.length_map, (allR_row m i r0 h0).1]; omega⟩) fun d2 v2 F3 H3 hd2 s3 e3 hv3 => hN _ F3 H3 ⟨v2, some z, rfl, ?_, hin⟩ s3 e3
    rw [show d2 = _ from hd2] at hv3
    have h3 : Rp K F3 v2 (dLO (olonger ((allR m i).map someR) ((hs m).map some))) := hv3
    rw [allR_step, dLO_some] at h3
    exact h3
  · obtain ⟨y', u, rfl, hy', hi⟩ := hI
    rw [rng_len, show (n : Int).toNat = n by omega] at hy'
    exact t_retI (K := K) s' (g_var rfl hy') q
end
end KD

namespace KD
open PySem PySem.Spec PyProof.Rows L2 L2H Fv Evl StX
/-- the same key put twice -/
theorem atN_snoc {xs : List NEnt} {k : NK} {a : Addr} {v : V} (h : atN xs k = none) : atN (xs ++ [(k, a, v)]) k = some (a, v) := by
  unfold atN at *
  rw [List.find?_append]
  have : xs.find? (fun x => decide (x.1 = k)) = none := by simpa using h
  rw [this]
  simp
theorem find_map_put {k : NK} {v : V} : ∀ xs : List NEnt, ((xs.map (putAtN k v)).find? fun x => decide (x.1 = k)).isSome = (xs.find? fun x => decide (x.1 = k)).isSome
  | [] => rfl
  | x :: xs => by
    rw [List.map_cons, List.find?_cons, List.find?_cons]
    by_cases h : x.1 = k
    · have h2 : (putAtN k v x).1 = k := by unfold putAtN; rw [if_pos h]; exact h
      simp [h, h2]
    · have h2 : putAtN k v x = x := by unfold putAtN; rw [if_neg h]
      rw [h2]
      simp only [h, decide_false]
      exact find_map_put xs
theorem putAt_twice {k : NK} {v v2 : V} (x : NEnt) : putAtN k v2 (putAtN k v x) = putAtN k v2 x := by
  unfold putAtN
  by_cases h : x.1 = k <;> simp [h]
theorem putAt_none {xs : List NEnt} {k : NK} {v : V} (h : atN xs k = none) : xs.map (putAtN k v) = xs := by
  have h2 : ∀ x ∈ xs, ¬ x.1 = k := fun x hx e => by
    unfold atN at h
    have : xs.find? (fun x => decide (x.1 = k)) = none := by simpa using h
    have := List.find?_eq_none.mp this x hx
    simp [e] at this
  calc xs.map (putAtN k v) = xs.map id := List.map_congr_left fun x hx => by unfold putAtN; rw [if_neg (h2 x hx)]; rfl
    _ = xs := List.map_id _
theorem put_twice (xs : List NEnt) (k : NK) (b b2 : Addr) (v v2 : V) : putN (putN xs k b v) k b2 v2 = putN xs k b v2 := by
  unfold putN
  cases h : atN xs k with
  | none =>
    simp only [Option.isSome_none, Bool.false_eq_true, if_false]
    rw [atN_snoc h]
    simp only [Option.isSome_some, if_true]
    rw [List.map_append, putAt_none h]
    simp [putAtN]
  | some p =>
    simp only [Option.isSome_some, if_true]
    have : (atN (xs.map (putAtN k v)) k).isSome = true := by
      unfold atN at h ⊢
      rw [Option.isSome_map, find_map_put]
      cases w : xs.find? (fun x => decide (x.1 = k)) with
      | none => rw [w] at h; cases h
      | some z => rfl
    rw [this]
    simp only [if_true]
    rw [List.map_map]
    exact List.map_congr_left fun x _ => putAt_twice x
theorem hs_nd (m : Nat) : ((hs m).map some).Nodup := by
  have := oms_nd m
  unfold oms at this
  have h2 := (List.nodup_cons.mp this).2
  unfold hs
  rw [List.map_map]
  exact h2
theorem allR_nd (m : Nat) : ∀ n, ((allR m n).map someR).Nodup
  | 0 => by simp [allR]
  | n + 1 => by
    rw [← allR_step]
    exact olonger_nd (allR_nd m n) (hs_nd m)
theorem allR_in {m : Nat} : ∀ (n : Nat) (r : List Int), IRow n m r → r ∈ allR m n
  | 0, r, h => by rw [List.eq_nil_of_length_eq_zero h.1]; simp [allR]
  | n + 1, r0, h => by
    obtain ⟨r, z, rfl⟩ : ∃ r z, r0 = r ++ [z] := ⟨r0.dropLast, r0.getLast (by intro z; rw [z] at h; simp [IRow] at h), (List.dropLast_concat_getLast _).symm⟩
    obtain ⟨h1, h2⟩ := h
    exact List.mem_flatMap.mpr ⟨r, allR_in n r ⟨by simpa using h1, fun k hk => h2 k (List.mem_append_left _ hk)⟩, List.mem_map.mpr ⟨z, hs_mem.mpr (h2 z (by simp)), rfl⟩⟩
/-- readings of m values each: below m -/
theorem read_below {m : Nat} : ∀ (c : Nat), ∀ r ∈ readings (List.replicate c m), ∀ o ∈ r, ∀ k, o = some k → 0 ≤ k ∧ k < (m : Int)
  | 0, r, hr => by
    have : r = [] := by simpa [readings] using hr
    rw [this]; exact fun o ho => by cases ho
  | c + 1, r, hr => by
    rw [List.replicate_succ', read_snoc] at hr
    obtain ⟨r0, hr0, hr1⟩ := List.mem_flatMap.mp hr
    obtain ⟨j, hj, rfl⟩ := List.mem_map.mp hr1
    intro o ho k e
    rcases List.mem_append.mp ho with y | y
    · exact read_below c r0 hr0 o y k e
    · rw [List.mem_singleton.mp y] at e
      exact oms_in hj e
/-- a reading with no None is a row -/
theorem whole_row {m : Nat} : ∀ (r : ORow), none ∉ r → (∀ o ∈ r, ∀ k, o = some k → 0 ≤ k ∧ k < (m : Int)) → ∃ ks : List Int, r = someR ks ∧ IRow r.length m ks
  | [], _, _ => ⟨[], rfl, rfl, fun k hk => by cases hk⟩
  | none :: r, h, _ => absurd (by simp) h
  | some k :: r, h, hb => by
    obtain ⟨ks, e, h1, h2⟩ := whole_row r (fun z => h (List.mem_cons_of_mem _ z)) fun o ho => hb o (List.mem_cons_of_mem _ ho)
    refine ⟨k :: ks, by rw [e]; rfl, by simp [h1], fun j hj => ?_⟩
    rcases List.mem_cons.mp hj with z | z
    · rw [z]; exact hb (some k) (by simp) k rfl
    · exact h2 j z
theorem IRow.put {n m h : Nat} {s : Int} {ks : List Int} (r : IRow (n - 1) m ks) (hh : h < n) (h0 : 0 ≤ s) (h1 : s < (m : Int)) : IRow n m (ks.take h ++ [s] ++ ks.drop h) := by
  refine ⟨by have := r.1; simp only [List.length_append, List.length_take, List.length_drop, List.length_singleton]; omega, fun k hk => ?_⟩
  rcases List.mem_append.mp hk with z | z
  · rcases List.mem_append.mp z with z | z
    · exact r.2 k (List.mem_of_mem_take z)
    · rw [List.mem_singleton.mp z]; exact ⟨h0, h1⟩
  · exact r.2 k (List.mem_of_mem_drop z)
theorem rpAll_opts {K : PySem.W.Frag} {F : Hp} : ∀ {r : ORow} {xs : List V}, RpAll K F xs (r.map optD) → xs = r.map optV
  | [], _, h => by cases h; rfl
  | o :: r, _, h => by
    cases h with
    | cons a b => rw [rp_opt a, rpAll_opts b]; rfl
theorem flat_opts : ∀ r : ORow, (r.map optV).all flatV = true
  | [] => rfl
  | none :: r => by
    rw [List.map_cons, List.all_cons, flat_opts r]
    simp [optV, flatV]
  | some k :: r => by
    rw [List.map_cons, List.all_cons, flat_opts r]
    simp [optV, flatV]
theorem inV_opts : ∀ r : ORow, inV .non (r.map optV) = decide (none ∈ r)
  | [] => by simp [inV]
  | none :: r => by
    unfold inV
    rw [List.map_cons, List.any_cons]
    simp [optV, eqV]
  | some k :: r => by
    have h := inV_opts r
    unfold inV at h ⊢
    rw [List.map_cons, List.any_cons, h]
    simp [optV, eqV]
theorem rv_ninO {K : PySem.W.Frag} {r : ORow} : RvG K (rIn K true) .none (dO r) (Is (.bool (!decide (none ∈ r)))) := rv_val fun F H x y e hx hy => by
  obtain ⟨a, xs, rfl, hl, ha⟩ := rp_tup hy
  have e1 := rpAll_opts ha
  subst e1
  rw [rp_none hx]
  exact ⟨_, fun Q q => ⟨a, _, rfl, .inr (tx e hl), rfl, flat_opts r, q⟩, by rw [inV_opts]; exact .bl _⟩
end KD

namespace KD
open PySem PySem.Spec PyProof.Rows L2 L2H Fv Evl StX
abbrev s_law_waiting : Stmt := topS 34
theorem sc_law_waiting : FnScope ["_law_pot_here", "_law_n", "_law_m", "_law_word", "_law_fixed", "_law_told_here", "_law_row", "_law_tables_here", "_law_house", "_law_rows", "_law_state"] ["_law_pot_here", "_law_n", "_law_m"] (defScope s_law_waiting) := ⟨rfl, rfl, rfl, by decide +kernel, rfl, by decide +kernel, by decide +kernel⟩
theorem allR_ndT (m n : Nat) : ((allR m n).map dT).Nodup := by
  have h : (allR m n).Nodup := (List.pairwise_map.mp (allR_nd m n)).imp fun ne e => ne (congrArg someR e)
  exact List.pairwise_map.mpr (h.imp fun ne e => ne (ints_inj (by injection e)))
theorem allR_new {m n i : Nat} {r : List Int} (h : (allR m n)[i]? = some r) : dT r ∉ ((allR m n).take i).map dT := fun hc => by
  have sub : (((allR m n).take i).map dT ++ [dT r]).Nodup := by
    have e2 : ((allR m n).take i).map dT ++ [dT r] = ((allR m n).take (i + 1)).map dT := by rw [take_succA h, List.map_append]; rfl
    rw [e2]
    exact (allR_ndT m n).sublist (List.Sublist.map _ (List.take_sublist _ _))
  rw [List.nodup_append] at sub
  exact sub.2.2 _ hc _ (by simp) rfl
theorem kb_dT (r : List Int) : kb (dT r) = true ∧ (nk (dT r)).depth ≤ 8 := by
  rw [dT_dO]
  exact ⟨kb_dO _, depth_dO _⟩
section
variable {P : Program} {w : World} {K : PySem.W.Frag} {mg : Str → Option Value} {base : Heap} {CT : Addr}
variable {pt : Option Pt} {σ : L2.St} {F F' F0 H0 H F2 H2 : Hp} {te ti ta tb ty td : TE} {ts tr : TA} {t u : TT} {wi wj : TI} {D : Ends} {tz tu tw body : TS} {l a x dx : Addr} {xs : List NEnt} {fs : List (Str × V)} {f : Str} {i : Nat}
def spWait (P : Program) (w : World) (K : PySem.W.Frag) : Sp := fun vs H Q _ => ∃ (q : Pt) (n m : Nat) (F : Hp), vs = [.ref q.p, .int n, .int m] ∧ (2 ≤ n ∧ n ≤ 4 ∧ 1 ≤ m ∧ m ≤ 4) ∧ Ex F H ∧ Good (some q) F H ∧
  ∀ z F2 H2 ts, ts.length = n → (∀ t ∈ ts, TabOk n m m (List.replicate (n - 1) m) t) → Step (some q) F H F2 H2 → LstX (LawTab P w K) F2 z ts → Q z H2
theorem ok_wait {f fD fR fI : Addr} {fd fdD fdR fdI : FuncData} (Fn : Fun K "_law_waiting" "_law_waiting" s_law_waiting f fd) (T : Tx mg)
    (F_law_draw : Fun K "_law_draw" "_law_draw" s_law_draw fD fdD) (b_law_draw : Binds K fdD ["_law_pot_here", "_law_many"] []) (g_law_draw : mg "_law_draw" = some (.ref fD))
    (F_law_readings : Fun K "_law_readings" "_law_readings" s_law_readings fR fdR) (b_law_readings : Binds K fdR ["_law_sizes"] []) (g_law_readings : mg "_law_readings" = some (.ref fR)) (G_law_readings : FnOk P w K mg base CX0 2 fR fdR ["_law_sizes"] (spRead K)) 
    (F_law_inputs : Fun K "_law_inputs" "_law_inputs" s_law_inputs fI fdI) (b_law_inputs : Binds K fdI ["_law_n", "_law_m"] []) (g_law_inputs : mg "_law_inputs" = some (.ref fI)) (G_law_inputs : FnOk P w K mg base CX0 2 fI fdI ["_law_n", "_law_m"] (spInp K)) :
    FnOk P w K mg base CX0 3 f fd ["_law_pot_here", "_law_n", "_law_m"] (spWait P w K) := by
  have G_law_draw : FnOk P w K mg base CX0 1 fD fdD ["_law_pot_here", "_law_many"] (spDraw K) := ok_draw F_law_draw T
  refine Fn.ok sc_law_waiting (fun vs H Q E ⟨_, _, _, _, h, _⟩ => by rw [h]; rfl) (fun cdv A outer s H vs Q E hr h => ?_)
  obtain ⟨pq, n, m, F, rfl, ⟨n2, n4, m1, m4⟩, e, g, q⟩ := h
  refine ⟨_, (pss_cons (ps_set (i := 3) sc_law_waiting.nd rfl (by first | exact Or.inl rfl | exact Or.inr rfl) (pe_call G_law_draw (hr.mono (by decide)) (by rfl) g_law_draw F_law_draw.kp b_law_draw .nil pass0 (pa_cons (pv 0) (pa_cons pe_int pa_nil))))
    (pss_cons (ps_set (i := 4) sc_law_waiting.nd rfl (by first | exact Or.inl rfl | exact Or.inr rfl) (pe_call G_law_draw (hr.mono (by decide)) (by rfl) g_law_draw F_law_draw.kp b_law_draw .nil pass0 (pa_cons (pv 0) (pa_cons (pv 2) pa_nil))))
    (pss_cons (ps_set (i := 5) sc_law_waiting.nd rfl (by first | exact Or.inl rfl | exact Or.inr rfl) (pe_dnewN (P := P) (w := w)))
    (pss_cons (ps_for PassesOwn.never rfl (i_list (K := K) (pe_call G_law_inputs (hr.mono (by decide)) (by rfl) g_law_inputs F_law_inputs.kp b_law_inputs .nil pass0 (pa_cons (pv 1) (pa_cons (pv 2) pa_nil)))) (pg_name (i := 6) sc_law_waiting.nd rfl (by first | exact Or.inl rfl | exact Or.inr rfl)) (pss_one (ps_asg (pe_ix (o_ixL (K := K)) (pe_lst (pa_cons (pv 4) (pa_cons (pe_callB (c_minS (K := K) (hu65 hr)) (by rfl) T.min (by decide +kernel) (pa_cons (pv 6) pa_nil)) (pa_cons (pe_call G_law_draw (hr.mono (by decide)) (by rfl) g_law_draw F_law_draw.kp b_law_draw .nil pass0 (pa_cons (pv 0) (pa_cons (pv 2) pa_nil))) (pa_cons (pe_ix (o_ixT (K := K)) (pv 6) (pe_call G_law_draw (hr.mono (by decide)) (by rfl) g_law_draw F_law_draw.kp b_law_draw .nil pass0 (pa_cons (pv 0) (pa_cons (pv 1) pa_nil))) (fun _ _ => rfl)) pa_nil))))) (pv 3) (fun _ _ => rfl)) (pg_sub (pv 5) (pv 6) (set_N (P := P) (w := w) (K := K) (hu65 hr))))))
    (pss_cons (ps_set (i := 7) sc_law_waiting.nd rfl (by first | exact Or.inl rfl | exact Or.inr rfl) (pe_lst pa_nil))
    (pss_cons (ps_for PassesOwn.never rfl (pi_range1 (by rfl) T.range (pa_cons (pv 1) pa_nil)) (pg_name (i := 8) sc_law_waiting.nd rfl (by first | exact Or.inl rfl | exact Or.inr rfl)) (pss_cons (ps_set (i := 9) sc_law_waiting.nd rfl (by first | exact Or.inl rfl | exact Or.inr rfl) (pe_dnewN (P := P) (w := w)))
    (pss_cons (ps_for PassesOwn.never rfl (pi_range1 (by rfl) T.range (pa_cons (pv 2) pa_nil)) (pg_name (i := 10) sc_law_waiting.nd rfl (by first | exact Or.inl rfl | exact Or.inr rfl)) (pss_one (ps_for PassesOwn.never rfl (i_list (K := K) (pe_call G_law_readings (hr.mono (by decide)) (by rfl) g_law_readings F_law_readings.kp b_law_readings .nil pass0 (pa_cons (pe_op op_rep (pe_lst (pa_cons (pv 2) pa_nil)) (pe_op op_sub (pv 1) pe_int)) pa_nil))) (pg_name (i := 6) sc_law_waiting.nd rfl (by first | exact Or.inl rfl | exact Or.inr rfl)) (pss_cons (ps_asg (pv 10) (pg_sub (pv 9) (pe_tup (pa_cons (pv 10) (pa_cons (pv 6) pa_nil))) (set_N (P := P) (w := w) (K := K) (hu65 hr))))
    (pss_one (ps_if (pt_cmpR (o_notIn (K := K)) pe_non (pv 6) (by rfl)) (pss_one (ps_asg (pe_tup (pa_cons pe_str (pa_cons (pe_dgetN (P := P) (w := w) (K := K) (hu65 hr) (pv 5) (pe_op (o_catA (K := K)) (pe_op (o_catA (K := K)) (pe_slice (s_any (K := K)) (pv 6) (po_some pe_int) (po_some (pv 8))) (pe_tup (pa_cons (pv 10) pa_nil))) (pe_slice (s_tup (K := K)) (pv 6) (po_some (pv 8)) po_none)) (fun _ _ => rfl)) pa_nil))) (pg_sub (pv 9) (pe_tup (pa_cons (pv 10) (pa_cons (pv 6) pa_nil))) (set_N (P := P) (w := w) (K := K) (hu65 hr))))) pss_nil))))))
    (pss_one (ps_expr (pe_bm PySem.F.plainAttrs_list PySem.F.slot_list_append PySem.F.type_list_append mt_append (pv 7) (pa_cons (pe_tup (pa_cons (pe_listRg rfl (by rfl) T.list (prg_1 (by rfl) T.range (pv 2))) (pa_cons (pv 9) (pa_cons (pv 2) pa_nil)))) pa_nil)))))))
    (pss_one (ps_ret (pv 7))))))))), ?_⟩
  have s0 : Step (some pq) F H F H := Step.refl e g
  have g0 : Good (some pq) F H := g
  have z3 : (List.replicate (n - 1) m).length ≤ 3 := by rw [List.length_replicate]; omega
  have z5 : ∀ z ∈ List.replicate (n - 1) m, z ≤ 5 := fun z hz => by rw [List.eq_of_mem_replicate hz]; omega
  obtain ⟨f1, f2, f3⟩ := read_facts _ z3 z5
  have few := read_few z3 z5
  have gn : ∀ {σ' : L2.St} {F' : Hp}, σ'[1]? = some (some (.int (n : Int))) → EvG K (some pq) (tVar 1) σ' F' (Is (.int (n : Int))) := fun h => g_var (v := .int n) h (.int _)
  have gm : ∀ {σ' : L2.St} {F' : Hp}, σ'[2]? = some (some (.int (m : Int))) → EvG K (some pq) (tVar 2) σ' F' (Is (.int (m : Int))) := fun h => g_var (v := .int m) h (.int _)
  have gn1 : ∀ {σ' : L2.St} {F' : Hp}, σ'[1]? = some (some (.int (n : Int))) → EvG K (some pq) (tOp (rI0 fun i j => .int (i - j)) (tVar 1) (tC (.int 1))) σ' F' (Is (.int ((n - 1 : Nat) : Int))) := fun h => (g_opI (gn h) g_int rv_sub).is (congrArg PyData.int (by omega))
  refine t_asg (K := K) (R := fun d => ∃ k : Int, d = .int k ∧ 0 ≤ k ∧ k < 4) s0 (g_callP (m := 4) rfl g_int ⟨by omega, by omega⟩) fun d wv F1 H1 hd s1 e1 hwv => ?_
  obtain ⟨wd, rfl, w0, w1⟩ := hd
  obtain rfl := rp_int hwv
  refine t_asg (K := K) (R := fun d => ∃ k : Int, d = .int k ∧ 0 ≤ k ∧ k < (m : Int)) s1 (g_callP (m := (m : Int)) rfl (gm rfl) ⟨by omega, by omega⟩) fun d fv F2 H2 hd s2 e2 hfv => ?_
  obtain ⟨fx, rfl, x0, x1⟩ := hd
  obtain rfl := rp_int hfv
  refine t_newN (K := K) s2 fun l H3 hl3 h0 g1 => ?_
  refine t_forHR (K := K) (RS := (· = (allR m n).map dT)) g1.step.inn g1.step.good (w_listI (g_call (n, m) (gs_two (gn rfl) (gm rfl)) rfl ⟨n4, m4⟩)) (fun ds i σ' F' H' => ∃ z6 ps xs, σ' = [some (.ref pq.p), some (.int n), some (.int m), some (.int wd), some (.int fx), some (.ref l), z6, none, none, none, none] ∧ Nst P w K (some pq) F H l F' H' xs ∧ NV K F' xs ps ∧ ps.map (·.1) = ((allR m n).take i).map dT ∧ (∀ p ∈ ps, ∃ k : Int, p.2 = .int k ∧ 0 ≤ k ∧ k < (m : Int)))
    (fun ds hds F4 H4 s4 => ⟨_, [], [], rfl, g1.run g0 h0 s4, .nil, rfl, (fun x hx => by cases hx)⟩) (fun ds i σ' F' H' ⟨_, _, _, _, w, _⟩ => w.step.inn) (fun ds hds i d hd σ' F' H' y hI e' hy N hN => ?_) (fun ds hds σ' F' H' hI e' => ?_)
  · obtain ⟨z6, ps, xs, rfl, n0, nv0, he0, hm0⟩ := hI
    subst hds
    obtain ⟨r, hr, rfl⟩ := get_map hd
    obtain ⟨r1, r2⟩ := allR_row m n r (List.mem_of_getElem? hr)
    have hlen : (allR m n).length ≤ 256 := by rw [allR_len]; exact pow_few n4 m4 (Nat.le_refl _)
    have hxl : xs.length < 50000 := by
      have h1 := nv0.len
      have h2 : ps.length = (((allR m n).take i).map dT).length := by rw [← he0, List.length_map]
      rw [List.length_map, List.length_take] at h2
      omega
    obtain ⟨c0, cs, hcs⟩ : ∃ c0 cs, r = c0 :: cs := by
      cases r with
      | nil => simp at r1; omega
      | cons a b => exact ⟨_, _, rfl⟩
    obtain ⟨⟨mf1, mf2⟩, mf3⟩ := min_fold cs c0
    have hc0 := r2 c0 (by rw [hcs]; simp)
    have hmin : 0 ≤ cs.foldl min c0 ∧ cs.foldl min c0 < (m : Int) := ⟨mf3 hc0.1 fun x hx => (r2 x (by rw [hcs]; exact List.mem_cons_of_mem _ hx)).1, by omega⟩
    refine t_putNd (K := K) (i := 5) (ks := r.map .int) (R := fun d => ∃ k : Int, d = .int k ∧ 0 ≤ k ∧ k < (m : Int)) g0 h0 n0 rfl hxl (kb_dT r).1 (kb_dT r).2
      (g_pickA (c := 4) (u := wd) (gs_consA ((g_var (v := .int fx) (d := .int fx) rfl (.int _)).imp fun d hd => ⟨fx, hd, x0, x1⟩) (gs_consA ((g_minT (n := c0) (ns := cs) (g_var (i := 6) rfl (by rw [← hcs]; exact hy))).imp fun d hd => ⟨_, hd, hmin⟩) (gs_consA ((g_callP (m := (m : Int)) rfl (gm rfl) ⟨by omega, by omega⟩).imp fun d ⟨j, hj, j0, j1⟩ => ⟨j, hj, j0, j1⟩) (gs_consA (g_op (R1 := Is (dT r)) (g_var (i := 6) rfl hy) (g_callP (m := (n : Int)) rfl (gn rfl) ⟨by omega, by omega⟩) fun d e hd ⟨k, hk, k0, k1⟩ => ?_) gs_nilA)))) (by decide) (g_var (v := .int wd) rfl (.int _)) w0 w1) (fun F5 e5 => g_var (i := 6) rfl (Rp.mono e5 _ _ hy)) fun d vv b F6 H6 ⟨k, hd6, k0, k1⟩ n6 e6 hv6 hb6 => ?_
    · subst hd; subst hk
      obtain ⟨j, rfl⟩ : ∃ j : Nat, k = (j : Int) := ⟨k.toNat, by omega⟩
      have hj : j < r.length := by omega
      intro F H x y i hx hy Q q
      exact rv_ixT (d := .int r[j]) (atI_nat (by rw [List.getElem?_map, List.getElem?_eq_getElem hj]; rfl)) F H x y i hx hy Q fun z v F2 H2 hz s hv => q z v F2 H2 ⟨_, hz, r2 _ (List.getElem_mem hj)⟩ s hv
    · subst hd6
      refine hN _ F6 H6 ⟨_, ps ++ [(dT r, .int k)], _, rfl, n6, NV.put (nv0.mono e6) (kb_dT r).1 (fun p hp => ?_) (by rw [he0]; exact allR_new hr) hb6 hv6, by rw [List.map_append, he0, take_succA hr, List.map_append]; rfl, fun x hx => ?_⟩ e6
      · have : p.1 ∈ ps.map (·.1) := List.mem_map_of_mem hp
        rw [he0] at this
        obtain ⟨r', _, e'⟩ := List.mem_map.mp this
        rw [← e']; exact (kb_dT r').1
      · rcases List.mem_append.mp hx with z | z
        · exact hm0 x z
        · rw [List.mem_singleton.mp z]; exact ⟨k, rfl, k0, k1⟩
  · obtain ⟨z6, ps, xs, rfl, n0, nv0, he0, hm0⟩ := hI
    subst hds
    rw [List.length_map, List.take_length] at he0
    obtain ⟨F5, s5, e5, nd⟩ := n0.done g0 h0
    have told : ∀ ks, IRow n m ks → ∃ p k, atN xs (nk (dT ks)) = some p ∧ Rp K F5 p.2 (.int k) ∧ 0 ≤ k ∧ k < (m : Int) := fun ks hk => by
      have : dT ks ∈ ps.map (·.1) := by rw [he0]; exact List.mem_map_of_mem (allR_in n ks hk)
      obtain ⟨⟨k1, d1⟩, hp, hk1⟩ := List.mem_map.mp this
      obtain ⟨j, hj, j0, j1⟩ := hm0 _ hp
      obtain ⟨p, h1, h2⟩ := (nv0.mono e5).get (fun p hp => by
        have : p.1 ∈ ps.map (·.1) := List.mem_map_of_mem hp
        rw [he0] at this
        obtain ⟨r', _, e'⟩ := List.mem_map.mp this
        rw [← e']; exact (kb_dT r').1) (by rw [he0]; exact allR_ndT m n) hp
      exact ⟨p, j, by rw [← hk1]; exact h1, by rw [← show d1 = _ from hj]; exact h2, j0, j1⟩
    refine t_newL (K := K) s5 (fun lt hl0 hlH gst => ?_) (fun l h => s5.back l h)
    have gx0 : Xst K (LawTab P w K) (some pq) F H lt F5 (upd H' lt (.lst [])) [] := Xst.of gst
    refine t_forHR (K := K) (RS := (· = (List.range n).map natD)) gx0.step.inn gx0.step.good (w_range (n := n) (gn rfl) (by omega)) (fun ds i σ' F' H' => ∃ z6 z8 z9 z10 ts, σ' = [some (.ref pq.p), some (.int n), some (.int m), some (.int wd), some (.int fx), some (.ref l), z6, some (.ref lt), z8, z9, z10] ∧ Xst K (LawTab P w K) (some pq) F H lt F' H' ts ∧ ts.length = i ∧ (∀ t ∈ ts, TabOk n m m (List.replicate (n - 1) m) t) ∧ Ex F5 F')
      (fun ds hds F3 H3 s3 => ⟨_, _, _, _, [], rfl, gx0.run LawTab.mono g0 hl0 s3, rfl, (fun t ht => by cases ht), s3.sub⟩) (fun ds i σ' F' H' ⟨_, _, _, _, _, _, w, _⟩ => w.step.inn) (fun ds hds h d hd σ' F6 H6 u hI e6 hu N hN => ?_) (fun ds hds σ' F6 H6 hI e6 => ?_)
    · obtain ⟨z6', z8, z9, z10, tss, rfl, gx, htl, hts, e56⟩ := hI
      subst hds
      have hh : h < n := by have := (List.getElem?_eq_some_iff.mp hd).1; simpa using this
      have ed : d = natD h := by
        rw [List.getElem?_map, List.getElem?_range hh] at hd
        exact (Option.some.inj hd).symm
      subst ed
      obtain rfl := rp_int hu
      have gh : ∀ {σ' : L2.St} {F' : Hp}, σ'[8]? = some (some (.int (h : Int))) → EvG K (some pq) (tVar 8) σ' F' (Is (.int (h : Int))) := fun e => g_var (v := .int (h : Int)) e (.int _)
      have gI : Good (some pq) F6 H6 := gx.step.good
      refine t_newN (K := K) (Step.refl gx.step.inn gI) fun l2 H7 hl7 h02 g1 => ?_
      refine t_fill (K := K) (m := m) (S := m) (rows := readings (List.replicate (n - 1) m)) (fun σ => ∃ z6 z10, σ = [some (.ref pq.p), some (.int n), some (.int m), some (.int wd), some (.int fx), some (.ref l), z6, some (.ref lt), some (.int (h : Int)), some (.ref l2), z10]) gI h02 g1 ⟨_, _, rfl⟩ (fun σ x ⟨a, b, hs⟩ => ⟨a, some x, by rw [hs]; rfl⟩) (fun σ x ⟨a, b, hs⟩ => ⟨some x, b, by rw [hs]; rfl⟩) (fun σ ⟨a, b, hs⟩ => by rw [hs]; exact ⟨by show 10 < 11; decide, by show 6 < 11; decide⟩) (by decide) f2 few (by omega) (w_range (n := m) (gm rfl) (by omega)) (fun σ' F4 ⟨a, b, hs⟩ e4 => ?_) (fun k r σ' F4 H4 y xs4 hk hr hJ hsi hri hy n1 hxl e4 D' fin => ?_) fun σ2 F4 H4 es xs4 hJ n1 nv1 he hm e4 => ?_
      · subst hs
        exact w_listI (g_call (List.replicate (n - 1) m) (gs_one ((g_repL (g_lstI (gs_one (gm rfl)) (by simp)) (gn1 rfl) (by omega)).is (by rw [List.map_replicate]))) rfl ⟨z3, z5⟩)
      · obtain ⟨a, b, rfl⟩ := hJ
        obtain rfl : a = some y := by injection hri
        obtain rfl : b = some (.int (k : Int)) := by injection hsi
        have gk : ∀ {σ' : L2.St} {F' : Hp}, σ'[10]? = some (some (.int (k : Int))) → EvG K (some pq) (tVar 10) σ' F' (Is (.int (k : Int))) := fun e => g_var (v := .int (k : Int)) e (.int _)
        have hkey : ∀ {F5 : Hp}, Ex F4 F5 → ∀ F'', Ex F5 F'' → EvG K (some pq) (tTup (tCons (tVar 10) (tCons (tVar 6) tNil))) [some (.ref pq.p), some (.int n), some (.int m), some (.int wd), some (.int fx), some (.ref l), some y, some (.ref lt), some (.int (h : Int)), some (.ref l2), some (.int (k : Int))] F'' (Is (.tuple (pairK (k : Int) r))) := fun {F5} e5 F'' e'' => g_tupI (ds := pairK (k : Int) r) (gs_two (gk rfl) (g_var (i := 6) rfl (Rp.mono (e5.trans e'') _ _ hy))) (by show 2 ≤ 100000; decide)
        unfold tSeq
        refine t_putNd (K := K) (i := 9) (R := Is (.int (k : Int))) gI h02 n1 rfl (by omega) (kb_move (k : Int) r).1 (kb_move (k : Int) r).2 (gk rfl) (hkey (fun _ _ z => z)) fun d vv b F8 H8 hd8 n8 e8 hv8 hb8 => ?_
        rw [show d = _ from hd8] at hv8
        refine t_if1 (b := !decide (none ∈ r)) (Step.refl n8.step.inn n8.step.good) (et_of (K := K) (g_opI g_non (g_var (i := 6) rfl (Rp.mono e8 _ _ hy)) rv_ninO)) (fun hw F9 H9 s9 e9 => ?_) (fun hw F9 H9 s9 e9 => ?_)
        · obtain ⟨ks, rfl, hr1, hr2⟩ := whole_row r (by simpa using hw) (read_below _ r hr)
          obtain ⟨q1, q2⟩ := f3 _ hr
          rw [List.length_replicate] at q1
          rw [q1] at hr1
          obtain ⟨p, j, ha, hp, j0, j1⟩ := told _ (IRow.put (n := n) (m := m) (h := h) (s := (k : Int)) ⟨hr1, hr2⟩ hh (by omega) (by omega))
          have e59 := ((e56.trans e4).trans e8).trans e9
          have hy9 : Rp K F9 y (dT ks) := by rw [← dO_some]; exact Rp.mono (e8.trans e9) _ _ hy
          refine t_putNd (K := K) (i := 9) (R := Is (mwD (.inr j))) gI h02 (n8.run gI h02 s9) rfl (by have := putN_len xs4 (nk (.tuple (pairK (k : Int) (someR ks)))) b vv; omega) (kb_move (k : Int) (someR ks)).1 (kb_move (k : Int) (someR ks)).2 (g_tupI (ds := [.str "done", .int j]) (gs_two g_str (g_dgetN (i := 5) rfl (nd.mono e59) ((g_opI (g_opI (g_slU0 (i := h) (ds := ks.map .int) (.inr rfl) (g_var (i := 6) rfl hy9) (gh rfl)) (g_tupI (gs_one (gk rfl)) (by simp)) (rv_catA (by simp; omega))) (g_slA (i := h) (ds := ks.map .int) (g_var (i := 6) rfl hy9) (gh rfl)) (rv_catA (by simp; omega))).is ?_) (fun b F' hb => tup_ref hb) (kb_dT _).1 (kb_dT _).2 ha (Rp.mono e59 _ _ hp))) (by simp)) (hkey (e8.trans e9)) fun d v2 b2 FA HA hdA nA eA hvA hbA => ?_
          · show PyData.tuple _ = PyData.tuple _
            simp only [List.map_append, List.map_take, List.map_drop]
            rfl
          · rw [show d = _ from hdA] at hvA
            rw [put_twice] at nA
            exact fin _ FA HA (.inr j) b v2 ⟨_, _, rfl⟩ rfl ⟨j0, j1⟩ nA ((e8.trans e9).trans eA) hvA (Rp.mono (e9.trans eA) _ _ hb8)
        · exact fin _ F9 H9 (.inl k) b vv ⟨_, _, rfl⟩ rfl ⟨by omega, by omega⟩ (n8.run gI h02 s9) (e8.trans e9) (Rp.mono e9 _ _ hv8) (Rp.mono e9 _ _ hb8)
      · obtain ⟨a, b, rfl⟩ := hJ
        obtain ⟨F7, s7, e7, nd7⟩ := n1.done gI h02
        have gx7 := gx.run LawTab.mono g0 hl0 s7
        refine t_appX (y := (m, hs m, es)) LawTab.mono g0 hl0 gx7 rfl (x_tab3 (K := K) (g_listRg (gm rfl) (by omega)) rfl rfl nd7 (nv1.mono e7)) (by omega) fun F8 H8 gx8 e8 => hN _ F8 H8 ⟨_, _, _, _, tss ++ [(m, hs m, es)], rfl, gx8, by rw [List.length_append, htl]; rfl, fun t ht => ?_, e56.trans ((e4.trans e7).trans e8)⟩ ((e4.trans e7).trans e8)
        rcases List.mem_append.mp ht with z | z
        · exact hts t z
        · rw [List.mem_singleton.mp z]
          exact ⟨rfl, hs_len m, fun k hk => hs_mem.mp hk, he, hm⟩
    · obtain ⟨z6', z8, z9, z10, tss, rfl, gx, htl, hts, e56⟩ := hI
      subst hds
      rw [List.length_map, List.length_range] at htl
      obtain ⟨F7, s7, e7, lx⟩ := gx.done LawTab.mono g0 hl0
      exact t_retX (Φ := fun z F8 => LstX (LawTab P w K) F8 z tss) s7 (fun H8 i8 g8 Q8 q8 => ⟨_, rfl, q8 _ F7 H8 lx (.refl i8 g8)⟩) fun z F8 H8 lz s8 => q z F8 H8 tss htl hts s8 lz
end
end KD

/-! int(a test), max(i, j) -/
namespace Fv
open PySem PySem.Spec PyProof.Rows L2 Evl StX
def rIntB (K : PySem.W.Frag) : List V → Hp → VK → Prop := fun xs H Q => ∃ b : Bool, xs = [.bl b] ∧ Q (.int (if b then 1 else 0)) H
theorem c_intB {X : Cx} {K : PySem.W.Frag} (h : X.K = K := by rfl) : CallR X (.type "int") (rIntB K) := by
  subst h
  rintro pins s σ H xs us Q I r ⟨b, rfl, q⟩
  cases r with
  | cons r1 r2 =>
    cases r2
    have e : _ = Value.bool b := r1
    subst e
    exact call_int_bool ⟨.int (if b then 1 else 0), H, I.tok _, ⟨_, rfl⟩, q⟩
def rMax2 (K : PySem.W.Frag) : List V → Hp → VK → Prop := fun xs H Q => ∃ i j : Int, xs = [.int i, .int j] ∧ Q (.int (max i j)) H
theorem c_max2 {X : Cx} {K : PySem.W.Frag} (hc : X.calm = true := by rfl) (h : X.K = K := by rfl) : CallR X (.builtin "max") (rMax2 K) := by
  subst h
  rintro pins s σ H xs us Q I r ⟨i, j, rfl, q⟩
  cases r with
  | cons r1 r2 =>
    cases r2 with
    | cons r2 r3 =>
      cases r3
      obtain ⟨t, rfl⟩ := r1
      obtain ⟨u, rfl⟩ := r2
      refine PySem.Flt.max_two_num (I.ok.hd hc) (.int _ _) (.int _ _) fun h' tk k => ?_
      have e : (if PySem.Flt.ltV (Value.int i t) (Value.int j u) then Value.int j u else Value.int i t) = Value.int (max i j) (if i < j then u else t) := by
        unfold PySem.Flt.ltV
        by_cases h : i < j
        · rw [show max i j = j by omega]; simp [h]
        · rw [show max i j = i by omega]; simp [h]
      rw [e]
      exact ⟨.int (max i j), H, I.kept (t' := tk) k, ⟨_, rfl⟩, q⟩
section
variable {K : PySem.W.Frag} {pt : Option Pt} {σ : L2.St} {F H : Hp} {te ta : TE}
theorem g_intB {b : Bool} (h : EvG K pt te σ F (Is (.bool b))) : EvG K pt (tCB (rIntB K) (tCons te tNil)) σ F (Is (.int (if b then 1 else 0))) := fun H1 e g Q q => h H1 e g _ fun d v F2 H2 hd s hv => by
  subst hd
  obtain rfl : v = .bl b := by cases hv; rfl
  exact ⟨b, rfl, q _ _ F2 H2 rfl s (.int _)⟩
theorem g_max2 {i : Int} {R : Int → Prop} (ha : EvG K pt ta σ F (Is (.int i))) (h : EvG K pt te σ F (fun d => ∃ j : Int, d = .int j ∧ R j)) : EvG K pt (tCB (rMax2 K) (tCons ta (tCons te tNil))) σ F (fun d => ∃ j : Int, d = .int (max i j) ∧ R j) := fun H1 e g Q q => ha H1 e g _ fun d v F2 H2 hd s hv => h.mono s.sub H2 s.inn s.good _ fun d2 v2 F3 H3 ⟨j, hd2, hj⟩ s3 hv2 => by
  subst hd; subst hd2
  rw [rp_int hv, rp_int hv2]
  exact ⟨i, j, rfl, q _ _ F3 H3 ⟨j, rfl, hj⟩ (s.trans s3) (.int _)⟩
end
end Fv

namespace KD
open PySem PySem.Spec PyProof.Rows L2 L2H Fv Evl StX
abbrev s_law_tables : Stmt := topS 35
theorem sc_law_tables : FnScope ["_law_pot_here", "_law_n", "_law_m", "_law_sizes", "_law_house", "_law_word", "_law_tables_here", "_law_k"] ["_law_pot_here", "_law_n", "_law_m"] (defScope s_law_tables) := ⟨rfl, rfl, rfl, by decide +kernel, rfl, by decide +kernel, by decide +kernel⟩
section
variable {P : Program} {w : World} {K : PySem.W.Frag} {mg : Str → Option Value} {base : Heap} {CT : Addr}
variable {pt : Option Pt} {σ : L2.St} {F F' F0 H0 H F2 H2 : Hp} {te ti ta tb ty td : TE} {ts tr : TA} {t u : TT} {wi wj : TI} {D : Ends} {tz tu tw body : TS} {l a x dx : Addr} {xs : List NEnt} {fs : List (Str × V)} {f : Str} {i : Nat}
theorem t_appXE {α : Type} {Φ : α → V → Hp → Prop} {Ry : α → Prop} {ys : List α} {i : Nat} (hm : ∀ y v F F', Ex F F' → Φ y v F → Φ y v F') (g0 : Good pt F0 H0) (h0 : H0 l = none) (g : Xst K Φ pt F0 H0 l F H ys) (hi : σ[i]? = some (some (.ref l))) (h : EvX pt te σ F (fun v F2 => ∃ y, Ry y ∧ Φ y v F2)) (hz : ys.length < 100000)
    (q : ∀ y F2 H2, Ry y → Xst K Φ pt F0 H0 l F2 H2 (ys ++ [y]) → Ex F F2 → D.nx σ H2) : tDrop (tBM K "list" rAppend (tVar i) (tCons te tNil)) D σ H := by
  obtain ⟨acc, e, r⟩ := g.ex
  refine ⟨.ref l, hi, .inl ⟨rfl, acc, sq_of e⟩, h H g.step.inn g.step.good _ fun v F2 H2 ⟨y, hy, hv⟩ s => ?_⟩
  have g2 := g.run hm g0 h0 s
  obtain ⟨acc2, e2, r2⟩ := g2.ex
  have hl : acc2.length = ys.length := Paired.length r2
  exact ⟨l, acc2, v, rfl, rfl, e2, sz_lt (by rw [hl]; exact hz), q y F2 _ hy ⟨g2.step.put g0 h0 g2.off, g2.off, acc2 ++ [v], upd_same, Paired.snoc r2 hv⟩ s.sub⟩
theorem x_meet {E : XK} {q : Pt} {n m S : Nat} (h0 : σ[0]? = some (some (.ref q.p))) (hn : σ[1]? = some (some (.int (n : Int)))) (hm : σ[2]? = some (some (.int (m : Int)))) (h : EvG K (some q) te σ F (Is (.int (S : Int)))) (hb : 2 ≤ n ∧ n ≤ 4 ∧ 1 ≤ m ∧ m ≤ 4 ∧ m ≤ S ∧ S ≤ 5) :
    EvX (some q) (tCall (spMeet P w K) [] E (tCons (tVar 0) (tCons (tVar 1) (tCons (tVar 2) (tCons te tNil))))) σ F (fun z F2 => ∃ ts : List Tab, ts.length = n ∧ (∀ t ∈ ts, TabOk n S m (List.replicate (n - 1) S) t) ∧ LstX (LawTab P w K) F2 z ts) := fun H1 e g Q k => ⟨_, h0, _, hn, _, hm, h H1 e g _ fun d v F2 H2 hd s hv => by
  subst hd
  obtain rfl := rp_int hv
  exact ⟨q, n, m, S, F2, rfl, hb, s.inn, s.good, fun z F3 H3 ts h1 h2 s3 lx => k z F3 H3 ⟨ts, h1, h2, lx⟩ (s.trans s3)⟩⟩
theorem x_wait {E : XK} {q : Pt} {n m : Nat} (h0 : σ[0]? = some (some (.ref q.p))) (hn : σ[1]? = some (some (.int (n : Int)))) (hm : σ[2]? = some (some (.int (m : Int)))) (hb : 2 ≤ n ∧ n ≤ 4 ∧ 1 ≤ m ∧ m ≤ 4) :
    EvX (some q) (tCall (spWait P w K) [] E (tCons (tVar 0) (tCons (tVar 1) (tCons (tVar 2) tNil)))) σ F (fun z F2 => ∃ ts : List Tab, ts.length = n ∧ (∀ t ∈ ts, TabOk n m m (List.replicate (n - 1) m) t) ∧ LstX (LawTab P w K) F2 z ts) := fun H1 e g Q k => ⟨_, h0, _, hn, _, hm, q, n, m, F, rfl, hb, e, g, fun z F3 H3 ts h1 h2 s3 lx => k z F3 H3 ⟨ts, h1, h2, lx⟩ s3⟩
theorem x_drawn {E : XK} {q : Pt} {m S n : Nat} {zs : List Nat} (hz : zs.length + 1 = n) (h0 : σ[0]? = some (some (.ref q.p))) (hm : σ[2]? = some (some (.int (m : Int)))) (h : EvG K (some q) te σ F (Is (.int (S : Int)))) (hl : EvG K (some q) ty σ F (Is (.list (zs.map natD)))) (hb : 1 ≤ m ∧ m ≤ 4 ∧ m ≤ S ∧ S ≤ 5 ∧ zs.length ≤ 3 ∧ ∀ z ∈ zs, z ≤ 5) :
    EvX (some q) (tCall (spDrawn P w K) [] E (tCons (tVar 0) (tCons (tVar 2) (tCons te (tCons ty tNil))))) σ F (fun z F2 => ∃ t : Tab, TabOk n S m zs t ∧ LawTab P w K t z F2) := fun H1 e g Q k => ⟨_, h0, _, hm, h H1 e g _ fun d v F2 H2 hd s hv => hl.mono s.sub H2 s.inn s.good _ fun d2 v2 F3 H3 hd2 s2 hv2 => by
  subst hd; subst hd2; subst hz
  obtain rfl := rp_int hv
  exact ⟨q, m, S, zs, F3, v2, rfl, hb, s2.inn, s2.good, hv2, fun z F4 H4 t h1 s4 lt => k z F4 H4 ⟨t, h1, lt⟩ ((s.trans s2).trans s4)⟩⟩
theorem others_at {Ss : List Nat} {h n : Nat} (hl : Ss.length = n) (hh : h < n) : (((List.range n).filter fun k => !decide (k = h)).map fun k => Ss.getD k 0) = Ss.eraseIdx h := by
  subst hl
  have e : List.range Ss.length = List.range h ++ (h :: (List.range (Ss.length - h - 1)).map fun k => h + 1 + k) := by
    apply List.ext_getElem
    · simp; omega
    · intro i h1 h2
      simp only [List.getElem_range, List.getElem_append, List.length_range, List.getElem_cons, List.getElem_map]
      split
      · rfl
      · split <;> omega
  rw [e, List.filter_append, List.filter_cons_of_neg (by simp), List.filter_eq_self.mpr (fun k hk => by have := List.mem_range.mp hk; simp; omega), List.filter_eq_self.mpr (fun k hk => by obtain ⟨j, _, rfl⟩ := List.mem_map.mp hk; simp; omega), List.map_append, List.map_map, List.eraseIdx_eq_take_drop_succ]
  congr 1
  · apply List.ext_getElem
    · simp; omega
    · intro i h1 h2
      simp at h1 h2 ⊢
      rw [List.getElem?_eq_getElem (by omega)]; rfl
  · apply List.ext_getElem
    · simp; omega
    · intro i h1 h2
      simp at h1 h2 ⊢
      rw [List.getElem?_eq_getElem (by omega)]; rfl
/-- all ways' tables -/
def spTabs (P : Program) (w : World) (K : PySem.W.Frag) : Sp := fun vs H Q _ => ∃ (q : Pt) (n m : Nat) (F : Hp), vs = [.ref q.p, .int n, .int m] ∧ (2 ≤ n ∧ n ≤ 4 ∧ 1 ≤ m ∧ m ≤ 4) ∧ Ex F H ∧ Good (some q) F H ∧
  ∀ z F2 H2 Ss ts, TabsOk n m Ss ts → (∀ S ∈ Ss, m ≤ S ∧ S ≤ 5 ∧ (n ≠ 2 → S ≤ max m 2)) → Step (some q) F H F2 H2 → LstX (LawTab P w K) F2 z ts → Q z H2
theorem ok_tabs {f fD fW fM fB : Addr} {fd fdD fdW fdM fdB : FuncData} (Fn : Fun K "_law_tables" "_law_tables" s_law_tables f fd) (T : Tx mg)
    (F_law_draw : Fun K "_law_draw" "_law_draw" s_law_draw fD fdD) (b_law_draw : Binds K fdD ["_law_pot_here", "_law_many"] []) (g_law_draw : mg "_law_draw" = some (.ref fD))
    (F_law_drawn : Fun K "_law_drawn" "_law_drawn" s_law_drawn fB fdB) (b_law_drawn : Binds K fdB ["_law_pot_here", "_law_m", "_law_size", "_law_others"] []) (g_law_drawn : mg "_law_drawn" = some (.ref fB)) (G_law_drawn : FnOk P w K mg base CX0 3 fB fdB ["_law_pot_here", "_law_m", "_law_size", "_law_others"] (spDrawn P w K))
    (F_law_meeting : Fun K "_law_meeting" "_law_meeting" s_law_meeting fM fdM) (b_law_meeting : Binds K fdM ["_law_pot_here", "_law_n", "_law_m", "_law_size"] []) (g_law_meeting : mg "_law_meeting" = some (.ref fM)) (G_law_meeting : FnOk P w K mg base CX0 3 fM fdM ["_law_pot_here", "_law_n", "_law_m", "_law_size"] (spMeet P w K))
    (F_law_waiting : Fun K "_law_waiting" "_law_waiting" s_law_waiting fW fdW) (b_law_waiting : Binds K fdW ["_law_pot_here", "_law_n", "_law_m"] []) (g_law_waiting : mg "_law_waiting" = some (.ref fW)) (G_law_waiting : FnOk P w K mg base CX0 3 fW fdW ["_law_pot_here", "_law_n", "_law_m"] (spWait P w K)) :
    FnOk P w K mg base CX0 4 f fd ["_law_pot_here", "_law_n", "_law_m"] (spTabs P w K) := by
  have G_law_draw : FnOk P w K mg base CX0 1 fD fdD ["_law_pot_here", "_law_many"] (spDraw K) := ok_draw F_law_draw T
  refine Fn.ok sc_law_tables (fun vs H Q E ⟨_, _, _, _, h, _⟩ => by rw [h]; rfl) (fun cdv A outer s H vs Q E hr h => ?_)
  obtain ⟨pq, n, m, F, rfl, ⟨n2, n4, m1, m4⟩, e, g, q⟩ := h
  refine ⟨_, (pss_cons (ps_set (i := 3) sc_law_tables.nd rfl (by first | exact Or.inl rfl | exact Or.inr rfl) (pe_lc (own := [("_law_house", 4)]) (g := gName 4) rfl sc_law_tables.nd (pi_range1 (by rfl) T.range (pa_cons (pv 1) pa_nil)) (blkOk_by (own := [("_law_house", 4)]) (N := ["_law_pot_here", "_law_n", "_law_m", "_law_sizes", "_law_house", "_law_word", "_law_tables_here", "_law_k"]) (sc := (defScope s_law_tables)) (by decide +kernel)) (fun _ _ _ _ _ => pg_name (i := 4) sc_law_tables.nd rfl (by first | exact Or.inl rfl | exact Or.inr rfl)) (fun _ _ _ _ _ => pts_nil) (fun _ _ _ _ _ => (pe_callB (c_max2 (K := K)) (by rfl) T.max (by decide +kernel) (pa_cons (pv 2) (pa_cons (pe_op op_add pe_int (pe_op op_mul (pe_call G_law_draw (hr.mono (by decide)) (by rfl) g_law_draw F_law_draw.kp b_law_draw .nil pass0 (pa_cons (pv 0) (pa_cons pe_int pa_nil))) (pe_callTy (c_intB (K := K)) (by rfl) T.int (by decide +kernel) (pa_cons (pe_cmpR op_eq (pv 1) pe_int (nomark _)) pa_nil)))) pa_nil))))))
    (pss_cons (ps_set (i := 5) sc_law_tables.nd rfl (by first | exact Or.inl rfl | exact Or.inr rfl) (pe_call G_law_draw (hr.mono (by decide)) (by rfl) g_law_draw F_law_draw.kp b_law_draw .nil pass0 (pa_cons (pv 0) (pa_cons pe_int pa_nil))))
    (pss_cons (ps_if (pt_cmpR op_eq (pv 5) pe_int (nomark _)) (pss_one (ps_ret (pe_call G_law_meeting (hr.mono (by decide)) (by rfl) g_law_meeting F_law_meeting.kp b_law_meeting .nil pass0 (pa_cons (pv 0) (pa_cons (pv 1) (pa_cons (pv 2) (pa_cons (pe_ix (o_ixL (K := K)) (pv 3) pe_int (fun _ _ => rfl)) pa_nil))))))) pss_nil)
    (pss_cons (ps_if (pt_cmpR op_gt (pv 5) pe_int (nomark _)) (pss_one (ps_ret (pe_call G_law_waiting (hr.mono (by decide)) (by rfl) g_law_waiting F_law_waiting.kp b_law_waiting .nil pass0 (pa_cons (pv 0) (pa_cons (pv 1) (pa_cons (pv 2) pa_nil)))))) pss_nil)
    (pss_cons (ps_set (i := 6) sc_law_tables.nd rfl (by first | exact Or.inl rfl | exact Or.inr rfl) (pe_lst pa_nil))
    (pss_cons (ps_for PassesOwn.never rfl (pi_range1 (by rfl) T.range (pa_cons (pv 1) pa_nil)) (pg_name (i := 4) sc_law_tables.nd rfl (by first | exact Or.inl rfl | exact Or.inr rfl)) (pss_one (ps_expr (pe_bm PySem.F.plainAttrs_list PySem.F.slot_list_append PySem.F.type_list_append mt_append (pv 6) (pa_cons (pe_call G_law_drawn (hr.mono (by decide)) (by rfl) g_law_drawn F_law_drawn.kp b_law_drawn .nil pass0 (pa_cons (pv 0) (pa_cons (pv 2) (pa_cons (pe_ix (o_ixL (K := K)) (pv 3) (pv 4) (fun _ _ => rfl)) (pa_cons (pe_lc (own := [("_law_k", 7)]) (g := gName 7) rfl sc_law_tables.nd (pi_range1 (by rfl) T.range (pa_cons (pv 1) pa_nil)) (blkOk_by (own := [("_law_k", 7)]) (N := ["_law_pot_here", "_law_n", "_law_m", "_law_sizes", "_law_house", "_law_word", "_law_tables_here", "_law_k"]) (sc := (defScope s_law_tables)) (by decide +kernel)) (fun _ _ _ _ _ => pg_name (i := 7) sc_law_tables.nd rfl (by first | exact Or.inl rfl | exact Or.inr rfl)) (fun _ _ _ _ _ => (pts_one (pt_cmpR op_ne (pv 7) (pv 4) (nomark _)))) (fun _ _ _ _ _ => (pe_ix (o_ixL (K := K)) (pv 3) (pv 7) (fun _ _ => rfl)))) pa_nil))))) pa_nil)))))
    (pss_one (ps_ret (pv 6))))))))), ?_⟩
  have s0 : Step (some pq) F H F H := Step.refl e g
  have g0 : Good (some pq) F H := g
  have gn : ∀ {σ' : L2.St} {F' : Hp}, σ'[1]? = some (some (.int (n : Int))) → EvG K (some pq) (tVar 1) σ' F' (Is (.int (n : Int))) := fun h => g_var (v := .int n) h (.int _)
  have gm : ∀ {σ' : L2.St} {F' : Hp}, σ'[2]? = some (some (.int (m : Int))) → EvG K (some pq) (tVar 2) σ' F' (Is (.int (m : Int))) := fun h => g_var (v := .int m) h (.int _)
  refine t_asg (K := K) (R := fun d => ∃ Ss : List Nat, d = .list (Ss.map natD) ∧ Ss.length = n ∧ ∀ S ∈ Ss, m ≤ S ∧ S ≤ 5 ∧ (n ≠ 2 → S ≤ max m 2)) s0 ((g_lcR (α := Unit) PyData.int (fun k => (m : Int) ≤ k ∧ k ≤ 5 ∧ (n ≠ 2 → k ≤ max (m : Int) 2)) (w_range (n := n) (gn rfl) (by omega)) (fun ds h => by rw [h, List.length_map, List.length_range]; omega) (fun _ => rfl) fun F' e' u => (g_max2 (i := (m : Int)) (R := fun j => 2 ≤ j ∧ j ≤ 5 ∧ (n ≠ 2 → j = 2)) (gm rfl) (g_op (R1 := Is (.int 2)) (S2 := fun d => ∃ j : Int, d = .int j ∧ 0 ≤ j ∧ j ≤ 3 ∧ (n ≠ 2 → j = 0)) g_int (g_op (R1 := fun d => ∃ j : Int, d = .int j ∧ 0 ≤ j ∧ j < 4) (g_callP (m := 4) rfl g_int ⟨by omega, by omega⟩) (g_intB (g_opI (gn rfl) g_int rv_eqI)) fun d1 d2 ⟨j, hj, j0, j1⟩ h2 => ?_) fun d1 d2 h1 ⟨j, h2, j0, j3, jn⟩ => ?_)).imp fun d ⟨j, hj, h2, h5, hn⟩ => ⟨max (m : Int) j, hj, by omega, by omega, fun z => by rw [hn z]; exact Int.le_refl _⟩).imp fun d ⟨ds, ys, hds, hd, hl, hp⟩ => ⟨ys.map Int.toNat, ?_, by rw [List.length_map, hl, show ds = _ from hds, List.length_map, List.length_range], fun S hS => ?_⟩) fun d sv F1 H1 hd s1 e1 hsv => ?_
  · subst hj; subst h2
    intro F H x y i hx hy Q q
    exact rv_mul (.inl ⟨by omega, by omega⟩) F H x y i hx hy Q fun z v F2 H2 hz s hv => q z v F2 H2 ⟨_, hz, by split <;> omega, by split <;> omega, fun z => by rw [if_neg (by simp; omega)]; omega⟩ s hv
  · subst h1; subst h2
    intro F H x y i hx hy Q q
    exact rv_add F H x y i hx hy Q fun z v F2 H2 hz s hv => q z v F2 H2 ⟨_, hz, by omega, by omega, fun z => by have := jn z; omega⟩ s hv
  · rw [hd, List.map_map]
    refine congrArg PyData.list (List.map_congr_left fun k hk => ?_)
    have := hp k hk
    show PyData.int k = PyData.int ((k.toNat : Nat) : Int)
    exact congrArg PyData.int (by omega)
  · obtain ⟨k, hk, rfl⟩ := List.mem_map.mp hS
    have := hp k hk
    omega
  obtain ⟨Ss, rfl, hSl, hSb⟩ := hd
  refine t_asg (K := K) (R := fun d => ∃ k : Int, d = .int k ∧ 0 ≤ k ∧ k < 6) s1 (g_callP (m := 6) rfl g_int ⟨by omega, by omega⟩) fun d wv F2 H2 hd s2 e2 hwv => ?_
  obtain ⟨wd, rfl, _, _⟩ := hd
  obtain rfl := rp_int hwv
  have gat : ∀ {k : Nat} (hk : k < Ss.length) {ti : TE} {σ' : L2.St} {F' : Hp}, σ'[3]? = some (some sv) → Ex F1 F' → EvG K (some pq) ti σ' F' (Is (.int (k : Int))) → EvG K (some pq) (tOp (rIxL K) (tVar 3) ti) σ' F' (Is (.int ((Ss.getD k 0 : Nat) : Int))) := fun {k} hk ti σ' F' h3 e3 hi => g_opI (g_var (i := 3) h3 (Rp.mono e3 _ _ hsv)) hi (rv_ixL (d := .int ((Ss.getD k 0 : Nat) : Int)) (atI_nat (by rw [List.getElem?_map, List.getElem?_eq_getElem hk, List.getD_eq_getElem?_getD, List.getElem?_eq_getElem hk]; rfl)))
  have mem : ∀ {k : Nat}, k < Ss.length → Ss.getD k 0 ∈ Ss := fun {k} hk => by
    rw [List.getD_eq_getElem?_getD, List.getElem?_eq_getElem hk]
    exact List.getElem_mem hk
  refine t_if (b := decide (wd = 3)) s2 (et_of (K := K) (g_opI (g_var (v := .int wd) (d := .int wd) rfl (.int _)) g_int rv_eqI)) (fun _ F3 H3 s3 e3 => ?_) (fun _ F3 H3 s3 e3 => ?_)
  · have h00 : 0 < Ss.length := by omega
    have hb := hSb _ (mem h00)
    exact t_retX s3 (x_meet (P := P) (w := w) (S := Ss.getD 0 0) rfl rfl rfl (gat h00 rfl (e2.trans e3) g_int) ⟨n2, n4, m1, m4, hb.1, hb.2.1⟩) fun z F4 H4 ⟨ts, h1, h2, h3⟩ s4 => q z F4 H4 (List.replicate n (Ss.getD 0 0)) ts ⟨h1, by simp, fun k t ht => by
      have hk : k < n := by rw [← h1]; exact (List.getElem?_eq_some_iff.mp ht).1
      have := h2 t (List.mem_of_getElem? ht)
      rw [List.eraseIdx_replicate, if_pos hk, List.getD_eq_getElem?_getD, List.getElem?_replicate, if_pos hk]
      exact this⟩ (fun S hS => by rw [List.eq_of_mem_replicate hS]; exact hb) s4 h3
  refine t_if (b := decide (3 < wd)) s3 (et_of (K := K) (g_opI (g_var (v := .int wd) (d := .int wd) rfl (.int _)) g_int (rv_bl (g := fun i j => decide (j < i))))) (fun _ F4 H4 s4 e4 => ?_) (fun _ F4 H4 s4 e4 => ?_)
  · exact t_retX s4 (x_wait (P := P) (w := w) rfl rfl rfl ⟨n2, n4, m1, m4⟩) fun z F4 H4 ⟨ts, h1, h2, h3⟩ s4 => q z F4 H4 (List.replicate n m) ts ⟨h1, by simp, fun k t ht => by
      have hk : k < n := by rw [← h1]; exact (List.getElem?_eq_some_iff.mp ht).1
      have := h2 t (List.mem_of_getElem? ht)
      rw [List.eraseIdx_replicate, if_pos hk, List.getD_eq_getElem?_getD, List.getElem?_replicate, if_pos hk]
      exact this⟩ (fun S hS => by rw [List.eq_of_mem_replicate hS]; omega) s4 h3
  refine t_newL (K := K) s4 (fun lt hl0 hlH gst => ?_) (fun l h => s4.back l h)
  have gx0 : Xst K (LawTab P w K) (some pq) F H lt F4 (upd H4 lt (.lst [])) [] := Xst.of gst
  have e14 : Ex F1 F4 := (e2.trans e3).trans e4
  refine t_forHR (K := K) (RS := (· = (List.range n).map natD)) gx0.step.inn gx0.step.good (w_range (n := n) (gn rfl) (by omega)) (fun ds i σ' F' H' => ∃ z4 z7 ts, σ' = [some (.ref pq.p), some (.int n), some (.int m), some sv, z4, some (.int wd), some (.ref lt), z7] ∧ Xst K (LawTab P w K) (some pq) F H lt F' H' ts ∧ ts.length = i ∧ (∀ k t, ts[k]? = some t → TabOk n (Ss.getD k 0) m (Ss.eraseIdx k) t) ∧ Ex F4 F')
    (fun ds hds F5 H5 s5 => ⟨_, _, [], rfl, gx0.run LawTab.mono g0 hl0 s5, rfl, (fun k t ht => by simp at ht), s5.sub⟩) (fun ds i σ' F' H' ⟨_, _, _, _, w, _⟩ => w.step.inn) (fun ds hds h d hd σ' F6 H6 u hI e6 hu N hN => ?_) (fun ds hds σ' F6 H6 hI e6 => ?_)
  · obtain ⟨z4, z7, tss, rfl, gx, htl, hts, e46⟩ := hI
    subst hds
    have hh : h < n := by have := (List.getElem?_eq_some_iff.mp hd).1; simpa using this
    have ed : d = natD h := by
      rw [List.getElem?_map, List.getElem?_range hh] at hd
      exact (Option.some.inj hd).symm
    subst ed
    obtain rfl := rp_int hu
    have gh : ∀ {σ' : L2.St} {F' : Hp}, σ'[4]? = some (some (.int (h : Int))) → EvG K (some pq) (tVar 4) σ' F' (Is (.int (h : Int))) := fun e => g_var (v := .int (h : Int)) e (.int _)
    have hhS : h < Ss.length := by omega
    have hb := hSb _ (mem hhS)
    have hz1 : (Ss.eraseIdx h).length + 1 = n := by rw [List.length_eraseIdx_of_lt hhS]; omega
    refine t_appXE (Ry := fun t => TabOk n (Ss.getD h 0) m (Ss.eraseIdx h) t) LawTab.mono g0 hl0 gx rfl (x_drawn (P := P) (w := w) (n := n) (m := m) (S := Ss.getD h 0) (zs := Ss.eraseIdx h) hz1 rfl rfl (gat hhS rfl (e14.trans e46) (gh rfl)) ((g_lcE natD (List.range n) (fun k => !decide ((k : Int) = (h : Int))) (fun k => natD (Ss.getD k 0)) (w_range (n := n) (gn rfl) (by omega)) (by simp; omega) (fun _ => rfl) (fun k hk F' e' y hy => et_of (K := K) (g_opI (g_var (i := 7) rfl hy) (gh rfl) rv_neI)) (fun k hk _ F' e' y hy => gat (k := k) (by rw [hSl]; exact List.mem_range.mp hk) rfl ((e14.trans e46).trans e') (g_var (i := 7) rfl hy))).is (by
      rw [← others_at hSl hh, List.map_map]
      refine congrArg PyData.list ?_
      rw [show (fun k : Nat => !decide ((k : Int) = (h : Int))) = fun k => !decide (k = h) from funext fun k => by simp [Int.natCast_inj]]
      rfl)) ⟨m1, m4, hb.1, hb.2.1, by omega, fun z hz => (hSb z (List.mem_of_mem_eraseIdx hz)).2.1⟩) (by omega) fun t F7 H7 ht gx7 e7 => hN _ F7 H7 ⟨_, _, tss ++ [t], rfl, gx7, by rw [List.length_append, htl]; rfl, fun k t' hk => ?_, e46.trans e7⟩ e7
    rcases Nat.lt_or_ge k tss.length with z | z
    · rw [List.getElem?_append_left z] at hk
      exact hts k t' hk
    · rw [List.getElem?_append_right z] at hk
      have hk0 : k - tss.length = 0 := by
        have := (List.getElem?_eq_some_iff.mp hk).1
        simpa using this
      rw [hk0] at hk
      obtain rfl : t = t' := by simpa using hk
      obtain rfl : k = h := by omega
      exact ht
  · obtain ⟨z4, z7, tss, rfl, gx, htl, hts, e46⟩ := hI
    subst hds
    rw [List.length_map, List.length_range] at htl
    obtain ⟨F7, s7, e7, lx⟩ := gx.done LawTab.mono g0 hl0
    exact t_retX (Φ := fun z F8 => LstX (LawTab P w K) F8 z tss) s7 (fun H8 i8 g8 Q8 q8 => ⟨_, rfl, q8 _ F7 H8 lx (.refl i8 g8)⟩) fun z F8 H8 lz s8 => q z F8 H8 Ss tss ⟨htl, hSl, hts⟩ hSb s8 lz
end
end KD

namespace KD
open PySem PySem.Spec PyProof.Rows L2 L2H Fv Evl StX
/-- what the law's tables are to the program -/
theorem TabOk.ents {n S m : Nat} {zs : List Nat} {t : Tab} (h : TabOk n S m zs t) (hz : zs.length + 1 = n) (h3 : zs.length ≤ 3) (z5 : ∀ z ∈ zs, z ≤ 5) (S5 : S ≤ 5) : EntsOk n S m t.2.2 := by
  obtain ⟨f1, f2, f3⟩ := read_facts zs h3 z5
  have few := read_few h3 z5
  refine ⟨fun x hx => ?_, by rw [h.all]; exact pairs_nd f2 S, ?_⟩
  · have : (x.1, x.2.1) ∈ pairsTo S (readings zs) := by rw [← h.all]; exact List.mem_map_of_mem hx
    obtain ⟨s, hs, hr⟩ := List.mem_flatMap.mp this
    obtain ⟨r, hr1, e⟩ := List.mem_map.mp hr
    have e1 : (s : Int) = x.1 := by injection e
    have e2 : r = x.2.1 := by injection e
    have hs2 := List.mem_range.mp hs
    obtain ⟨r1, r2⟩ := f3 r hr1
    refine ⟨by omega, by omega, by rw [← e2, r1]; exact hz, fun o ho k hk => ?_, h.mv x hx⟩
    have := r2 o (by rw [e2]; exact ho) k hk
    omega
  · have e : t.2.2.length = (pairsTo S (readings zs)).length := by rw [← h.all, List.length_map]
    rw [pairs_len] at e
    have : S * (readings zs).length ≤ 5 * 216 := Nat.mul_le_mul S5 few
    omega
theorem TabsOk.ents {n m : Nat} {Ss : List Nat} {ts : List Tab} (h : TabsOk n m Ss ts) (n4 : n ≤ 4) (hS : ∀ S ∈ Ss, m ≤ S ∧ S ≤ 5) {k : Nat} {t : Tab} (hk : ts[k]? = some t) : EntsOk n t.1 m t.2.2 ∧ m ≤ t.1 ∧ t.1 ≤ 5 := by
  have o := h.ok k t hk
  have hkn : k < n := by rw [← h.len]; exact (List.getElem?_eq_some_iff.mp hk).1
  have hks : k < Ss.length := by rw [h.lenS]; exact hkn
  have hm : Ss.getD k 0 ∈ Ss := by
    rw [List.getD_eq_getElem?_getD, List.getElem?_eq_getElem hks]
    exact List.getElem_mem hks
  have hl : (Ss.eraseIdx k).length = n - 1 := by rw [List.length_eraseIdx_of_lt hks, h.lenS]
  have e := o.ents (by omega) (by omega) (fun z hz => (hS z (List.mem_of_mem_eraseIdx hz)).2) (hS _ hm).2
  rw [o.st]
  exact ⟨e, hS _ hm⟩
end KD

/-! a dict that is told by an expression: t[1][k] -/
namespace Fv
open PySem PySem.Spec PyProof.Rows L2 Evl StX
section
variable {P : Program} {w : World} {K : PySem.W.Frag} {pt : Option Pt} {σ : L2.St} {F H : Hp} {te ty td : TE} {l : Addr} {xs : List NEnt}
theorem g_dgetX {k z : PyData} {p : Addr × V} (h0 : EvX pt td σ F (fun v _ => v = .ref l)) (nd : ND P w K F l xs) (h : EvG K pt ty σ F (Is k)) (hk : ∀ b F', Rp K F' b k → ∃ a, b = .ref a) (hb : kb k = true) (hd : (nk k).depth ≤ 8) (hp : atN xs (nk k) = some p) (hz : Rp K F p.2 z) : EvG K pt (tOp (rIxN P w K) td ty) σ F (Is z) := fun H1 e g Q q => h0 H1 e g _ fun v0 F1 H2 e0 s0 => by
  subst e0
  exact h.mono s0.sub H2 s0.inn s0.good _ fun d v F2 H3 hd' s hv => by
    rw [show d = k from hd'] at hv
    obtain ⟨b, rfl⟩ := hk v F2 hv
    exact ⟨l, xs, nk k, b, p, rfl, rfl, (nd.mono (s0.sub.trans s.sub)).mono s.inn, KeyOk.mono s.inn ⟨k, hv, hb, rfl, hd⟩, hp, q z _ F2 H3 rfl (s0.trans s) (Rp.mono (s0.sub.trans s.sub) _ _ hz)⟩
theorem w_keysX {ds : List PyData} (h0 : EvX pt te σ F (fun v _ => v = .ref l)) (nd : ND P w K F l xs) (hk : ∀ F1, Ex F F1 → RpAll K F1 (xs.map fun x => V.ref x.2.1) ds) : WiG K pt (iKeysN P w te) σ F (· = ds) := fun H1 e g RR q => h0 H1 e g _ fun v0 F1 H2 e0 s0 => by
  subst e0
  obtain ⟨o, h1, h2⟩ := nd.ex
  have h1' := s0.sub _ _ h1
  have hk' := hk F1 s0.sub
  have hl : xs.length = ds.length := by have := hk'.length; rwa [List.length_map] at this
  refine ⟨l, o, xs, rfl, nd.low, s0.inn _ _ h1', h2, q ds _ F1 H2 rfl s0 ⟨fun i H e hi => ⟨e _ _ h1', by omega⟩, fun H e => ⟨e _ _ h1', by omega⟩, fun i H x H' e hi y => ⟨y.1, ?_⟩⟩⟩
  obtain ⟨en, he, hx⟩ := y.2
  rw [hx]
  exact hk'.get (by rw [List.getElem?_map, he]; rfl)
end
end Fv

/-! several objects of one's own at once; a loop over a list of no data; break; while -/
namespace Fv
open PySem PySem.Spec PyProof.Rows L2 Evl StX
abbrev Own1 := Addr × HO
def putAll : List Own1 → Hp → Hp
  | [], F => F
  | p :: L, F => upd (putAll L F) p.1 p.2
def delAll : List Own1 → Hp → Hp
  | [], F => F
  | p :: L, F => del (delAll L F) p.1
theorem putAll_off {F : Hp} {a : Addr} : ∀ {L : List Own1}, (∀ p ∈ L, p.1 ≠ a) → putAll L F a = F a
  | [], _ => rfl
  | p :: L, h => by
    rw [putAll, upd_ne (h p (by simp)).symm]
    exact putAll_off fun q hq => h q (List.mem_cons_of_mem _ hq)
theorem putAll_at {F : Hp} : ∀ {L : List Own1} {p : Own1}, (L.map (·.1)).Nodup → p ∈ L → putAll L F p.1 = some p.2
  | q :: L, p, nd, h => by
    rw [List.map_cons, List.nodup_cons] at nd
    rcases List.mem_cons.mp h with rfl | h
    · exact upd_same
    · have ne : p.1 ≠ q.1 := fun z => nd.1 (z ▸ List.mem_map_of_mem h)
      rw [putAll, upd_ne ne]
      exact putAll_at nd.2 h
theorem putAll_in {F : Hp} {a : Addr} {o : HO} : ∀ {L : List Own1}, putAll L F a = some o → (∃ p ∈ L, p.1 = a ∧ p.2 = o) ∨ F a = some o
  | [], h => .inr h
  | p :: L, h => by
    by_cases z : a = p.1
    · subst z
      rw [putAll, upd_same] at h
      exact .inl ⟨p, by simp, rfl, Option.some.inj h⟩
    · rw [putAll, upd_ne z] at h
      rcases putAll_in h with ⟨q, hq, e⟩ | h
      · exact .inl ⟨q, List.mem_cons_of_mem _ hq, e⟩
      · exact .inr h
theorem delAll_off {F : Hp} {a : Addr} : ∀ {L : List Own1}, (∀ p ∈ L, p.1 ≠ a) → delAll L F a = F a
  | [], _ => rfl
  | p :: L, h => by
    rw [delAll, del_ne (h p (by simp)).symm]
    exact delAll_off fun q hq => h q (List.mem_cons_of_mem _ hq)
theorem delAll_at {F : Hp} : ∀ {L : List Own1} {p : Own1}, p ∈ L → delAll L F p.1 = none
  | q :: L, p, h => by
    by_cases z : p.1 = q.1
    · rw [delAll, z, del_same]
    · rw [delAll, del_ne z]
      rcases List.mem_cons.mp h with e | h
      · exact absurd (by rw [e]) z
      · exact delAll_at h
theorem delAll_ex {F : Hp} : ∀ {L : List Own1}, Ex (delAll L F) F
  | [] => Ex.refl F
  | p :: L => del_ex.trans delAll_ex
theorem delAll_none {F : Hp} {L : List Own1} {a : Addr} (h : F a = none) : delAll L F a = none := by
  cases e : delAll L F a with
  | none => rfl
  | some o => rw [delAll_ex _ _ e] at h; cases h
/-! data without lists stays whatever becomes of what is no tuple -/
mutual
def nl : PyData → Bool
  | .tuple ds => nlL ds
  | .list _ => false
  | .dict _ => false
  | _ => true
def nlL : List PyData → Bool
  | [] => true
  | d :: ds => nl d && nlL ds
end
section
variable {K : PySem.W.Frag} {F F' : Hp}
mutual
theorem rp_tups (h : ∀ a ys, F a = some (.tup ys) → F' a = some (.tup ys)) : ∀ (d : PyData) (v : V), nl d = true → Rp K F v d → Rp K F' v d
  | .none, _, _, x => by cases x; exact .non
  | .bool b, _, _, x => by cases x; exact .bl b
  | .int i, _, _, x => by cases x; exact .int i
  | .str y, _, _, x => by cases x; exact .str y
  | .tuple ds, v, hn, x => by
    obtain ⟨p, ys, rfl, hl, ha⟩ := rp_tup x
    rw [nl] at hn
    exact .tup (h _ _ hl) (rpAll_tups h ds ys hn ha)
  | .list ds, v, hn, x => by rw [nl] at hn; cases hn
  | .dict _, _, _, x => by cases x
theorem rpAll_tups (h : ∀ a ys, F a = some (.tup ys) → F' a = some (.tup ys)) : ∀ (ds : List PyData) (vs : List V), nlL ds = true → RpAll K F vs ds → RpAll K F' vs ds
  | [], _, _, x => by cases x; exact .nil
  | d :: ds, _, hn, x => by
    rw [nlL, Bool.and_eq_true] at hn
    cases x with
    | cons x1 x2 => exact .cons (rp_tups h d _ hn.1 x1) (rpAll_tups h ds _ hn.2 x2)
end
mutual
theorem rp_seqs (h : ∀ a ys, F a = some (.tup ys) → F' a = some (.tup ys)) (h2 : ∀ a ys, F a = some (.lst ys) → F' a = some (.lst ys)) : ∀ (d : PyData) (v : V), Rp K F v d → Rp K F' v d
  | .none, _, x => by cases x; exact .non
  | .bool b, _, x => by cases x; exact .bl b
  | .int i, _, x => by cases x; exact .int i
  | .str y, _, x => by cases x; exact .str y
  | .tuple ds, v, x => by
    obtain ⟨p, ys, rfl, hl, ha⟩ := rp_tup x
    exact .tup (h _ _ hl) (rpAll_seqs h h2 ds ys ha)
  | .list ds, v, x => by
    obtain ⟨p, ys, rfl, hl, ha⟩ := rp_lst x
    exact .lst (h2 _ _ hl) (rpAll_seqs h h2 ds ys ha)
  | .dict _, _, x => by cases x
theorem rpAll_seqs (h : ∀ a ys, F a = some (.tup ys) → F' a = some (.tup ys)) (h2 : ∀ a ys, F a = some (.lst ys) → F' a = some (.lst ys)) : ∀ (ds : List PyData) (vs : List V), RpAll K F vs ds → RpAll K F' vs ds
  | [], _, x => by cases x; exact .nil
  | d :: ds, _, x => by
    cases x with
    | cons x1 x2 => exact .cons (rp_seqs h h2 d _ x1) (rpAll_seqs h h2 ds _ x2)
end
end
/-- what is one's own: each stands in the heap as told, and nothing that is shared knows of it -/
structure Own (pt : Option Pt) (F0 H0 F H : Hp) (L : List Own1) : Prop where
  step : Step pt F0 H0 F H
  nd : (L.map (·.1)).Nodup
  off : ∀ p ∈ L, F p.1 = none ∧ H0 p.1 = none ∧ H p.1 = some p.2 ∧ ∀ ys, p.2 ≠ .tup ys
section
variable {K : PySem.W.Frag} {pt : Option Pt} {σ : L2.St} {F0 H0 F H F' F2 H2 : Hp} {te ta tb : TE} {t : TT} {R : PD} {D : Ends} {tz tu tw : TS} {wi : TI} {L L' : List Own1} {a : Addr} {o o' : HO} {Φ : V → Hp → Prop}
theorem Own.nil (s : Step pt F0 H0 F H) : Own pt F0 H0 F H [] := ⟨s, List.nodup_nil, fun _ h => by cases h⟩
theorem Own.run (g0 : Good pt F0 H0) (w : Own pt F0 H0 F H L) (s : Step pt F H F2 H2) : Own pt F0 H0 F2 H2 L := ⟨w.step.trans s, w.nd, fun p hp => by
  obtain ⟨f, h0, h, tn⟩ := w.off p hp
  exact ⟨s.new p.1 f ⟨p.2, h, tn⟩, h0, s.keep _ _ (fun q hq => (off_pot g0 h0 q hq).1) h, tn⟩⟩
theorem Own.new (w : Own pt F0 H0 F H L) (h : H a = none) (tn : ∀ ys, o ≠ .tup ys) : Own pt F0 H0 F (upd H a o) (L ++ [(a, o)]) := by
  have h0 : H0 a = none := w.step.back a h
  have fa : F a = none := not_in w.step.inn h
  refine ⟨w.step.trans (.litter w.step.inn w.step.good h), ?_, fun p hp => ?_⟩
  · rw [List.map_append, List.nodup_append]
    refine ⟨w.nd, by simp, fun x hx y hy => ?_⟩
    obtain ⟨p, hp, rfl⟩ := List.mem_map.mp hx
    rw [List.mem_singleton.mp hy]
    intro z
    have := (w.off p hp).2.2.1
    rw [z] at this
    dsimp only at this
    rw [h] at this; cases this
  · rcases List.mem_append.mp hp with z | z
    · obtain ⟨f, h0', h', tn'⟩ := w.off p z
      have ne : p.1 ≠ a := fun e => by rw [e, h] at h'; cases h'
      exact ⟨f, h0', by rw [upd_ne ne]; exact h', tn'⟩
    · rw [List.mem_singleton.mp z]
      exact ⟨fa, h0, upd_same, tn⟩
theorem Own.get {k : Nat} (w : Own pt F0 H0 F H L) (hk : L[k]? = some (a, o)) : F a = none ∧ H0 a = none ∧ H a = some o := by
  obtain ⟨x, y, z, _⟩ := w.off _ (List.mem_of_getElem? hk)
  exact ⟨x, y, z⟩
theorem Own.put (g0 : Good pt F0 H0) (w : Own pt F0 H0 F H L) (k : Nat) (hk : L[k]? = some (a, o)) (tn : ∀ ys, o' ≠ .tup ys) : Own pt F0 H0 F (upd H a o') (L.set k (a, o')) := by
  obtain ⟨fa, h0, ha, _⟩ := w.off _ (List.mem_of_getElem? hk)
  have e1 : (L.set k (a, o')).map (·.1) = L.map (·.1) := by
    rw [List.map_set]
    apply List.ext_getElem?
    intro i
    by_cases z : k = i
    · subst z
      have hl := (List.getElem?_eq_some_iff.mp hk).1
      rw [List.getElem?_set_self (by rw [List.length_map]; exact hl), List.getElem?_map, hk]; rfl
    · rw [List.getElem?_set_ne z]
  refine ⟨w.step.put g0 h0 fa, by rw [e1]; exact w.nd, fun p hp => ?_⟩
  obtain ⟨i, hi⟩ := List.mem_iff_getElem?.mp hp
  by_cases z : k = i
  · subst z
    have hl := (List.getElem?_eq_some_iff.mp hk).1
    rw [List.getElem?_set_self hl] at hi
    obtain rfl := Option.some.inj hi
    exact ⟨fa, h0, upd_same, tn⟩
  · rw [List.getElem?_set_ne z] at hi
    obtain ⟨f, h0', h', tn'⟩ := w.off p (List.mem_of_getElem? hi)
    have ne : p.1 ≠ a := fun e => by
      have h1 : (L.map (·.1))[i]? = some a := by rw [List.getElem?_map, hi, ← e]; rfl
      have h2 : (L.map (·.1))[k]? = some a := by rw [List.getElem?_map, hk]; rfl
      have hl1 := (List.getElem?_eq_some_iff.mp h1)
      have hl2 := (List.getElem?_eq_some_iff.mp h2)
      obtain ⟨l1, e1⟩ := hl1
      obtain ⟨l2, e2⟩ := hl2
      exact z ((List.getElem_inj (h₀ := l2) (h₁ := l1) w.nd).mp (e2.trans e1.symm))
    exact ⟨f, h0', by rw [upd_ne ne]; exact h', tn'⟩
/-- some of it seen as if it were shared; what comes of it, without those again -/
theorem Own.fixS (g0 : Good pt F0 H0) (w : Own pt F0 H0 F H L) (nd' : (L'.map (·.1)).Nodup) (sub : ∀ p ∈ L', p ∈ L) :
    Ex F (putAll L' F) ∧ Ex (putAll L' F) H ∧ Good pt (putAll L' F) H ∧ ∀ F2 H2, Step pt (putAll L' F) H F2 H2 → Own pt F0 H0 (delAll L' F2) H2 L ∧ Ex F (delAll L' F2) ∧ (∀ a ys, F2 a = some (.tup ys) → delAll L' F2 a = some (.tup ys)) ∧ ∀ p ∈ L', F2 p.1 = some p.2 := by
  have ne : ∀ {b : Addr} {u : HO}, F b = some u → ∀ p ∈ L', p.1 ≠ b := fun {b u} hb p hp e => by
    have := (w.off p (sub p hp)).1
    rw [e, hb] at this; cases this
  have e1 : Ex F (putAll L' F) := fun b u hb => by rw [putAll_off (ne hb)]; exact hb
  have e2 : Ex (putAll L' F) H := fun b u hb => by
    rcases putAll_in hb with ⟨p, hp, rfl, rfl⟩ | h
    · exact (w.off p (sub p hp)).2.2.1
    · exact w.step.inn _ _ h
  refine ⟨e1, e2, fun q hq => ?_, fun F2 H2 s => ?_⟩
  · obtain ⟨f, pa⟩ := w.step.good q hq
    exact ⟨by rw [putAll_off fun p hp => (off_pot g0 (w.off p (sub p hp)).2.1 q hq).1]; exact f, pa⟩
  · have at2 : ∀ p ∈ L', F2 p.1 = some p.2 := fun p hp => s.sub _ _ (putAll_at nd' hp)
    have e3 : Ex F (delAll L' F2) := fun b u hb => by rw [delAll_off (ne hb)]; exact s.sub _ _ (e1 _ _ hb)
    have tp : ∀ a ys, F2 a = some (.tup ys) → delAll L' F2 a = some (.tup ys) := fun b ys hb => by
      rw [delAll_off fun p hp e => ?_]; exact hb
      have h1 := at2 p hp
      rw [e, hb] at h1
      exact (w.off p (sub p hp)).2.2.2 ys (Option.some.inj h1).symm
    have off : ∀ p ∈ L, delAll L' F2 p.1 = none := fun p hp => by
      by_cases z : ∃ p' ∈ L', p'.1 = p.1
      · obtain ⟨p', hp', e⟩ := z
        rw [← e]; exact delAll_at hp'
      · have zn : ∀ p' ∈ L', p'.1 ≠ p.1 := fun p' hp' e => z ⟨p', hp', e⟩
        obtain ⟨f, h0, h, tn⟩ := w.off p hp
        exact delAll_none (s.new p.1 (by rw [putAll_off zn]; exact f) ⟨p.2, h, tn⟩)
    refine ⟨⟨⟨w.step.sub.trans e3, delAll_ex.trans s.inn, w.step.keep.trans s.keep, s.good.less delAll_ex, fun b hb hb0 => ?_⟩, w.nd, fun p hp => ?_⟩, e3, tp, at2⟩
    · have f := w.step.new b hb hb0
      have lo := w.step.keep.loose w.step.good hb0
      obtain ⟨u, hu, _⟩ := hb0
      have zn : ∀ p' ∈ L', p'.1 ≠ b := fun p' hp' e => by
        have := (w.off p' (sub p' hp')).2.1
        rw [e, hu] at this; cases this
      exact delAll_none (s.new b (by rw [putAll_off zn]; exact f) lo)
    · obtain ⟨f, h0, h, tn⟩ := w.off p hp
      exact ⟨off p hp, h0, s.keep _ _ (fun q hq => (off_pot g0 h0 q hq).1) h, tn⟩
/-- some of it is shared from now on -/
theorem Own.cut (g0 : Good pt F0 H0) {L1 L2 : List Own1} (w : Own pt F0 H0 F H L) (nd' : (L1.map (·.1) ++ L2.map (·.1)).Nodup) (s1 : ∀ p ∈ L1, p ∈ L) (s2 : ∀ p ∈ L2, p ∈ L) : Own pt F0 H0 (putAll L1 F) H L2 ∧ Ex F (putAll L1 F) := by
  have n1 := (List.nodup_append.mp nd').1
  have n2 := (List.nodup_append.mp nd').2.1
  have n3 := (List.nodup_append.mp nd').2.2
  obtain ⟨e1, e2, gd, _⟩ := w.fixS g0 n1 s1
  refine ⟨⟨⟨w.step.sub.trans e1, e2, w.step.keep, gd, fun b hb hb0 => ?_⟩, n2, fun p hp => ?_⟩, e1⟩
  · have f := w.step.new b hb hb0
    obtain ⟨u, hu, _⟩ := hb0
    rw [putAll_off fun p' hp' e => ?_]; exact f
    have := (w.off p' (s1 p' hp')).2.1
    rw [e, hu] at this; cases this
  · obtain ⟨f, h0, h, tn⟩ := w.off p (s2 p hp)
    exact ⟨by rw [putAll_off fun p' hp' e => n3 _ (List.mem_map_of_mem hp') _ (List.mem_map_of_mem hp) e]; exact f, h0, h, tn⟩
theorem Own.done (g0 : Good pt F0 H0) (w : Own pt F0 H0 F H L) : ∃ F2, Step pt F0 H0 F2 H ∧ Ex F F2 ∧ ∀ p ∈ L, F2 p.1 = some p.2 := by
  obtain ⟨c, e⟩ := w.cut (L1 := L) (L2 := []) g0 (by simpa using w.nd) (fun _ h => h) (fun _ h => by cases h)
  exact ⟨_, c.step, e, fun p hp => putAll_at w.nd hp⟩
/-! statements -/
/-- x = e, e reads nothing of one's own -/
theorem t_asgF {i : Nat} (g0 : Good pt F0 H0) (w : Own pt F0 H0 F H L) (h : EvG K pt te σ F R) (q : ∀ d v F2 H2, R d → Own pt F0 H0 F2 H2 L → Ex F F2 → Rp K F2 v d → tz D (σ.set i (some v)) H2) : tSeq (tAsg te (gName i)) tz D σ H :=
  h H w.step.inn w.step.good _ fun d v F2 H2 hd s hv => q d v F2 H2 hd (w.run g0 s) s.sub hv
theorem t_asgF1 {i : Nat} (g0 : Good pt F0 H0) (w : Own pt F0 H0 F H L) (h : EvG K pt te σ F R) (q : ∀ d v F2 H2, R d → Own pt F0 H0 F2 H2 L → Ex F F2 → Rp K F2 v d → D.nx (σ.set i (some v)) H2) : tAsg te (gName i) D σ H :=
  h H w.step.inn w.step.good _ fun d v F2 H2 hd s hv => q d v F2 H2 hd (w.run g0 s) s.sub hv
/-- x = e, e reads what is one's own; its value has no list -/
theorem t_asgO {i : Nat} (g0 : Good pt F0 H0) (w : Own pt F0 H0 F H L) (h : EvG K pt te σ (putAll L F) R) (hn : ∀ d, R d → nl d = true) (q : ∀ d v F2 H2, R d → Own pt F0 H0 F2 H2 L → Ex F F2 → Rp K F2 v d → tz D (σ.set i (some v)) H2) : tSeq (tAsg te (gName i)) tz D σ H := by
  obtain ⟨e1, e2, gd, back⟩ := w.fixS g0 w.nd (fun _ h => h)
  refine h H e2 gd _ fun d v F2 H2 hd s hv => ?_
  obtain ⟨w2, e3, tp, _⟩ := back F2 H2 s
  exact q d v _ H2 hd w2 e3 (rp_tups tp d v (hn d hd) hv)
theorem t_ifO {b : Bool} (g0 : Good pt F0 H0) (w : Own pt F0 H0 F H L) (h : EtG pt t σ (putAll L F) (· = b)) (h1 : b = true → ∀ F2 H2, Own pt F0 H0 F2 H2 L → Ex F F2 → tu { D with nx := tz D } σ H2) (h2 : b = false → ∀ F2 H2, Own pt F0 H0 F2 H2 L → Ex F F2 → tw { D with nx := tz D } σ H2) : tSeq (tIfS t tu tw) tz D σ H := by
  obtain ⟨e1, e2, gd, back⟩ := w.fixS g0 w.nd (fun _ h => h)
  refine h H e2 gd _ fun c F2 H2 hc s => ?_
  obtain ⟨w2, e3, _, _⟩ := back F2 H2 s
  cases c with
  | true => rw [if_pos rfl]; exact h1 hc.symm _ _ w2 e3
  | false => rw [if_neg (by simp)]; exact h2 hc.symm _ _ w2 e3
theorem t_ifO1 {b : Bool} (g0 : Good pt F0 H0) (w : Own pt F0 H0 F H L) (h : EtG pt t σ (putAll L F) (· = b)) (h1 : b = true → ∀ F2 H2, Own pt F0 H0 F2 H2 L → Ex F F2 → tu D σ H2) (h2 : b = false → ∀ F2 H2, Own pt F0 H0 F2 H2 L → Ex F F2 → tw D σ H2) : tIfS t tu tw D σ H := by
  obtain ⟨e1, e2, gd, back⟩ := w.fixS g0 w.nd (fun _ h => h)
  refine h H e2 gd _ fun c F2 H2 hc s => ?_
  obtain ⟨w2, e3, _, _⟩ := back F2 H2 s
  cases c with
  | true => rw [if_pos rfl]; exact h1 hc.symm _ _ w2 e3
  | false => rw [if_neg (by simp)]; exact h2 hc.symm _ _ w2 e3
/-- a loop over what is walked here, with a break -/
theorem t_forB {j : Nat} {RS : List PyData → Prop} (i0 : Ex F H) (g : Good pt F H) (hw : WiG K pt wi σ F RS) (I : List PyData → Nat → L2.St → Hp → Hp → Prop) (J : L2.St → Hp → Hp → Prop) (h0 : ∀ ds, RS ds → ∀ F1 H1, Step pt F H F1 H1 → I ds 0 σ F1 H1) (hI : ∀ ds i σ' F' H', I ds i σ' F' H' → Ex F' H')
    (hs : ∀ ds, RS ds → ∀ i d, ds[i]? = some d → ∀ σ' F' H' x, I ds i σ' F' H' → Ex F F' → Rp K F' x d →
      ∀ N B : L2.St → Hp → Prop, (∀ σ2 F2 H2, I ds (i + 1) σ2 F2 H2 → Ex F' F2 → N σ2 H2) → (∀ σ2 F2 H2, J σ2 F2 H2 → B σ2 H2) → tu { D with nx := N, ct := N, bk := B } (σ'.set j (some x)) H')
    (hd : ∀ ds, RS ds → ∀ σ' F' H', I ds ds.length σ' F' H' → Ex F F' → J σ' F' H') (k : ∀ σ' F' H', J σ' F' H' → tz D σ' H') : tSeq (tFor wi (gName j) tu) tz D σ H :=
  hw H i0 g _ fun ds' Jt F1 H1 e s1 Y => by
    refine ⟨fun i m σ' H' => m = ds'.length - i ∧ i ≤ ds'.length ∧ ∃ F', I ds' i σ' F' H' ∧ Ex F1 F', ⟨ds'.length, by simp, Nat.zero_le _, F1, h0 ds' e F1 H1 s1, Ex.refl _⟩, ?_⟩
    rintro i m σ' H' ⟨rfl, hil, F', p, e'⟩
    have eH : Ex F1 H' := e'.trans (hI ds' i σ' F' H' p)
    by_cases hlt : i < ds'.length
    · refine .inr ⟨Y.go i H' eH hlt, fun σ2 H2 => ∃ F2, I ds' (i + 1) σ2 F2 H2 ∧ Ex F1 F2, fun σ2 H2 ⟨F2, a, b⟩ => ⟨ds'.length - (i + 1), by omega, rfl, hlt, F2, a, b⟩, fun x H2 y => ?_⟩
      obtain ⟨rfl, d, hdd, hx⟩ := Y.yld i H' x H2 eH hlt y
      exact hs ds' e i d hdd σ' F' _ x p (s1.sub.trans e') (Rp.mono e' _ _ hx) _ _ (fun σ2 F2 H2 a b => ⟨F2, a, e'.trans b⟩) fun σ2 F2 H2 a => k σ2 F2 H2 a
    · have hE : i = ds'.length := Nat.le_antisymm hil (Nat.le_of_not_lt hlt)
      subst hE
      exact .inl ⟨Y.stop H' eH, k σ' F' H' (hd ds' e σ' F' H' p (s1.sub.trans e'))⟩
/-- a loop over a list of what is no data -/
theorem t_forX {i j : Nat} {us : List V} (h0 : σ[i]? = some (some (.ref a))) (hl : F a = some (.lst us)) (i0 : Ex F H) (I : Nat → L2.St → Hp → Hp → Prop) (hs0 : I 0 σ F H) (hI : ∀ i σ' F' H', I i σ' F' H' → Ex F' H' ∧ Ex F F')
    (hs : ∀ i u, us[i]? = some u → ∀ σ' F' H', I i σ' F' H' → ∀ N : L2.St → Hp → Prop, (∀ σ2 F2 H2, I (i + 1) σ2 F2 H2 → N σ2 H2) → tu { D with nx := N, ct := N, bk := tz D } (σ'.set j (some u)) H')
    (hd : ∀ σ' F' H', I us.length σ' F' H' → tz D σ' H') : tSeq (tFor (iList K (tVar i)) (gName j) tu) tz D σ H := by
  refine ⟨_, h0, a, rfl, ⟨us, SqL.of (i0 _ _ hl)⟩, fun i m σ' H' => m = us.length - i ∧ i ≤ us.length ∧ ∃ F', I i σ' F' H', ⟨us.length, by simp, Nat.zero_le _, F, hs0⟩, ?_⟩
  rintro i m σ' H' ⟨rfl, hil, F', p⟩
  obtain ⟨e1, e2⟩ := hI i σ' F' H' p
  have hl' : H' a = some (.lst us) := e1 _ _ (e2 _ _ hl)
  by_cases hlt : i < us.length
  · refine .inr ⟨⟨us, us[i], SqL.of hl', List.getElem?_eq_getElem hlt⟩, fun σ2 H2 => ∃ F2, I (i + 1) σ2 F2 H2, fun σ2 H2 ⟨F2, b⟩ => ⟨us.length - (i + 1), by omega, rfl, hlt, F2, b⟩, fun x H2 y => ?_⟩
    obtain ⟨rfl, y⟩ := y
    have hx := y us (SqL.of hl')
    exact hs i x hx σ' F' _ p _ fun σ2 F2 H2 b => ⟨F2, b⟩
  · have hE : i = us.length := Nat.le_antisymm hil (Nat.le_of_not_lt hlt)
    subst hE
    exact .inl ⟨⟨us, SqL.of hl', Nat.le_refl _⟩, hd σ' F' H' p⟩
/-- while: T turns -/
theorem t_whileO {T : Nat} (I : Nat → L2.St → Hp → Prop) (h0 : I 0 σ H)
    (ht : ∀ k σ' H', k ≤ T → I k σ' H' → ∀ Q : Bool → Hp → Prop, (∀ H2, I k σ' H2 → Q (decide (k < T)) H2) → t σ' H' Q)
    (hs : ∀ k σ' H', k < T → I k σ' H' → ∀ N : L2.St → Hp → Prop, (∀ σ2 H2, I (k + 1) σ2 H2 → N σ2 H2) → tu { D with nx := N, ct := N, bk := tz D } σ' H')
    (hd : ∀ σ' H', I T σ' H' → tz D σ' H') : tSeq (tWhile t tu) tz D σ H := by
  refine ⟨fun m σ' H' => ∃ k, k ≤ T ∧ m = T - k ∧ I k σ' H', ⟨T, 0, Nat.zero_le _, rfl, h0⟩, ?_⟩
  rintro m σ' H' ⟨k, hk, rfl, p⟩
  refine ht k σ' H' hk p _ fun H2 p2 => ?_
  by_cases z : k < T
  · rw [if_pos (decide_eq_true z)]
    exact ⟨fun σ2 H3 => I (k + 1) σ2 H3, fun σ2 H3 y => ⟨T - (k + 1), by omega, k + 1, z, rfl, y⟩, hs k σ' H2 z p2 _ fun σ2 H3 y => y⟩
  · rw [if_neg (by simp [z])]
    obtain rfl : k = T := by omega
    exact hd σ' H2 p2
end
end Fv

/-! != by a class's own __eq__; sorted(set(x)), x a list or a tuple of numbers -/
namespace L2
open PySem PySem.Spec PyProof.Rows Evl
open Sem (wp)
section
variable {X : Cx} {k : Nat} {CX : CXT} {C f : Addr} {fd : FuncData} {ps : List Str} {sp : Sp} {E : XK}
def rNeI (C : Addr) (sp : Sp) (E : XK) : R2 := fun x y H Q => ∃ a b dx dy fs gs, x = .ref a ∧ y = .ref b ∧ H a = some (.ins C dx fs) ∧ H b = some (.ins C dy gs) ∧ sp [.ref a, .ref b] H (fun v H' => ∃ c : Bool, v = .bl c ∧ Q (.bl (!c)) H') E
theorem op_neI (F : FnOk X.prog X.w X.K X.mg X.base CX k f fd ps sp) (hr : Room (k + 1) X.A) (hb : Binds X.K fd ps []) (hx : Passes CX X E) (hs : PySem.W.findIn X.K (.ref C) "__eq__" = some (some (.ref f))) (hf : PySem.W.isFn X.K (.ref f) = true)
    (hn : PySem.W.findIn X.K (.ref C) "__ne__" = some (some (.builtin "object.__ne__"))) (hi : PySem.W.subIn X.K (.ref C) (.type "object") = some true) :
    OpR X (compareOp .NotEq) (rNeI C sp E) := by
  intro pins s σ H x y v u Q I rx ry hq
  obtain ⟨a, b, dx, dy, fs, gs, rfl, rfl, ha, hb', h⟩ := hq
  cases rx
  cases ry
  obtain ⟨mA, J, _⟩ := ins_get I.hok ha
  obtain ⟨mB, J', _⟩ := ins_get I.hok hb'
  obtain ⟨od, J, _⟩ := J.look
  obtain ⟨od', J', _⟩ := J'.look
  obtain ⟨m, hF⟩ := I.fr
  have hu : X.A.units + 1 < cLine := by have := hr.un; omega
  have X0 := I.ok.mod.kin.keeps hF.keep
  have S := PySem.F.cmp_object.ne
  have sb : Sub X k X.A.in1 := Sub.in1 ⟨hr, rfl⟩
  have e0 : Env0 X.prog X.w X.K X.mg X.base X.A.in1 X.stack s H := by
    have e := I.env0
    exact ⟨by rw [sb.fr]; exact e.frames, e.mod, e.bs, e.bsz, e.funs, e.frf, e.hok, e.bare⟩
  have hl := F.len _ _ _ _ h
  have r2 : Vals [V.ref a, V.ref b] [Value.ref a, Value.ref b] := .cons rfl (.cons rfl .nil)
  have hcall : wpAny (model X.prog X.w) X.A.in1 (call (.ref f) [.ref a, .ref b]) (fun v s' => ∃ c, v = .bool c ∧ EP X pins σ Q (.bool (!c)) s') X.xe s := by
    refine wpAny_call (codeAny_mono (F.run X.A.in1 X.stack s H ⟨[.ref a, .ref b], []⟩ [.ref a, .ref b] [.ref a, .ref b] _ E sb.room e0 (by
      have := hb s [.ref a, .ref b] I.kIn (by simpa using hl)
      simpa using this) r2 h) fun r s' hq => ?_)
    cases r with
    | error e => exact hx pins σ H s e s' I hq
    | ok fl =>
      cases fl with
      | ret w =>
        obtain ⟨z, H', I', rz, c, rfl, q⟩ := I.after hq
        cases rz
        exact ⟨c, rfl, .bl (!c), H', I', rfl, q⟩
      | next => exact False.elim hq
      | brk => exact False.elim hq
      | cont => exact False.elim hq
  show wpAny (model X.prog X.w) X.A (richCompare .NotEq (.ref a) (.ref b)) (EP X pins σ Q) X.xe s
  unfold richCompare
  simp only [oneThing_ref]
  refine wpAny_holding (wpAny_bind (wpAny_cRoomFor (by omega) ?_))
  refine wpAny_bind (J.type.here (wpAny_bind (J'.type.here ?_)))
  rw [cmpInfo_NotEq]
  dsimp only
  rw [show (Value.ref C != Value.ref C) = false from by simp]
  simp only [Bool.false_eq_true, if_false]
  refine wpAny_bind (wpAny_pure ?_)
  simp only [Bool.false_eq_true, if_false]
  have entry : wpAny (model X.prog X.w) X.A.in1 (Builtin.«object.__ne__» ⟨[.ref a, .ref b], []⟩) (fun fin s' => ∃ c, fin = .done (.ret (.bool (!c))) ∧ EP X pins σ Q (.bool (!c)) s') X.xe s := by
    unfold Builtin.«object.__ne__»
    repeat (first
      | with_reducible refine wpAny_cRoomFor hu ?_
      | (refine wpAny_bind (m := callSpecialIfBound? (.ref a) (Str.ofString "__eq__") [.ref b]) (PySem.W.ifBound_K X0 J hs hf (wpAny_mono hcall (fun r s' hr => by
          obtain ⟨c, rfl, hq⟩ := hr
          repeat (first | exact ⟨c, rfl, hq⟩ | exact wpAny_pure ⟨c, rfl, hq⟩ | exact wpAny_truthy_bool ⟨c, rfl, hq⟩ | (refine wpAny_bind (m := truthy (.bool _)) (wpAny_truthy_bool ?_)) | wp_step)) fun _ _ e => e)))
      | wp_step)
  have spec : wpAny (model X.prog X.w) X.A (callSpecialIfBound? (.ref a) "__ne__" [.ref b]) (fun r s' => ∃ c, r = some (.bool (!c)) ∧ EP X pins σ Q (.bool (!c)) s') X.xe s := by
    simp only [callSpecialIfBound?, bindSpecialIfBound?]
    refine wpAny_holding (wpAny_bind (wpAny_bind (wpAny_bind (J.type.here ((PySem.W.looks_findIn X0 hn).here ?_)))))
    refine wpAny_bind (wpAny_askSetting (wpAny_ite ?_))
    have fin : wpAny (model X.prog X.w) X.A (call (.builtin "object.__ne__") ([.ref a] ++ [.ref b]) >>= fun v => pure (some v)) (fun r s' => ∃ c, r = some (.bool (!c)) ∧ EP X pins σ Q (.bool (!c)) s') X.xe s := by
      refine wpAny_bind (wpAny_call (codeAny_call_builtin S.plain PySem.F.cmpEntry_ne (PySem.W.check_slot PySem.F.cmpKind_ne PySem.F.cmpSplit_ne ?_ (PySem.F.cmpArgs_ne _ _) (wpAny_mono entry (fun fin s' hr => ?_) fun _ _ e => e))))
      · exact (J.type.andThen (PySem.W.looks_subIn X0 hi))
      · obtain ⟨c, rfl, hq⟩ := hr
        exact wpAny_pure ⟨c, rfl, hq⟩
    simp only [S.bind]
    split
    · exact wpAny_bind (wpAny_pure (wpAny_pure fin))
    · exact wpAny_tryCatch (wpAny_bind (wpAny_pure (wpAny_pure fin)))
  unfold tryCompare
  refine wpAny_bind (wpAny_bind (wpAny_mono spec (fun r s' hr => ?_) fun _ _ e => e))
  obtain ⟨c, rfl, hq⟩ := hr
  first | exact wpAny_pure (wpAny_pure hq) | exact wpAny_pure hq
end
end L2
namespace Fv
open PySem PySem.Spec PyProof.Rows L2 Evl StX
theorem g_sortedSetU {K : PySem.W.Frag} {w : World} {pt : Option Pt} {σ : L2.St} {F : Hp} {te : TE} {d : PyData} {ns : List Int} (hd : d = .list (ns.map .int) ∨ d = .tuple (ns.map .int)) (h : EvG K pt te σ F (Is d)) (hz : ns.length ≤ 60) :
    EvG K pt (tCB (rSortedSet w) (tCons (tCB (rSetU K w) (tCons te tNil)) tNil)) σ F (fun x => ∃ ms : List Int, x = .list (ms.map .int) ∧ ms.Pairwise (· < ·) ∧ ∀ k, k ∈ ms ↔ k ∈ ns) := by
  refine fun H1 i g Q q => h H1 i g _ fun d' v F2 H2 hd' s hv => ?_
  subst hd'
  have fin : ∀ b c, H2 b = none → c ≤ ns.length → rSortedSet w [V.ref b] (upd H2 b (SetO w b (fun j => decide (j ∈ ns)) c)) Q := fun b c hb hc => by
    have s3 : Step pt F2 H2 F2 (upd H2 b (SetO w b (fun j => decide (j ∈ ns)) c)) := .litter s.inn s.good hb
    refine ⟨b, _, c, rfl, upd_same, by omega, fun ms p hp hm hlen hn => ?_⟩
    have s4 : Step pt F2 (upd H2 b (SetO w b (fun j => decide (j ∈ ns)) c)) (upd F2 p (.lst (ms.map V.int))) _ := .laid s3.inn s3.good hn
    exact q _ _ _ _ ⟨ms, rfl, hp, fun k => by rw [hm k, decide_eq_true_eq]⟩ ((s.trans s3).trans s4) (.lst upd_same (rpAll_of_ints ms))
  rcases hd with rfl | rfl
  · obtain ⟨a, xs, rfl, hl, ha⟩ := rp_lst hv
    have e1 := rpAll_ints ha
    subst e1
    exact .inr ⟨a, ns, rfl, SqL.of (s.inn _ _ hl), hz, fun b c hb hc => fin b c hb hc⟩
  · obtain ⟨a, xs, rfl, hl, ha⟩ := rp_tup hv
    have e1 := rpAll_ints ha
    subst e1
    exact .inl ⟨a, ns, rfl, tx s.inn hl, hz, fun b c hb hc => fin b c hb hc⟩
end Fv

namespace KD
open PySem PySem.Spec PyProof.Rows L2 L2H Fv Evl StX
abbrev s_law_program : Stmt := topS 36
theorem sc_law_program : FnScope ["_law_tables_here", "_law_made", "_law_table", "_law_moves", "_law_key"] ["_law_tables_here"] (defScope s_law_program) := ⟨rfl, rfl, rfl, by decide +kernel, rfl, by decide +kernel, by decide +kernel⟩
section
variable {P : Program} {w : World} {K : PySem.W.Frag} {mg : Str → Option Value} {base : Heap} {CT : Addr}
variable {pt : Option Pt} {σ : L2.St} {F F' F0 H0 H F2 H2 : Hp} {te ti ta tb ty td : TE} {ts tr : TA} {t u : TT} {wi wj : TI} {D : Ends} {tz tu tw body : TS} {l a x dx : Addr} {xs : List NEnt} {fs : List (Str × V)} {f : Str} {i : Nat}
theorem g_ofX {te : TE} {u : V} {d : PyData} (h : EvX pt te σ F (fun v _ => v = u)) (hu : Rp K F u d) : EvG K pt te σ F (Is d) := fun H1 e g Q q => h H1 e g _ fun v F2 H2 ev s => by
  subst ev
  exact q d v F2 H2 rfl s (Rp.mono s.sub _ _ hu)
theorem x_tabI {C : Addr} {E : XK} {n S m : Nat} {st : List Int} {es : List Ent} (h : EvsG K pt ts σ F (· = [.int (n : Int), .int (S : Int), .list (st.map .int), .list (es.map entD)])) (hb : NSm n S m ∧ (st.length = m ∧ ∀ k ∈ st, 0 ≤ k ∧ k < (S : Int)) ∧ EntsOk n S m es) :
    EvX pt (tMake C (spTabI P w K C) [] E ts) σ F (fun v F2 => ∃ x, v = .ref x ∧ TabAt P w K C F2 x n S st es) := fun H1 i g Q q =>
  h H1 i g _ fun ds vs F2 H2 hd s hv => by
    subst hd
    obtain ⟨a, b, v, u, rfl, ha, hb', hv, hu⟩ := rpAll4 hv
    rw [rp_int ha, rp_int hb']
    intro x dx hx hdx hne
    have fr : ∀ {a : Addr}, H2 a = none → F2 a = none := fun {a} h => by
      cases w : F2 a with
      | none => rfl
      | some o => rw [s.inn _ _ w] at h; cases h
    have n1 : (upd H2 dx (.own x)) x = none := by rw [upd_ne hne.symm]; exact hx
    have e1 : Ex H2 (upd (upd H2 dx (.own x)) x (.ins C dx [])) := (Ex.new hdx).trans (Ex.new n1)
    refine ⟨x, dx, n, S, m, st, es, F2, v, u, rfl, upd_same, by rw [upd_ne hne]; exact upd_same, hne, fr hx, fr hdx, s.inn.trans e1, hv, hu, hb, fun F3 H3 s3 tb => ⟨rfl, ?_⟩⟩
    have back : Fv.del (Fv.del (upd (upd H2 dx (.own x)) x (.ins C dx [])) x) dx = H2 := by
      funext b
      by_cases z : b = dx
      · rw [z, Fv.del_same, hdx]
      · rw [Fv.del_ne z]
        by_cases y : b = x
        · rw [y, Fv.del_same, hx]
        · rw [Fv.del_ne y, upd_ne y, upd_ne z]
    rw [back] at s3
    exact q _ F3 H3 ⟨x, rfl, tb⟩ (s.trans (s3.lift s.good))
abbrev HT (P : Program) (w : World) (K : PySem.W.Frag) (C : Addr) (n : Nat) : Tab → V → Hp → Prop := fun t v F => ∃ x, v = .ref x ∧ TabAt P w K C F x n t.1 t.2.1 t.2.2
theorem HT.mono {C : Addr} {n : Nat} : ∀ (t : Tab) (v : V) (F F' : Hp), Ex F F' → HT P w K C n t v F → HT P w K C n t v F' := fun _ _ _ _ e ⟨x, h1, h2⟩ => ⟨x, h1, h2.mono e⟩
/-- the program made of the law's tables -/
def spProg (P : Program) (w : World) (K : PySem.W.Frag) (C : Addr) : Sp := fun vs H Q _ => ∃ (n m : Nat) (Ss : List Nat) (tabs : List Tab) (F : Hp) (v : V), vs = [v] ∧ (2 ≤ n ∧ n ≤ 4 ∧ 1 ≤ m ∧ m ≤ 4 ∧ TabsOk n m Ss tabs ∧ ∀ S ∈ Ss, m ≤ S ∧ S ≤ 5) ∧ Ex F H ∧ LstX (LawTab P w K) F v tabs ∧
  ∀ z F2 H2, Step none F H F2 H2 → ProgX P w K C F2 z n m (fun k => tabs.getD k (0, [], [])) → Q z H2
theorem ok_prog {f fN : Addr} {fd fdN : FuncData} (Fn : Fun K "_law_program" "_law_program" s_law_program f fd) (T : Tx mg)
    (M_HouseTable : Mk K CT fN) (g_HouseTable : mg "HouseTable" = some (.ref CT)) (G_HouseTable : FnOk P w K mg base CX0 6 fN fdN ["self", "houses", "states", "start", "moves"] (spTabI P w K CT)) (b_HouseTable : Binds K fdN ["self", "houses", "states", "start", "moves"] []) :
    FnOk P w K mg base CX0 8 f fd ["_law_tables_here"] (spProg P w K CT) := by
  refine Fn.ok sc_law_program (fun vs H Q E ⟨_, _, _, _, _, _, h, _⟩ => by rw [h]; rfl) (fun cdv A outer s H vs Q E hr h => ?_)
  obtain ⟨n, m, Ss, tabs, F, v, rfl, ⟨n2, n4, m1, m4, tok, hS⟩, e, ⟨a, us, rfl, hl, hp⟩, q⟩ := h
  have hul : us.length = n := by rw [Paired.length hp, tok.len]
  refine ⟨_, (pss_cons (ps_set (i := 1) sc_law_program.nd rfl (by first | exact Or.inl rfl | exact Or.inr rfl) (pe_lst pa_nil))
    (pss_cons (ps_for PassesOwn.never rfl (i_list (K := K) (pv 0)) (pg_name (i := 2) sc_law_program.nd rfl (by first | exact Or.inl rfl | exact Or.inr rfl)) (pss_cons (ps_setLc (i := 3) (own := [("_law_key", 4)]) (g := gName 4) rfl sc_law_program.nd rfl rfl (sw_true rfl rfl rfl (by decide +kernel)) (pi_keysN (P := P) (w := w) (pe_ix (o_ixT (K := K)) (pv 2) pe_int (fun _ _ => rfl))) (blkOk_by (own := [("_law_key", 4)]) (N := ["_law_tables_here", "_law_made", "_law_table", "_law_moves", "_law_key"]) (sc := (defScope s_law_program)) (by decide +kernel)) (fun _ _ _ _ _ => pg_name (i := 4) sc_law_program.nd rfl (by first | exact Or.inl rfl | exact Or.inr rfl)) (fun _ _ _ _ _ => pts_nil) (fun _ _ _ _ _ => (pe_tup (pa_cons (pe_ix (o_ixT (K := K)) (pv 4) pe_int (fun _ _ => rfl)) (pa_cons (pe_ix (o_ixT (K := K)) (pv 4) pe_int (fun _ _ => rfl)) (pa_cons (pe_dgetN (P := P) (w := w) (K := K) (hu65 hr) (pe_ix (o_ixT (K := K)) (pv 2) pe_int (fun _ _ => rfl)) (pv 4) (fun _ _ => rfl)) pa_nil))))))
    (pss_one (ps_expr (pe_bm PySem.F.plainAttrs_list PySem.F.slot_list_append PySem.F.type_list_append mt_append (pv 1) (pa_cons (pe_make M_HouseTable G_HouseTable (hr.mono (by decide)) (by rfl) g_HouseTable b_HouseTable .nil pass0 (pa_cons (pe_callB (c_len (K := K)) (by rfl) T.len (by decide +kernel) (pa_cons (pv 0) pa_nil)) (pa_cons (pe_ix (o_ixT (K := K)) (pv 2) pe_int (fun _ _ => rfl)) (pa_cons (pe_callTy (c_list (K := K)) (by rfl) T.list (by decide +kernel) (pa_cons (pe_ix (o_ixT (K := K)) (pv 2) pe_int (fun _ _ => rfl)) pa_nil)) (pa_cons (pv 3) pa_nil))))) pa_nil))))))
    (pss_one (ps_ret (pv 1))))), ?_⟩
  have s0 : Step none F H F H := Step.refl e .nil
  refine t_newL (K := K) s0 (fun l hl0 hlH gst => ?_) (fun l h => s0.back l h)
  have gx0 : Xst K (HT P w K CT n) none F H l F (upd H l (.lst [])) [] := Xst.of gst
  refine t_forX (K := K) (F := F) rfl hl gx0.step.inn (fun i σ' F' H' => ∃ z2 z3 z4, σ' = [some (.ref a), some (.ref l), z2, z3, z4] ∧ Xst K (HT P w K CT n) none F H l F' H' (tabs.take i))
    ⟨_, _, _, rfl, gx0⟩ (fun i σ' F' H' ⟨_, _, _, _, w⟩ => ⟨w.step.inn, w.step.sub⟩) (fun i u hu σ' F1 H1 hI N hN => ?_) (fun σ' F1 H1 hI => ?_)
  · obtain ⟨z2, z3, z4, rfl, gx⟩ := hI
    have e1 : Ex F F1 := gx.step.sub
    obtain ⟨t, ht, lt⟩ := paired_get hp hu
    obtain ⟨b, sv, Dd, xs, rfl, h1, h2, h3, h4⟩ := LawTab.mono t u F F1 e1 lt
    obtain ⟨en, mS, S5⟩ := tok.ents n4 hS ht
    have ok := tok.ok i t ht
    have few := en.few
    have fld : ∀ {k : Nat} {x : V} {σ' : L2.St} {F' : Hp}, Ex F1 F' → σ'[2]? = some (some (.ref b)) → [sv, .ref Dd, V.int (t.1 : Int)][k]? = some x → EvX none (tOp (rIxT K) (tVar 2) (tC (.int (k : Int)))) σ' F' (fun v _ => v = x) := fun e' h hk => x_ixT h (e' _ _ h1) hk g_int
    have kbs : ∀ p ∈ rowsD t.2.2, kb p.1 = true := rows_kb _
    have nds : ((rowsD t.2.2).map (·.1)).Nodup := by
      have := en.nd
      unfold rowsD
      rw [List.map_map]
      unfold List.Nodup at this ⊢
      rw [List.pairwise_map] at this ⊢
      refine List.Pairwise.imp (fun {x y} hxy e => hxy ?_) this
      have e2 : pairK x.1 x.2.1 = pairK y.1 y.2.1 := by injection e
      simp only [pairK, List.cons.injEq, PyData.int.injEq, and_true] at e2
      rw [e2.1, dO_inj e2.2]
    refine t_asg (K := K) (R := Is (.list (t.2.2.map entD))) (Step.refl gx.step.inn .nil) (g_lcEM (fun x : Ent => .tuple (pairK x.1 x.2.1)) t.2.2 entD (w_keysX (P := P) (w := w) (l := Dd) (xs := xs) (fld (k := 1) (Ex.refl _) rfl rfl) h3 (fun F' e' => by
      have := (h4.mono e').keys
      unfold rowsD at this
      rw [List.map_map] at this
      exact this)) (by omega) (fun _ => rfl) fun x hx F' e' y hy => ?_) fun d mv F2 H2 hd s2 e2 hmv => ?_
    · obtain ⟨p, hp1, hz⟩ := (h4.mono e').get kbs nds (k := .tuple (pairK x.1 x.2.1)) (d := mwD x.2.2) (List.mem_map.mpr ⟨x, hx, rfl⟩)
      exact g_tupI (gs_three (g_opI (g_var (i := 4) rfl hy) g_int (rv_ixT (d := .int x.1) (atI_nat (j := 0) rfl))) (g_opI (g_var (i := 4) rfl hy) g_int (rv_ixT (d := dO x.2.1) (atI_nat (j := 1) rfl))) (g_dgetX (P := P) (w := w) (fld (k := 1) e' rfl rfl) (h3.mono e') (g_var (i := 4) rfl hy) (fun b F' hb => tup_ref hb) (kb_move x.1 x.2.1).1 (kb_move x.1 x.2.1).2 hp1 hz)) (by show 3 ≤ 100000; decide)
    · obtain rfl : d = _ := hd
      have gx2 := gx.run HT.mono .nil hl0 s2
      have hl2 : F2 a = some (.lst us) := e2 _ _ (e1 _ _ hl)
      refine t_appX (y := t) HT.mono .nil hl0 gx2 rfl (x_tabI (P := P) (w := w) (K := K) (m := m) (gs_consI ((g_lenLX (i := 0) rfl hl2).is (by rw [hul])) (gs_three (g_ofX (fld (k := 2) e2 rfl rfl) (.int _)) (g_cbI (gs_one (g_ofX (fld (k := 0) e2 rfl rfl) (Rp.mono e2 _ _ h2))) (rc_list (.inl rfl))) (g_var (i := 3) rfl hmv))) ⟨⟨by omega, by omega, by omega, by omega, by omega, by omega⟩, ⟨ok.len, by rw [ok.st] at *; exact ok.bd⟩, en⟩) (by rw [List.length_take]; have := tok.len; omega) fun F3 H3 gx3 e3 => hN _ F3 H3 ⟨_, _, _, rfl, ?_⟩
      rw [take_succA ht]; exact gx3
  · obtain ⟨z2, z3, z4, rfl, gx⟩ := hI
    rw [List.take_of_length_le (by rw [hul, tok.len]; exact Nat.le_refl _)] at gx
    obtain ⟨F5, s5, e5, lx⟩ := gx.done HT.mono .nil hl0
    refine t_retX (Φ := fun z F6 => ProgX P w K CT F6 z n m (fun k => tabs.getD k (0, [], []))) s5 (fun H6 i6 g6 Q6 q6 => ⟨_, rfl, q6 _ F5 H6 ?_ (.refl i6 g6)⟩) fun z F6 H6 lz s6 => q z F6 H6 s6 lz
    obtain ⟨b, xs, hb, hb2, hb3⟩ := lx
    have hxl : xs.length = n := by rw [Paired.length hb3, tok.len]
    have gD : ∀ {k : Nat}, k < n → ∃ t, tabs[k]? = some t ∧ tabs.getD k (0, [], []) = t := fun {k} hk => by
      have : k < tabs.length := by rw [tok.len]; exact hk
      exact ⟨tabs[k], List.getElem?_eq_getElem this, by rw [List.getD_eq_getElem?_getD, List.getElem?_eq_getElem this]; rfl⟩
    refine ⟨⟨b, xs, hb, .inr hb2, hxl, fun k hk => ?_⟩, fun k hk => ?_⟩
    · have hk' : k < xs.length := by rw [hxl]; exact hk
      obtain ⟨t, ht, x, hx, ta⟩ := paired_get hb3 (List.getElem?_eq_getElem hk')
      obtain ⟨t', ht', et⟩ := gD hk
      obtain rfl : t = t' := Option.some.inj (ht.symm.trans ht')
      exact ⟨x, by rw [List.getElem?_eq_getElem hk', hx], by rw [et]; exact ta⟩
    · obtain ⟨t, ht, et⟩ := gD hk
      rw [et]
      exact (tok.ents n4 hS ht).1
end
end KD

namespace KD
open PySem PySem.Spec PyProof.Rows L2 L2H Fv Evl StX
abbrev s_law_first : Stmt := topS 37
theorem sc_law_first : FnScope ["_law_tables_here", "_law_entry", "_law_k"] ["_law_tables_here", "_law_entry"] (defScope s_law_first) := ⟨rfl, rfl, rfl, by decide +kernel, rfl, by decide +kernel, by decide +kernel⟩
abbrev s_law_step : Stmt := topS 38
theorem sc_law_step : FnScope ["_law_tables_here", "_law_standing", "_law_house", "_law_word", "_law_held_here", "_law_cell", "_law_seat", "_law_others", "_law_k", "_law_move"] ["_law_tables_here", "_law_standing", "_law_house"] (defScope s_law_step) := ⟨rfl, rfl, rfl, by decide +kernel, rfl, by decide +kernel, by decide +kernel⟩
abbrev s_law_undone : Stmt := topS 39
theorem sc_law_undone : FnScope ["_law_standing", "_law_house"] ["_law_standing"] (defScope s_law_undone) := ⟨rfl, rfl, rfl, by decide +kernel, rfl, by decide +kernel, by decide +kernel⟩
abbrev tabsF (tabs : List Tab) : Nat → Tab := fun k => tabs.getD k (0, [], [])
/-! readings: all rows of cells that can be -/
def cellOk (S : Nat) (c : Option Int) : Prop := ∀ k, c = some k → 0 ≤ k ∧ k < (S : Int)
theorem mem_oms {m : Nat} {o : Option Int} (h : cellOk m o) : o ∈ oms m := by
  unfold oms
  cases o with
  | none => simp
  | some k =>
    have := h k rfl
    exact List.mem_cons_of_mem _ (List.mem_map.mpr ⟨k.toNat, List.mem_range.mpr (by omega), by rw [show ((k.toNat : Nat) : Int) = k by omega]⟩)
theorem mem_readK : ∀ (c : Nat) (zs : List Nat) (r : ORow), zs.length = c → r.length = c → (∀ (i : Nat) (z : Nat) (o : Option Int), zs[i]? = some z → r[i]? = some o → cellOk z o) → r ∈ readings zs
  | 0, zs, r, hc, hr, _ => by
    rw [List.eq_nil_of_length_eq_zero hc, List.eq_nil_of_length_eq_zero hr]
    simp [readings]
  | c + 1, zs0, r0, hc, hr, h => by
    obtain ⟨zs, z, rfl⟩ : ∃ zs z, zs0 = zs ++ [z] := ⟨zs0.dropLast, zs0.getLast (by intro z; rw [z] at hc; simp at hc), (List.dropLast_concat_getLast _).symm⟩
    obtain ⟨r, o, rfl⟩ : ∃ zs z, r0 = zs ++ [z] := ⟨r0.dropLast, r0.getLast (by intro z; rw [z] at hr; simp at hr), (List.dropLast_concat_getLast _).symm⟩
    have hc' : zs.length = c := by simpa using hc
    have hr' : r.length = c := by simpa using hr
    have h1 := mem_readK c zs r hc' hr' fun i a b ha hb => h i a b (by rw [List.getElem?_append_left (List.getElem?_eq_some_iff.mp ha).1]; exact ha) (by rw [List.getElem?_append_left (List.getElem?_eq_some_iff.mp hb).1]; exact hb)
    have h2 := h c z o (by rw [List.getElem?_append_right (by omega)]; simp [hc']) (by rw [List.getElem?_append_right (by omega)]; simp [hr'])
    rw [read_snoc]
    exact List.mem_flatMap.mpr ⟨r, h1, List.mem_map.mpr ⟨o, mem_oms h2, rfl⟩⟩
theorem pick_erase {α : Type} {l : List α} {d : α} {h : Nat} (hh : h < l.length) : (((List.range l.length).filter fun k => !decide (k = h)).map fun k => l.getD k d) = l.eraseIdx h := by
  have e : List.range l.length = List.range h ++ (h :: (List.range (l.length - h - 1)).map fun k => h + 1 + k) := by
    apply List.ext_getElem
    · simp; omega
    · intro i h1 h2
      simp only [List.getElem_range, List.getElem_append, List.length_range, List.getElem_cons, List.getElem_map]
      split
      · rfl
      · split <;> omega
  rw [e, List.filter_append, List.filter_cons_of_neg (by simp), List.filter_eq_self.mpr (fun k hk => by have := List.mem_range.mp hk; simp; omega), List.filter_eq_self.mpr (fun k hk => by obtain ⟨j, _, rfl⟩ := List.mem_map.mp hk; simp; omega), List.map_append, List.map_map, List.eraseIdx_eq_take_drop_succ]
  congr 1
  · apply List.ext_getElem
    · simp; omega
    · intro i h1 h2
      simp at h1 h2 ⊢
      rw [List.getElem?_eq_getElem (by omega)]; rfl
  · apply List.ext_getElem
    · simp; omega
    · intro i h1 h2
      simp at h1 h2 ⊢
      rw [List.getElem?_eq_getElem (by omega)]; rfl
theorem beside_erase {ls : List Seat} {h : Nat} (hh : h < ls.length) : beside ls h = (ls.eraseIdx h).map fun x => x.2.2 := by
  rw [← pick_erase (d := seat0) hh, List.map_map]; rfl
/-! standings that can be -/
structure SeatOk (S m : Nat) (x : Seat) : Prop where
  cell : cellOk S x.2.2
  word : (x.1 = "write" ∧ 0 ≤ x.2.1 ∧ x.2.1 < (S : Int)) ∨ (x.1 = "scan" ∧ 0 ≤ x.2.1 ∧ x.2.1 < (S : Int) ∧ x.2.2 = some x.2.1) ∨ (x.1 = "done" ∧ 0 ≤ x.2.1 ∧ x.2.1 < (m : Int) ∧ x.2.2 ≠ none)
structure StOk (n m : Nat) (tabs : List Tab) (ls : List Seat) : Prop where
  len : ls.length = n
  seat : ∀ k < n, SeatOk (tabsF tabs k).1 m (ls.getD k seat0)
theorem tabs_at {n m : Nat} {Ss : List Nat} {tabs : List Tab} (tok : TabsOk n m Ss tabs) {k : Nat} (hk : k < n) : tabs[k]? = some (tabsF tabs k) ∧ TabOk n (Ss.getD k 0) m (Ss.eraseIdx k) (tabsF tabs k) := by
  have hl : k < tabs.length := by rw [tok.len]; exact hk
  have e : tabs[k]? = some (tabsF tabs k) := by rw [List.getElem?_eq_getElem hl]; unfold tabsF; rw [List.getD_eq_getElem?_getD, List.getElem?_eq_getElem hl]; rfl
  exact ⟨e, tok.ok k _ e⟩
/-- what a house that is not done looks up stands in its table -/
theorem entry_at {n m : Nat} {Ss : List Nat} {tabs : List Tab} {ls : List Seat} {h : Nat} (tok : TabsOk n m Ss tabs) (so : StOk n m tabs ls) (hh : h < n) (h0 : 0 ≤ (ls.getD h seat0).2.1) (h1 : (ls.getD h seat0).2.1 < ((tabsF tabs h).1 : Int)) :
    ∃ x ∈ (tabsF tabs h).2.2, x.1 = (ls.getD h seat0).2.1 ∧ x.2.1 = beside ls h := by
  obtain ⟨e, ok⟩ := tabs_at tok hh
  have hl : h < ls.length := by rw [so.len]; exact hh
  have hr : beside ls h ∈ readings (Ss.eraseIdx h) := by
    refine mem_readK (n - 1) _ _ (by rw [List.length_eraseIdx_of_lt (by rw [tok.lenS]; exact hh), tok.lenS]) (by rw [beside_erase hl, List.length_map, List.length_eraseIdx_of_lt hl, so.len]) fun i z o hz ho => ?_
    rw [beside_erase hl, List.getElem?_map, List.getElem?_eraseIdx] at ho
    rw [List.getElem?_eraseIdx] at hz
    have key : ∀ j, Ss[j]? = some z → (ls[j]?.map fun (x : Seat) => x.2.2) = some o → cellOk z o := fun j hj hj2 => by
      have hjn : j < n := by rw [← tok.lenS]; exact (List.getElem?_eq_some_iff.mp hj).1
      have hjl : j < ls.length := by rw [so.len]; exact hjn
      have so' := (so.seat j hjn).cell
      rw [(tabs_at tok hjn).2.st] at so'
      rw [List.getElem?_eq_getElem hjl] at hj2
      rw [List.getD_eq_getElem?_getD, hj, List.getD_eq_getElem?_getD, List.getElem?_eq_getElem hjl] at so'
      have : ls[j].2.2 = o := by simpa using hj2
      rw [← this]; exact so'
    by_cases c : i < h
    · rw [if_pos c] at hz ho; exact key i hz ho
    · rw [if_neg c] at hz ho; exact key (i + 1) hz ho
  have hm : ((ls.getD h seat0).2.1, beside ls h) ∈ pairsTo (Ss.getD h 0) (readings (Ss.eraseIdx h)) := by
    rw [ok.st] at h1
    exact List.mem_flatMap.mpr ⟨(ls.getD h seat0).2.1.toNat, List.mem_range.mpr (by omega), List.mem_map.mpr ⟨beside ls h, hr, by rw [show (((ls.getD h seat0).2.1.toNat : Nat) : Int) = (ls.getD h seat0).2.1 by omega]⟩⟩
  rw [← ok.all] at hm
  obtain ⟨x, hx, ex⟩ := List.mem_map.mp hm
  have e1 : x.1 = (ls.getD h seat0).2.1 := congrArg Prod.fst ex
  have e2 : x.2.1 = beside ls h := congrArg Prod.snd ex
  exact ⟨x, hx, e1, e2⟩
theorem next_in {es : List Ent} {s : Int} {os : ORow} (h : ∃ x ∈ es, x.1 = s ∧ x.2.1 = os) : ∃ x ∈ es, x.1 = s ∧ x.2.1 = os ∧ x.2.2 = nextOf es s os := by
  unfold nextOf
  cases hf : es.find? fun x => decide (x.1 = s ∧ x.2.1 = os) with
  | none =>
    obtain ⟨x, hx, hc⟩ := h
    have := List.find?_eq_none.mp hf x hx
    simp [hc] at this
  | some x =>
    have hx := List.mem_of_find?_eq_some hf
    have hp : x.1 = s ∧ x.2.1 = os := by simpa using List.find?_some hf
    exact ⟨x, hx, hp.1, hp.2, rfl⟩
theorem getD_set {ls : List Seat} {h k : Nat} {x : Seat} (hh : h < ls.length) : (ls.set h x).getD k seat0 = if k = h then x else ls.getD k seat0 := by
  rw [List.getD_eq_getElem?_getD, List.getD_eq_getElem?_getD]
  by_cases z : k = h
  · subst z; rw [if_pos rfl, List.getElem?_set_self hh]; rfl
  · rw [if_neg z, List.getElem?_set_ne (fun y => z y.symm)]
theorem StOk.step {n m : Nat} {Ss : List Nat} {tabs : List Tab} {ls : List Seat} {h : Nat} (tok : TabsOk n m Ss tabs) (so : StOk n m tabs ls) (hh : h < n) (hd : (ls.getD h seat0).1 ≠ "done") : StOk n m tabs (stepS (tabsF tabs) ls h) := by
  have hl : h < ls.length := by rw [so.len]; exact hh
  refine ⟨by rw [step_len]; exact so.len, fun k hk => ?_⟩
  unfold stepS
  rw [getD_set hl]
  by_cases z : k = h
  · subst z
    rw [if_pos rfl]
    have sk := so.seat k hk
    unfold seatOf
    rcases sk.word with ⟨w1, w2, w3⟩ | ⟨w1, w2, w3, w4⟩ | ⟨w1, w2, w3, w4⟩
    · rw [if_pos w1]
      exact ⟨fun j e => by obtain rfl := Option.some.inj e; exact ⟨w2, w3⟩, .inr (.inl ⟨rfl, w2, w3, rfl⟩)⟩
    · rw [if_neg (by rw [w1]; decide)]
      obtain ⟨x, hx, _, _, ex⟩ := next_in (entry_at tok so hk w2 w3)
      have mv := (tabs_at tok hk).2.mv x hx
      rw [ex] at mv
      have st := (tabs_at tok hk).2.st
      cases hn : nextOf (tabsF tabs k).2.2 (ls.getD k seat0).2.1 (beside ls k) with
      | inl s =>
        rw [hn] at mv
        refine ⟨sk.cell, .inl ⟨rfl, mv.1, ?_⟩⟩
        rw [st]; exact mv.2
      | inr v =>
        rw [hn] at mv
        exact ⟨sk.cell, .inr (.inr ⟨rfl, mv.1, mv.2, by show (ls.getD k seat0).2.2 ≠ none; rw [w4]; exact fun z => by cases z⟩)⟩
    · exact absurd w1 hd
  · rw [if_neg z]
    exact so.seat k hk
section
variable {P : Program} {w : World} {K : PySem.W.Frag} {mg : Str → Option Value} {base : Heap} {CT : Addr}
variable {pt : Option Pt} {σ : L2.St} {F F' F0 H0 H F2 H2 : Hp} {te ti ta tb ty td : TE} {ts tr : TA} {t : TT} {D : Ends} {tz tu tw : TS} {l a x dx : Addr} {xs : List NEnt} {fs : List (Str × V)} {f : Str} {i : Nat}
theorem rv_neS {x y : Str} : RvG K rNe (.str x) (.str y) (Is (.bool (!decide (x = y)))) := rv_val fun F H a b _ ha hb => by
  rw [rp_str ha, rp_str hb]
  refine ⟨.bl (!decide (V.str x = V.str y)), fun Q q => ⟨rfl, q⟩, ?_⟩
  have : decide (V.str x = V.str y) = decide (x = y) := by by_cases h : x = y <;> simp [h]
  rw [this]; exact .bl _
/-- t[k], t told by an expression -/
theorem x_ixTX {a : Addr} {us : List V} {k : Nat} {x : V} (h0 : EvX pt te σ F (fun v _ => v = .ref a)) (hl : F a = some (.tup us)) (hk : us[k]? = some x) (h : EvG K pt ti σ F (Is (.int (k : Int)))) : EvX pt (tOp (rIxT K) te ti) σ F (fun v _ => v = x) := fun H1 e g Q q => h0 H1 e g _ fun v0 F1 H2 e0 s0 => by
  subst e0
  refine h.mono s0.sub H2 s0.inn s0.good _ fun d v F2 H3 hd s hv => ?_
  subst hd
  have s2 := s0.trans s
  exact ⟨a, us, _, x, rfl, rp_int hv, SqT.of (s2.inn _ _ (s2.sub _ _ hl)), by rw [atI_nat hk], q _ F2 H3 rfl s2⟩
/-- xs[k], xs a list of the law's tables -/
theorem x_ixL2 {i : Nat} {a : Addr} {us : List V} {k : Nat} {x : V} (h0 : σ[i]? = some (some (.ref a))) (hl : F a = some (.lst us)) (hk : us[k]? = some x) (h : EvG K pt ti σ F (Is (.int (k : Int)))) : EvX pt (tOp (rIxL K) (tVar i) ti) σ F (fun v _ => v = x) := x_ixL h0 hl hk h
/-! the first standing -/
def firstS (tabs : List Tab) (en : List Int) : List Seat := (List.range en.length).map fun k => ("write", (tabsF tabs k).2.1.getD (en.getD k 0).toNat 0, none)
def spFirst (P : Program) (w : World) (K : PySem.W.Frag) : Sp := fun vs H Q _ => ∃ (n m : Nat) (Ss : List Nat) (tabs : List Tab) (en : List Int) (F : Hp) (v u : V), vs = [v, u] ∧ (TabsOk n m Ss tabs ∧ n ≤ 4 ∧ en.length = n ∧ ∀ k ∈ en, 0 ≤ k ∧ k < (m : Int)) ∧ Ex F H ∧ LstX (LawTab P w K) F v tabs ∧ Rp K F u (.list (en.map .int)) ∧
  ∀ z F2 H2, Step none F H F2 H2 → Rp K F2 z (standD (firstS tabs en)) → Q z H2
theorem ok_lfirst {f : Addr} {fd : FuncData} (Fn : Fun K "_law_first" "_law_first" s_law_first f fd) (T : Tx mg) : FnOk P w K mg base CX0 1 f fd ["_law_tables_here", "_law_entry"] (spFirst P w K) := by
  refine Fn.ok sc_law_first (fun vs H Q E ⟨_, _, _, _, _, _, _, _, h, _⟩ => by rw [h]; rfl) (fun cdv A outer s H vs Q E hr h => ?_)
  obtain ⟨n, m, Ss, tabs, en, F, v, u, rfl, ⟨tok, n4, hel, heb⟩, e, ⟨a, us, rfl, hl, hp⟩, hu, q⟩ := h
  refine ⟨_, (pss_one (ps_ret (pe_callTy (c_tup (K := K)) (by rfl) T.tuple (by decide +kernel) (pa_cons (pe_lc (own := [("_law_k", 2)]) (g := gName 2) rfl sc_law_first.nd (pi_range1 (by rfl) T.range (pa_cons (pe_callB (c_len (K := K)) (by rfl) T.len (by decide +kernel) (pa_cons (pv 1) pa_nil)) pa_nil)) (blkOk_by (own := [("_law_k", 2)]) (N := ["_law_tables_here", "_law_entry", "_law_k"]) (sc := (defScope s_law_first)) (by decide +kernel)) (fun _ _ _ _ _ => pg_name (i := 2) sc_law_first.nd rfl (by first | exact Or.inl rfl | exact Or.inr rfl)) (fun _ _ _ _ _ => pts_nil) (fun _ _ _ _ _ => (pe_tup (pa_cons pe_str (pa_cons (pe_ix (o_ixL (K := K)) (pe_ix (o_ixT (K := K)) (pe_ix (o_ixL (K := K)) (pv 0) (pv 2) (fun _ _ => rfl)) pe_int (fun _ _ => rfl)) (pe_ix (o_ixL (K := K)) (pv 1) (pv 2) (fun _ _ => rfl)) (fun _ _ => rfl)) (pa_cons pe_non pa_nil)))))) pa_nil)))), ?_⟩
  refine t_retI (K := K) (Step.refl e .nil) ((g_cbI (gs_one (g_lcEM natD (List.range n) (fun k => seatD ("write", (tabsF tabs k).2.1.getD (en.getD k 0).toNat 0, none)) (w_range (n := n) ((g_cbI (gs_one (g_var (i := 1) rfl hu)) (rc_lenS (.inl rfl))).is (by rw [List.length_map, hel])) (by omega)) (by simp; omega) (fun _ => rfl) fun k hk F' e' y hy => ?_)) rc_tupL).is ?_) q
  · have hkn := List.mem_range.mp hk
    obtain ⟨ht, ok⟩ := tabs_at tok hkn
    have hul : us.length = n := by rw [Paired.length hp, tok.len]
    have hku : k < us.length := by omega
    obtain ⟨t, ht', lt⟩ := paired_get hp (List.getElem?_eq_getElem hku)
    obtain rfl : t = tabsF tabs k := Option.some.inj (ht'.symm.trans ht)
    obtain ⟨b, sv, Dd, xs, hb, h1, h2, h3, h4⟩ := LawTab.mono _ _ F F' e' lt
    have hke : k < en.length := by omega
    have hb2 := heb _ (List.getElem_mem hke)
    have gk : ∀ {σ' : L2.St}, σ'[2]? = some (some y) → EvG K none (tVar 2) σ' F' (Is (.int (k : Int))) := fun h => g_var (i := 2) (v := y) h hy
    have hlt : en[k].toNat < (tabsF tabs k).2.1.length := by rw [ok.len]; omega
    refine g_tupI (ds := [.str "write", .int ((tabsF tabs k).2.1.getD (en.getD k 0).toNat 0), .none]) (gs_three g_str (g_opI (g_ofX (x_ixTX (k := 0) (x_ixL2 (k := k) rfl (e' _ _ hl) (by rw [List.getElem?_eq_getElem hku, hb]) (gk rfl)) h1 rfl g_int) h2) ((g_opI (g_var (i := 1) rfl (Rp.mono e' _ _ hu)) (gk rfl) (rv_ixL (d := .int en[k]) (atI_nat (by rw [List.getElem?_map, List.getElem?_eq_getElem hke]; rfl)))).is (e := .int ((en[k].toNat : Nat) : Int)) (by rw [show ((en[k].toNat : Nat) : Int) = en[k] by omega])) (rv_ixL (d := .int ((tabsF tabs k).2.1.getD (en.getD k 0).toNat 0)) (atI_nat ?_))) g_non) (by show 3 ≤ 100000; decide)
    rw [List.getD_eq_getElem?_getD (l := en), List.getElem?_eq_getElem hke]
    show _ = some (PyData.int ((tabsF tabs k).2.1.getD en[k].toNat 0))
    rw [List.getElem?_map, List.getElem?_eq_getElem hlt, List.getD_eq_getElem?_getD, List.getElem?_eq_getElem hlt]; rfl
  · unfold standD firstS
    rw [List.map_map, hel]; rfl
theorem first_ok {n m : Nat} {Ss : List Nat} {tabs : List Tab} {en : List Int} (tok : TabsOk n m Ss tabs) (hel : en.length = n) (heb : ∀ k ∈ en, 0 ≤ k ∧ k < (m : Int)) : StOk n m tabs (firstS tabs en) := by
  unfold firstS
  refine ⟨by rw [List.length_map, List.length_range, hel], fun k hk => ?_⟩
  obtain ⟨ht, ok⟩ := tabs_at tok hk
  have hke : k < en.length := by omega
  have hb2 := heb _ (List.getElem_mem hke)
  have hlt : en[k].toNat < (tabsF tabs k).2.1.length := by rw [ok.len]; omega
  have bd := ok.bd _ (List.getElem_mem hlt)
  rw [← ok.st] at bd
  have e : ((List.range en.length).map fun k => (("write", (tabsF tabs k).2.1.getD (en.getD k 0).toNat 0, none) : Seat)).getD k seat0 = (("write", (tabsF tabs k).2.1[en[k].toNat], none) : Seat) := by
    rw [List.getD_eq_getElem?_getD, List.getElem?_map, List.getElem?_range hke]
    show (("write", (tabsF tabs k).2.1.getD (en.getD k 0).toNat 0, none) : Seat) = _
    rw [List.getD_eq_getElem?_getD (l := en), List.getElem?_eq_getElem hke]
    show (("write", (tabsF tabs k).2.1.getD en[k].toNat 0, none) : Seat) = _
    rw [List.getD_eq_getElem?_getD, List.getElem?_eq_getElem hlt]; rfl
  rw [e]
  exact ⟨fun j e => (by cases e), .inl ⟨rfl, bd.1, bd.2⟩⟩
/-! the law's step -/
def spLStep (P : Program) (w : World) (K : PySem.W.Frag) : Sp := fun vs H Q _ => ∃ (n m h : Nat) (Ss : List Nat) (tabs : List Tab) (ls : List Seat) (F : Hp) (v u : V), vs = [v, u, .int h] ∧ (TabsOk n m Ss tabs ∧ n ≤ 4 ∧ (∀ S ∈ Ss, S ≤ 5) ∧ StOk n m tabs ls ∧ h < n ∧ (ls.getD h seat0).1 ≠ "done") ∧ Ex F H ∧ LstX (LawTab P w K) F v tabs ∧ Rp K F u (standD ls) ∧
  ∀ z F2 H2, Step none F H F2 H2 → Rp K F2 z (standD (stepS (tabsF tabs) ls h)) → Q z H2
theorem ok_lstep {f : Addr} {fd : FuncData} (Fn : Fun K "_law_step" "_law_step" s_law_step f fd) (T : Tx mg) : FnOk P w K mg base CX0 1 f fd ["_law_tables_here", "_law_standing", "_law_house"] (spLStep P w K) := by
  refine Fn.ok sc_law_step (fun vs H Q E ⟨_, _, _, _, _, _, _, _, _, h, _⟩ => by rw [h]; rfl) (fun cdv A outer s H vs Q E hr h => ?_)
  obtain ⟨n, m, h, Ss, tabs, ls, F, v, u, rfl, ⟨tok, n4, hS5, so, hhn, hnd⟩, e, ⟨a, us, rfl, hl, hp⟩, hu, q⟩ := h
  have hlt : h < ls.length := by rw [so.len]; exact hhn
  have hln : ls.length ≤ 4 := by rw [so.len]; exact n4
  refine ⟨_, (pss_cons (ps_asg (pe_ix (o_ixT (K := K)) (pv 1) (pv 2) (fun _ _ => rfl)) (pg_tup rfl (pgs_cons (pg_name (i := 3) sc_law_step.nd rfl (by first | exact Or.inl rfl | exact Or.inr rfl)) (pgs_cons (pg_name (i := 4) sc_law_step.nd rfl (by first | exact Or.inl rfl | exact Or.inr rfl)) (pgs_cons (pg_name (i := 5) sc_law_step.nd rfl (by first | exact Or.inl rfl | exact Or.inr rfl)) pgs_nil)))))
    (pss_cons (ps_if (pt_cmpR op_eq (pv 3) pe_str (nomark _)) (pss_one (ps_set (i := 6) sc_law_step.nd rfl (by first | exact Or.inl rfl | exact Or.inr rfl) (pe_tup (pa_cons pe_str (pa_cons (pv 4) (pa_cons (pv 4) pa_nil)))))) (pss_cons (ps_set (i := 7) sc_law_step.nd rfl (by first | exact Or.inl rfl | exact Or.inr rfl) (pe_callTy (c_tup (K := K)) (by rfl) T.tuple (by decide +kernel) (pa_cons (pe_lc (own := [("_law_k", 8)]) (g := gName 8) rfl sc_law_step.nd (pi_range1 (by rfl) T.range (pa_cons (pe_callB (c_len (K := K)) (by rfl) T.len (by decide +kernel) (pa_cons (pv 1) pa_nil)) pa_nil)) (blkOk_by (own := [("_law_k", 8)]) (N := ["_law_tables_here", "_law_standing", "_law_house", "_law_word", "_law_held_here", "_law_cell", "_law_seat", "_law_others", "_law_k", "_law_move"]) (sc := (defScope s_law_step)) (by decide +kernel)) (fun _ _ _ _ _ => pg_name (i := 8) sc_law_step.nd rfl (by first | exact Or.inl rfl | exact Or.inr rfl)) (fun _ _ _ _ _ => (pts_one (pt_cmpR op_ne (pv 8) (pv 2) (nomark _)))) (fun _ _ _ _ _ => (pe_ix (o_ixT (K := K)) (pe_ix (o_ixT (K := K)) (pv 1) (pv 8) (fun _ _ => rfl)) pe_int (fun _ _ => rfl)))) pa_nil)))
    (pss_cons (ps_set (i := 9) sc_law_step.nd rfl (by first | exact Or.inl rfl | exact Or.inr rfl) (pe_dgetN (P := P) (w := w) (K := K) (hu65 hr) (pe_ix (o_ixT (K := K)) (pe_ix (o_ixL (K := K)) (pv 0) (pv 2) (fun _ _ => rfl)) pe_int (fun _ _ => rfl)) (pe_tup (pa_cons (pv 4) (pa_cons (pv 7) pa_nil))) (fun _ _ => rfl)))
    (pss_one (ps_set (i := 6) sc_law_step.nd rfl (by first | exact Or.inl rfl | exact Or.inr rfl) (pe_ifExp (pt_val (pe_callB (c_isi (K := K)) (by rfl) T.isinstance (by decide +kernel) (pa_cons (pv 9) (pa_cons (pe_bltn (v := .ty "tuple") (by rfl) T.tuple (by decide +kernel) rfl) pa_nil)))) (pe_tup (pa_cons pe_str (pa_cons (pe_ix (o_ixT (K := K)) (pv 9) pe_int (fun _ _ => rfl)) (pa_cons (pv 5) pa_nil)))) (pe_tup (pa_cons pe_str (pa_cons (pv 9) (pa_cons (pv 5) pa_nil))))))))))
    (pss_one (ps_ret (pe_op (o_catA (K := K)) (pe_op (o_catA (K := K)) (pe_slice (s_any (K := K)) (pv 1) (po_some pe_int) (po_some (pv 2))) (pe_tup (pa_cons (pv 6) pa_nil))) (pe_slice (s_tup (K := K)) (pv 1) (po_some (pe_op op_add (pv 2) pe_int)) po_none)))))), ?_⟩
  have gh : ∀ {σ' : L2.St} {F' : Hp}, σ'[2]? = some (some (.int (h : Int))) → EvG K none (tVar 2) σ' F' (Is (.int (h : Int))) := fun h' => g_var (v := .int h) h' (.int _)
  refine t_three (Step.refl e .nil) (g_opI (g_var rfl hu) (gh rfl) (rv_seat hlt)) rfl fun v3 v4 v5 F1 H1 s1 e1 h3 h4 h5 => ?_
  obtain rfl := rp_str h3
  obtain rfl := rp_int h4
  have hu1 := Rp.mono e1 _ _ hu
  unfold stepS at q
  rw [set_take hlt] at q
  have tail : ∀ (F3 : Hp), Ex F1 F3 → ∀ (σ' : L2.St) (z : V) (sx : Seat), σ'[1]? = some (some u) → σ'[2]? = some (some (.int (h : Int))) → σ'[6]? = some (some z) → Rp K F3 z (seatD sx) → EvG K none (tOp (rCatA K) (tOp (rCatA K) (tSl (rSlU K) (tVar 1) (tPart (tC (.int 0))) (tPart (tVar 2))) (tTup (tCons (tVar 6) tNil))) (tSl (rSlA K) (tVar 1) (tPart (tOp (rI0 fun i j => .int (i + j)) (tVar 2) (tC (.int 1)))) tNoPart)) σ' F3 (Is (standD (ls.take h ++ [sx] ++ ls.drop (h + 1)))) := fun F3 e3 σ' z sx h1 h2 h6 hz => by
    have hu3 := Rp.mono e3 _ _ hu1
    refine (g_opI (g_opI (g_slU0 (i := h) (ds := ls.map seatD) (.inr rfl) (g_var h1 hu3) (gh h2)) (g_tupI (gs_one (g_var h6 hz)) (by simp)) (rv_catA (by simp; omega))) (g_slA (i := h + 1) (g_var h1 hu3) ((g_opI (gh h2) g_int rv_add).is (by simp))) (rv_catA (by simp; omega))).is ?_
    show PyData.tuple _ = PyData.tuple _
    simp only [List.map_append, List.map_take, List.map_drop, List.map_cons, List.map_nil]
  refine t_if (b := decide ((ls.getD h seat0).1 = ("write" : Str))) s1 (et_of (K := K) (g_opI (g_var (v := .str (ls.getD h seat0).1) rfl (.str _)) g_str rv_eqS)) (fun hb F2 H2 s2 e2 => ?_) (fun hb F2 H2 s2 e2 => ?_)
  · have hw : (ls.getD h seat0).1 = "write" := of_decide_eq_true hb
    refine t_asg1 (K := K) s2 (g_tupI (gs_three g_str (g_var (v := .int (ls.getD h seat0).2.1) rfl (.int _)) (g_var (v := .int (ls.getD h seat0).2.1) rfl (.int _))) (by simp)) fun d z F3 H3 hd s3 e3 hz => ?_
    dsimp only
    refine t_retI (K := K) s3 (tail F3 (e2.trans e3) _ z (seatOf (tabsF tabs) ls h) rfl rfl rfl ?_) q
    rw [show d = _ from hd] at hz
    unfold seatOf
    rw [if_pos hw]; exact hz
  · have hw : ¬ (ls.getD h seat0).1 = "write" := of_decide_eq_false hb
    have e12 := e1.trans e2
    have hb2 : 0 ≤ (ls.getD h seat0).2.1 ∧ (ls.getD h seat0).2.1 < ((tabsF tabs h).1 : Int) := by
      rcases (so.seat h hhn).word with ⟨w1, _⟩ | ⟨_, w2, w3, _⟩ | ⟨w1, _⟩
      · exact absurd w1 hw
      · exact ⟨w2, w3⟩
      · exact absurd w1 hnd
    obtain ⟨xe, hxe, x1, x2, x3⟩ := next_in (entry_at tok so hhn hb2.1 hb2.2)
    have eS : seatOf (tabsF tabs) ls h = seatBy xe.2.2 (ls.getD h seat0).2.2 := by
      unfold seatOf
      rw [if_neg hw, x3]
    refine t_asgI (K := K) (d := dO (beside ls h)) s2 ((g_cbI (gs_one (g_lcE natD (List.range ls.length) (fun k => !decide (k = h)) (fun k => optD (ls.getD k seat0).2.2) (w_len (g_var rfl (Rp.mono e2 _ _ hu1)) (by simp) (by omega)) (by simp; omega) (fun _ => rfl) (fun k hk F' e' y hy => ?_) (fun k hk _ F' e' y hy => ?_))) rc_tupL).is ?_) fun v7 F3 H3 s3 e3 hv7 => ?_
    · exact (et_of (K := K) (g_opI (g_var rfl hy) (gh rfl) rv_neI)).is (by
        by_cases z : k = h
        · rw [z]; simp
        · have : (k : Int) ≠ (h : Int) := fun y => z (by omega)
          simp [z, this])
    · exact g_opI (g_opI (g_var rfl (Rp.mono (e2.trans e') _ _ hu1)) (g_var rfl hy) (rv_seat (List.mem_range.mp hk))) g_int (rv_ixT (d := optD (ls.getD k seat0).2.2) (atI_nat (j := 2) rfl))
    · show PyData.tuple _ = PyData.tuple _
      unfold beside
      rw [List.map_map]; rfl
    have e13 := e12.trans e3
    have hul : us.length = n := by rw [Paired.length hp, tok.len]
    have hku : h < us.length := by omega
    obtain ⟨ht, ok⟩ := tabs_at tok hhn
    obtain ⟨t, ht', lt⟩ := paired_get hp (List.getElem?_eq_getElem hku)
    obtain rfl : t = tabsF tabs h := Option.some.inj (ht'.symm.trans ht)
    obtain ⟨b, sv, Dd, xs, hb, g1, g2, g3, g4⟩ := LawTab.mono _ _ F F3 e13 lt
    have nds : ((rowsD (tabsF tabs h).2.2).map (·.1)).Nodup := by
      have := pairs_nd (read_factsK (n - 1) (Ss.eraseIdx h) (by rw [List.length_eraseIdx_of_lt (by rw [tok.lenS]; exact hhn), tok.lenS]) (fun z hz => ?_)).2.1 (Ss.getD h 0)
      · rw [← ok.all] at this
        unfold rowsD
        rw [List.map_map]
        unfold List.Nodup at this ⊢
        rw [List.pairwise_map] at this ⊢
        refine List.Pairwise.imp (fun {x y} hxy e => hxy ?_) this
        have e2 : pairK x.1 x.2.1 = pairK y.1 y.2.1 := by injection e
        simp only [pairK, List.cons.injEq, PyData.int.injEq, and_true] at e2
        rw [e2.1, dO_inj e2.2]
      · exact hS5 z (List.mem_of_mem_eraseIdx hz)
    obtain ⟨p, hp1, hz⟩ := g4.get (rows_kb _) nds (k := .tuple (pairK xe.1 xe.2.1)) (d := mwD xe.2.2) (List.mem_map.mpr ⟨xe, hxe, rfl⟩)
    rw [x1, x2] at hp1
    refine t_asgI (K := K) (d := mwD xe.2.2) s3 (g_dgetX (P := P) (w := w) (k := .tuple (pairK (ls.getD h seat0).2.1 (beside ls h))) (x_ixTX (k := 1) (x_ixL2 (k := h) rfl (e13 _ _ hl) (by rw [List.getElem?_eq_getElem hku, hb]) (gh rfl)) g1 rfl g_int) g3 (g_tupI (gs_two (g_var (v := .int (ls.getD h seat0).2.1) rfl (.int _)) (g_var rfl hv7)) (by show 2 ≤ 100000; decide)) (fun b F' hb => tup_ref hb) kb_pair depth_pair hp1 hz) fun v9 F4 H4 s4 e4 hv9 => ?_
    rw [eS] at q
    have h54 := Rp.mono ((e2.trans e3).trans e4) _ _ h5
    have isT' : EtG none (tB (tCB (rIsi K) (tCons (tVar 9) (tCons (tC (.ty "tuple")) tNil)))) [some (.ref a), some u, some (.int h), some (.str (ls.getD h seat0).1), some (.int (ls.getD h seat0).2.1), some v5, none, some v7, none, some v9] F4 (· = isT (mwD xe.2.2)) := et_B (K := K) (g_isi (g_var (i := 9) rfl hv9) (kit_tuple _))
    generalize hmw : xe.2.2 = mw at *
    cases mw with
    | inr vv =>
      refine t_asg1 (K := K) s4 (g_ifX (b := true) isT' (fun _ => g_tupI (ds := [.str "done", .int vv, optD (ls.getD h seat0).2.2]) (gs_three g_str (g_opI (g_var (i := 9) rfl hv9) g_int (rv_ixT (d := .int vv) (atI_nat (j := 1) rfl))) (g_var (i := 5) rfl h54)) (by simp)) (fun hb => by cases hb)) fun d z2 F5 H5 hd s5 e5 hz2 => ?_
      dsimp only
      refine t_retI (K := K) s5 (tail F5 (((e2.trans e3).trans e4).trans e5) _ z2 ("done", vv, (ls.getD h seat0).2.2) rfl rfl rfl ?_) q
      rw [show d = _ from hd] at hz2
      exact hz2
    | inl ss =>
      refine t_asg1 (K := K) s4 (g_ifX (b := false) isT' (fun hb => by cases hb) (fun _ => g_tupI (ds := [.str "write", .int ss, optD (ls.getD h seat0).2.2]) (gs_three g_str (g_var (i := 9) rfl hv9) (g_var (i := 5) rfl h54)) (by simp))) fun d z2 F5 H5 hd s5 e5 hz2 => ?_
      dsimp only
      refine t_retI (K := K) s5 (tail F5 (((e2.trans e3).trans e4).trans e5) _ z2 ("write", ss, (ls.getD h seat0).2.2) rfl rfl rfl ?_) q
      rw [show d = _ from hd] at hz2
      exact hz2
/-! who is not done -/
def undoneS (ls : List Seat) : List Nat := (List.range ls.length).filter fun h => !decide ((ls.getD h seat0).1 = "done")
abbrev spUndone (K : PySem.W.Frag) : Sp := PSp K (fun ls : List Seat => [standD ls]) (fun ls => ls.length ≤ 60) (fun ls => .list ((undoneS ls).map natD))
theorem ok_undone {f : Addr} {fd : FuncData} (Fn : Fun K "_law_undone" "_law_undone" s_law_undone f fd) (T : Tx mg) : FnOk P w K mg base CX0 1 f fd ["_law_standing"] (spUndone K) := by
  refine Fn.ok sc_law_undone (PSp.len (fun _ => rfl)) (fun cdv A outer s H vs Q E hr h => ?_)
  obtain ⟨ls, F, hz, e, ha, q⟩ := h
  replace hz : ls.length ≤ 60 := hz
  obtain ⟨v1, rfl, hv1⟩ := rpAll1 ha
  refine ⟨_, (pss_one (ps_ret (pe_lc (own := [("_law_house", 1)]) (g := gName 1) rfl sc_law_undone.nd (pi_range1 (by rfl) T.range (pa_cons (pe_callB (c_len (K := K)) (by rfl) T.len (by decide +kernel) (pa_cons (pv 0) pa_nil)) pa_nil)) (blkOk_by (own := [("_law_house", 1)]) (N := ["_law_standing", "_law_house"]) (sc := (defScope s_law_undone)) (by decide +kernel)) (fun _ _ _ _ _ => pg_name (i := 1) sc_law_undone.nd rfl (by first | exact Or.inl rfl | exact Or.inr rfl)) (fun _ _ _ _ _ => (pts_one (pt_cmpR op_ne (pe_ix (o_ixT (K := K)) (pe_ix (o_ixT (K := K)) (pv 0) (pv 1) (fun _ _ => rfl)) pe_int (fun _ _ => rfl)) pe_str (nomark _)))) (fun _ _ _ _ _ => (pv 1))))), ?_⟩
  refine t_retI (K := K) (Step.refl e .nil) (g_lcE natD (List.range ls.length) (fun h => !decide ((ls.getD h seat0).1 = "done")) natD (w_len (g_var rfl hv1) (by simp) (by omega)) (by simp; omega) (fun _ => rfl) (fun k hk F' e' y hy => ?_) (fun k hk _ F' e' y hy => g_var rfl hy)) q
  exact et_of (K := K) (g_opI (g_opI (g_opI (g_var rfl (Rp.mono e' _ _ hv1)) (g_var rfl hy) (rv_seat (List.mem_range.mp hk))) g_int (rv_ixT (d := .str (ls.getD k seat0).1) (atI_nat (j := 0) rfl))) g_str rv_neS)
end
end KD

/-! lists and dicts among what is one's own -/
namespace Fv
open PySem PySem.Spec PyProof.Rows L2 Evl StX
/-- a list of one's own holds this -/
def LstO (K : PySem.W.Frag) (F : Hp) (o : HO) (ds : List PyData) : Prop := ∃ acc, o = .lst acc ∧ RpAll K F acc ds
/-- a dict of one's own, its keys data, holds this -/
structure DctO (P : Program) (w : World) (K : PySem.W.Frag) (F : Hp) (D : Addr) (o : HO) (xs : List NEnt) : Prop where
  low : (D == sysModules) = false
  ex : ∃ ob, o = rawO D ob ∧ DNo P w ob xs
  keys : ∀ x ∈ xs, KeyOk K F x.1 x.2.1
section
variable {P : Program} {w : World} {K : PySem.W.Frag} {pt : Option Pt} {σ : L2.St} {F0 H0 F H F' F2 H2 : Hp} {te ta tb ty : TE} {ts : TA} {t : TT} {R : PD} {D : Ends} {tz tu tw : TS} {wi : TI} {L : List Own1} {a l : Addr} {o o' : HO} {xs : List NEnt} {ds : List PyData}
theorem LstO.mono (e : Ex F F') (h : LstO K F o ds) : LstO K F' o ds := by
  obtain ⟨acc, e1, r⟩ := h
  exact ⟨acc, e1, RpAll.mono e _ _ r⟩
theorem LstO.rp (h : LstO K F o ds) (hl : F a = some o) : Rp K F (.ref a) (.list ds) := by
  obtain ⟨acc, rfl, r⟩ := h
  exact .lst hl r
theorem DctO.mono (e : Ex F F') (h : DctO P w K F a o xs) : DctO P w K F' a o xs := ⟨h.low, h.ex, fun x hx => (h.keys x hx).mono e⟩
theorem DctO.nd (h : DctO P w K F a o xs) (hl : F a = some o) : ND P w K F a xs := by
  obtain ⟨ob, rfl, d⟩ := h.ex
  exact ⟨h.low, ⟨ob, hl, d⟩, h.keys⟩
theorem LstO.tn (h : LstO K F o ds) : ∀ ys, o ≠ .tup ys := by
  obtain ⟨acc, rfl, _⟩ := h
  exact fun ys z => by cases z
theorem raw_tn {ob : Obj} : ∀ ys, rawO a ob ≠ .tup ys := fun ys z => by cases z
/-- what is one's own, put among what is seen -/
theorem Own.see {k : Nat} (w : Own pt F0 H0 F H L) (hk : L[k]? = some (a, o)) : putAll L F a = some o := putAll_at w.nd (List.mem_of_getElem? hk)
theorem Own.seeEx (g0 : Good pt F0 H0) (w : Own pt F0 H0 F H L) : Ex F (putAll L F) := (w.fixS g0 w.nd fun _ h => h).1
/-- x = [] -/
theorem t_newLO {i : Nat} (w : Own pt F0 H0 F H L) (q : ∀ l H2, Own pt F0 H0 F H2 (L ++ [(l, .lst [])]) → tz D (σ.set i (some (.ref l))) H2) : tSeq (tAsg (tLst tNil) (gName i)) tz D σ H :=
  ⟨Nat.zero_le _, fun l hl => q l _ (w.new hl fun ys z => by cases z)⟩
/-- x = [e, ..] -/
theorem t_newLsO {i : Nat} (g0 : Good pt F0 H0) (w : Own pt F0 H0 F H L) (h : EvsG K pt ts σ F (· = ds)) (hz : ds.length ≤ 100000) (q : ∀ l o F2 H2, Own pt F0 H0 F2 H2 (L ++ [(l, o)]) → LstO K F2 o ds → Ex F F2 → tz D (σ.set i (some (.ref l))) H2) : tSeq (tAsg (tLst ts) (gName i)) tz D σ H :=
  h H w.step.inn w.step.good _ fun ds' vs F2 H2 hd s hv => by
    subst hd
    exact ⟨by rw [hv.length]; exact sz_of hz, fun l hl => q l _ F2 _ ((w.run g0 s).new hl fun ys z => by cases z) ⟨vs, rfl, hv⟩ s.sub⟩
/-- x = {} -/
theorem t_newNO {i : Nat} (w0 : Own pt F0 H0 F H L) (q : ∀ l o H2, Own pt F0 H0 F H2 (L ++ [(l, o)]) → DctO P w K F l o [] → tz D (σ.set i (some (.ref l))) H2) : tSeq (tAsg (tDNewN P w) (gName i)) tz D σ H := fun l ob hl low hd =>
  q l _ _ (w0.new hl raw_tn) ⟨low, ⟨ob, rfl, hd⟩, fun x hx => by cases hx⟩
/-- xs.append(e) -/
theorem t_appO1 {i : Nat} (k : Nat) (g0 : Good pt F0 H0) (w : Own pt F0 H0 F H L) (hk : L[k]? = some (l, o)) (lo : LstO K F o ds) (hi : σ[i]? = some (some (.ref l))) (h : EvG K pt te σ F R) (hz : ds.length < 100000)
    (q : ∀ d o2 F2 H2, R d → Own pt F0 H0 F2 H2 (L.set k (l, o2)) → LstO K F2 o2 (ds ++ [d]) → Ex F F2 → D.nx σ H2) : tDrop (tBM K "list" rAppend (tVar i) (tCons te tNil)) D σ H := by
  obtain ⟨acc, rfl, r⟩ := lo
  refine ⟨.ref l, hi, .inl ⟨rfl, acc, sq_of (w.get hk).2.2⟩, h H w.step.inn w.step.good _ fun d v F2 H2 hd s hv => ?_⟩
  have w2 := w.run g0 s
  have r2 := RpAll.mono s.sub _ _ r
  exact ⟨l, acc, v, rfl, rfl, (w2.get hk).2.2, sz_lt (by rw [r2.length]; exact hz), q d (.lst (acc ++ [v])) F2 _ hd (w2.put g0 k hk fun ys z => by cases z) ⟨_, rfl, r2.append (.one hv)⟩ s.sub⟩
theorem t_appO {i : Nat} (k : Nat) (g0 : Good pt F0 H0) (w : Own pt F0 H0 F H L) (hk : L[k]? = some (l, o)) (lo : LstO K F o ds) (hi : σ[i]? = some (some (.ref l))) (h : EvG K pt te σ F R) (hz : ds.length < 100000)
    (q : ∀ d o2 F2 H2, R d → Own pt F0 H0 F2 H2 (L.set k (l, o2)) → LstO K F2 o2 (ds ++ [d]) → Ex F F2 → tz D σ H2) : tSeq (tDrop (tBM K "list" rAppend (tVar i) (tCons te tNil))) tz D σ H :=
  t_appO1 (D := { D with nx := tz D }) k g0 w hk lo hi h hz q
/-- xs.extend(e) -/
theorem t_extO1 {i : Nat} {es : List PyData} (k : Nat) (g0 : Good pt F0 H0) (w : Own pt F0 H0 F H L) (hk : L[k]? = some (l, o)) (lo : LstO K F o ds) (hi : σ[i]? = some (some (.ref l))) (h : EvG K pt te σ F (Is (.list es))) (hz : ds.length + es.length ≤ 100000)
    (q : ∀ o2 F2 H2, Own pt F0 H0 F2 H2 (L.set k (l, o2)) → LstO K F2 o2 (ds ++ es) → Ex F F2 → D.nx σ H2) : tDrop (tBM K "list" rExtend (tVar i) (tCons te tNil)) D σ H := by
  obtain ⟨acc, rfl, r⟩ := lo
  refine ⟨.ref l, hi, .inl ⟨rfl, acc, sq_of (w.get hk).2.2⟩, h H w.step.inn w.step.good _ fun d v F2 H2 hd s hv => ?_⟩
  subst hd
  obtain ⟨b, zs, rfl, hb, hzs⟩ := rp_lst hv
  have w2 := w.run g0 s
  have r2 := RpAll.mono s.sub _ _ r
  exact ⟨l, b, acc, zs, rfl, rfl, (w2.get hk).2.2, s.inn _ _ hb, by rw [r2.length, hzs.length]; exact sz_of hz, q (.lst (acc ++ zs)) F2 _ (w2.put g0 k hk fun ys z => by cases z) ⟨_, rfl, r2.append hzs⟩ s.sub⟩
theorem t_extO {i : Nat} {es : List PyData} (k : Nat) (g0 : Good pt F0 H0) (w : Own pt F0 H0 F H L) (hk : L[k]? = some (l, o)) (lo : LstO K F o ds) (hi : σ[i]? = some (some (.ref l))) (h : EvG K pt te σ F (Is (.list es))) (hz : ds.length + es.length ≤ 100000)
    (q : ∀ o2 F2 H2, Own pt F0 H0 F2 H2 (L.set k (l, o2)) → LstO K F2 o2 (ds ++ es) → Ex F F2 → tz D σ H2) : tSeq (tDrop (tBM K "list" rExtend (tVar i) (tCons te tNil))) tz D σ H :=
  t_extO1 (D := { D with nx := tz D }) k g0 w hk lo hi h hz q
/-- d[key] = e; e may read what is one's own -/
theorem t_putNO1 {i : Nat} {ks : List PyData} (k : Nat) (g0 : Good pt F0 H0) (w0 : Own pt F0 H0 F H L) (hk0 : L[k]? = some (l, o)) (do_ : DctO P w K F l o xs) (hi : σ[i]? = some (some (.ref l))) (hz : xs.length < 50000) (hb : kb (.tuple ks) = true) (hdp : (nk (.tuple ks)).depth ≤ 8)
    (he : EvG K pt te σ (putAll L F) R) (hn : ∀ d, R d → nl d = true) (hk : ∀ F', Ex F F' → EvG K pt ty σ F' (Is (.tuple ks)))
    (q : ∀ d v b o2 F2 H2, R d → Own pt F0 H0 F2 H2 (L.set k (l, o2)) → DctO P w K F2 l o2 (putN xs (nk (.tuple ks)) b v) → Ex F F2 → Rp K F2 v d → Rp K F2 (.ref b) (.tuple ks) → D.nx σ H2) : tAsg te (gSub (tVar i) ty (rSetN P w K)) D σ H := by
  obtain ⟨e1, e2, gd, back⟩ := w0.fixS g0 w0.nd (fun _ h => h)
  refine he H e2 gd _ fun d v F1 H1 hd s hv => ?_
  obtain ⟨w2, e3, tp, _⟩ := back F1 H1 s
  have hv3 := rp_tups tp d v (hn d hd) hv
  refine ⟨_, hi, hk _ e3 H1 w2.step.inn w2.step.good _ fun d2 v2 F3 H3 hd2 s2 hv2 => ?_⟩
  subst hd2
  obtain ⟨b, ys, rfl, hl, ha⟩ := rp_tup hv2
  have w3 := w2.run g0 s2
  have ko : KeyOk K F3 (nk (.tuple ks)) b := ⟨_, hv2, hb, rfl, hdp⟩
  have e4 := e3.trans s2.sub
  have d3 := do_.mono e4
  have nd3 : ND P w K H3 l xs := (d3.mono w3.step.inn).nd (w3.get hk0).2.2
  refine ⟨l, xs, _, b, rfl, rfl, nd3, ko.mono s2.inn, Nat.lt_of_lt_of_le hz (by decide), fun ob ho => ?_⟩
  refine q d v b (rawO l ob) F3 _ hd (w3.put g0 k hk0 raw_tn) ⟨d3.low, ⟨ob, rfl, ho⟩, fun x hx => ?_⟩ e4 (Rp.mono s2.sub _ _ hv3) hv2
  unfold putN at hx
  split at hx
  · obtain ⟨y, hy, rfl⟩ := List.mem_map.mp hx
    have := d3.keys y hy
    unfold putAtN
    split
    · exact this
    · exact this
  · rcases List.mem_append.mp hx with m | m
    · exact d3.keys x m
    · rw [List.mem_singleton.mp m]; exact ko
theorem t_putNO {i : Nat} {ks : List PyData} (k : Nat) (g0 : Good pt F0 H0) (w0 : Own pt F0 H0 F H L) (hk0 : L[k]? = some (l, o)) (do_ : DctO P w K F l o xs) (hi : σ[i]? = some (some (.ref l))) (hz : xs.length < 50000) (hb : kb (.tuple ks) = true) (hdp : (nk (.tuple ks)).depth ≤ 8)
    (he : EvG K pt te σ (putAll L F) R) (hn : ∀ d, R d → nl d = true) (hk : ∀ F', Ex F F' → EvG K pt ty σ F' (Is (.tuple ks)))
    (q : ∀ d v b o2 F2 H2, R d → Own pt F0 H0 F2 H2 (L.set k (l, o2)) → DctO P w K F2 l o2 (putN xs (nk (.tuple ks)) b v) → Ex F F2 → Rp K F2 v d → Rp K F2 (.ref b) (.tuple ks) → tz D σ H2) : tSeq (tAsg te (gSub (tVar i) ty (rSetN P w K))) tz D σ H :=
  t_putNO1 (D := { D with nx := tz D }) k g0 w0 hk0 do_ hi hz hb hdp he hn hk q
/-- key in d, key not in d -/
theorem g_inNd {i : Nat} {ks : List PyData} {neg : Bool} (h : EvG K pt te σ F (Is (.tuple ks))) (hb : kb (.tuple ks) = true) (hdp : (nk (.tuple ks)).depth ≤ 8) (h0 : σ[i]? = some (some (.ref l))) (nd : ND P w K F l xs) :
    EvG K pt (tOp (rInN P w K neg) te (tVar i)) σ F (Is (.bool (if neg then !(atN xs (nk (.tuple ks))).isSome else (atN xs (nk (.tuple ks))).isSome))) := fun H1 e g Q q =>
  h H1 e g _ fun d v F2 H2 hd s hv => by
    subst hd
    obtain ⟨b, rfl⟩ := tup_ref hv
    exact ⟨_, h0, l, xs, _, b, rfl, rfl, (nd.mono s.sub).mono s.inn, KeyOk.mono s.inn ⟨_, hv, hb, rfl, hdp⟩, q _ _ F2 H2 rfl s (.bl _)⟩
/-- a loop over a list of data that is left off where one likes; what is one's own goes with it -/
theorem t_forO {j : Nat} {RS : List PyData → Prop} (g0 : Good pt F0 H0) (w : Own pt F0 H0 F H L) (hw : WiG K pt wi σ F RS) (I : List PyData → Nat → L2.St → Hp → List Own1 → Prop) (h0 : ∀ ds, RS ds → ∀ F1, Ex F F1 → I ds 0 σ F1 L)
    (hs : ∀ ds, RS ds → ∀ i d, ds[i]? = some d → ∀ σ' F' H' L' x, I ds i σ' F' L' → Own pt F0 H0 F' H' L' → Ex F F' → Rp K F' x d →
      ∀ N : L2.St → Hp → Prop, (∀ σ2 F2 H2 L2, I ds (i + 1) σ2 F2 L2 → Own pt F0 H0 F2 H2 L2 → Ex F' F2 → N σ2 H2) → tu { D with nx := N, ct := N, bk := tz D } (σ'.set j (some x)) H')
    (hd : ∀ ds, RS ds → ∀ σ' F' H' L', I ds ds.length σ' F' L' → Own pt F0 H0 F' H' L' → Ex F F' → tz D σ' H') : tSeq (tFor wi (gName j) tu) tz D σ H :=
  hw H w.step.inn w.step.good _ fun ds' J F1 H1 e s1 Y => by
    refine ⟨fun i m σ' H' => m = ds'.length - i ∧ i ≤ ds'.length ∧ ∃ F' L', I ds' i σ' F' L' ∧ Own pt F0 H0 F' H' L' ∧ Ex F1 F', ⟨ds'.length, by simp, Nat.zero_le _, F1, L, h0 ds' e F1 s1.sub, w.run g0 s1, Ex.refl _⟩, ?_⟩
    rintro i m σ' H' ⟨rfl, hil, F', L', p, w', e'⟩
    have eH : Ex F1 H' := e'.trans w'.step.inn
    by_cases hlt : i < ds'.length
    · refine .inr ⟨Y.go i H' eH hlt, fun σ2 H2 => ∃ F2 L2, I ds' (i + 1) σ2 F2 L2 ∧ Own pt F0 H0 F2 H2 L2 ∧ Ex F1 F2, fun σ2 H2 ⟨F2, L2, a, c, b⟩ => ⟨ds'.length - (i + 1), by omega, rfl, hlt, F2, L2, a, c, b⟩, fun x H2 y => ?_⟩
      obtain ⟨rfl, d, hdd, hx⟩ := Y.yld i H' x H2 eH hlt y
      exact hs ds' e i d hdd σ' F' _ L' x p w' (s1.sub.trans e') (Rp.mono e' _ _ hx) _ fun σ2 F2 H2 L2 a c b => ⟨F2, L2, a, c, e'.trans b⟩
    · have hE : i = ds'.length := Nat.le_antisymm hil (Nat.le_of_not_lt hlt)
      subst hE
      exact .inl ⟨Y.stop H' eH, hd ds' e σ' F' H' L' p w' (s1.sub.trans e')⟩
theorem t_forO1 {j : Nat} {RS : List PyData → Prop} (g0 : Good pt F0 H0) (w : Own pt F0 H0 F H L) (hw : WiG K pt wi σ F RS) (I : List PyData → Nat → L2.St → Hp → List Own1 → Prop) (h0 : ∀ ds, RS ds → ∀ F1, Ex F F1 → I ds 0 σ F1 L)
    (hs : ∀ ds, RS ds → ∀ i d, ds[i]? = some d → ∀ σ' F' H' L' x, I ds i σ' F' L' → Own pt F0 H0 F' H' L' → Ex F F' → Rp K F' x d →
      ∀ N : L2.St → Hp → Prop, (∀ σ2 F2 H2 L2, I ds (i + 1) σ2 F2 L2 → Own pt F0 H0 F2 H2 L2 → Ex F' F2 → N σ2 H2) → tu { D with nx := N, ct := N, bk := D.nx } (σ'.set j (some x)) H')
    (hd : ∀ ds, RS ds → ∀ σ' F' H' L', I ds ds.length σ' F' L' → Own pt F0 H0 F' H' L' → Ex F F' → D.nx σ' H') : tFor wi (gName j) tu D σ H :=
  t_forO (tz := fun _ => D.nx) (D := D) g0 w hw I h0 hs hd
/-- .. with a break that leaves it at J -/
theorem t_forOB {j : Nat} {RS : List PyData → Prop} (g0 : Good pt F0 H0) (w : Own pt F0 H0 F H L) (hw : WiG K pt wi σ F RS) (I : List PyData → Nat → L2.St → Hp → List Own1 → Prop) (J : L2.St → Hp → List Own1 → Prop) (h0 : ∀ ds, RS ds → ∀ F1, Ex F F1 → I ds 0 σ F1 L)
    (hs : ∀ ds, RS ds → ∀ i d, ds[i]? = some d → ∀ σ' F' H' L' x, I ds i σ' F' L' → Own pt F0 H0 F' H' L' → Ex F F' → Rp K F' x d →
      ∀ N B : L2.St → Hp → Prop, (∀ σ2 F2 H2 L2, I ds (i + 1) σ2 F2 L2 → Own pt F0 H0 F2 H2 L2 → Ex F' F2 → N σ2 H2) → (∀ σ2 F2 H2 L2, J σ2 F2 L2 → Own pt F0 H0 F2 H2 L2 → Ex F' F2 → B σ2 H2) → tu { D with nx := N, ct := N, bk := B } (σ'.set j (some x)) H')
    (hd : ∀ ds, RS ds → ∀ σ' F' L', I ds ds.length σ' F' L' → Ex F F' → J σ' F' L') (k : ∀ σ' F' H' L', J σ' F' L' → Own pt F0 H0 F' H' L' → Ex F F' → tz D σ' H') : tSeq (tFor wi (gName j) tu) tz D σ H :=
  t_forO g0 w hw I h0 (fun ds e i d hd' σ' F' H' L' x p w' e' hx N hN => hs ds e i d hd' σ' F' H' L' x p w' e' hx N _ hN fun σ2 F2 H2 L2 a b c => k σ2 F2 H2 L2 a b (e'.trans c)) fun ds e σ' F' H' L' p w' e' => k σ' F' H' L' (hd ds e σ' F' L' p e') w' e'
end
end Fv

namespace KD
open PySem PySem.Spec PyProof.Rows L2 L2H Fv Evl StX
abbrev s_law_run : Stmt := topS 41
theorem sc_law_run : FnScope ["_law_pot_here", "_law_tables_here", "_law_standing", "_law_many", "_law_run_here", "_law_passed", "_law_k", "_law_undone_here", "_law_house"] ["_law_pot_here", "_law_tables_here", "_law_standing", "_law_many"] (defScope s_law_run) := ⟨rfl, rfl, rfl, by decide +kernel, rfl, by decide +kernel, by decide +kernel⟩
abbrev s_law_world : Stmt := topS 42
theorem sc_law_world : FnScope ["_law_pot_here", "_law_n", "_law_m"] ["_law_pot_here"] (defScope s_law_world) := ⟨rfl, rfl, rfl, by decide +kernel, rfl, by decide +kernel, by decide +kernel⟩
def runS (T : Nat → Tab) (ls : List Seat) (run : List Nat) : List Seat := run.foldl (stepS T) ls
/-- the standings of a run, the first and the last among them -/
def passS (T : Nat → Tab) (ls : List Seat) (run : List Nat) : List (List Seat) := (List.range (run.length + 1)).map fun k => runS T ls (run.take k)
theorem runS_snoc (T : Nat → Tab) (ls : List Seat) (run : List Nat) (h : Nat) : runS T ls (run ++ [h]) = stepS T (runS T ls run) h := by simp [runS]
theorem passS_snoc (T : Nat → Tab) (ls : List Seat) (run : List Nat) (h : Nat) : passS T ls (run ++ [h]) = passS T ls run ++ [stepS T (runS T ls run) h] := by
  unfold passS
  rw [List.length_append, List.length_singleton, List.range_succ, List.map_append]
  congr 1
  · refine List.map_congr_left fun k hk => ?_
    have := List.mem_range.mp hk
    rw [List.take_append_of_le_length (by omega)]
  · simp only [List.map_cons, List.map_nil, List.cons.injEq, and_true]
    rw [List.take_of_length_le (by simp), runS_snoc]
theorem passS_len (T : Nat → Tab) (ls : List Seat) (run : List Nat) : (passS T ls run).length = run.length + 1 := by simp [passS]
/-- each house of a run steps where it is not done -/
def RunOk (n : Nat) (T : Nat → Tab) (ls : List Seat) (run : List Nat) : Prop := ∀ k h, run[k]? = some h → h < n ∧ ((runS T ls (run.take k)).getD h seat0).1 ≠ "done"
theorem RunOk.snoc {n : Nat} {T : Nat → Tab} {ls : List Seat} {run : List Nat} {h : Nat} (o : RunOk n T ls run) (hh : h < n) (hd : ((runS T ls run).getD h seat0).1 ≠ "done") : RunOk n T ls (run ++ [h]) := fun k g hk => by
  by_cases z : k < run.length
  · rw [List.getElem?_append_left z] at hk
    rw [List.take_append_of_le_length (by omega)]
    exact o k g hk
  · rw [List.getElem?_append_right (by omega)] at hk
    have h0 : k - run.length = 0 := by
      have := (List.getElem?_eq_some_iff.mp hk).1
      simpa using this
    rw [h0] at hk
    obtain rfl : h = g := by simpa using hk
    rw [List.take_append, show k = run.length by omega]
    simp only [List.take_length, Nat.sub_self, List.take_zero, List.append_nil]
    exact ⟨hh, hd⟩
theorem RunOk.st {n m : Nat} {Ss : List Nat} {tabs : List Tab} {ls : List Seat} {run : List Nat} (tok : TabsOk n m Ss tabs) (so : StOk n m tabs ls) (o : RunOk n (tabsF tabs) ls run) : ∀ k, k ≤ run.length → StOk n m tabs (runS (tabsF tabs) ls (run.take k))
  | 0, _ => by simpa [runS] using so
  | k + 1, hk => by
    have hk' : k < run.length := hk
    have ih := RunOk.st tok so o k (by omega)
    obtain ⟨h1, h2⟩ := o k run[k] (List.getElem?_eq_getElem hk')
    rw [List.take_succ, List.getElem?_eq_getElem hk', Option.toList_some, runS_snoc]
    exact ih.step tok h1 h2
theorem RunOk.pass {n m : Nat} {Ss : List Nat} {tabs : List Tab} {ls : List Seat} {run : List Nat} (tok : TabsOk n m Ss tabs) (so : StOk n m tabs ls) (o : RunOk n (tabsF tabs) ls run) : ∀ x ∈ passS (tabsF tabs) ls run, StOk n m tabs x := fun x hx => by
  obtain ⟨k, hk, rfl⟩ := List.mem_map.mp hx
  exact o.st tok so k (by have := List.mem_range.mp hk; omega)
section
variable {P : Program} {w : World} {K : PySem.W.Frag} {mg : Str → Option Value} {base : Heap} {CT : Addr}
variable {pt : Option Pt} {σ : L2.St} {F F' F0 H0 H F2 H2 : Hp} {te ti ta tb ty td : TE} {ts tr : TA} {t : TT} {D : Ends} {tz tu tw : TS} {l a x dx : Addr} {xs : List NEnt} {fs : List (Str × V)} {f : Str} {i : Nat} {L : List Own1}
/-- x, y = e -/
theorem t_pairR {i j n : Nat} {R : PyData → PyData → Prop} (s : Step pt F0 H0 F H) (h : EvG K pt te σ F (fun d => ∃ d1 d2, d = .tuple [d1, d2] ∧ R d1 d2)) (hn : n = 2) (q : ∀ d1 d2 v1 v2 F2 H2, R d1 d2 → Step pt F0 H0 F2 H2 → Ex F F2 → Rp K F2 v1 d1 → Rp K F2 v2 d2 → tz D ((σ.set i (some v1)).set j (some v2)) H2) :
    tSeq (tAsg te (gTup K n (gCons (gName i) (gCons (gName j) gNil)))) tz D σ H := h H s.inn s.good _ fun d v F2 H2 ⟨d1, d2, hd, hr⟩ s2 hv => by
  subst hd
  obtain ⟨a, xs, rfl, hl, ha⟩ := rp_tup hv
  obtain ⟨x1, x2, rfl, h1, h2⟩ := rpAll2 ha
  exact ⟨a, _, rfl, SqT.of (s2.inn _ _ hl), hn.symm, x1, _, rfl, x2, _, rfl, rfl, q d1 d2 x1 x2 F2 H2 hr (s.trans s2) s2.sub h1 h2⟩
theorem g_intBU (h : EvG K pt te σ F (fun d => ∃ b : Bool, d = .bool b)) : EvG K pt (tCB (rIntB K) (tCons te tNil)) σ F (fun d => ∃ b : Bool, d = .int (if b then 1 else 0)) := fun H1 e g Q q => h H1 e g _ fun d v F2 H2 ⟨b, hd⟩ s hv => by
  subst hd
  obtain rfl := rp_bool hv
  exact ⟨b, rfl, q _ _ F2 H2 ⟨b, rfl⟩ s (.int _)⟩
theorem g_lstep {E : XK} {n m h : Nat} {Ss : List Nat} {tabs : List Tab} {ls : List Seat} {v u : V} {i1 i2 i3 : Nat} (h1 : σ[i1]? = some (some v)) (h2 : σ[i2]? = some (some u)) (h3 : σ[i3]? = some (some (.int (h : Int)))) (hb : TabsOk n m Ss tabs ∧ n ≤ 4 ∧ (∀ S ∈ Ss, S ≤ 5) ∧ StOk n m tabs ls ∧ h < n ∧ (ls.getD h seat0).1 ≠ "done") (lx : LstX (LawTab P w K) F v tabs) (hu : Rp K F u (standD ls)) :
    EvG K pt (tCall (spLStep P w K) [] E (tCons (tVar i1) (tCons (tVar i2) (tCons (tVar i3) tNil)))) σ F (Is (standD (stepS (tabsF tabs) ls h))) := fun H1 e g Q q => ⟨_, h1, _, h2, _, h3, n, m, h, Ss, tabs, ls, F, v, u, rfl, hb, e, lx, hu, fun z F2 H2 s r => q _ z F2 H2 rfl (s.lift g) r⟩
theorem mem_undone {ls : List Seat} {h : Nat} : h ∈ undoneS ls ↔ h < ls.length ∧ (ls.getD h seat0).1 ≠ "done" := by
  unfold undoneS
  rw [List.mem_filter, List.mem_range]
  simp
/-! a run of the law's own -/
def spLRun (P : Program) (w : World) (K : PySem.W.Frag) : Sp := fun vs H Q _ => ∃ (q : Pt) (n m N : Nat) (Ss : List Nat) (tabs : List Tab) (ls : List Seat) (F : Hp) (v u : V), vs = [.ref q.p, v, u, .int N] ∧ (TabsOk n m Ss tabs ∧ n ≤ 4 ∧ (∀ S ∈ Ss, S ≤ 5) ∧ StOk n m tabs ls ∧ N ≤ 1000) ∧ Ex F H ∧ Good (some q) F H ∧ LstX (LawTab P w K) F v tabs ∧ Rp K F u (standD ls) ∧
  ∀ z F2 H2 run, run.length ≤ N → RunOk n (tabsF tabs) ls run → Step (some q) F H F2 H2 → Rp K F2 z (.tuple [.list (run.map natD), .list ((passS (tabsF tabs) ls run).map standD)]) → Q z H2
theorem ok_lrun {f fD fU fS : Addr} {fd fdD fdU fdS : FuncData} (Fn : Fun K "_law_run" "_law_run" s_law_run f fd) (T : Tx mg)
    (F_law_draw : Fun K "_law_draw" "_law_draw" s_law_draw fD fdD) (b_law_draw : Binds K fdD ["_law_pot_here", "_law_many"] []) (g_law_draw : mg "_law_draw" = some (.ref fD))
    (F_law_undone : Fun K "_law_undone" "_law_undone" s_law_undone fU fdU) (b_law_undone : Binds K fdU ["_law_standing"] []) (g_law_undone : mg "_law_undone" = some (.ref fU))
    (F_law_step : Fun K "_law_step" "_law_step" s_law_step fS fdS) (b_law_step : Binds K fdS ["_law_tables_here", "_law_standing", "_law_house"] []) (g_law_step : mg "_law_step" = some (.ref fS)) :
    FnOk P w K mg base CX0 2 f fd ["_law_pot_here", "_law_tables_here", "_law_standing", "_law_many"] (spLRun P w K) := by
  have G_law_draw : FnOk P w K mg base CX0 1 fD fdD ["_law_pot_here", "_law_many"] (spDraw K) := ok_draw F_law_draw T
  have G_law_undone : FnOk P w K mg base CX0 1 fU fdU ["_law_standing"] (spUndone K) := ok_undone F_law_undone T
  have G_law_step : FnOk P w K mg base CX0 1 fS fdS ["_law_tables_here", "_law_standing", "_law_house"] (spLStep P w K) := ok_lstep F_law_step T
  refine Fn.ok sc_law_run (fun vs H Q E ⟨_, _, _, _, _, _, _, _, _, _, h, _⟩ => by rw [h]; rfl) (fun cdv A outer s H vs Q E hr h => ?_)
  obtain ⟨pq, n, m, N, Ss, tabs, ls, F, v, u, rfl, ⟨tok, n4, hS5, so, hN⟩, e, g, lx, hu, q⟩ := h
  refine ⟨_, (pss_cons (ps_set (i := 4) sc_law_run.nd rfl (by first | exact Or.inl rfl | exact Or.inr rfl) (pe_lst pa_nil))
    (pss_cons (ps_set (i := 5) sc_law_run.nd rfl (by first | exact Or.inl rfl | exact Or.inr rfl) (pe_lst (pa_cons (pv 2) pa_nil)))
    (pss_cons (ps_for PassesOwn.never rfl (pi_range1 (by rfl) T.range (pa_cons (pv 3) pa_nil)) (pg_name (i := 6) sc_law_run.nd rfl (by first | exact Or.inl rfl | exact Or.inr rfl)) (pss_cons (ps_set (i := 7) sc_law_run.nd rfl (by first | exact Or.inl rfl | exact Or.inr rfl) (pe_call G_law_undone (hr.mono (by decide)) (by rfl) g_law_undone F_law_undone.kp b_law_undone .nil pass0 (pa_cons (pv 2) pa_nil)))
    (pss_cons (ps_if (pt_not (e_truth (K := K) (pv 7))) (pss_one ps_break) pss_nil)
    (pss_cons (ps_set (i := 8) sc_law_run.nd rfl (by first | exact Or.inl rfl | exact Or.inr rfl) (pe_ix (o_ixL (K := K)) (pv 7) (pe_call G_law_draw (hr.mono (by decide)) (by rfl) g_law_draw F_law_draw.kp b_law_draw .nil pass0 (pa_cons (pv 0) (pa_cons (pe_callB (c_len (K := K)) (by rfl) T.len (by decide +kernel) (pa_cons (pv 7) pa_nil)) pa_nil))) (fun _ _ => rfl)))
    (pss_cons (ps_expr (pe_bm PySem.F.plainAttrs_list PySem.F.slot_list_append PySem.F.type_list_append mt_append (pv 4) (pa_cons (pv 8) pa_nil)))
    (pss_cons (ps_set (i := 2) sc_law_run.nd rfl (by first | exact Or.inl rfl | exact Or.inr rfl) (pe_call G_law_step (hr.mono (by decide)) (by rfl) g_law_step F_law_step.kp b_law_step .nil pass0 (pa_cons (pv 1) (pa_cons (pv 2) (pa_cons (pv 8) pa_nil)))))
    (pss_one (ps_expr (pe_bm PySem.F.plainAttrs_list PySem.F.slot_list_append PySem.F.type_list_append mt_append (pv 5) (pa_cons (pv 2) pa_nil))))))))))
    (pss_one (ps_ret (pe_tup (pa_cons (pv 4) (pa_cons (pv 5) pa_nil)))))))), ?_⟩
  have g0 : Good (some pq) F H := g
  refine t_newLO (Own.nil (Step.refl e g)) fun l4 H1 w1 => ?_
  refine t_newLsO (K := K) (ds := [standD ls]) g0 w1 (gs_one (g_var (i := 2) rfl hu)) (by simp) fun l5 o5 F2 H2 w2 lo5 e2 => ?_
  dsimp only [List.nil_append, List.cons_append]
  refine t_forOB (K := K) (RS := (· = (List.range N).map natD)) g0 w2 (w_range (n := N) (g_var (i := 3) (v := .int N) rfl (.int _)) (by omega))
    (fun ds i σ' F' L' => ∃ run us z6 z7 z8 o4 o5, σ' = [some (.ref pq.p), some v, some us, some (.int N), some (.ref l4), some (.ref l5), z6, z7, z8] ∧ L' = [(l4, o4), (l5, o5)] ∧ LstO K F' o4 (run.map natD) ∧ LstO K F' o5 ((passS (tabsF tabs) ls run).map standD) ∧ Rp K F' us (standD (runS (tabsF tabs) ls run)) ∧ run.length ≤ i ∧ RunOk n (tabsF tabs) ls run)
    (fun σ' F' L' => ∃ run us z6 z7 z8 o4 o5, σ' = [some (.ref pq.p), some v, some us, some (.int N), some (.ref l4), some (.ref l5), z6, z7, z8] ∧ L' = [(l4, o4), (l5, o5)] ∧ LstO K F' o4 (run.map natD) ∧ LstO K F' o5 ((passS (tabsF tabs) ls run).map standD) ∧ run.length ≤ N ∧ RunOk n (tabsF tabs) ls run)
    (fun ds hds F3 e3 => ⟨[], u, none, none, none, _, _, rfl, rfl, ⟨_, rfl, .nil⟩, lo5.mono e3, Rp.mono (e2.trans e3) _ _ hu, Nat.zero_le _, fun k h hk => by simp at hk⟩)
    (fun ds hds i d hd σ' F3 H3 L3 y hI w3 e3 hy Nx Bk hNx hBk => ?_) (fun ds hds σ' F3 L3 hI e3 => ?_) (fun σ' F3 H3 L3 hJ w3 e3 => ?_)
  · obtain ⟨run, us, z6, z7, z8, o4, o5, rfl, rfl, lo4, lo5, hus, hrl, ok⟩ := hI
    subst hds
    have hi : i < N := by have := (List.getElem?_eq_some_iff.mp hd).1; simpa using this
    have son := ok.st tok so run.length (Nat.le_refl _)
    rw [List.take_length] at son
    have ee : Ex F F3 := e2.trans e3
    refine t_asgF (K := K) (R := Is (.list ((undoneS (runS (tabsF tabs) ls run)).map natD))) g0 w3 (g_call (runS (tabsF tabs) ls run) (gs_one (g_var (i := 2) rfl hus)) rfl (by show (runS (tabsF tabs) ls run).length ≤ 60; rw [son.len]; omega)) fun d v7 F4 H4 hd4 w4 e4 hv7 => ?_
    obtain rfl : d = _ := hd4
    refine t_ifO (b := !(!((undoneS (runS (tabsF tabs) ls run)).map natD).isEmpty)) g0 w4 (et_not (et_truL (K := K) (g_var (i := 7) rfl (Rp.mono (w4.seeEx g0) _ _ hv7)))) (fun hb F5 H5 w5 e5 => ?_) (fun hb F5 H5 w5 e5 => ?_)
    · exact hBk _ F5 H5 _ ⟨run, us, _, _, _, o4, o5, rfl, rfl, lo4.mono (e4.trans e5), lo5.mono (e4.trans e5), by omega, ok⟩ w5 (e4.trans e5)
    · dsimp only [tNext]
      have hne : 0 < (undoneS (runS (tabsF tabs) ls run)).length := by
        cases hu : undoneS (runS (tabsF tabs) ls run) with
        | nil => rw [hu] at hb; simp at hb
        | cons a b => simp
      have hul : (undoneS (runS (tabsF tabs) ls run)).length ≤ 4 := by
        unfold undoneS
        exact Nat.le_trans (List.length_filter_le _ _) (by rw [List.length_range, son.len]; exact n4)
      have hv75 := Rp.mono e5 _ _ hv7
      refine t_asgF (K := K) (R := fun d => ∃ h : Nat, d = natD h ∧ h ∈ undoneS (runS (tabsF tabs) ls run)) g0 w5 (g_pick (c := (((undoneS (runS (tabsF tabs) ls run)).length : Nat) : Int)) (g_var (i := 7) rfl hv75) ((g_callP (m := (((undoneS (runS (tabsF tabs) ls run)).length : Nat) : Int)) rfl ((g_cbI (gs_one (g_var (i := 7) rfl hv75)) (rc_lenS (.inl rfl))).is (by rw [List.length_map])) ⟨by omega, by omega⟩).imp fun d hd => hd) (by rw [List.length_map]; exact Int.le_refl _) (fun d hd => by obtain ⟨h, hh, rfl⟩ := List.mem_map.mp hd; exact ⟨h, rfl, hh⟩)) fun d v8 F6 H6 hd6 w6 e6 hv8 => ?_
      obtain ⟨h, rfl, hh⟩ := hd6
      obtain rfl := rp_int hv8
      obtain ⟨hhl, hhd⟩ := mem_undone.mp hh
      rw [son.len] at hhl
      have e36 := (e4.trans e5).trans e6
      refine t_appO (K := K) (R := Is (natD h)) 0 g0 w6 rfl (lo4.mono e36) rfl (g_var (i := 8) (v := .int (h : Int)) rfl (.int _)) (by rw [List.length_map]; omega) fun d o42 F7 H7 hd7 w7 lo47 e7 => ?_
      obtain rfl : d = _ := hd7
      dsimp only [List.set]
      have e37 := e36.trans e7
      refine t_asgF (K := K) (R := Is (standD (stepS (tabsF tabs) (runS (tabsF tabs) ls run) h))) g0 w7 (g_lstep (P := P) (w := w) (i1 := 1) (i2 := 2) (i3 := 8) rfl rfl rfl ⟨tok, n4, hS5, son, hhl, hhd⟩ (LstX.mono LawTab.mono (ee.trans e37) lx) (Rp.mono e37 _ _ hus)) fun d us2 F8 H8 hd8 w8 e8 hus2 => ?_
      obtain rfl : d = _ := hd8
      refine t_appO1 (K := K) (R := Is (standD (stepS (tabsF tabs) (runS (tabsF tabs) ls run) h))) 1 g0 w8 rfl (lo5.mono (e37.trans e8)) rfl (g_var (i := 2) rfl hus2) (by rw [List.length_map, passS_len]; omega) fun d o52 F9 H9 hd9 w9 lo59 e9 => ?_
      obtain rfl : d = _ := hd9
      refine hNx _ F9 H9 _ ⟨run ++ [h], us2, _, _, _, o42, o52, rfl, rfl, ?_, ?_, ?_, by rw [List.length_append]; simp; omega, ok.snoc hhl hhd⟩ w9 ((e37.trans e8).trans e9)
      · rw [List.map_append]; exact lo47.mono (e8.trans e9)
      · rw [passS_snoc, List.map_append]; exact lo59
      · rw [runS_snoc]; exact Rp.mono e9 _ _ hus2
  · obtain ⟨run, us, z6, z7, z8, o4, o5, rfl, rfl, lo4, lo5, hus, hrl, ok⟩ := hI
    subst hds
    exact ⟨run, us, z6, z7, z8, o4, o5, rfl, rfl, lo4, lo5, by simpa using hrl, ok⟩
  · obtain ⟨run, us, z6, z7, z8, o4, o5, rfl, rfl, lo4, lo5, hrl, ok⟩ := hJ
    obtain ⟨F4, s4, e4, at4⟩ := w3.done g0
    exact t_retI (K := K) s4 (g_tupI (gs_two (g_var (i := 4) rfl ((lo4.mono e4).rp (at4 (l4, o4) (by simp)))) (g_var (i := 5) rfl ((lo5.mono e4).rp (at4 (l5, o5) (by simp))))) (by show 2 ≤ 100000; decide)) fun z F5 H5 s5 hz => q z F5 H5 run hrl ok s5 hz
/-! the world: how many houses, how many values -/
abbrev spWorld (K : PySem.W.Frag) : Sp := spQ K (fun _ : Unit => []) (fun _ => True) (fun _ d => ∃ d1 d2, d = .tuple [d1, d2] ∧ ∃ n m : Nat, d1 = .int (n : Int) ∧ d2 = .int (m : Int) ∧ ((n = 2 ∧ 1 ≤ m ∧ m ≤ 3) ∨ (n = 3 ∧ m = 2)))
theorem ok_lworld {f fD : Addr} {fd fdD : FuncData} (Fn : Fun K "_law_world" "_law_world" s_law_world f fd) (T : Tx mg)
    (F_law_draw : Fun K "_law_draw" "_law_draw" s_law_draw fD fdD) (b_law_draw : Binds K fdD ["_law_pot_here", "_law_many"] []) (g_law_draw : mg "_law_draw" = some (.ref fD)) :
    FnOk P w K mg base CX0 2 f fd ["_law_pot_here"] (spWorld K) := by
  have G_law_draw : FnOk P w K mg base CX0 1 fD fdD ["_law_pot_here", "_law_many"] (spDraw K) := ok_draw F_law_draw T
  refine Fn.ok sc_law_world (spQ.len fun _ => rfl) (fun cdv A outer s H vs Q E hr h => ?_)
  obtain ⟨pq, _, F, as, rfl, _, e, g, ha, q⟩ := h
  cases ha
  refine ⟨_, (pss_cons (ps_set (i := 1) sc_law_world.nd rfl (by first | exact Or.inl rfl | exact Or.inr rfl) (pe_op op_add pe_int (pe_callTy (c_intB (K := K)) (by rfl) T.int (by decide +kernel) (pa_cons (pe_cmpR op_eq (pe_call G_law_draw (hr.mono (by decide)) (by rfl) g_law_draw F_law_draw.kp b_law_draw .nil pass0 (pa_cons (pv 0) (pa_cons pe_int pa_nil))) pe_int (nomark _)) pa_nil))))
    (pss_cons (ps_set (i := 2) sc_law_world.nd rfl (by first | exact Or.inl rfl | exact Or.inr rfl) pe_int)
    (pss_cons (ps_if (pt_cmpR op_eq (pv 1) pe_int (nomark _)) (pss_one (ps_set (i := 2) sc_law_world.nd rfl (by first | exact Or.inl rfl | exact Or.inr rfl) (pe_ix (o_ixL (K := K)) (pe_lst (pa_cons pe_int (pa_cons pe_int (pa_cons pe_int (pa_cons pe_int pa_nil))))) (pe_call G_law_draw (hr.mono (by decide)) (by rfl) g_law_draw F_law_draw.kp b_law_draw .nil pass0 (pa_cons (pv 0) (pa_cons pe_int pa_nil))) (fun _ _ => rfl)))) pss_nil)
    (pss_one (ps_ret (pe_tup (pa_cons (pv 1) (pa_cons (pv 2) pa_nil)))))))), ?_⟩
  refine t_asg (K := K) (R := fun d => ∃ n : Nat, d = .int (n : Int) ∧ (n = 2 ∨ n = 3)) (Step.refl e g) ((g_op (R1 := Is (.int 2)) (S2 := fun d => ∃ b : Bool, d = .int (if b then 1 else 0)) g_int (g_intBU (g_op (R1 := fun d => ∃ j : Int, d = .int j ∧ 0 ≤ j ∧ j < 4) (S2 := Is (.int 1)) (g_callP (m := 4) rfl g_int ⟨by omega, by omega⟩) g_int fun d1 d2 ⟨j, hj, _⟩ h2 => ?_)) fun d1 d2 h1 ⟨b, h2⟩ => ?_)) fun d v1 F1 H1 hd s1 e1 hv1 => ?_
  · subst hj; subst h2
    exact rv_imp rv_eqI fun z hz => ⟨_, hz⟩
  · subst h1; subst h2
    exact rv_imp rv_add fun z hz => ⟨if b then 3 else 2, by rw [show z = _ from hz]; cases b <;> rfl, by cases b <;> simp⟩
  obtain ⟨n, rfl, hn⟩ := hd
  obtain rfl := rp_int hv1
  refine t_asgI (K := K) (d := .int 2) s1 g_int fun v2 F2 H2 s2 e2 hv2 => ?_
  obtain rfl := rp_int hv2
  refine t_ifJ (b := decide ((n : Int) = 2)) (fun σ' F' => ∃ m : Nat, σ' = [some (.ref pq.p), some (.int (n : Int)), some (.int (m : Int))] ∧ ((n = 2 ∧ 1 ≤ m ∧ m ≤ 3) ∨ (n = 3 ∧ m = 2))) s2 (et_of (K := K) (g_opI (g_var (v := .int (n : Int)) (d := .int (n : Int)) rfl (.int _)) g_int rv_eqI)) (fun hb F3 H3 s3 e3 N hN => ?_) (fun hb F3 H3 s3 e3 N hN => ?_) fun σ' F3 H3 ⟨m, hσ, hm⟩ s3 e3 => ?_
  · have hn2 : n = 2 := by have := of_decide_eq_true hb; omega
    refine t_asg1 (K := K) (R := fun d => ∃ k : Nat, d = .int (k : Int) ∧ 1 ≤ k ∧ k ≤ 3) s3 (g_pick (c := 4) (ds := [.int 2, .int 2, .int 3, .int 1]) (g_lstI (gs_consI g_int (gs_three g_int g_int g_int)) (by show 4 ≤ 100000; decide)) (g_callP (m := 4) rfl g_int ⟨by omega, by omega⟩) (by show (4 : Int) ≤ 4; omega) fun d hd => ?_) fun d v3 F4 H4 ⟨k, hk, k1, k3⟩ s4 e4 hv3 => ?_
    · simp only [List.mem_cons, List.not_mem_nil, or_false] at hd
      rcases hd with rfl | rfl | rfl | rfl
      · exact ⟨2, rfl, by decide, by decide⟩
      · exact ⟨2, rfl, by decide, by decide⟩
      · exact ⟨3, rfl, by decide, by decide⟩
      · exact ⟨1, rfl, by decide, by decide⟩
    · subst hk
      obtain rfl := rp_int hv3
      exact hN _ F4 H4 ⟨k, rfl, .inl ⟨hn2, k1, k3⟩⟩ s4 (e3.trans e4)
  · have hn3 : n = 3 := by have := of_decide_eq_false hb; omega
    exact hN _ F3 H3 ⟨2, rfl, .inr ⟨hn3, rfl⟩⟩ s3 e3
  subst hσ
  exact t_retI (K := K) s3 (g_tupI (gs_two (g_var (i := 1) (v := .int (n : Int)) rfl (.int _)) (g_var (i := 2) (v := .int (m : Int)) rfl (.int _))) (by show 2 ≤ 100000; decide)) fun z F4 H4 s4 hz => q _ z F4 H4 ⟨_, _, rfl, n, m, rfl, rfl, hm⟩ s4 hz
end
end KD

namespace KD
open PySem PySem.Spec PyProof.Rows L2 L2H Fv Evl StX
abbrev s_Rounds___init__ : Stmt := inClass (topS 23) 0
theorem sc_Rounds___init__ : FnScope ["self", "run", "loop"] ["self", "run", "loop"] (defScope s_Rounds___init__) := ⟨rfl, rfl, rfl, by decide +kernel, rfl, by decide +kernel, by decide +kernel⟩
abbrev s_Rounds___eq__ : Stmt := inClass (topS 23) 1
theorem sc_Rounds___eq__ : FnScope ["self", "other"] ["self", "other"] (defScope s_Rounds___eq__) := ⟨rfl, rfl, rfl, by decide +kernel, rfl, by decide +kernel, by decide +kernel⟩
/-! rounds: each house of a lot that is not done steps once -/
def steppers (lot : List Nat) (ls : List Seat) : List Nat := lot.filter fun h => !decide ((ls.getD h seat0).1 = "done")
def atS (T : Nat → Tab) (lot : List Nat) (ls : List Seat) : Nat → List Seat
  | 0 => ls
  | k + 1 => runS T (atS T lot ls k) (steppers lot (atS T lot ls k))
def stepsTo (T : Nat → Tab) (lot : List Nat) (ls : List Seat) : Nat → List Nat
  | 0 => []
  | k + 1 => stepsTo T lot ls k ++ steppers lot (atS T lot ls k)
structure RoundsAt (T : Nat → Tab) (lot : List Nat) (ls : List Seat) (t j : Nat) : Prop where
  lt : j < t
  few : t ≤ 2501
  eq : atS T lot ls j = atS T lot ls t
  nd : ((List.range t).map (atS T lot ls)).Nodup
theorem stepsTo_len (T : Nat → Tab) (lot : List Nat) (ls : List Seat) : ∀ k, (stepsTo T lot ls k).length ≤ lot.length * k
  | 0 => Nat.zero_le _
  | k + 1 => by
    have := stepsTo_len T lot ls k
    have h2 : (steppers lot (atS T lot ls k)).length ≤ lot.length := List.length_filter_le _ _
    rw [stepsTo, List.length_append, Nat.mul_succ]; omega
theorem stepsTo_lt {T : Nat → Tab} {lot : List Nat} {ls : List Seat} {n : Nat} (hl : ∀ h ∈ lot, h < n) : ∀ k, ∀ h ∈ stepsTo T lot ls k, h < n
  | 0, h, hh => by cases hh
  | k + 1, h, hh => by
    rcases List.mem_append.mp hh with z | z
    · exact stepsTo_lt hl k h z
    · exact hl h ((List.mem_filter.mp z).1)
theorem stepsTo_pre (T : Nat → Tab) (lot : List Nat) (ls : List Seat) (j : Nat) : ∀ d, stepsTo T lot ls j <+: stepsTo T lot ls (j + d)
  | 0 => List.prefix_refl _
  | d + 1 => (stepsTo_pre T lot ls j d).trans (List.prefix_append _ _)
/-- a step leaves the other houses -/
theorem step_other {T : Nat → Tab} {ls : List Seat} {h k : Nat} (hh : h < ls.length) (hk : k ≠ h) : (stepS T ls h).getD k seat0 = ls.getD k seat0 := by
  unfold stepS
  rw [getD_set hh, if_neg hk]
theorem round_ok {n m : Nat} {Ss : List Nat} {tabs : List Tab} (tok : TabsOk n m Ss tabs) : ∀ (lot : List Nat) (ls : List Seat), StOk n m tabs ls → lot.Nodup → (∀ h ∈ lot, h < n ∧ (ls.getD h seat0).1 ≠ "done") → StOk n m tabs (runS (tabsF tabs) ls lot)
  | [], ls, so, _, _ => so
  | h :: r, ls, so, nd, hh => by
    obtain ⟨h1, h2⟩ := hh h (by simp)
    rw [List.nodup_cons] at nd
    exact round_ok tok r (stepS (tabsF tabs) ls h) (so.step tok h1 h2) nd.2 fun k hk => by
      obtain ⟨a, b⟩ := hh k (List.mem_cons_of_mem _ hk)
      refine ⟨a, ?_⟩
      rw [step_other (by rw [so.len]; exact h1) (fun z => nd.1 (by rw [← z]; exact hk))]
      exact b
theorem steppers_ok {n : Nat} {lot : List Nat} {ls : List Seat} (hl : ∀ h ∈ lot, h < n) : ∀ h ∈ steppers lot ls, h < n ∧ (ls.getD h seat0).1 ≠ "done" := fun h hh => by
  obtain ⟨a, b⟩ := List.mem_filter.mp hh
  exact ⟨hl h a, by simpa using b⟩
theorem atS_ok {n m : Nat} {Ss : List Nat} {tabs : List Tab} {lot : List Nat} {ls : List Seat} (tok : TabsOk n m Ss tabs) (so : StOk n m tabs ls) (nd : lot.Nodup) (hl : ∀ h ∈ lot, h < n) : ∀ k, StOk n m tabs (atS (tabsF tabs) lot ls k)
  | 0 => so
  | k + 1 => round_ok tok _ _ (atS_ok tok so nd hl k) (nd.sublist List.filter_sublist) (steppers_ok hl)
/-! all standings that can be -/
def allSeats (S m : Nat) : List Seat := ((List.range S).flatMap fun s : Nat => (oms S).map fun c => (("write", (s : Int), c) : Seat)) ++ (((List.range S).map fun s : Nat => (("scan", (s : Int), some (s : Int)) : Seat)) ++ (List.range m).flatMap fun v : Nat => (List.range S).map fun s : Nat => (("done", (v : Int), some (s : Int)) : Seat))
theorem flat_len {α β : Type} {f : α → List β} {c : Nat} : ∀ {l : List α}, (∀ x ∈ l, (f x).length = c) → (l.flatMap f).length = l.length * c
  | [], _ => by simp
  | x :: l, h => by
    rw [List.flatMap_cons, List.length_append, h x (by simp), flat_len fun y hy => h y (List.mem_cons_of_mem _ hy), List.length_cons, Nat.succ_mul]; omega
theorem allSeats_len (S m : Nat) : (allSeats S m).length = S * (S + 1) + (S + m * S) := by
  unfold allSeats
  rw [List.length_append, List.length_append, flat_len (c := S + 1) (fun x _ => by rw [List.length_map, oms_len]), flat_len (c := S) (fun x _ => by rw [List.length_map, List.length_range]), List.length_map, List.length_range, List.length_range]
theorem in_allSeats {S m : Nat} {x : Seat} (h : SeatOk S m x) : x ∈ allSeats S m := by
  obtain ⟨wd, hd, c⟩ := x
  unfold allSeats
  rcases h.word with ⟨w1, w2, w3⟩ | ⟨w1, w2, w3, w4⟩ | ⟨w1, w2, w3, w4⟩
  · dsimp only at w1 w2 w3
    refine List.mem_append_left _ (List.mem_flatMap.mpr ⟨hd.toNat, List.mem_range.mpr (by omega), List.mem_map.mpr ⟨c, mem_oms h.cell, ?_⟩⟩)
    rw [w1, show ((hd.toNat : Nat) : Int) = hd by omega]
  · dsimp only at w1 w2 w3 w4
    refine List.mem_append_right _ (List.mem_append_left _ (List.mem_map.mpr ⟨hd.toNat, List.mem_range.mpr (by omega), ?_⟩))
    rw [w1, w4, show ((hd.toNat : Nat) : Int) = hd by omega]
  · dsimp only at w1 w2 w3 w4
    cases c with
    | none => exact absurd rfl w4
    | some k =>
      have hk := h.cell k rfl
      refine List.mem_append_right _ (List.mem_append_right _ (List.mem_flatMap.mpr ⟨hd.toNat, List.mem_range.mpr (by omega), List.mem_map.mpr ⟨k.toNat, List.mem_range.mpr (by omega), ?_⟩⟩))
      rw [w1, show ((hd.toNat : Nat) : Int) = hd by omega, show ((k.toNat : Nat) : Int) = k by omega]
theorem stand_eta {ls : List Seat} : ls = (List.range ls.length).map fun k => ls.getD k seat0 := by
  apply List.ext_getElem
  · simp
  · intro i h1 h2
    simp only [List.getElem_map, List.getElem_range]
    rw [List.getD_eq_getElem?_getD, List.getElem?_eq_getElem h1]; rfl
def allStand2 (a b : List Seat) : List (List Seat) := a.flatMap fun x => b.map fun y => [x, y]
def allStand3 (a b c : List Seat) : List (List Seat) := a.flatMap fun x => b.flatMap fun y => c.map fun z => [x, y, z]
theorem nodup_le {α : Type} [DecidableEq α] : ∀ {a b : List α}, a.Nodup → (∀ x ∈ a, x ∈ b) → a.length ≤ b.length
  | [], _, _, _ => Nat.zero_le _
  | x :: a, b, nd, h => by
    rw [List.nodup_cons] at nd
    have hx := h x (by simp)
    have := nodup_le (b := b.erase x) nd.2 fun y hy => (List.mem_erase_of_ne (fun z => nd.1 (by rw [← z]; exact hy))).mpr (h y (List.mem_cons_of_mem _ hy))
    rw [List.length_erase_of_mem hx] at this
    have : 0 < b.length := List.length_pos_of_mem hx
    rw [List.length_cons]; omega
theorem least_at {p : Nat → Prop} (dec : ∀ k, p k ∨ ¬ p k) : ∀ N, (∃ k, k ≤ N ∧ p k) → ∃ t, t ≤ N ∧ p t ∧ ∀ k < t, ¬ p k
  | 0, ⟨k, hk, h⟩ => ⟨0, Nat.le_refl _, by rwa [show k = 0 by omega] at h, fun k hk => by omega⟩
  | N + 1, ⟨k, hk, h⟩ => by
    by_cases z : ∃ k, k ≤ N ∧ p k
    · obtain ⟨t, h1, h2, h3⟩ := least_at dec N z
      exact ⟨t, by omega, h2, h3⟩
    · refine ⟨k, hk, h, fun i hi hp => z ⟨i, by omega, hp⟩⟩
/-- how big the world may be -/
def WorldOk (n m : Nat) (Ss : List Nat) : Prop := (n = 2 ∧ m ≤ 3 ∧ ∀ S ∈ Ss, S ≤ 5) ∨ (n = 3 ∧ m = 2 ∧ ∀ S ∈ Ss, S ≤ 2)
theorem seats_few {S m : Nat} (h1 : S ≤ 5) (h2 : m ≤ 3) : (allSeats S m).length ≤ 50 := by
  rw [allSeats_len]
  have a1 : S * (S + 1) ≤ 5 * 6 := Nat.mul_le_mul h1 (by omega)
  have a2 : m * S ≤ 3 * 5 := Nat.mul_le_mul h2 h1
  omega
theorem seats_few2 {S m : Nat} (h1 : S ≤ 2) (h2 : m ≤ 2) : (allSeats S m).length ≤ 12 := by
  rw [allSeats_len]
  have a1 : S * (S + 1) ≤ 2 * 3 := Nat.mul_le_mul h1 (by omega)
  have a2 : m * S ≤ 2 * 2 := Nat.mul_le_mul h2 h1
  omega
theorem stand_few {n m : Nat} {Ss : List Nat} {tabs : List Tab} (tok : TabsOk n m Ss tabs) (wo : WorldOk n m Ss) : ∃ all : List (List Seat), all.length ≤ 2500 ∧ ∀ ls, StOk n m tabs ls → ls ∈ all := by
  have sz : ∀ k, k < n → (tabsF tabs k).1 ∈ Ss := fun k hk => by
    rw [(tabs_at tok hk).2.st]
    have hl : k < Ss.length := by rw [tok.lenS]; exact hk
    rw [List.getD_eq_getElem?_getD, List.getElem?_eq_getElem hl]
    exact List.getElem_mem hl
  rcases wo with ⟨rfl, hm, hS⟩ | ⟨rfl, hm, hS⟩
  · refine ⟨allStand2 (allSeats (tabsF tabs 0).1 m) (allSeats (tabsF tabs 1).1 m), ?_, fun ls so => ?_⟩
    · have a := seats_few (hS _ (sz 0 (by omega))) hm
      have b := seats_few (hS _ (sz 1 (by omega))) hm
      unfold allStand2
      rw [flat_len (c := (allSeats (tabsF tabs 1).1 m).length) fun x _ => by rw [List.length_map]]
      exact Nat.mul_le_mul a b
    · rw [stand_eta (ls := ls), so.len]
      exact List.mem_flatMap.mpr ⟨_, in_allSeats (so.seat 0 (by omega)), List.mem_map.mpr ⟨_, in_allSeats (so.seat 1 (by omega)), rfl⟩⟩
  · refine ⟨allStand3 (allSeats (tabsF tabs 0).1 m) (allSeats (tabsF tabs 1).1 m) (allSeats (tabsF tabs 2).1 m), ?_, fun ls so => ?_⟩
    · have a := seats_few2 (m := m) (hS _ (sz 0 (by omega))) (by omega)
      have b := seats_few2 (m := m) (hS _ (sz 1 (by omega))) (by omega)
      have c := seats_few2 (m := m) (hS _ (sz 2 (by omega))) (by omega)
      unfold allStand3
      rw [flat_len (c := (allSeats (tabsF tabs 1).1 m).length * (allSeats (tabsF tabs 2).1 m).length) fun x _ => by rw [flat_len (c := (allSeats (tabsF tabs 2).1 m).length) fun x _ => by rw [List.length_map]]]
      have h1 := Nat.mul_le_mul b c
      have h2 := Nat.mul_le_mul a h1
      omega
    · rw [stand_eta (ls := ls), so.len]
      exact List.mem_flatMap.mpr ⟨_, in_allSeats (so.seat 0 (by omega)), List.mem_flatMap.mpr ⟨_, in_allSeats (so.seat 1 (by omega)), List.mem_map.mpr ⟨_, in_allSeats (so.seat 2 (by omega)), rfl⟩⟩⟩
/-- the rounds come back to where one has begun -/
theorem rounds_at {n m : Nat} {Ss : List Nat} {tabs : List Tab} {lot : List Nat} {ls : List Seat} (tok : TabsOk n m Ss tabs) (wo : WorldOk n m Ss) (so : StOk n m tabs ls) (nd : lot.Nodup) (hl : ∀ h ∈ lot, h < n) : ∃ t j, RoundsAt (tabsF tabs) lot ls t j := by
  obtain ⟨all, hall, hin⟩ := stand_few tok wo
  have nodup_to : ∀ N, (∀ k ≤ N, atS (tabsF tabs) lot ls k ∉ (List.range k).map (atS (tabsF tabs) lot ls)) → ((List.range (N + 1)).map (atS (tabsF tabs) lot ls)).Nodup := fun N => by
    induction N with
    | zero => intro _; simp
    | succ N ih =>
      intro h
      rw [List.range_succ, List.map_append, List.nodup_append]
      refine ⟨ih fun k hk => h k (by omega), by simp, fun x hx y hy z => ?_⟩
      simp only [List.map_cons, List.map_nil, List.mem_singleton] at hy
      rw [z, hy] at hx
      exact h (N + 1) (Nat.le_refl _) hx
  have ex : ∃ k, k ≤ 2501 ∧ atS (tabsF tabs) lot ls k ∈ (List.range k).map (atS (tabsF tabs) lot ls) := by
    refine Classical.byContradiction fun hc => ?_
    have nd2 := nodup_to 2501 fun k hk hm => hc ⟨k, hk, hm⟩
    have := nodup_le nd2 (b := all) fun x hx => by
      obtain ⟨k, _, rfl⟩ := List.mem_map.mp hx
      exact hin _ (atS_ok tok so nd hl k)
    rw [List.length_map, List.length_range] at this
    omega
  obtain ⟨t, ht, hd, hmin⟩ := least_at (fun _ => Classical.em _) 2501 ex
  obtain ⟨j, hj, e⟩ := List.mem_map.mp hd
  have hjt := List.mem_range.mp hj
  refine ⟨t, j, hjt, ht, e, ?_⟩
  have := nodup_to (t - 1) fun k hk => hmin k (by omega)
  rwa [show t - 1 + 1 = t by omega] at this
/-! as_tuples of lists and tuples -/
mutual
def toT : PyData → PyData
  | .list ds => .tuple (toTL ds)
  | .tuple ds => .tuple (toTL ds)
  | d => d
def toTL : List PyData → List PyData
  | [] => []
  | d :: ds => toT d :: toTL ds
end
theorem toTL_map : ∀ ds : List PyData, toTL ds = ds.map toT
  | [] => rfl
  | d :: ds => by rw [toTL, List.map_cons, toTL_map ds]
/-- atoms, or lists or tuples of what is fine -/
def upG (p : PyData → Prop) : PyData → Prop
  | .tuple ds => ds.length ≤ 40000 ∧ ∀ d ∈ ds, p d
  | .list ds => ds.length ≤ 40000 ∧ ∀ d ∈ ds, p d
  | d => atomS d = true
abbrev lg0 : PyData → Prop := upG fun _ => False
abbrev lg1 : PyData → Prop := upG lg0
abbrev lg2 : PyData → Prop := upG lg1
section
variable {P : Program} {w : World} {K : PySem.W.Frag} {mg : Str → Option Value} {base : Heap} {CT CR : Addr}
variable {pt : Option Pt} {σ : L2.St} {F F' F0 H0 H F2 H2 : Hp} {te ti ta tb ty td : TE} {ts tr : TA} {t : TT} {D : Ends} {tz tu tw : TS} {l a x dx : Addr} {xs : List NEnt} {fs : List (Str × V)} {f : Str} {i : Nat} {L : List Own1}
abbrev spAsG (K : PySem.W.Frag) (p : PyData → Prop) : Sp := PSp K (fun d : PyData => [d]) p toT
theorem asg_step {j : Nat} {p : PyData → Prop} {f fS : Addr} {fd fdS : FuncData} (F_as_tuples : Fun K "as_tuples" "as_tuples" s_as_tuples f fd) (T : Tx mg) (b_as_tuples : Binds K fd ["thing"] []) (g_as_tuples : mg "as_tuples" = some (.ref f))
    (F_is_sequence : Fun K "is_sequence" "is_sequence" s_is_sequence fS fdS) (b_is_sequence : Binds K fdS ["thing"] []) (g_is_sequence : mg "is_sequence" = some (.ref fS))
    (hj : 1 ≤ j) (G_as_tuples : FnOk P w K mg base CX0 j f fd ["thing"] (spAsG K p)) : FnOk P w K mg base CX0 (j + 1) f fd ["thing"] (spAsG K (upG p)) := by
  have G_is_sequence : FnOk P w K mg base CX0 j fS fdS ["thing"] (spSeq K) := Fv.FnOk.up (ok_seq F_is_sequence T) hj
  refine Fun.ok F_as_tuples sc_as_tuples (PSp.len (fun _ => rfl)) (fun cdv A outer s H vs Q E hr h => ?_)
  obtain ⟨d, F, hd, e, ha, q⟩ := h
  obtain ⟨v, rfl, hv⟩ := rpAll1 ha
  refine ⟨_, (pss_cons (ps_if (pt_val (pe_call G_is_sequence hr (by rfl) g_is_sequence F_is_sequence.kp b_is_sequence .nil pass0 (pa_cons (pv 0) pa_nil))) (pss_one (ps_ret (pe_callTy (c_tup (K := K)) (by rfl) T.tuple (by decide +kernel) (pa_cons (pe_lc (own := [("part", 1)]) (g := gName 1) rfl sc_as_tuples.nd (pi_seq (K := K) (pv 0)) (blkOk_by (own := [("part", 1)]) (N := ["thing", "part"]) (sc := (defScope s_as_tuples)) (by decide +kernel)) (fun _ _ _ _ _ => pg_name (i := 1) sc_as_tuples.nd rfl (by first | exact Or.inl rfl | exact Or.inr rfl)) (fun _ _ _ _ _ => pts_nil) (fun _ _ _ _ _ => (pe_call G_as_tuples hr (by rfl) g_as_tuples F_as_tuples.kp b_as_tuples .nil pass0 (pa_cons (pv 1) pa_nil)))) pa_nil)))) pss_nil)
    (pss_one (ps_ret (pv 0)))), ?_⟩
  refine t_when (b := isL d || isT d) (Step.refl e .nil) (et_B (g_call d (gs_one (g_var rfl hv)) rfl trivial)) (fun hb F2 H2 s2 e2 => ?_) (fun hb F2 H2 s2 e2 => ?_)
  · obtain ⟨ds, hds, h1, h2, h3⟩ : ∃ ds, (d = .list ds ∨ d = .tuple ds) ∧ ds.length ≤ 40000 ∧ (∀ e ∈ ds, p e) ∧ toT d = .tuple (ds.map toT) := by
      cases d with
      | list ds => exact ⟨ds, .inl rfl, hd.1, hd.2, by rw [toT, toTL_map]⟩
      | tuple ds => exact ⟨ds, .inr rfl, hd.1, hd.2, by rw [toT, toTL_map]⟩
      | _ => simp [isL, isT] at hb
    exact t_retI (K := K) s2 ((g_cbI (gs_one (g_lcEM id ds toT (WiG.imp (w_seqI hds (g_var rfl (Rp.mono e2 _ _ hv))) fun _ h => by rw [h, List.map_id]) (by omega) (fun _ => rfl) fun k hk F' e' y hy => g_call k (gs_one (g_var rfl hy)) rfl (h2 k hk))) rc_tupL).is h3.symm) q
  · have e3 : toT d = d := by cases d <;> simp_all [isL, isT, toT]
    exact t_retI (K := K) s2 ((g_var rfl (Rp.mono e2 _ _ hv)).is e3.symm) q
theorem ok_asG {f fS : Addr} {fd fdS : FuncData} (Fn : Fun K "as_tuples" "as_tuples" s_as_tuples f fd) (T : Tx mg) (b_as_tuples : Binds K fd ["thing"] []) (g_as_tuples : mg "as_tuples" = some (.ref f))
    (F_is_sequence : Fun K "is_sequence" "is_sequence" s_is_sequence fS fdS) (b_is_sequence : Binds K fdS ["thing"] []) (g_is_sequence : mg "is_sequence" = some (.ref fS)) : FnOk P w K mg base CX0 4 f fd ["thing"] (spAsG K lg2) :=
  asg_step Fn T b_as_tuples g_as_tuples F_is_sequence b_is_sequence g_is_sequence (by decide) (asg_step Fn T b_as_tuples g_as_tuples F_is_sequence b_is_sequence g_is_sequence (by decide) (asg_step Fn T b_as_tuples g_as_tuples F_is_sequence b_is_sequence g_is_sequence (by decide)
    ⟨PSp.len (fun _ => rfl), fun _ _ _ _ _ _ _ _ _ _ _ _ _ h => by obtain ⟨_, _, hf, _⟩ := h; exact hf.elim⟩))
theorem atom_int (i : Int) : lg1 (.int i) := rfl
theorem toT_nats {d : PyData} {ks : List Nat} (h : d = .list (ks.map natD) ∨ d = .tuple (ks.map natD)) (hz : ks.length ≤ 40000) : toT d = dN ks ∧ lg2 d := by
  have e : (ks.map natD).map toT = ks.map natD := by
    rw [List.map_map]; rfl
  have al : ∀ d ∈ ks.map natD, lg1 d := fun d hd => by
    obtain ⟨k, _, rfl⟩ := List.mem_map.mp hd
    exact rfl
  rcases h with rfl | rfl
  · exact ⟨by rw [toT, toTL_map, e], by rw [List.length_map]; exact hz, al⟩
  · exact ⟨by rw [toT, toTL_map, e], by rw [List.length_map]; exact hz, al⟩
theorem toT_stand {ls : List Seat} (hz : ls.length ≤ 60) : toT (standD ls) = standD ls ∧ lg2 (standD ls) := by
  have a1 : ∀ x : Seat, toT (seatD x) = seatD x := fun x => by
    obtain ⟨a, b, c⟩ := x
    cases c <;> rfl
  refine ⟨?_, by rw [List.length_map]; omega, fun d hd => ?_⟩
  · unfold standD
    rw [toT, toTL_map, List.map_map]
    exact congrArg PyData.tuple (List.map_congr_left fun x _ => a1 x)
  · obtain ⟨⟨a, b, c⟩, _, rfl⟩ := List.mem_map.mp hd
    refine ⟨by show 3 ≤ 40000; decide, fun d hd => ?_⟩
    simp only [List.mem_cons, List.not_mem_nil, or_false] at hd
    rcases hd with rfl | rfl | rfl
    · rfl
    · rfl
    · cases c <;> rfl
/-! the class Rounds -/
structure RndAt (K : PySem.W.Frag) (C : Addr) (F : Hp) (x : Addr) (run loop : List Nat) : Prop where
  ex : ∃ dx rv lv, F x = some (.ins C dx [("run", rv), ("loop", lv)]) ∧ F dx = some (.own x) ∧ Rp K F rv (dN run) ∧ Rp K F lv (dN loop)
theorem RndAt.mono {C : Addr} {run loop : List Nat} (e : Ex F F') (h : RndAt K C F x run loop) : RndAt K C F' x run loop := by
  obtain ⟨dx, rv, lv, h1, h2, h3, h4⟩ := h.ex
  exact ⟨dx, rv, lv, e _ _ h1, e _ _ h2, Rp.mono e _ _ h3, Rp.mono e _ _ h4⟩
structure RndC (K : PySem.W.Frag) (C : Addr) : Prop where
  cl : Cls K C
  nR : NoAttr K C "run"
  nL : NoAttr K C "loop"
/-- isinstance and != ask this of it -/
structure RndT (K : PySem.W.Frag) (C : Addr) : Prop where
  ty : ∀ (H : Hp) (a dx : Addr) (fs : List (Str × V)), H a = some (.ins C dx fs) → TyOf K H (.ref a) (.ref C)
  kit : PySem.W.kitOne K (.ref C) (.ref C) = some true
  ne : PySem.W.findIn K (.ref C) "__ne__" = some (some (.builtin "object.__ne__"))
  ob : PySem.W.subIn K (.ref C) (.type "object") = some true
abbrev seqN (d : PyData) (ks : List Nat) : Prop := (d = .list (ks.map natD) ∨ d = .tuple (ks.map natD)) ∧ ks.length ≤ 40000
def spRnd (K : PySem.W.Frag) (C : Addr) : Sp := fun vs H Q _ => ∃ (x dx : Addr) (d1 d2 : PyData) (run loop : List Nat) (F : Hp) (v1 v2 : V), vs = [.ref x, v1, v2] ∧ H x = some (.ins C dx []) ∧ H dx = some (.own x) ∧ dx ≠ x ∧ F x = none ∧ F dx = none ∧ Ex F H ∧ Rp K F v1 d1 ∧ Rp K F v2 d2 ∧
  (seqN d1 run ∧ seqN d2 loop) ∧ ∀ F2 H2, Step none F (Fv.del (Fv.del H x) dx) F2 H2 → RndAt K C F2 x run loop → Q .non H2
theorem ok_rnd {f fA fS : Addr} {fd fdA fdS : FuncData} (Fn : Fun K "__init__" "Rounds.__init__" s_Rounds___init__ f fd) (T : Tx mg) (RC : RndC K CR)
    (F_as_tuples : Fun K "as_tuples" "as_tuples" s_as_tuples fA fdA) (b_as_tuples : Binds K fdA ["thing"] []) (g_as_tuples : mg "as_tuples" = some (.ref fA))
    (F_is_sequence : Fun K "is_sequence" "is_sequence" s_is_sequence fS fdS) (b_is_sequence : Binds K fdS ["thing"] []) (g_is_sequence : mg "is_sequence" = some (.ref fS)) :
    FnOk P w K mg base CX0 5 f fd ["self", "run", "loop"] (spRnd K CR) := by
  have G_as_tuples : FnOk P w K mg base CX0 4 fA fdA ["thing"] (spAsG K lg2) := ok_asG F_as_tuples T b_as_tuples g_as_tuples F_is_sequence b_is_sequence g_is_sequence
  refine Fn.ok sc_Rounds___init__ (fun vs H Q E ⟨_, _, _, _, _, _, _, _, _, h, _⟩ => by rw [h]; rfl) (fun cdv A outer s H vs Q E hr h => ?_)
  obtain ⟨x, dx, d1, d2, run, loop, F, v1, v2, rfl, hox, hodx, hne, fx, fdx, e, h1, h2, ⟨⟨q1, z1⟩, q2, z2⟩, q⟩ := h
  obtain ⟨t1, g1⟩ := toT_nats q1 z1
  obtain ⟨t2, g2⟩ := toT_nats q2 z2
  refine ⟨_, (pss_cons (ps_fld (pv 0) (pe_call G_as_tuples (hr.mono (by decide)) (by rfl) g_as_tuples F_as_tuples.kp b_as_tuples .nil pass0 (pa_cons (pv 1) pa_nil)) rfl)
    (pss_one (ps_fld (pv 0) (pe_call G_as_tuples (hr.mono (by decide)) (by rfl) g_as_tuples F_as_tuples.kp b_as_tuples .nil pass0 (pa_cons (pv 2) pa_nil)) rfl))), ?_⟩
  have b0 : Fv.del H x x = none := Fv.del_same
  refine t_fld (K := K) (Step.own1 e x) b0 fx rfl hox RC.cl RC.nR (by decide) (EvG.toX ((g_call d1 (gs_one (g_var (i := 1) rfl h1)) rfl g1).is t1)) fun v5 F5 H5 hv5 s5 e5 f5x h5x => ?_
  refine t_fld1 (K := K) s5 b0 f5x rfl h5x RC.cl RC.nL (by show 1 < 1000; decide) (EvG.toX ((g_call d2 (gs_one (g_var (i := 2) rfl (Rp.mono e5 _ _ h2))) rfl g2).is t2)) fun v9 F9 H9 hv9 s9 e9 f9x h9x => ?_
  have hdx : (Fv.del H x) dx = some (.own x) := by rw [Fv.del_ne hne]; exact hodx
  have f9d : F9 dx = none := s9.new dx fdx (by rw [hdx]; simp)
  have h9d : H9 dx = some (.own x) := s9.keep.ex dx _ hdx
  have s10 : Step none F (Fv.del (Fv.del H x) dx) (upd F9 dx (.own x)) H9 := (s9.less Fv.del_ex).add f9d h9d Fv.del_same
  have f10x : upd F9 dx (.own x) x = none := by rw [upd_ne hne.symm]; exact f9x
  have s11 := s10.add (a := x) f10x h9x (by rw [Fv.del_ne hne.symm, Fv.del_same])
  have ee : Ex F9 (upd (upd F9 dx (.own x)) x (.ins CR dx (putF "loop" v9 (putF "run" v5 [])))) := (Ex.new f9d).trans (Ex.new f10x)
  refine q _ H9 s11 ⟨dx, v5, v9, upd_same, ?_, Rp.mono (e9.trans ee) _ _ hv5, Rp.mono ee _ _ hv9⟩
  rw [upd_ne hne]; exact upd_same
/-- Rounds(..) -/
theorem x_rnd {C : Addr} {E : XK} {d1 d2 : PyData} {run loop : List Nat} (h : EvsG K pt ts σ F (· = [d1, d2])) (hz : seqN d1 run ∧ seqN d2 loop) :
    EvX pt (tMake C (spRnd K C) [] E ts) σ F (fun v F2 => ∃ x, v = .ref x ∧ RndAt K C F2 x run loop) := fun H1 i g Q q =>
  h H1 i g _ fun ds vs F2 H2 hd s hv => by
    subst hd
    obtain ⟨a, b, rfl, ha, hb⟩ := rpAll2 hv
    intro x dx hx hdx hne
    have fr : ∀ {a : Addr}, H2 a = none → F2 a = none := fun {a} h => by
      cases w : F2 a with
      | none => rfl
      | some o => rw [s.inn _ _ w] at h; cases h
    have n1 : (upd H2 dx (.own x)) x = none := by rw [upd_ne hne.symm]; exact hx
    have e1 : Ex H2 (upd (upd H2 dx (.own x)) x (.ins C dx [])) := (Ex.new hdx).trans (Ex.new n1)
    refine ⟨x, dx, d1, d2, run, loop, F2, a, b, rfl, upd_same, by rw [upd_ne hne]; exact upd_same, hne, fr hx, fr hdx, s.inn.trans e1, ha, hb, hz, fun F3 H3 s3 fam => ⟨rfl, ?_⟩⟩
    have back : Fv.del (Fv.del (upd (upd H2 dx (.own x)) x (.ins C dx [])) x) dx = H2 := by
      funext b
      by_cases z : b = dx
      · rw [z, Fv.del_same, hdx]
      · rw [Fv.del_ne z]
        by_cases y : b = x
        · rw [y, Fv.del_same, hx]
        · rw [Fv.del_ne y, upd_ne y, upd_ne z]
    rw [back] at s3
    exact q _ F3 H3 ⟨x, rfl, fam⟩ (s.trans (s3.lift s.good))
theorem shaped_dN (ks : List Nat) : SeqAt.shaped (dN ks) = true := by
  have := shaped_dT (ks.map fun k : Nat => (k : Int))
  rwa [show dT (ks.map fun k : Nat => (k : Int)) = dN ks by unfold dT dN; rw [List.map_map]; rfl] at this
theorem eqv_dN (a b : List Nat) : PyData.eqv (dN a) (dN b) = decide (a = b) := by
  have e : ∀ ks : List Nat, dN ks = dT (ks.map fun k : Nat => (k : Int)) := fun ks => by unfold dT dN; rw [List.map_map]; rfl
  rw [e, e, eqv_dT]
  have : (a.map fun k : Nat => (k : Int)) = (b.map fun k : Nat => (k : Int)) ↔ a = b := List.map_inj_right fun x y h => by omega
  simp only [this]
theorem RndAt.fR {C : Addr} {run loop : List Nat} {i : Nat} (h : RndAt K C F x run loop) (RC : RndC K C) (hi : σ[i]? = some (some (.ref x))) : EvG K pt (tFld K (tVar i) "run") σ F (Is (dN run)) := by
  obtain ⟨dx, rv, lv, h1, h2, h3, h4⟩ := h.ex
  exact g_fld hi h1 RC.cl RC.nR rfl h3
theorem RndAt.fL {C : Addr} {run loop : List Nat} {i : Nat} (h : RndAt K C F x run loop) (RC : RndC K C) (hi : σ[i]? = some (some (.ref x))) : EvG K pt (tFld K (tVar i) "loop") σ F (Is (dN loop)) := by
  obtain ⟨dx, rv, lv, h1, h2, h3, h4⟩ := h.ex
  exact g_fld hi h1 RC.cl RC.nL rfl h4
theorem g_isR {C : Addr} {run loop : List Nat} {i : Nat} (RT : RndT K C) (hi : σ[i]? = some (some (.ref x))) (b : RndAt K C F x run loop) : EvG K pt (tCB (rIsi K) (tCons (tVar i) (tCons (tC (.ref C)) tNil))) σ F (Is (.bool true)) := fun H1 g i' Q q => by
  obtain ⟨dx, rv, lv, h1, _⟩ := b.ex
  exact ⟨_, hi, .ref x, .ref C, _, _, true, rfl, .own C, .base (RT.ty H1 x dx _ (g _ _ h1)), RT.kit, q _ _ F H1 rfl (.refl g i') (.bl true)⟩
def eqRB (r1 l1 r2 l2 : List Nat) : Bool := decide (r1 = r2) && decide (l1 = l2)
def spREq (K : PySem.W.Frag) (C : Addr) : Sp := fun vs H Q _ => ∃ (a b : Addr) (r1 l1 r2 l2 : List Nat) (F : Hp), vs = [.ref a, .ref b] ∧ Ex F H ∧ RndAt K C F a r1 l1 ∧ RndAt K C F b r2 l2 ∧
  ∀ F2 H2, Step none F H F2 H2 → Q (.bl (eqRB r1 l1 r2 l2)) H2
theorem ok_req {f : Addr} {fd : FuncData} (Fn : Fun K "__eq__" "Rounds.__eq__" s_Rounds___eq__ f fd) (T : Tx mg) (RC : RndC K CR) (RT : RndT K CR) (g_Rounds : mg "Rounds" = some (.ref CR)) : FnOk P w K mg base CX0 1 f fd ["self", "other"] (spREq K CR) := by
  refine Fn.ok sc_Rounds___eq__ (fun vs H Q E ⟨_, _, _, _, _, _, _, h, _⟩ => by rw [h]; rfl) (fun cdv A outer s H vs Q E hr h => ?_)
  obtain ⟨a, b, r1, l1, r2, l2, F, rfl, e, ba, bb, q⟩ := h
  refine ⟨_, (pss_one (ps_ret (pe_and (pe_callB (c_isi (K := K)) (by rfl) T.isinstance (by decide +kernel) (pa_cons (pv 1) (pa_cons (pe_glob (v := .ref CR) (by rfl) g_Rounds rfl) pa_nil))) (pe_and (pe_cmpR (o_eqD (K := K) hr.units) (e_fld (K := K) (pv 0) rfl) (e_fld (K := K) (pv 1) rfl) (nomark _)) (pe_one (pe_cmpR (o_eqD (K := K) hr.units) (e_fld (K := K) (pv 0) rfl) (e_fld (K := K) (pv 1) rfl) (nomark _))))))), ?_⟩
  refine t_retI (K := K) (d := .bool (eqRB r1 l1 r2 l2)) (Step.refl e .nil) ((g_andV (a := true) (b := eqRB r1 l1 r2 l2) (g_isR RT rfl bb) fun _ => g_andV (a := decide (r1 = r2)) (b := decide (l1 = l2)) ((g_opI (ba.fR RC rfl) (bb.fR RC rfl) (rv_eqD (shaped_dN _) (shaped_dN _))).is (by rw [eqv_dN])) fun _ => (g_opI (ba.fL RC rfl) (bb.fL RC rfl) (rv_eqD (shaped_dN _) (shaped_dN _))).is (by rw [eqv_dN])).is rfl) fun u F2 H2 s2 hu => ?_
  obtain rfl := rp_bool hu
  exact q F2 H2 s2
theorem fnSame {X : Cx} {k : Nat} {f : Addr} {fd : FuncData} {ps : List Str} {sp : Sp} (h : FnOk X.prog X.w X.K X.mg X.base CX0 k f fd ps sp) : FnOk X.prog X.w X.K X.mg X.base CX0 k f fd ps sp := h
theorem g_req {C : Addr} {E : XK} {r1 l1 r2 l2 : List Nat} (ha : EvX pt ta σ F (fun v F2 => ∃ b, v = .ref b ∧ RndAt K C F2 b r1 l1)) (hb : ∀ F', Ex F F' → EvX pt tb σ F' (fun v F2 => ∃ b, v = .ref b ∧ RndAt K C F2 b r2 l2)) :
    EvG K pt (tOp (rEqI C (spREq K C) E) ta tb) σ F (Is (.bool (eqRB r1 l1 r2 l2))) := fun H1 g i' Q q => ha H1 g i' _ fun u F1 H2 ⟨a, eu, ba⟩ s1 => hb F1 s1.sub H2 s1.inn s1.good _ fun v F2 H3 ⟨b, ev, bb⟩ s => by
  subst eu; subst ev
  have ba2 := ba.mono s.sub
  obtain ⟨dx, _, _, h1, _⟩ := id ba2.ex
  obtain ⟨dy, _, _, h2, _⟩ := id bb.ex
  exact ⟨a, b, dx, dy, _, _, rfl, rfl, s.inn _ _ h1, s.inn _ _ h2, a, b, r1, l1, r2, l2, F2, rfl, s.inn, ba2, bb, fun F3 H3 s3 => ⟨_, rfl, q _ _ F3 H3 rfl ((s1.trans s).trans (s3.lift s.good)) (.bl _)⟩⟩
theorem g_rne {C : Addr} {E : XK} {r1 l1 r2 l2 : List Nat} (ha : EvX pt ta σ F (fun v F2 => ∃ b, v = .ref b ∧ RndAt K C F2 b r1 l1)) (hb : ∀ F', Ex F F' → EvX pt tb σ F' (fun v F2 => ∃ b, v = .ref b ∧ RndAt K C F2 b r2 l2)) :
    EvG K pt (tOp (rNeI C (spREq K C) E) ta tb) σ F (Is (.bool (!eqRB r1 l1 r2 l2))) := fun H1 g i' Q q => ha H1 g i' _ fun u F1 H2 ⟨a, eu, ba⟩ s1 => hb F1 s1.sub H2 s1.inn s1.good _ fun v F2 H3 ⟨b, ev, bb⟩ s => by
  subst eu; subst ev
  have ba2 := ba.mono s.sub
  obtain ⟨dx, _, _, h1, _⟩ := id ba2.ex
  obtain ⟨dy, _, _, h2, _⟩ := id bb.ex
  exact ⟨a, b, dx, dy, _, _, rfl, rfl, s.inn _ _ h1, s.inn _ _ h2, a, b, r1, l1, r2, l2, F2, rfl, s.inn, ba2, bb, fun F3 H3 s3 => ⟨_, rfl, q _ _ F3 H3 rfl ((s1.trans s).trans (s3.lift s.good)) (.bl _)⟩⟩
end
end KD

namespace KD
open PySem PySem.Spec PyProof.Rows L2 L2H Fv Evl StX
abbrev s_go_round : Stmt := topS 24
theorem sc_go_round : FnScope ["program", "standing", "lot", "houses", "at", "steps", "begun", "steppers", "house"] ["program", "standing", "lot"] (defScope s_go_round) := ⟨rfl, rfl, rfl, by decide +kernel, rfl, by decide +kernel, by decide +kernel⟩
theorem kbL_seats : ∀ ls : List Seat, kbL (ls.map seatD) = true
  | [] => rfl
  | (a, b, c) :: ls => by
    rw [List.map_cons, kbL, kbL_seats ls]
    cases c <;> rfl
theorem kb_stand (ls : List Seat) : kb (standD ls) = true := by unfold standD; rw [kb]; exact kbL_seats ls
theorem nkL_seats : ∀ ls : List Seat, NestedKey.depthAll (nkL (ls.map seatD)) ≤ 1
  | [] => by simp [nkL, NestedKey.depthAll]
  | (a, b, c) :: ls => by
    have := nkL_seats ls
    rw [List.map_cons, nkL, NestedKey.depthAll]
    have h : (nk (seatD (a, b, c))).depth ≤ 1 := by
      cases c <;> (simp only [seatD, optD, nk, nkL, NestedKey.depth, NestedKey.depthAll]; decide)
    omega
theorem depth_stand (ls : List Seat) : (nk (standD ls)).depth ≤ 8 := by
  have := nkL_seats ls
  unfold standD
  rw [nk, NestedKey.depth]; omega
theorem seatD_inj {x y : Seat} (h : seatD x = seatD y) : x = y := by
  obtain ⟨a, b, c⟩ := x
  obtain ⟨a', b', c'⟩ := y
  simp only [seatD, PyData.tuple.injEq, List.cons.injEq, PyData.str.injEq, PyData.int.injEq, and_true] at h
  obtain ⟨h1, h2, h3⟩ := h
  rw [h1, h2, optD_inj h3]
theorem standD_inj {a b : List Seat} (h : standD a = standD b) : a = b := (List.map_inj_right fun x y => seatD_inj).mp (by unfold standD at h; injection h)
/-- where the rounds began: the standings and how many steps were behind each -/
def begunP (T : Nat → Tab) (lot : List Nat) (ls : List Seat) (k : Nat) : List (PyData × PyData) := (List.range k).map fun j => (standD (atS T lot ls j), .int ((stepsTo T lot ls j).length : Int))
theorem begun_kb {T : Nat → Tab} {lot : List Nat} {ls : List Seat} {k : Nat} : ∀ p ∈ begunP T lot ls k, kb p.1 = true := fun p hp => by
  obtain ⟨j, _, rfl⟩ := List.mem_map.mp hp
  exact kb_stand _
theorem begun_keys {T : Nat → Tab} {lot : List Nat} {ls : List Seat} {k : Nat} : (begunP T lot ls k).map (·.1) = ((List.range k).map (atS T lot ls)).map standD := by
  unfold begunP
  rw [List.map_map, List.map_map]; rfl
theorem begun_nd {T : Nat → Tab} {lot : List Nat} {ls : List Seat} {k : Nat} (h : ((List.range k).map (atS T lot ls)).Nodup) : ((begunP T lot ls k).map (·.1)).Nodup := by
  rw [begun_keys]
  unfold List.Nodup at h ⊢
  rw [List.pairwise_map]
  exact List.Pairwise.imp (fun {a b} hab e => hab (standD_inj e)) h
theorem RoundsAt.nd_le {T : Nat → Tab} {lot : List Nat} {ls : List Seat} {t j k : Nat} (r : RoundsAt T lot ls t j) (hk : k ≤ t) : ((List.range k).map (atS T lot ls)).Nodup := by
  have e : (List.range k).map (atS T lot ls) = ((List.range t).map (atS T lot ls)).take k := by
    rw [← List.map_take, List.take_range, Nat.min_eq_left hk]
  rw [e]
  exact r.nd.sublist (List.take_sublist _ _)
theorem RoundsAt.fresh {T : Nat → Tab} {lot : List Nat} {ls : List Seat} {t j k : Nat} (r : RoundsAt T lot ls t j) (hk : k < t) : standD (atS T lot ls k) ∉ (begunP T lot ls k).map (·.1) := fun hc => by
  rw [begun_keys] at hc
  obtain ⟨x, hx, e⟩ := List.mem_map.mp hc
  obtain ⟨i, hi, rfl⟩ := List.mem_map.mp hx
  have hik := List.mem_range.mp hi
  have e2 := standD_inj e
  have := (List.getElem_inj (h₀ := by rw [List.length_map, List.length_range]; omega) (h₁ := by rw [List.length_map, List.length_range]; omega) r.nd (i := i) (j := k)).mp (by simpa using e2)
  omega
section
variable {P : Program} {w : World} {K : PySem.W.Frag} {mg : Str → Option Value} {base : Heap} {CT CR : Addr}
variable {pt : Option Pt} {σ : L2.St} {F F' F0 H0 H F2 H2 : Hp} {te ti ta tb ty td : TE} {ts tr : TA} {t : TT} {D : Ends} {tz tu tw : TS} {l a x dx : Addr} {xs : List NEnt} {fs : List (Str × V)} {f : Str} {i : Nat} {L : List Own1} {o : HO}
theorem rpAll_drop : ∀ (n : Nat) {xs : List V} {ds : List PyData}, RpAll K F xs ds → RpAll K F (xs.drop n) (ds.drop n)
  | 0, _, _, h => h
  | n + 1, [], _, h => by cases h; exact .nil
  | n + 1, x :: xs, _, h => by
    cases h with
    | cons h1 h2 => exact rpAll_drop n h2
theorem cut_from (xs : List V) (i : Nat) : cutV xs (some (i : Int)) none = xs.drop i := by
  unfold cutV
  rw [HT.sIx_nat, HT.sIx_none]
  by_cases z : i ≤ xs.length
  · rw [Nat.min_eq_left z]
    exact List.take_of_length_le (by rw [List.length_drop]; omega)
  · rw [Nat.min_eq_right (by omega), Nat.sub_self, List.take_zero, List.drop_eq_nil_of_le (by omega)]
/-- xs[i:] -/
theorem g_slLD {ds : List PyData} {i : Nat} (h : EvG K pt te σ F (Is (.list ds))) (hi : EvG K pt ta σ F (Is (.int (i : Int)))) : EvG K pt (tSl (rSlL K) te (tPart ta) tNoPart) σ F (Is (.list (ds.drop i))) := fun H1 i' g Q q =>
  h H1 i' g _ fun d v F2 H2 hd s hv => hi.mono s.sub H2 s.inn s.good _ fun e u F3 H3 he s2 hu => by
    subst hd; subst he
    obtain ⟨a, xs, rfl, hl, ha⟩ := rp_lst hv
    refine ⟨(i : Int), rp_int hu, a, xs, rfl, SqL.of (s2.inn _ _ (s2.sub _ _ hl)), fun p hp => ?_⟩
    have s3 : Step pt F3 H3 (upd F3 p (.lst (cutV xs (some (i : Int)) none))) (upd H3 p (.lst (cutV xs (some (i : Int)) none))) := .laid s2.inn s2.good hp
    refine q _ _ _ _ rfl ((s.trans s2).trans s3) (.lst upd_same ?_)
    have e : cutV xs (some (i : Int)) none = xs.drop i := cut_from xs i
    rw [e]
    exact RpAll.mono (s2.sub.trans (by rw [← e]; exact s3.sub)) _ _ (rpAll_drop i ha)
theorem lot_asc {lot : List Nat} {ms : List Int} (h : lot.Pairwise (· < ·)) (hp : ms.Pairwise (· < ·)) (hm : ∀ k, k ∈ ms ↔ k ∈ lot.map fun k : Nat => (k : Int)) : ms.map PyData.int = lot.map natD := by
  have : ms = lot.map fun k : Nat => (k : Int) := asc_unique hp (by rw [List.pairwise_map]; exact List.Pairwise.imp (fun {a b} hab => by omega) h) hm
  rw [this, List.map_map]; rfl
theorem g_bs {C : Addr} {E : XK} {n m h : Nat} {T : Nat → Tab} {ls : List Seat} {v u : V} {i1 i2 i3 : Nat} (h1 : σ[i1]? = some (some v)) (h2 : σ[i2]? = some (some u)) (h3 : σ[i3]? = some (some (.int (h : Int)))) (hb : n ≤ 5 ∧ ls.length = n ∧ h < n) (px : ProgX P w K C F v n m T) (hu : Rp K F u (standD ls)) :
    EvG K pt (tCall (spBS P w K C) [] E (tCons (tVar i1) (tCons (tVar i2) (tCons (tVar i3) tNil)))) σ F (Is (standD (stepS T ls h))) := fun H1 e g Q q => ⟨_, h1, _, h2, _, h3, n, m, h, T, ls, F, v, u, rfl, hb, e, px, hu, fun z F2 H2 s r => q _ z F2 H2 rfl (s.lift g) r⟩
theorem steppers_len (lot : List Nat) (ls : List Seat) : (steppers lot ls).length ≤ lot.length := List.length_filter_le _ _
/-- go_round -/
def spGo (P : Program) (w : World) (K : PySem.W.Frag) (CT CR : Addr) : Sp := fun vs H Q _ => ∃ (n m t j : Nat) (T : Nat → Tab) (lot : List Nat) (ls : List Seat) (d : PyData) (F : Hp) (v u r : V), vs = [v, u, r] ∧ (n ≤ 4 ∧ ls.length = n ∧ lot.Pairwise (· < ·) ∧ (∀ h ∈ lot, h < n) ∧ RoundsAt T lot ls t j ∧ (∀ k, (atS T lot ls k).length = n) ∧ ∃ l2 : List Nat, (d = .list (l2.map natD) ∨ d = .tuple (l2.map natD)) ∧ l2.length ≤ 60 ∧ ∀ k, k ∈ l2 ↔ k ∈ lot) ∧ Ex F H ∧ ProgX P w K CT F v n m T ∧ Rp K F u (standD ls) ∧ Rp K F r d ∧
  ∀ z F2 H2, Step none F H F2 H2 → RndAt K CR F2 z ((stepsTo T lot ls t).take (stepsTo T lot ls j).length) ((stepsTo T lot ls t).drop (stepsTo T lot ls j).length) → Q (.ref z) H2
theorem ok_go {f fA fS fB fR : Addr} {fd fdA fdS fdB fdR : FuncData} (Fn : Fun K "go_round" "go_round" s_go_round f fd) (T : Tx mg)
    (F_as_tuples : Fun K "as_tuples" "as_tuples" s_as_tuples fA fdA) (b_as_tuples : Binds K fdA ["thing"] []) (g_as_tuples : mg "as_tuples" = some (.ref fA))
    (F_is_sequence : Fun K "is_sequence" "is_sequence" s_is_sequence fS fdS) (b_is_sequence : Binds K fdS ["thing"] []) (g_is_sequence : mg "is_sequence" = some (.ref fS))
    (F_behind_step : Fun K "behind_step" "behind_step" s_behind_step fB fdB) (b_behind_step : Binds K fdB ["tables", "standing", "house"] []) (g_behind_step : mg "behind_step" = some (.ref fB)) (G_behind_step : FnOk P w K mg base CX0 2 fB fdB ["tables", "standing", "house"] (spBS P w K CT))
    (M_Rounds : Mk K CR fR) (g_Rounds : mg "Rounds" = some (.ref CR)) (b_Rounds : Binds K fdR ["self", "run", "loop"] []) (G_Rounds : FnOk P w K mg base CX0 5 fR fdR ["self", "run", "loop"] (spRnd K CR)) :
    FnOk P w K mg base CX0 7 f fd ["program", "standing", "lot"] (spGo P w K CT CR) := by
  have G_as_tuples : FnOk P w K mg base CX0 4 fA fdA ["thing"] (spAsG K lg2) := ok_asG F_as_tuples T b_as_tuples g_as_tuples F_is_sequence b_is_sequence g_is_sequence
  refine Fn.ok sc_go_round (fun vs H Q E ⟨_, _, _, _, _, _, _, _, _, _, _, _, h, _⟩ => by rw [h]; rfl) (fun cdv A outer s H vs Q E hr h => ?_)
  obtain ⟨n, m, t, j, TT, lot, ls, dl, F, v, u, r, rfl, ⟨n4, hln, asc, hlot, rat, hlen, l2, hdl, hl2, hmem⟩, e, px, hu, hrp, q⟩ := h
  have lotlen : lot.length ≤ 4 := by
    have nd : lot.Nodup := List.Pairwise.imp (fun {a b} hab => by omega) asc
    have := nodup_le nd (b := List.range n) fun x hx => List.mem_range.mpr (hlot x hx)
    rw [List.length_range] at this; omega
  have slen : ∀ k, k ≤ t → (stepsTo TT lot ls k).length ≤ 4 * 2501 := fun k hk => by
    have h1 := stepsTo_len TT lot ls k
    have h2 := Nat.mul_le_mul lotlen (Nat.le_trans hk rat.few)
    omega
  refine ⟨_, (pss_cons (ps_set (i := 3) sc_go_round.nd rfl (by first | exact Or.inl rfl | exact Or.inr rfl) (pe_callB (c_sortedSet (w := w)) (by rfl) T.sorted (by decide +kernel) (pa_cons (pe_callTy (c_setU (K := K) (w := w)) (by rfl) T.set (by decide +kernel) (pa_cons (pv 2) pa_nil)) pa_nil)))
    (pss_cons (ps_set (i := 4) sc_go_round.nd rfl (by first | exact Or.inl rfl | exact Or.inr rfl) (pe_call G_as_tuples (hr.mono (by decide)) (by rfl) g_as_tuples F_as_tuples.kp b_as_tuples .nil pass0 (pa_cons (pv 1) pa_nil)))
    (pss_cons (ps_set (i := 5) sc_go_round.nd rfl (by first | exact Or.inl rfl | exact Or.inr rfl) (pe_lst pa_nil))
    (pss_cons (ps_set (i := 6) sc_go_round.nd rfl (by first | exact Or.inl rfl | exact Or.inr rfl) (pe_dnewN (P := P) (w := w)))
    (pss_cons (ps_while PassesOwn.never (pt_cmpR (o_ninN (P := P) (w := w) (K := K) (hu65 hr)) (pv 4) (pv 6) (by rfl)) (pss_cons (ps_asg (pe_callB (c_len (K := K)) (by rfl) T.len (by decide +kernel) (pa_cons (pv 5) pa_nil)) (pg_sub (pv 6) (pv 4) (set_N (P := P) (w := w) (K := K) (hu65 hr))))
    (pss_cons (ps_setLc (i := 7) (own := [("house", 8)]) (g := gName 8) rfl sc_go_round.nd rfl rfl (sw_true rfl rfl rfl (by decide +kernel)) (i_list (K := K) (pv 3)) (blkOk_by (own := [("house", 8)]) (N := ["program", "standing", "lot", "houses", "at", "steps", "begun", "steppers", "house"]) (sc := (defScope s_go_round)) (by decide +kernel)) (fun _ _ _ _ _ => pg_name (i := 8) sc_go_round.nd rfl (by first | exact Or.inl rfl | exact Or.inr rfl)) (fun _ _ _ _ _ => (pts_one (pt_cmpR op_ne (pe_ix (o_ixT (K := K)) (pe_ix (o_ixT (K := K)) (pv 4) (pv 8) (fun _ _ => rfl)) pe_int (fun _ _ => rfl)) pe_str (nomark _)))) (fun _ _ _ _ _ => (pv 8)))
    (pss_cons (ps_for PassesOwn.never rfl (i_list (K := K) (pv 7)) (pg_name (i := 8) sc_go_round.nd rfl (by first | exact Or.inl rfl | exact Or.inr rfl)) (pss_one (ps_set (i := 4) sc_go_round.nd rfl (by first | exact Or.inl rfl | exact Or.inr rfl) (pe_call G_behind_step (hr.mono (by decide)) (by rfl) g_behind_step F_behind_step.kp b_behind_step .nil pass0 (pa_cons (pv 0) (pa_cons (pv 4) (pa_cons (pv 8) pa_nil)))))))
    (pss_one (ps_expr (pe_bm PySem.F.plainAttrs_list PySem.F.slot_list_extend PySem.F.type_list_extend mt_extend (pv 5) (pa_cons (pv 7) pa_nil))))))))
    (pss_one (ps_ret (pe_make M_Rounds G_Rounds (hr.mono (by decide)) (by rfl) g_Rounds b_Rounds .nil pass0 (pa_cons (pe_slice (s_any (K := K)) (pv 5) po_none (po_some (pe_dgetN (P := P) (w := w) (K := K) (hu65 hr) (pv 6) (pv 4) (fun _ _ => rfl)))) (pa_cons (pe_slice (s_list (K := K)) (pv 5) (po_some (pe_dgetN (P := P) (w := w) (K := K) (hu65 hr) (pv 6) (pv 4) (fun _ _ => rfl))) po_none) pa_nil)))))))))), ?_⟩
  obtain ⟨ts1, ts2⟩ := toT_stand (ls := ls) (by omega)
  refine t_asg (K := K) (R := Is (.list (lot.map natD))) (Step.refl e .nil) ((g_sortedSetU (w := w) (ns := l2.map fun k : Nat => (k : Int)) (by rw [List.map_map]; exact hdl) (g_var (i := 2) rfl hrp) (by rw [List.length_map]; exact hl2)).imp fun d ⟨ms, hd, h1, h2⟩ => by
    rw [hd]
    refine congrArg PyData.list (lot_asc asc h1 fun k => ?_)
    rw [h2 k, List.mem_map, List.mem_map]
    exact ⟨fun ⟨a, b, c⟩ => ⟨a, (hmem a).mp b, c⟩, fun ⟨a, b, c⟩ => ⟨a, (hmem a).mpr b, c⟩⟩) fun d v3 F1 H1 hd s1 e1 hv3 => ?_
  obtain rfl : d = _ := hd
  refine t_asgI (K := K) (d := standD ls) s1 ((g_call (standD ls) (gs_one (g_var (i := 1) rfl (Rp.mono e1 _ _ hu))) rfl ts2).is ts1) fun v4 F2 H2 s2 e2 hv4 => ?_
  refine t_newLO (Own.nil s2) fun l5 H3 w3 => ?_
  refine t_newNO (P := P) (w := w) (K := K) w3 fun l6 o6 H4 w4 do4 => ?_
  dsimp only [List.nil_append, List.cons_append]
  have e12 := e1.trans e2
  have g0 : Good none F H := .nil
  refine t_whileO (T := t) (fun k σ' H' => ∃ F' u4 z7 z8 o5 o6 xs, σ' = [some v, some u, some r, some v3, some u4, some (.ref l5), some (.ref l6), z7, z8] ∧ Own none F H F' H' [(l5, o5), (l6, o6)] ∧ LstO K F' o5 ((stepsTo TT lot ls k).map natD) ∧ DctO P w K F' l6 o6 xs ∧ NV K F' xs (begunP TT lot ls k) ∧ Rp K F' u4 (standD (atS TT lot ls k)) ∧ Ex F2 F')
    ⟨F2, v4, none, none, _, o6, [], rfl, w4, ⟨[], rfl, .nil⟩, do4, .nil, hv4, Ex.refl _⟩ (fun k σ' H' hk hI Q' q' => ?_) (fun k σ' H' hk hI N hN => ?_) (fun σ' H' hI => ?_)
  · obtain ⟨F', u4, z7, z8, o5, o6', xs, rfl, w', lo5, do6, nv, hu4, e2'⟩ := hI
    obtain ⟨f1, f2, gd, back⟩ := w'.fixS g0 w'.nd (fun _ h => h)
    have nd6 : ND P w K (putAll [(l5, o5), (l6, o6')] F') l6 xs := (do6.mono f1).nd (w'.see (k := 1) rfl)
    have val : (if true then !(atN xs (nk (standD (atS TT lot ls k)))).isSome else (atN xs (nk (standD (atS TT lot ls k)))).isSome) = decide (k < t) := by
      rw [if_pos rfl]
      by_cases z : k < t
      · rw [nv.none_ (kb_stand _) begun_kb (rat.fresh z)]
        simp [z]
      · obtain rfl : k = t := by omega
        obtain ⟨p, hp, _⟩ := nv.get begun_kb (begun_nd rat.nd) (k := standD (atS TT lot ls k)) (d := .int ((stepsTo TT lot ls j).length : Int)) (List.mem_map.mpr ⟨j, List.mem_range.mpr rat.lt, by rw [rat.eq]⟩)
        rw [hp]; simp
    refine (et_of (K := K) ((g_inNd (P := P) (w := w) (neg := true) (i := 6) (g_var (i := 4) rfl (Rp.mono f1 _ _ hu4)) (kb_stand _) (depth_stand _) rfl nd6).is (congrArg PyData.bool val))) H' f2 gd _ fun b F3 H3 hb s3 => ?_
    subst hb
    obtain ⟨w5, e5, _, _⟩ := back F3 H3 s3
    exact q' H3 ⟨_, u4, z7, z8, o5, o6', xs, rfl, w5, lo5.mono e5, do6.mono e5, nv.mono e5, Rp.mono e5 _ _ hu4, e2'.trans e5⟩
  · obtain ⟨F', u4, z7, z8, o5, o6', xs, rfl, w', lo5, do6, nv, hu4, e2'⟩ := hI
    have xl : xs.length = k := by rw [nv.len]; simp [begunP]
    have few := rat.few
    refine t_putNO (P := P) (w := w) (K := K) (ks := (atS TT lot ls k).map seatD) (R := Is (.int ((stepsTo TT lot ls k).length : Int))) 1 g0 w' rfl do6 rfl (by omega) (kb_stand _) (depth_stand _) ((g_cbI (gs_one (g_var (i := 5) (d := .list ((stepsTo TT lot ls k).map natD)) rfl ((lo5.mono (w'.seeEx g0)).rp (w'.see (k := 0) rfl)))) (rc_lenS (.inl rfl))).is (by rw [List.length_map])) (fun d hd => by rw [show d = _ from hd]; rfl) (fun F'' e'' => g_var (i := 4) rfl (Rp.mono e'' _ _ hu4)) fun d vv b o62 F3 H3 hd w3 do3 e3 hvv hb => ?_
    obtain rfl : d = _ := hd
    dsimp only [List.set] at w3
    have nv3 : NV K F3 (putN xs (nk (standD (atS TT lot ls k))) b vv) (begunP TT lot ls (k + 1)) := by
      have := NV.put (nv.mono e3) (kb_stand _) begun_kb (rat.fresh hk) hb hvv
      unfold begunP at this ⊢
      rw [List.range_succ, List.map_append]
      exact this
    have hu3 := Rp.mono e3 _ _ hu4
    have hv33 := Rp.mono (e2.trans (e2'.trans e3)) _ _ hv3
    have hat : (atS TT lot ls k).length = n := hlen k
    refine t_asgF (K := K) (R := Is (.list ((steppers lot (atS TT lot ls k)).map natD))) g0 w3 (g_lcE natD lot (fun h => !decide (((atS TT lot ls k).getD h seat0).1 = "done")) natD (w_listI (g_var (i := 3) rfl hv33)) (by omega) (fun _ => rfl) (fun h hh F'' e'' y hy => ?_) (fun h hh _ F'' e'' y hy => g_var rfl hy)) fun d v7 F4 H4 hd w4 e4 hv7 => ?_
    · exact et_of (K := K) (g_opI (g_opI (g_opI (g_var (i := 4) rfl (Rp.mono e'' _ _ hu3)) (g_var rfl hy) (rv_seat (by rw [hat]; exact hlot h hh))) g_int (rv_ixT (d := .str ((atS TT lot ls k).getD h seat0).1) (atI_nat (j := 0) rfl))) g_str rv_neS)
    obtain rfl : d = _ := hd
    refine t_forO (K := K) (RS := (· = (steppers lot (atS TT lot ls k)).map natD)) g0 w4 (w_listI (g_var (i := 7) rfl hv7)) (fun ds i σ' F' L' => ∃ u4 z8, σ' = [some v, some u, some r, some v3, some u4, some (.ref l5), some (.ref l6), some v7, z8] ∧ L' = [(l5, o5), (l6, o62)] ∧ Rp K F' u4 (standD (runS TT (atS TT lot ls k) ((steppers lot (atS TT lot ls k)).take i))))
      (fun ds hds F5 e5 => ⟨u4, _, rfl, rfl, Rp.mono (e4.trans e5) _ _ hu3⟩) (fun ds hds i d hd σ' F5 H5 L5 y hI w5 e5 hy N2 hN2 => ?_) (fun ds hds σ' F5 H5 L5 hI w5 e5 => ?_)
    · obtain ⟨u5, z8', rfl, rfl, hu5⟩ := hI
      subst hds
      obtain ⟨h, hh, rfl⟩ := get_map hd
      obtain rfl := rp_int hy
      have hhn : h < n := hlot h (List.mem_filter.mp (List.mem_of_getElem? hh)).1
      have len5 : (runS TT (atS TT lot ls k) ((steppers lot (atS TT lot ls k)).take i)).length = n := by
        have : ∀ (r : List Nat) (x : List Seat), (runS TT x r).length = x.length := fun r => by
          induction r with
          | nil => intro x; rfl
          | cons a r ih => intro x; show (runS TT (stepS TT x a) r).length = _; rw [ih, step_len]
        rw [this]; exact hat
      refine t_asgF1 (K := K) (R := Is (standD (stepS TT (runS TT (atS TT lot ls k) ((steppers lot (atS TT lot ls k)).take i)) h))) g0 w5 (g_bs (P := P) (w := w) (i1 := 0) (i2 := 4) (i3 := 8) (m := m) rfl rfl rfl ⟨by omega, len5, hhn⟩ (px.mono ((((e12.trans e2').trans e3).trans e4).trans e5)) hu5) fun d u6 F6 H6 hd6 w6 e6 hu6 => ?_
      obtain rfl : d = _ := hd6
      refine hN2 _ F6 H6 _ ⟨u6, _, rfl, rfl, ?_⟩ w6 e6
      rw [take_succA hh, runS_snoc]
      exact hu6
    · obtain ⟨u5, z8', rfl, rfl, hu5⟩ := hI
      subst hds
      rw [List.length_map, List.take_length] at hu5
      have sl := slen k (by omega)
      have sl2 := steppers_len lot (atS TT lot ls k)
      have e35 := e4.trans e5
      refine t_extO1 (K := K) (es := (steppers lot (atS TT lot ls k)).map natD) 0 g0 w5 rfl (lo5.mono (e3.trans e35)) rfl (g_var (i := 7) rfl (Rp.mono e5 _ _ hv7)) (by rw [List.length_map, List.length_map]; omega) fun o52 F6 H6 w6 lo6 e6 => ?_
      exact hN _ H6 ⟨F6, u5, _, _, o52, o62, _, rfl, w6, by rw [stepsTo, List.map_append]; exact lo6, do3.mono (e35.trans e6), nv3.mono (e35.trans e6), Rp.mono e6 _ _ hu5, ((e2'.trans e3).trans e35).trans e6⟩
  · obtain ⟨F', u4, z7, z8, o5, o6', xs, rfl, w', lo5, do6, nv, hu4, e2'⟩ := hI
    obtain ⟨F3, s3, e3, at3⟩ := w'.done g0
    have rl : Rp K F3 (.ref l5) (.list ((stepsTo TT lot ls t).map natD)) := (lo5.mono e3).rp (at3 (l5, o5) (by simp))
    have nd6 : ND P w K F3 l6 xs := (do6.mono e3).nd (at3 (l6, o6') (by simp))
    obtain ⟨p, hp, hz⟩ := (nv.mono e3).get begun_kb (begun_nd rat.nd) (k := standD (atS TT lot ls t)) (d := .int ((stepsTo TT lot ls j).length : Int)) (List.mem_map.mpr ⟨j, List.mem_range.mpr rat.lt, by rw [rat.eq]⟩)
    have gb : EvG K none (tOp (rIxN P w K) (tVar 6) (tVar 4)) [some v, some u, some r, some v3, some u4, some (.ref l5), some (.ref l6), z7, z8] F3 (Is (.int ((stepsTo TT lot ls j).length : Int))) := g_dgetN (i := 6) rfl nd6 (g_var (i := 4) rfl (Rp.mono e3 _ _ hu4)) (fun b F' hb => tup_ref hb) (kb_stand _) (depth_stand _) hp hz
    have sl := slen t (Nat.le_refl _)
    refine t_retX s3 (x_rnd (K := K) (C := CR) (run := (stepsTo TT lot ls t).take (stepsTo TT lot ls j).length) (loop := (stepsTo TT lot ls t).drop (stepsTo TT lot ls j).length) (gs_two ((g_slU (ds := (stepsTo TT lot ls t).map natD) (.inl rfl) (g_var (i := 5) rfl rl) gb)) (g_slLD (g_var (i := 5) rfl rl) gb)) ⟨⟨.inl (by show PyData.list _ = PyData.list _; rw [List.map_take]), by rw [List.length_take]; omega⟩, .inl (by rw [List.map_drop]), by rw [List.length_drop]; omega⟩) fun z F4 H4 ⟨x, ez, ra⟩ s4 => ?_
    rw [ez]
    exact q x F4 H4 s4 ra
end
end KD

namespace KD
open PySem PySem.Spec PyProof.Rows L2 L2H Fv Evl StX
abbrev s_law_rounds : Stmt := topS 43
theorem sc_law_rounds : FnScope ["_law_tables_here", "_law_standing", "_law_lot", "_law_begun", "_law_run_here", "_law_turn", "_law_house", "_law_cut"] ["_law_tables_here", "_law_standing", "_law_lot"] (defScope s_law_rounds) := ⟨rfl, rfl, rfl, by decide +kernel, rfl, by decide +kernel, by decide +kernel⟩
abbrev s_law_lots_all : Stmt := topS 44
theorem sc_law_lots_all : FnScope ["_law_n", "_law_bits", "_law_house"] ["_law_n"] (defScope s_law_lots_all) := ⟨rfl, rfl, rfl, by decide +kernel, rfl, by decide +kernel, by decide +kernel⟩
abbrev s_law_same : Stmt := topS 29
theorem sc_law_same : FnScope ["_law_one", "_law_other", "_law_k"] ["_law_one", "_law_other"] (defScope s_law_same) := ⟨rfl, rfl, rfl, by decide +kernel, rfl, by decide +kernel, by decide +kernel⟩
theorem run_other {T : Nat → Tab} {h : Nat} : ∀ (r : List Nat) (ls : List Seat), (∀ g ∈ r, g < ls.length ∧ g ≠ h) → (runS T ls r).getD h seat0 = ls.getD h seat0
  | [], _, _ => rfl
  | g :: r, ls, hr => by
    obtain ⟨a, b⟩ := hr g (by simp)
    show (runS T (stepS T ls g) r).getD h seat0 = _
    rw [run_other r (stepS T ls g) fun k hk => by rw [step_len]; exact hr k (List.mem_cons_of_mem _ hk), step_other a b.symm]
theorem runS_len (T : Nat → Tab) : ∀ (r : List Nat) (x : List Seat), (runS T x r).length = x.length
  | [], _ => rfl
  | a :: r, x => by show (runS T (stepS T x a) r).length = _; rw [runS_len T r, step_len]
theorem atS_len (T : Nat → Tab) (lot : List Nat) (ls : List Seat) : ∀ k, (atS T lot ls k).length = ls.length
  | 0 => rfl
  | k + 1 => by rw [atS, runS_len, atS_len T lot ls k]
theorem asc_nd {lot : List Nat} (h : lot.Pairwise (· < ·)) : lot.Nodup := List.Pairwise.imp (fun {a b} hab => by omega) h
/-- which houses are in a lot -/
def bitB (b h : Nat) : Bool := Builtin.bitAnd ((b : Int) / 2 ^ h) 1 != 0
def lotsAll (n : Nat) : List (List Nat) := (List.range (2 ^ n)).map fun b => (List.range n).filter fun h => bitB b h
theorem lotsAll_ok {n : Nat} {lot : List Nat} (h : lot ∈ lotsAll n) : lot.Pairwise (· < ·) ∧ ∀ k ∈ lot, k < n := by
  obtain ⟨b, _, rfl⟩ := List.mem_map.mp h
  exact ⟨List.Pairwise.filter _ (List.pairwise_lt_range), fun k hk => List.mem_range.mp (List.mem_filter.mp hk).1⟩
/-- atoms, or tuples of what is fine, however many -/
def upB (p : PyData → Prop) : PyData → Prop
  | .tuple ds => ds.length ≤ 40000 ∧ ∀ d ∈ ds, p d
  | d => atomS d = true
abbrev lb0 : PyData → Prop := upB fun _ => False
abbrev lb1 : PyData → Prop := upB lb0
section
variable {P : Program} {w : World} {K : PySem.W.Frag} {mg : Str → Option Value} {base : Heap} {CT CR : Addr}
variable {pt : Option Pt} {σ : L2.St} {F F' F0 H0 H F2 H2 : Hp} {te ti ta tb ty td : TE} {ts tr : TA} {t : TT} {D : Ends} {tz tu tw : TS} {l a x dx : Addr} {xs : List NEnt} {fs : List (Str × V)} {f : Str} {i : Nat} {L : List Own1} {o : HO}
/-! all lots -/
abbrev spLots (K : PySem.W.Frag) : Sp := PSp K (fun n : Nat => [.int n]) (fun n => n ≤ 6) (fun n => .list ((lotsAll n).map dN))
theorem ok_lots {f : Addr} {fd : FuncData} (Fn : Fun K "_law_lots_all" "_law_lots_all" s_law_lots_all f fd) (T : Tx mg) : FnOk P w K mg base CX0 1 f fd ["_law_n"] (spLots K) := by
  refine Fn.ok sc_law_lots_all (PSp.len (fun _ => rfl)) (fun cdv A outer s H vs Q E hr h => ?_)
  obtain ⟨n, F, hz, e, ha, q⟩ := h
  replace hz : n ≤ 6 := hz
  obtain ⟨v1, rfl, hv1⟩ := rpAll1 ha
  obtain rfl := rp_int hv1
  refine ⟨_, (pss_one (ps_ret (pe_lc (own := [("_law_bits", 1)]) (g := gName 1) rfl sc_law_lots_all.nd (pi_range1 (by rfl) T.range (pa_cons (pe_op op_shl pe_int (pv 0)) pa_nil)) (blkOk_by (own := [("_law_bits", 1)]) (N := ["_law_n", "_law_bits", "_law_house"]) (sc := (defScope s_law_lots_all)) (by decide +kernel)) (fun _ _ _ _ _ => pg_name (i := 1) sc_law_lots_all.nd rfl (by first | exact Or.inl rfl | exact Or.inr rfl)) (fun _ _ _ _ _ => pts_nil) (fun _ _ _ _ _ => (pe_callTy (c_tup (K := K)) (by rfl) T.tuple (by decide +kernel) (pa_cons (pe_lc (own := [("_law_house", 2)]) (g := gName 2) rfl sc_law_lots_all.nd (pi_range1 (by rfl) T.range (pa_cons (pv 0) pa_nil)) (blkOk_by (own := [("_law_house", 2)]) (N := ["_law_n", "_law_bits", "_law_house"]) (by rfl)) (fun _ _ _ _ _ => pg_name (i := 2) sc_law_lots_all.nd rfl (by first | exact Or.inl rfl | exact Or.inr rfl)) (fun _ _ _ _ _ => (pts_one (e_truth (K := K) (pe_op op_and (pe_op op_shr (pv 1) (pv 2)) pe_int)))) (fun _ _ _ _ _ => (pv 2))) pa_nil)))))), ?_⟩
  have hp : 2 ^ n ≤ 2 ^ 6 := Nat.pow_le_pow_right (by decide) hz
  refine t_retI (K := K) (Step.refl e .nil) ((g_lcEM natD (List.range (2 ^ n)) (fun b => dN ((List.range n).filter fun h => bitB b h)) (w_range (n := 2 ^ n) ((g_opI g_int (g_var (i := 0) (v := .int (n : Int)) rfl (.int _)) (rv_shl (by omega))).is (by rw [Int.natCast_pow]; rfl)) (by omega)) (by simp; omega) (fun _ => rfl) fun b hb F' e' y hy => g_cbI (gs_one (g_lcE natD (List.range n) (fun h => bitB b h) natD (w_range (n := n) (g_var (i := 0) (v := .int (n : Int)) rfl (.int _)) (by omega)) (by simp; omega) (fun _ => rfl) (fun h hh F2 e2 z hz => ?_) (fun h hh _ F2 e2 z hz => g_var rfl hz))) rc_tupL).is ?_) q
  · exact et_truI (K := K) (g_opI (g_opI (g_var (i := 1) rfl (Rp.mono e2 _ _ hy)) (g_var (i := 2) rfl hz) (rv_shr (by omega))) g_int rv_and)
  · show PyData.list _ = PyData.list ((lotsAll n).map dN)
    unfold lotsAll
    rw [List.map_map]; rfl
/-! the same data -/
abbrev spSm (K : PySem.W.Frag) (p : PyData → Prop) : Sp := PSp K (fun d : PyData => [d, d]) p (fun _ => .bool true)
theorem same_step {j : Nat} {p : PyData → Prop} {f : Addr} {fd : FuncData} (F_law_same : Fun K "_law_same" "_law_same" s_law_same f fd) (T : Tx mg) (b_law_same : Binds K fd ["_law_one", "_law_other"] []) (g_law_same : mg "_law_same" = some (.ref f))
    (G_law_same : FnOk P w K mg base CX0 j f fd ["_law_one", "_law_other"] (spSm K p)) : FnOk P w K mg base CX0 (j + 1) f fd ["_law_one", "_law_other"] (spSm K (upB p)) := by
  refine Fun.ok F_law_same sc_law_same (PSp.len (fun _ => rfl)) (fun cdv A outer s H vs Q E hr h => ?_)
  obtain ⟨d, F, hd, e, ha, q⟩ := h
  obtain ⟨x, y, rfl, hx, hy⟩ := rpAll2 ha
  refine ⟨_, (pss_cons (ps_if (pt_val (pe_callB (c_isi (K := K)) (by rfl) T.isinstance (by decide +kernel) (pa_cons (pv 1) (pa_cons (pe_bltn (v := .ty "tuple") (by rfl) T.tuple (by decide +kernel) rfl) pa_nil)))) (pss_cons (ps_if (PW.pt (pw_or (pt_not (pt_val (pe_callB (c_isi (K := K)) (by rfl) T.isinstance (by decide +kernel) (pa_cons (pv 0) (pa_cons (pe_bltn (v := .ty "tuple") (by rfl) T.tuple (by decide +kernel) rfl) pa_nil))))) (pw_or1 (pt_cmpR op_ne (pe_callB (c_len (K := K)) (by rfl) T.len (by decide +kernel) (pa_cons (pv 0) pa_nil)) (pe_callB (c_len (K := K)) (by rfl) T.len (by decide +kernel) (pa_cons (pv 1) pa_nil)) (nomark _))))) (pss_one (ps_ret pe_bl)) pss_nil)
    (pss_cons (ps_for PassesOwn.never rfl (pi_range1 (by rfl) T.range (pa_cons (pe_callB (c_len (K := K)) (by rfl) T.len (by decide +kernel) (pa_cons (pv 1) pa_nil)) pa_nil)) (pg_name (i := 2) sc_law_same.nd rfl (by first | exact Or.inl rfl | exact Or.inr rfl)) (pss_one (ps_if (pt_not (pt_val (pe_call G_law_same (hr.mono (Nat.le_refl _)) (by rfl) g_law_same F_law_same.kp b_law_same .nil pass0 (pa_cons (pe_ix (o_ixT (K := K)) (pv 0) (pv 2) (fun _ _ => rfl)) (pa_cons (pe_ix (o_ixT (K := K)) (pv 1) (pv 2) (fun _ _ => rfl)) pa_nil))))) (pss_one (ps_ret pe_bl)) pss_nil)))
    (pss_one (ps_ret pe_bl)))) pss_nil)
    (pss_cons (ps_if (PW.pt (pw_and (pt_val (pe_callB (c_isi (K := K)) (by rfl) T.isinstance (by decide +kernel) (pa_cons (pv 1) (pa_cons (pe_bltn (v := .ty "int") (by rfl) T.int (by decide +kernel) rfl) pa_nil)))) (pw_and1 (pt_not (pt_val (pe_callB (c_isi (K := K)) (by rfl) T.isinstance (by decide +kernel) (pa_cons (pv 1) (pa_cons (pe_bltn (v := .ty "bool") (by rfl) T.bool (by decide +kernel) rfl) pa_nil)))))))) (pss_one (ps_ret (pe_and (pe_callB (c_isi (K := K)) (by rfl) T.isinstance (by decide +kernel) (pa_cons (pv 0) (pa_cons (pe_bltn (v := .ty "int") (by rfl) T.int (by decide +kernel) rfl) pa_nil))) (pe_and (pe_not (pe_callB (c_isi (K := K)) (by rfl) T.isinstance (by decide +kernel) (pa_cons (pv 0) (pa_cons (pe_bltn (v := .ty "bool") (by rfl) T.bool (by decide +kernel) rfl) pa_nil)))) (pe_one (pe_cmpR op_eq (pv 0) (pv 1) (nomark _))))))) pss_nil)
    (pss_cons (ps_if (pt_cmpR op_isN (pv 1) pe_non (nomark _)) (pss_one (ps_ret (pe_cmpR op_isN (pv 0) pe_non (nomark _)))) pss_nil)
    (pss_one (ps_ret (pe_and (pe_callB (c_isi (K := K)) (by rfl) T.isinstance (by decide +kernel) (pa_cons (pv 0) (pa_cons (pe_bltn (v := .ty "str") (by rfl) T.str (by decide +kernel) rfl) pa_nil))) (pe_one (pe_cmpR op_eq (pv 0) (pv 1) (nomark _))))))))), ?_⟩
  refine t_when (b := isT d) (Step.refl e .nil) (et_B (g_isi (g_var rfl hy) (kit_tuple d))) (fun hb F2 H2 s2 e2 => ?_) (fun hb F2 H2 s2 e2 => ?_)
  · obtain ⟨ds, rfl⟩ : ∃ ds, d = .tuple ds := by cases d <;> simp_all [isT]
    obtain ⟨hz, hat⟩ := hd
    have hx2 := Rp.mono e2 _ _ hx
    have hy2 := Rp.mono e2 _ _ hy
    refine t_skip s2 ((et_or (a := false) (b := false) ((et_not (b := true) (et_B (g_isi (g_var rfl hx2) (kit_tuple _)))).is rfl) fun _ => (et_of (g_opI (g_cbI (gs_one (g_var rfl hx2)) rc_lenT) (g_cbI (gs_one (g_var rfl hy2)) rc_lenT) rv_neI)).is (by simp)).is rfl) fun F3 H3 s3 e3 => ?_
    have hx3 := Rp.mono e3 _ _ hx2
    have hy3 := Rp.mono e3 _ _ hy2
    refine t_for (K := K) (ds := (List.range ds.length).map natD) s3 (w_len (g_var (i := 1) rfl hy3) rfl (by omega)) (fun i σ' F' => ∃ z, σ' = [some x, some y, z]) (fun F4 e4 => ⟨_, rfl⟩) (fun i d hd σ' F4 H4 u hI s4 e4 hu N hN => ?_) (fun σ' F4 H4 hI s4 e4 => ?_)
    · obtain ⟨z, rfl⟩ := hI
      obtain ⟨h, hh, rfl⟩ := get_map hd
      have hj : h < ds.length := List.mem_range.mp (List.mem_of_getElem? hh)
      have hi : atI ds (h : Int) = some ds[h] := atI_nat (List.getElem?_eq_getElem hj)
      refine t_if1 (b := false) s4 ((et_not (b := true) (et_B (g_call ds[h] (gs_two (g_opI (g_var (i := 0) rfl (Rp.mono e4 _ _ hx3)) (g_var (i := 2) rfl hu) (rv_ixT hi)) (g_opI (g_var (i := 1) rfl (Rp.mono e4 _ _ hy3)) (g_var (i := 2) rfl hu) (rv_ixT hi))) rfl (hat _ (List.getElem_mem hj))))).is rfl) (fun z => by cases z) fun _ F5 H5 s5 e5 => hN _ F5 H5 ⟨_, rfl⟩ s5 e5
    · obtain ⟨z, rfl⟩ := hI
      exact t_retI (K := K) s4 g_bl q
  · have hd' : atomS d = true := by cases d <;> simp_all [isT, upB, atomS]
    refine t_when (b := isI d) s2 ((et_and (b := true) (et_B (g_isi (g_var rfl (Rp.mono e2 _ _ hy)) (kit_int d))) fun hi => (et_not (b := false) ((et_B (g_isi (g_var rfl (Rp.mono e2 _ _ hy)) (kit_bool d))).is (by cases d <;> simp_all [isB, atomS]))).is rfl).is (by simp)) (fun hb F3 H3 s3 e3 => ?_) (fun hb3 F3 H3 s3 e3 => ?_)
    · obtain ⟨k, rfl⟩ : ∃ k, d = .int k := by cases d <;> simp_all [isI, atomS]
      have e3' := e2.trans e3
      exact t_retI s3 ((g_andV (b := true) (g_isi (g_var rfl (Rp.mono e3' _ _ hx)) (kit_int _)) fun _ => (g_andV (a := true) (b := true) ((g_notV (a := false) (g_isi (g_var rfl (Rp.mono e3' _ _ hx)) (kit_bool _))).is rfl) fun _ => (g_opI (g_var rfl (Rp.mono e3' _ _ hx)) (g_var rfl (Rp.mono e3' _ _ hy)) rv_eqI).is (by simp)).is rfl).is rfl) q
    have e3' := e2.trans e3
    refine t_when s3 (et_of (g_opI (g_var rfl (Rp.mono e3' _ _ hy)) g_non rv_isN)) (fun hb F4 H4 s4 e4 => ?_) (fun hb4 F4 H4 s4 e4 => ?_)
    · obtain rfl : d = .none := by cases d <;> simp_all [isNone]
      exact t_retI s4 ((g_opI (g_var rfl (Rp.mono (e3'.trans e4) _ _ hx)) g_non rv_isN).is rfl) q
    · obtain ⟨t, rfl⟩ : ∃ t, d = .str t := by cases d <;> simp_all [isI, isNone, atomS]
      exact t_retI s4 ((g_andV (b := true) (g_isi (g_var rfl (Rp.mono (e3'.trans e4) _ _ hx)) (kit_str _)) fun _ => (g_opI (g_var rfl (Rp.mono (e3'.trans e4) _ _ hx)) (g_var rfl (Rp.mono (e3'.trans e4) _ _ hy)) rv_eqS).is (by simp)).is rfl) q
theorem ok_same {f : Addr} {fd : FuncData} (Fn : Fun K "_law_same" "_law_same" s_law_same f fd) (T : Tx mg) (b_law_same : Binds K fd ["_law_one", "_law_other"] []) (g_law_same : mg "_law_same" = some (.ref f)) : FnOk P w K mg base CX0 2 f fd ["_law_one", "_law_other"] (spSm K lb1) :=
  same_step Fn T b_law_same g_law_same (same_step Fn T b_law_same g_law_same
    ⟨PSp.len (fun _ => rfl), fun _ _ _ _ _ _ _ _ _ _ _ _ _ h => by obtain ⟨_, _, hf, _⟩ := h; exact hf.elim⟩)
theorem dN_lb {ks : List Nat} (h : ks.length ≤ 40000) : lb1 (dN ks) := ⟨by rw [List.length_map]; exact h, fun d hd => by
  obtain ⟨k, _, rfl⟩ := List.mem_map.mp hd
  exact rfl⟩
/-! the law's rounds -/
def spLRounds (P : Program) (w : World) (K : PySem.W.Frag) : Sp := fun vs H Q _ => ∃ (n m t j : Nat) (Ss : List Nat) (tabs : List Tab) (lot : List Nat) (ls : List Seat) (F : Hp) (v u r : V), vs = [v, u, r] ∧ (TabsOk n m Ss tabs ∧ n ≤ 4 ∧ (∀ S ∈ Ss, S ≤ 5) ∧ StOk n m tabs ls ∧ lot.Pairwise (· < ·) ∧ (∀ h ∈ lot, h < n) ∧ RoundsAt (tabsF tabs) lot ls t j) ∧ Ex F H ∧ LstX (LawTab P w K) F v tabs ∧ Rp K F u (standD ls) ∧ Rp K F r (dN lot) ∧
  ∀ z F2 H2, Step none F H F2 H2 → Rp K F2 z (.tuple [dN ((stepsTo (tabsF tabs) lot ls t).take (stepsTo (tabsF tabs) lot ls j).length), dN ((stepsTo (tabsF tabs) lot ls t).drop (stepsTo (tabsF tabs) lot ls j).length), standD (atS (tabsF tabs) lot ls t)]) → Q z H2
theorem ok_lrounds {f fS : Addr} {fd fdS : FuncData} (Fn : Fun K "_law_rounds" "_law_rounds" s_law_rounds f fd) (T : Tx mg)
    (F_law_step : Fun K "_law_step" "_law_step" s_law_step fS fdS) (b_law_step : Binds K fdS ["_law_tables_here", "_law_standing", "_law_house"] []) (g_law_step : mg "_law_step" = some (.ref fS)) :
    FnOk P w K mg base CX0 2 f fd ["_law_tables_here", "_law_standing", "_law_lot"] (spLRounds P w K) := by
  have G_law_step : FnOk P w K mg base CX0 1 fS fdS ["_law_tables_here", "_law_standing", "_law_house"] (spLStep P w K) := ok_lstep F_law_step T
  refine Fn.ok sc_law_rounds (fun vs H Q E ⟨_, _, _, _, _, _, _, _, _, _, _, _, h, _⟩ => by rw [h]; rfl) (fun cdv A outer s H vs Q E hr h => ?_)
  obtain ⟨n, m, t, j, Ss, tabs, lot, ls, F, v, u, r, rfl, ⟨tok, n4, hS5, so, asc, hlot, rat⟩, e, lx, hu, hrp, q⟩ := h
  have nd := asc_nd asc
  have few := rat.few
  have lotlen : lot.length ≤ 4 := by
    have := nodup_le nd (b := List.range n) fun x hx => List.mem_range.mpr (hlot x hx)
    rw [List.length_range] at this; omega
  have slen : ∀ k, k ≤ t → (stepsTo (tabsF tabs) lot ls k).length ≤ 4 * 2501 := fun k hk => by
    have h1 := stepsTo_len (tabsF tabs) lot ls k
    have h2 := Nat.mul_le_mul lotlen (Nat.le_trans hk rat.few)
    omega
  have sok := atS_ok tok so nd hlot
  refine ⟨_, (pss_cons (ps_set (i := 3) sc_law_rounds.nd rfl (by first | exact Or.inl rfl | exact Or.inr rfl) (pe_dnewN (P := P) (w := w)))
    (pss_cons (ps_set (i := 4) sc_law_rounds.nd rfl (by first | exact Or.inl rfl | exact Or.inr rfl) (pe_tup pa_nil))
    (pss_cons (ps_for PassesOwn.never rfl (pi_range1 (by rfl) T.range (pa_cons pe_int pa_nil)) (pg_name (i := 5) sc_law_rounds.nd rfl (by first | exact Or.inl rfl | exact Or.inr rfl)) (pss_cons (ps_if (pt_cmpR (o_inN (P := P) (w := w) (K := K) (hu65 hr)) (pv 1) (pv 3) (by rfl)) (pss_one ps_break) pss_nil)
    (pss_cons (ps_asg (pe_callB (c_len (K := K)) (by rfl) T.len (by decide +kernel) (pa_cons (pv 4) pa_nil)) (pg_sub (pv 3) (pv 1) (set_N (P := P) (w := w) (K := K) (hu65 hr))))
    (pss_one (ps_for PassesOwn.never rfl (i_list (K := K) (pe_callB (c_sortTI (K := K)) (by rfl) T.sorted (by decide +kernel) (pa_cons (pv 2) pa_nil))) (pg_name (i := 6) sc_law_rounds.nd rfl (by first | exact Or.inl rfl | exact Or.inr rfl)) (pss_one (ps_if (pt_cmpR op_ne (pe_ix (o_ixT (K := K)) (pe_ix (o_ixT (K := K)) (pv 1) (pv 6) (fun _ _ => rfl)) pe_int (fun _ _ => rfl)) pe_str (nomark _)) (pss_cons (ps_set (i := 1) sc_law_rounds.nd rfl (by first | exact Or.inl rfl | exact Or.inr rfl) (pe_call G_law_step (hr.mono (by decide)) (by rfl) g_law_step F_law_step.kp b_law_step .nil pass0 (pa_cons (pv 0) (pa_cons (pv 1) (pa_cons (pv 6) pa_nil)))))
    (pss_one (ps_set (i := 4) sc_law_rounds.nd rfl (by first | exact Or.inl rfl | exact Or.inr rfl) (pe_op (o_catA (K := K)) (pv 4) (pe_tup (pa_cons (pv 6) pa_nil)))))) pss_nil)))))))
    (pss_cons (ps_set (i := 7) sc_law_rounds.nd rfl (by first | exact Or.inl rfl | exact Or.inr rfl) (pe_dgetN (P := P) (w := w) (K := K) (hu65 hr) (pv 3) (pv 1) (fun _ _ => rfl)))
    (pss_one (ps_ret (pe_tup (pa_cons (pe_slice (s_any (K := K)) (pv 4) (po_some pe_int) (po_some (pv 7))) (pa_cons (pe_slice (s_tup (K := K)) (pv 4) (po_some (pv 7)) po_none) (pa_cons (pv 1) pa_nil)))))))))), ?_⟩
  have g0 : Good none F H := .nil
  refine t_newNO (P := P) (w := w) (K := K) (Own.nil (Step.refl e .nil)) fun l3 o3 H1 w1 do1 => ?_
  refine t_asgF (K := K) (R := Is (dN [])) g0 w1 (g_tupI gs_nil (by simp)) fun d v4 F2 H2 hd w2 e2 hv4 => ?_
  obtain rfl : d = _ := hd
  refine t_forOB (K := K) (RS := (· = (List.range 5000).map natD)) g0 w2 (w_range (n := 5000) g_int (by decide))
    (fun ds i σ' F' L' => i ≤ t ∧ ∃ us z5 z6 o3 xs ur, σ' = [some v, some us, some r, some (.ref l3), some ur, z5, z6, none] ∧ L' = [(l3, o3)] ∧ DctO P w K F' l3 o3 xs ∧ NV K F' xs (begunP (tabsF tabs) lot ls i) ∧ Rp K F' us (standD (atS (tabsF tabs) lot ls i)) ∧ Rp K F' ur (dN (stepsTo (tabsF tabs) lot ls i)))
    (fun σ' F' L' => ∃ us z5 z6 o3 xs ur, σ' = [some v, some us, some r, some (.ref l3), some ur, z5, z6, none] ∧ L' = [(l3, o3)] ∧ DctO P w K F' l3 o3 xs ∧ NV K F' xs (begunP (tabsF tabs) lot ls t) ∧ Rp K F' us (standD (atS (tabsF tabs) lot ls t)) ∧ Rp K F' ur (dN (stepsTo (tabsF tabs) lot ls t)))
    (fun ds hds F3 e3 => ⟨Nat.zero_le _, u, none, none, o3, [], v4, rfl, rfl, do1.mono (e2.trans e3), .nil, Rp.mono (e2.trans e3) _ _ hu, Rp.mono e3 _ _ hv4⟩)
    (fun ds hds i d hd σ' F3 H3 L3 y hI w3 e3 hy Nx Bk hNx hBk => ?_) (fun ds hds σ' F3 L3 hI e3 => ?_) (fun σ' F3 H3 L3 hJ w3 e3 => ?_)
  · obtain ⟨hit, us, z5, z6, o3', xs, ur, rfl, rfl, do3, nv, hus, hur⟩ := hI
    have val : (if false then !(atN xs (nk (standD (atS (tabsF tabs) lot ls i)))).isSome else (atN xs (nk (standD (atS (tabsF tabs) lot ls i)))).isSome) = decide (i = t) := by
      rw [if_neg (by simp)]
      by_cases z : i < t
      · rw [nv.none_ (kb_stand _) begun_kb (rat.fresh z)]
        have : i ≠ t := by omega
        simp [this]
      · obtain rfl : i = t := by omega
        obtain ⟨p, hp, _⟩ := nv.get begun_kb (begun_nd rat.nd) (k := standD (atS (tabsF tabs) lot ls i)) (d := .int ((stepsTo (tabsF tabs) lot ls j).length : Int)) (List.mem_map.mpr ⟨j, List.mem_range.mpr rat.lt, by rw [rat.eq]⟩)
        rw [hp]; simp
    have nd3 : ND P w K (putAll [(l3, o3')] F3) l3 xs := (do3.mono (w3.seeEx g0)).nd (w3.see (k := 0) rfl)
    refine t_ifO (b := decide (i = t)) g0 w3 (et_of (K := K) ((g_inNd (P := P) (w := w) (neg := false) (i := 3) (g_var (i := 1) rfl (Rp.mono (w3.seeEx g0) _ _ hus)) (kb_stand _) (depth_stand _) rfl nd3).is (congrArg PyData.bool val))) (fun hb F4 H4 w4 e4 => ?_) (fun hb F4 H4 w4 e4 => ?_)
    · obtain rfl : i = t := of_decide_eq_true hb
      exact hBk _ F4 H4 _ ⟨us, _, z6, o3', xs, ur, rfl, rfl, do3.mono e4, nv.mono e4, Rp.mono e4 _ _ hus, Rp.mono e4 _ _ hur⟩ w4 e4
    · have hlt : i < t := by have := of_decide_eq_false hb; omega
      dsimp only [tNext]
      have xl : xs.length = i := by rw [nv.len]; simp [begunP]
      refine t_putNO (P := P) (w := w) (K := K) (ks := (atS (tabsF tabs) lot ls i).map seatD) (R := Is (.int ((stepsTo (tabsF tabs) lot ls i).length : Int))) 0 g0 w4 rfl (do3.mono e4) rfl (by omega) (kb_stand _) (depth_stand _) ((g_cbI (gs_one (g_var (i := 4) rfl (Rp.mono (e4.trans (w4.seeEx g0)) _ _ hur))) rc_lenT).is (by rw [List.length_map])) (fun d hd => by rw [show d = _ from hd]; rfl) (fun F'' e'' => g_var (i := 1) rfl (Rp.mono (e4.trans e'') _ _ hus)) fun d vv b o32 F5 H5 hd5 w5 do5 e5 hvv hb5 => ?_
      obtain rfl : d = _ := hd5
      dsimp only [List.set] at w5
      have nv5 : NV K F5 (putN xs (nk (standD (atS (tabsF tabs) lot ls i))) b vv) (begunP (tabsF tabs) lot ls (i + 1)) := by
        have := NV.put (nv.mono (e4.trans e5)) (kb_stand _) begun_kb (rat.fresh hlt) hb5 hvv
        unfold begunP at this ⊢
        rw [List.range_succ, List.map_append]
        exact this
      have e35 := e4.trans e5
      have hrp5 : Rp K F5 r (dT (lot.map fun k : Nat => (k : Int))) := by
        have := Rp.mono ((e2.trans e3).trans e35) _ _ hrp
        rwa [show dT (lot.map fun k : Nat => (k : Int)) = dN lot by unfold dT dN; rw [List.map_map]; rfl]
      refine t_forO1 (K := K) (RS := (· = lot.map natD)) g0 w5 (w_listE ((g_sortTI (g_var (i := 2) rfl hrp5) (by rw [List.length_map]; omega)).imp fun d ⟨ms, h1, h2, h3⟩ => ⟨ms.map .int, h1, ?_⟩)) (fun ds i' σ' F' L' => ∃ us ur z6, σ' = [some v, some us, some r, some (.ref l3), some ur, some y, z6, none] ∧ L' = [(l3, o32)] ∧ Rp K F' us (standD (runS (tabsF tabs) (atS (tabsF tabs) lot ls i) (steppers (lot.take i') (atS (tabsF tabs) lot ls i)))) ∧ Rp K F' ur (dN (stepsTo (tabsF tabs) lot ls i ++ steppers (lot.take i') (atS (tabsF tabs) lot ls i))))
        (fun ds hds F6 e6 => ⟨us, ur, z6, rfl, rfl, Rp.mono (e35.trans e6) _ _ hus, ?_⟩) (fun ds hds k d hd σ' F6 H6 L6 y6 hI w6 e6 hy6 N2 hN2 => ?_) (fun ds hds σ' F6 H6 L6 hI w6 e6 => ?_)
      · refine lot_asc asc ?_ fun k => h2.mem_iff
        have nd2 : ms.Nodup := h2.nodup_iff.mpr (by
          unfold List.Nodup
          rw [List.pairwise_map]
          exact List.Pairwise.imp (fun {a b} hab => by omega) asc)
        have both := List.Pairwise.and h3 nd2
        exact List.Pairwise.imp (fun {a b} hab => by have := hab.1; have := hab.2; omega) both
      · rw [show (steppers (lot.take 0) (atS (tabsF tabs) lot ls i)) = [] from rfl, List.append_nil]
        exact Rp.mono (e35.trans e6) _ _ hur
      · obtain ⟨us6, ur6, z6', rfl, rfl, hus6, hur6⟩ := hI
        subst hds
        obtain ⟨h, hh, rfl⟩ := get_map hd
        obtain rfl := rp_int hy6
        have hmem : h ∈ lot := List.mem_of_getElem? hh
        have hhn : h < n := hlot h hmem
        have hkl := (List.getElem?_eq_some_iff.mp hh).1
        have tk : lot.take (k + 1) = lot.take k ++ [h] := take_succA hh
        have hnot : h ∉ lot.take k := fun hc => by
          have := nd.sublist (List.take_sublist (k + 1) lot)
          rw [tk, List.nodup_append] at this
          exact this.2.2 h hc h (by simp) rfl
        have sN := sok i
        have st6 : StOk n m tabs (runS (tabsF tabs) (atS (tabsF tabs) lot ls i) (steppers (lot.take k) (atS (tabsF tabs) lot ls i))) := round_ok tok _ _ sN ((nd.sublist (List.take_sublist k lot)).sublist List.filter_sublist) (steppers_ok fun g hg => hlot g (List.mem_of_mem_take hg))
        have seat : (runS (tabsF tabs) (atS (tabsF tabs) lot ls i) (steppers (lot.take k) (atS (tabsF tabs) lot ls i))).getD h seat0 = (atS (tabsF tabs) lot ls i).getD h seat0 := run_other _ _ fun g hg => by
          have hg1 := (List.mem_filter.mp hg).1
          exact ⟨by rw [sN.len]; exact hlot g (List.mem_of_mem_take hg1), fun z => hnot (by rw [← z]; exact hg1)⟩
        have hl6 : h < (runS (tabsF tabs) (atS (tabsF tabs) lot ls i) (steppers (lot.take k) (atS (tabsF tabs) lot ls i))).length := by rw [st6.len]; exact hhn
        refine t_ifO1 (b := !decide (((atS (tabsF tabs) lot ls i).getD h seat0).1 = "done")) g0 w6 ((et_of (K := K) (g_opI (g_opI (g_opI (g_var (i := 1) rfl (Rp.mono (w6.seeEx g0) _ _ hus6)) (g_var (i := 6) (v := .int (h : Int)) rfl (.int _)) (rv_seat hl6)) g_int (rv_ixT (d := .str ((runS (tabsF tabs) (atS (tabsF tabs) lot ls i) (steppers (lot.take k) (atS (tabsF tabs) lot ls i))).getD h seat0).1) (atI_nat (j := 0) rfl))) g_str rv_neS)).is (by rw [seat])) (fun hb F7 H7 w7 e7 => ?_) (fun hb F7 H7 w7 e7 => ?_)
        · have hnd : ((atS (tabsF tabs) lot ls i).getD h seat0).1 ≠ "done" := by simpa using hb
          have sp : steppers (lot.take (k + 1)) (atS (tabsF tabs) lot ls i) = steppers (lot.take k) (atS (tabsF tabs) lot ls i) ++ [h] := by
            unfold steppers
            rw [tk, List.filter_append, List.filter_cons_of_pos (by simpa using hnd), List.filter_nil]
          have sl := slen i hit
          have sl2 : (steppers (lot.take k) (atS (tabsF tabs) lot ls i)).length ≤ 4 := Nat.le_trans (List.length_filter_le _ _) (by rw [List.length_take]; omega)
          refine t_asgF (K := K) (R := Is (standD (stepS (tabsF tabs) (runS (tabsF tabs) (atS (tabsF tabs) lot ls i) (steppers (lot.take k) (atS (tabsF tabs) lot ls i))) h))) g0 w7 (g_lstep (P := P) (w := w) (i1 := 0) (i2 := 1) (i3 := 6) rfl rfl rfl ⟨tok, n4, hS5, st6, hhn, by rw [seat]; exact hnd⟩ (LstX.mono LawTab.mono (((e2.trans e3).trans e35).trans (e6.trans e7)) lx) (Rp.mono e7 _ _ hus6)) fun d us8 F8 H8 hd8 w8 e8 hus8 => ?_
          obtain rfl : d = _ := hd8
          refine t_asgF1 (K := K) (R := Is (dN (stepsTo (tabsF tabs) lot ls i ++ (steppers (lot.take k) (atS (tabsF tabs) lot ls i) ++ [h])))) g0 w8 ((g_opI (g_var (i := 4) rfl (Rp.mono (e7.trans e8) _ _ hur6)) (g_tupI (ds := [natD h]) (gs_one (g_var (i := 6) (v := .int (h : Int)) rfl (.int _))) (by show 1 ≤ 100000; decide)) (rv_catA (by simp; omega))).is (by
            show PyData.tuple _ = PyData.tuple _
            simp only [List.map_append, List.map_cons, List.map_nil, List.append_assoc])) fun d ur9 F9 H9 hd9 w9 e9 hur9 => ?_
          obtain rfl : d = _ := hd9
          refine hN2 _ F9 H9 _ ⟨us8, ur9, _, rfl, rfl, ?_, ?_⟩ w9 ((e7.trans e8).trans e9)
          · rw [sp, runS_snoc]; exact Rp.mono e9 _ _ hus8
          · rw [sp]; exact hur9
        · have hdn : ((atS (tabsF tabs) lot ls i).getD h seat0).1 = "done" := by simpa using hb
          have sp : steppers (lot.take (k + 1)) (atS (tabsF tabs) lot ls i) = steppers (lot.take k) (atS (tabsF tabs) lot ls i) := by
            unfold steppers
            rw [tk, List.filter_append, List.filter_cons_of_neg (by simpa using hdn), List.filter_nil, List.append_nil]
          refine hN2 _ F7 H7 _ ⟨us6, ur6, _, rfl, rfl, ?_, ?_⟩ w7 e7
          · rw [sp]; exact Rp.mono e7 _ _ hus6
          · rw [sp]; exact Rp.mono e7 _ _ hur6
      · obtain ⟨us6, ur6, z6', rfl, rfl, hus6, hur6⟩ := hI
        subst hds
        rw [List.length_map, List.take_length] at hus6 hur6
        exact hNx _ F6 H6 _ ⟨hlt, us6, _, _, o32, _, ur6, rfl, rfl, do5.mono e6, nv5.mono e6, hus6, hur6⟩ w6 (e35.trans e6)
  · obtain ⟨hit, _⟩ := hI
    subst hds
    simp at hit; omega
  · obtain ⟨us, z5, z6, o3', xs, ur, rfl, rfl, do3, nv, hus, hur⟩ := hJ
    have nd3 : ND P w K (putAll [(l3, o3')] F3) l3 xs := (do3.mono (w3.seeEx g0)).nd (w3.see (k := 0) rfl)
    obtain ⟨p, hp, hz⟩ := (nv.mono (w3.seeEx g0)).get begun_kb (begun_nd rat.nd) (k := standD (atS (tabsF tabs) lot ls t)) (d := .int ((stepsTo (tabsF tabs) lot ls j).length : Int)) (List.mem_map.mpr ⟨j, List.mem_range.mpr rat.lt, by rw [rat.eq]⟩)
    refine t_asgO (K := K) (R := Is (.int ((stepsTo (tabsF tabs) lot ls j).length : Int))) g0 w3 (g_dgetN (P := P) (w := w) (i := 3) rfl nd3 (g_var (i := 1) rfl (Rp.mono (w3.seeEx g0) _ _ hus)) (fun b F' hb => tup_ref hb) (kb_stand _) (depth_stand _) hp hz) (fun d hd => by rw [show d = _ from hd]; rfl) fun d v7 F4 H4 hd w4 e4 hv7 => ?_
    obtain rfl : d = _ := hd
    obtain rfl := rp_int hv7
    have gc : ∀ {σ' : L2.St} {F' : Hp}, σ'[7]? = some (some (.int ((stepsTo (tabsF tabs) lot ls j).length : Int))) → EvG K none (tVar 7) σ' F' (Is (.int ((stepsTo (tabsF tabs) lot ls j).length : Int))) := fun h => g_var (v := .int _) h (.int _)
    have hur4 := Rp.mono e4 _ _ hur
    refine t_retI (K := K) w4.step (g_tupI (gs_three ((g_slU0 (i := (stepsTo (tabsF tabs) lot ls j).length) (ds := (stepsTo (tabsF tabs) lot ls t).map natD) (.inr rfl) (g_var (i := 4) rfl hur4) (gc rfl)).is ?_) ((g_slA (i := (stepsTo (tabsF tabs) lot ls j).length) (g_var (i := 4) rfl hur4) (gc rfl)).is ?_) (g_var (i := 1) rfl (Rp.mono e4 _ _ hus))) (by show 3 ≤ 100000; decide)) q
    · show PyData.tuple _ = PyData.tuple _
      rw [List.map_take]
    · show PyData.tuple _ = PyData.tuple _
      rw [List.map_drop]
end
end KD

namespace KD
open PySem PySem.Spec PyProof.Rows L2 L2H Fv Evl StX
abbrev s_law_held : Stmt := topS 45
theorem sc_law_held : FnScope ["_law_program_here", "_law_tables_here", "_law_standing", "_law_lot", "_law_run_here", "_law_loop", "_law_last", "_law_told_here", "_law_back", "_law_house"] ["_law_program_here", "_law_tables_here", "_law_standing", "_law_lot"] (defScope s_law_held) := ⟨rfl, rfl, rfl, by decide +kernel, rfl, by decide +kernel, by decide +kernel⟩
abbrev s_law : Stmt := topS 46
theorem sc_law : FnScope ["_law_script", "_law_pot_here", "_law_n", "_law_m", "_law_tables_here", "_law_program_here", "_law_entry", "_law_house", "_law_run_here", "_law_passed", "_law_places", "_law_at", "_law_lot"] ["_law_script"] (defScope s_law) := ⟨rfl, rfl, rfl, by decide +kernel, rfl, by decide +kernel, by decide +kernel⟩
/-- the loop is empty exactly if all of the lot are done -/
theorem loop_nil {T : Nat → Tab} {lot : List Nat} {ls : List Seat} {t j : Nat} (r : RoundsAt T lot ls t j) : (stepsTo T lot ls t).drop (stepsTo T lot ls j).length = [] ↔ steppers lot (atS T lot ls t) = [] := by
  have lt := r.lt
  have h1 : stepsTo T lot ls (j + 1) <+: stepsTo T lot ls t := by
    have := stepsTo_pre T lot ls (j + 1) (t - (j + 1))
    rwa [show j + 1 + (t - (j + 1)) = t by omega] at this
  obtain ⟨Y, hY⟩ := h1
  have e : (stepsTo T lot ls t).drop (stepsTo T lot ls j).length = steppers lot (atS T lot ls j) ++ Y := by
    rw [← hY, stepsTo, List.append_assoc, List.drop_left]
  rw [e, ← r.eq]
  constructor
  · intro h
    exact (List.append_eq_nil_iff.mp h).1
  · intro h
    have e2 : atS T lot ls (j + 1) = atS T lot ls j := by rw [atS, h]; rfl
    have ht : t = j + 1 := by
      refine Classical.byContradiction fun hc => ?_
      have := (List.getElem_inj (h₀ := by rw [List.length_map, List.length_range]; omega) (h₁ := by rw [List.length_map, List.length_range]; omega) r.nd (i := j + 1) (j := j)).mp (by simpa using e2)
      omega
    rw [h, List.nil_append]
    have := congrArg List.length hY
    rw [ht, List.length_append] at this
    exact List.eq_nil_of_length_eq_zero (by omega)
theorem eqRB_self (r l : List Nat) : eqRB r l r l = true := by simp [eqRB]
theorem eqRB_run (r l : List Nat) : eqRB (r ++ [0]) l r l = false := by simp [eqRB]
theorem eqRB_loop (r l : List Nat) : eqRB r (l ++ [0]) r l = false := by simp [eqRB]
section
variable {P : Program} {w : World} {K : PySem.W.Frag} {mg : Str → Option Value} {base : Heap} {CT CR : Addr}
variable {pt : Option Pt} {σ : L2.St} {F F' F0 H0 H F2 H2 : Hp} {te ti ta tb ty td : TE} {ts tr : TA} {t u : TT} {D : Ends} {tz tu tw : TS} {l a x dx : Addr} {xs : List NEnt} {fs : List (Str × V)} {f : Str} {i : Nat} {L : List Own1} {o : HO}
theorem RpAll.rev : ∀ {ds : List PyData} {vs : List V}, RpAll K F vs ds → RpAll K F vs.reverse ds.reverse
  | [], _, h => by cases h; exact .nil
  | d :: ds, _, h => by
    cases h with
    | cons h1 h2 =>
      rw [List.reverse_cons, List.reverse_cons]
      exact (RpAll.rev h2).append (.cons h1 .nil)
theorem g_rev {ds : List PyData} (h : EvG K pt te σ F (Is (.list ds))) : EvG K pt (tRevL K te) σ F (Is (.list ds.reverse)) := fun H1 e g Q q =>
  h H1 e g _ fun d v F2 H2 hd s hv => by
    subst hd
    obtain ⟨a, xs, rfl, hl, ha⟩ := rp_lst hv
    refine ⟨a, xs, rfl, SqL.of (s.inn _ _ hl), fun p hp => ?_⟩
    have s3 : Step pt F2 H2 (upd F2 p (.lst xs.reverse)) (upd H2 p (.lst xs.reverse)) := .laid s.inn s.good hp
    exact q _ _ _ _ rfl (s.trans s3) (.lst upd_same (RpAll.mono s3.sub _ _ (RpAll.rev ha)))
/-- tuple(program) -/
theorem x_tupProg {i n m : Nat} {v : V} {T : Nat → Tab} (h0 : σ[i]? = some (some v)) (px : ProgX P w K CT F v n m T) : EvX pt (tCB (rTup K) (tCons (tVar i) tNil)) σ F (fun z F2 => ProgX P w K CT F2 z n m T) := fun H1 e g Q q => by
  obtain ⟨a, us, rfl, hl, hn, tabs⟩ := px.ex
  rcases hl with hl | hl
  · exact ⟨_, h0, a, us, rfl, .inr ⟨tx e hl, q _ F H1 px (.refl e g)⟩⟩
  · refine ⟨_, h0, a, us, rfl, .inl ⟨SqL.of (e _ _ hl), fun p hp => ?_⟩⟩
    have s3 : Step pt F H1 (upd F p (.tup us)) (upd H1 p (.tup us)) := .laid e g hp
    exact q _ _ _ ⟨⟨p, us, rfl, .inl upd_same, hn, fun k hk => by
      obtain ⟨x, h1, h2⟩ := tabs k hk
      exact ⟨x, h1, h2.mono s3.sub⟩⟩, px.ok⟩ s3
theorem x_go {E : XK} {n m t j : Nat} {T : Nat → Tab} {lot l2 : List Nat} {ls : List Seat} {d : PyData} {i2 : Nat} {u : V} (h1 : EvX pt te σ F (fun z F2 => ProgX P w K CT F2 z n m T)) (h2 : σ[i2]? = some (some u)) (h3 : EvG K pt ty σ F (Is d)) (hb : n ≤ 4 ∧ ls.length = n ∧ lot.Pairwise (· < ·) ∧ (∀ h ∈ lot, h < n) ∧ RoundsAt T lot ls t j) (hd : d = .list (l2.map natD) ∨ d = .tuple (l2.map natD)) (hl : l2.length ≤ 60) (hm : ∀ k, k ∈ l2 ↔ k ∈ lot) (hu : Rp K F u (standD ls)) :
    EvX pt (tCall (spGo P w K CT CR) [] E (tCons te (tCons (tVar i2) (tCons ty tNil)))) σ F (fun v F2 => ∃ z, v = .ref z ∧ RndAt K CR F2 z ((stepsTo T lot ls t).take (stepsTo T lot ls j).length) ((stepsTo T lot ls t).drop (stepsTo T lot ls j).length)) := fun H1 e g Q q =>
  h1 H1 e g _ fun v F1 H2 px s1 => ⟨_, h2, h3.mono s1.sub H2 s1.inn s1.good _ fun d' r F2 H3 hd' s2 hr => by
    subst hd'
    obtain ⟨n4, hln, asc, hlot, rat⟩ := hb
    exact ⟨n, m, t, j, T, lot, ls, _, F2, v, u, r, rfl, ⟨n4, hln, asc, hlot, rat, fun k => by rw [atS_len, hln], l2, hd, hl, hm⟩, s2.inn, px.mono s2.sub, Rp.mono (s1.sub.trans s2.sub) _ _ hu, hr, fun z F3 H4 s3 ra => q _ F3 H4 ⟨z, rfl, ra⟩ ((s1.trans s2).trans (s3.lift s2.good))⟩⟩
theorem g_lrounds {E : XK} {n m t j : Nat} {Ss : List Nat} {tabs : List Tab} {lot : List Nat} {ls : List Seat} {v u r : V} {i1 i2 i3 : Nat} (h1 : σ[i1]? = some (some v)) (h2 : σ[i2]? = some (some u)) (h3 : σ[i3]? = some (some r)) (hb : TabsOk n m Ss tabs ∧ n ≤ 4 ∧ (∀ S ∈ Ss, S ≤ 5) ∧ StOk n m tabs ls ∧ lot.Pairwise (· < ·) ∧ (∀ h ∈ lot, h < n) ∧ RoundsAt (tabsF tabs) lot ls t j) (lx : LstX (LawTab P w K) F v tabs) (hu : Rp K F u (standD ls)) (hr : Rp K F r (dN lot)) :
    EvG K pt (tCall (spLRounds P w K) [] E (tCons (tVar i1) (tCons (tVar i2) (tCons (tVar i3) tNil)))) σ F (Is (.tuple [dN ((stepsTo (tabsF tabs) lot ls t).take (stepsTo (tabsF tabs) lot ls j).length), dN ((stepsTo (tabsF tabs) lot ls t).drop (stepsTo (tabsF tabs) lot ls j).length), standD (atS (tabsF tabs) lot ls t)])) := fun H1 e g Q q =>
  ⟨_, h1, _, h2, _, h3, n, m, t, j, Ss, tabs, lot, ls, F, v, u, r, rfl, hb, e, lx, hu, hr, fun z F2 H2 s rz => q _ z F2 H2 rfl (s.lift g) rz⟩
/-! what is held of one standing and one lot -/
def spHeld (P : Program) (w : World) (K : PySem.W.Frag) (CT : Addr) : Sp := fun vs H Q _ => ∃ (n m : Nat) (Ss : List Nat) (tabs : List Tab) (lot : List Nat) (ls : List Seat) (F : Hp) (p v u r : V), vs = [p, v, u, r] ∧ (TabsOk n m Ss tabs ∧ n ≤ 4 ∧ (∀ S ∈ Ss, S ≤ 5) ∧ StOk n m tabs ls ∧ lot.Pairwise (· < ·) ∧ (∀ h ∈ lot, h < n) ∧ WorldOk n m Ss) ∧ Ex F H ∧ ProgX P w K CT F p n m (tabsF tabs) ∧ LstX (LawTab P w K) F v tabs ∧ Rp K F u (standD ls) ∧ Rp K F r (dN lot) ∧
  ∀ F2 H2, Step none F H F2 H2 → Q (.bl true) H2
theorem ok_held {f fR fG fS fC fQ : Addr} {fd fdR fdG fdS fdC fdQ : FuncData} (Fn : Fun K "_law_held" "_law_held" s_law_held f fd) (T : Tx mg) (RC : RndC K CR) (RT : RndT K CR)
    (F_law_rounds : Fun K "_law_rounds" "_law_rounds" s_law_rounds fR fdR) (b_law_rounds : Binds K fdR ["_law_tables_here", "_law_standing", "_law_lot"] []) (g_law_rounds : mg "_law_rounds" = some (.ref fR)) (G_law_rounds : FnOk P w K mg base CX0 2 fR fdR ["_law_tables_here", "_law_standing", "_law_lot"] (spLRounds P w K))
    (F_go_round : Fun K "go_round" "go_round" s_go_round fG fdG) (b_go_round : Binds K fdG ["program", "standing", "lot"] []) (g_go_round : mg "go_round" = some (.ref fG)) (G_go_round : FnOk P w K mg base CX0 7 fG fdG ["program", "standing", "lot"] (spGo P w K CT CR))
    (F_law_same : Fun K "_law_same" "_law_same" s_law_same fS fdS) (b_law_same : Binds K fdS ["_law_one", "_law_other"] []) (g_law_same : mg "_law_same" = some (.ref fS))
    (M_Rounds : Mk K CR fC) (g_Rounds : mg "Rounds" = some (.ref CR)) (b_Rounds : Binds K fdC ["self", "run", "loop"] []) (G_Rounds : FnOk P w K mg base CX0 5 fC fdC ["self", "run", "loop"] (spRnd K CR))
    (c_eq : PySem.W.findIn K (.ref CR) "__eq__" = some (some (.ref fQ))) (i_eq : PySem.W.isFn K (.ref fQ) = true) (b_eq : Binds K fdQ ["self", "other"] []) (G_eq : FnOk P w K mg base CX0 1 fQ fdQ ["self", "other"] (spREq K CR)) :
    FnOk P w K mg base CX0 8 f fd ["_law_program_here", "_law_tables_here", "_law_standing", "_law_lot"] (spHeld P w K CT) := by
  have G_law_same : FnOk P w K mg base CX0 2 fS fdS ["_law_one", "_law_other"] (spSm K lb1) := ok_same F_law_same T b_law_same g_law_same
  refine Fn.ok sc_law_held (fun vs H Q E ⟨_, _, _, _, _, _, _, _, _, _, _, h, _⟩ => by rw [h]; rfl) (fun cdv A outer s H vs Q E hr h => ?_)
  obtain ⟨n, m, Ss, tabs, lot, ls, F, p, v, u, r, rfl, ⟨tok, n4, hS5, so, asc, hlot, wo⟩, e, px, lx, hu, hrp, q⟩ := h
  have nd := asc_nd asc
  obtain ⟨t, j, rat⟩ := rounds_at tok wo so nd hlot
  have few := rat.few
  have lotlen : lot.length ≤ 4 := by
    have := nodup_le nd (b := List.range n) fun x hx => List.mem_range.mpr (hlot x hx)
    rw [List.length_range] at this; omega
  have slen : (stepsTo (tabsF tabs) lot ls t).length ≤ 4 * 2501 := by
    have h1 := stepsTo_len (tabsF tabs) lot ls t
    have h2 := Nat.mul_le_mul lotlen few
    omega
  have lnil := loop_nil rat
  have lenT : (atS (tabsF tabs) lot ls t).length = n := by rw [atS_len]; exact so.len
  refine ⟨_, (pss_cons (ps_asg (pe_call G_law_rounds (hr.mono (by decide)) (by rfl) g_law_rounds F_law_rounds.kp b_law_rounds .nil pass0 (pa_cons (pv 1) (pa_cons (pv 2) (pa_cons (pv 3) pa_nil)))) (pg_tup rfl (pgs_cons (pg_name (i := 4) sc_law_held.nd rfl (by first | exact Or.inl rfl | exact Or.inr rfl)) (pgs_cons (pg_name (i := 5) sc_law_held.nd rfl (by first | exact Or.inl rfl | exact Or.inr rfl)) (pgs_cons (pg_name (i := 6) sc_law_held.nd rfl (by first | exact Or.inl rfl | exact Or.inr rfl)) pgs_nil)))))
    (pss_cons (ps_set (i := 7) sc_law_held.nd rfl (by first | exact Or.inl rfl | exact Or.inr rfl) (pe_call G_go_round (hr.mono (by decide)) (by rfl) g_go_round F_go_round.kp b_go_round .nil pass0 (pa_cons (pv 0) (pa_cons (pv 2) (pa_cons (pv 3) pa_nil)))))
    (pss_cons (ps_set (i := 8) sc_law_held.nd rfl (by first | exact Or.inl rfl | exact Or.inr rfl) (pe_call G_go_round (hr.mono (by decide)) (by rfl) g_go_round F_go_round.kp b_go_round .nil pass0 (pa_cons (pe_callTy (c_tup (K := K)) (by rfl) T.tuple (by decide +kernel) (pa_cons (pv 0) pa_nil)) (pa_cons (pv 2) (pa_cons (pe_revL (pe_callTy (c_list (K := K)) (by rfl) T.list (by decide +kernel) (pa_cons (pv 3) pa_nil))) pa_nil)))))
    (pss_cons (ps_if (PW.pt (pw_or (pt_not (pt_val (pe_callB (c_isi (K := K)) (by rfl) T.isinstance (by decide +kernel) (pa_cons (pv 7) (pa_cons (pe_glob (v := .ref CR) (by rfl) g_Rounds rfl) pa_nil))))) (pw_or (pt_not (pt_val (pe_call G_law_same (hr.mono (by decide)) (by rfl) g_law_same F_law_same.kp b_law_same .nil pass0 (pa_cons (e_fld (K := K) (pv 7) rfl) (pa_cons (pv 4) pa_nil))))) (pw_or1 (pt_not (pt_val (pe_call G_law_same (hr.mono (by decide)) (by rfl) g_law_same F_law_same.kp b_law_same .nil pass0 (pa_cons (e_fld (K := K) (pv 7) rfl) (pa_cons (pv 5) pa_nil))))))))) (pss_one (ps_ret pe_bl)) pss_nil)
    (pss_cons (ps_if (PW.pt (pw_or (pt_cmpR (op_neI (KD.fnSame G_eq) (hr.mono (by decide)) b_eq pass0 c_eq i_eq RT.ne RT.ob) (pv 7) (pv 8) (nomark _)) (pw_or (pt_cmpR (o_neD (K := K) hr.units) (e_fld (K := K) (pv 8) rfl) (pv 4) (nomark _)) (pw_or1 (pt_cmpR (op_neI (KD.fnSame G_eq) (hr.mono (by decide)) b_eq pass0 c_eq i_eq RT.ne RT.ob) (pe_make M_Rounds G_Rounds (hr.mono (by decide)) (by rfl) g_Rounds b_Rounds .nil pass0 (pa_cons (pv 4) (pa_cons (pv 5) pa_nil))) (pv 7) (nomark _)))))) (pss_one (ps_ret pe_bl)) pss_nil)
    (pss_cons (ps_if (PW.pt (pw_or (pt_cmpR (op_eqI (KD.fnSame G_eq) (hr.mono (by decide)) b_eq pass0 c_eq i_eq) (pe_make M_Rounds G_Rounds (hr.mono (by decide)) (by rfl) g_Rounds b_Rounds .nil pass0 (pa_cons (pe_op (o_catA (K := K)) (pv 4) (pe_tup (pa_cons pe_int pa_nil))) (pa_cons (pv 5) pa_nil))) (pv 7) (nomark _)) (pw_or1 (pt_cmpR (op_eqI (KD.fnSame G_eq) (hr.mono (by decide)) b_eq pass0 c_eq i_eq) (pe_make M_Rounds G_Rounds (hr.mono (by decide)) (by rfl) g_Rounds b_Rounds .nil pass0 (pa_cons (pv 4) (pa_cons (pe_op (o_catA (K := K)) (pv 5) (pe_tup (pa_cons pe_int pa_nil))) pa_nil))) (pv 7) (nomark _))))) (pss_one (ps_ret pe_bl)) pss_nil)
    (pss_one (ps_ret (pe_cmpR op_eq (pe_cmpR (o_eqD (K := K) hr.units) (pv 5) (pe_tup pa_nil) (nomark _)) (pe_cmpR (o_eqD (K := K) hr.units) (pe_lc (own := [("_law_house", 9)]) (g := gName 9) rfl sc_law_held.nd (i_tup (K := K) (pv 3)) (blkOk_by (own := [("_law_house", 9)]) (N := ["_law_program_here", "_law_tables_here", "_law_standing", "_law_lot", "_law_run_here", "_law_loop", "_law_last", "_law_told_here", "_law_back", "_law_house"]) (sc := (defScope s_law_held)) (by decide +kernel)) (fun _ _ _ _ _ => pg_name (i := 9) sc_law_held.nd rfl (by first | exact Or.inl rfl | exact Or.inr rfl)) (fun _ _ _ _ _ => (pts_one (pt_cmpR op_ne (pe_ix (o_ixT (K := K)) (pe_ix (o_ixT (K := K)) (pv 6) (pv 9) (fun _ _ => rfl)) pe_int (fun _ _ => rfl)) pe_str (nomark _)))) (fun _ _ _ _ _ => (pv 9))) (pe_lst pa_nil) (nomark _)) (nomark _)))))))))), ?_⟩
  have gR := g_lrounds (P := P) (w := w) (K := K) (pt := none) (E := E0) (i1 := 1) (i2 := 2) (i3 := 3) (σ := [some p, some v, some u, some r, none, none, none, none, none, none]) rfl rfl rfl ⟨tok, n4, hS5, so, asc, hlot, rat⟩ lx hu hrp
  have gP := x_tupProg (K := K) (pt := none) (i := 0) (σ := [some p, some v, some u, some r, none, none, none, none, none, none]) rfl px
  have goA : ∀ {σ' : L2.St} {F' : Hp} {te ty : TE} {d : PyData} {l2 : List Nat}, Ex F F' → EvX none te σ' F' (fun z F2 => ProgX P w K CT F2 z n m (tabsF tabs)) → σ'[2]? = some (some u) → EvG K none ty σ' F' (Is d) → (d = .list (l2.map natD) ∨ d = .tuple (l2.map natD)) → l2.length ≤ 60 → (∀ k, k ∈ l2 ↔ k ∈ lot) → EvX none (tCall (spGo P w K CT CR) [] E0 (tCons te (tCons (tVar 2) (tCons ty tNil)))) σ' F' (fun v F2 => ∃ z, v = .ref z ∧ RndAt K CR F2 z ((stepsTo (tabsF tabs) lot ls t).take (stepsTo (tabsF tabs) lot ls j).length) ((stepsTo (tabsF tabs) lot ls t).drop (stepsTo (tabsF tabs) lot ls j).length)) := fun e' h1 h2 h3 hd hl hm => x_go h1 h2 h3 ⟨n4, so.len, asc, hlot, rat⟩ hd hl hm (Rp.mono e' _ _ hu)
  generalize hrun : (stepsTo (tabsF tabs) lot ls t).take (stepsTo (tabsF tabs) lot ls j).length = run at *
  generalize hloop : (stepsTo (tabsF tabs) lot ls t).drop (stepsTo (tabsF tabs) lot ls j).length = loop at *
  have rl : run.length ≤ 20000 := by rw [← hrun, List.length_take]; omega
  have ll : loop.length ≤ 20000 := by rw [← hloop, List.length_drop]; omega
  refine t_three (Step.refl e .nil) gR rfl fun v4 v5 v6 F1 H1 s1 e1 h4 h5 h6 => ?_
  have xv : ∀ {σ' : L2.St} {F' : Hp} {x : Addr} {k : Nat}, σ'[k]? = some (some (.ref x)) → RndAt K CR F' x run loop → EvX none (tVar k) σ' F' (fun v F2 => ∃ b, v = .ref b ∧ RndAt K CR F2 b run loop) := fun h0 ra H1 e g Q q => ⟨_, h0, q _ _ H1 ⟨_, rfl, ra⟩ (.refl e g)⟩
  refine t_asgX s1 (goA (l2 := lot) (d := dN lot) e1 (fun H1 e g Q q => ⟨_, rfl, q _ F1 H1 (px.mono e1) (.refl e g)⟩) rfl (g_var (i := 3) rfl (Rp.mono e1 _ _ hrp)) (.inr rfl) (by omega) fun k => Iff.rfl) fun v7 F2 H2 ⟨x7, ev7, r7⟩ s2 e2 => ?_
  subst ev7
  have e12 := e1.trans e2
  refine t_asgX s2 (goA (l2 := lot.reverse) (d := .list (lot.map natD).reverse) e12 (x_tupProg (i := 0) rfl (px.mono e12)) rfl (g_rev (g_cbI (gs_one (g_var (i := 3) rfl (Rp.mono e12 _ _ hrp))) (rc_list (.inr rfl)))) (.inl (by rw [List.map_reverse])) (by rw [List.length_reverse]; omega) fun k => List.mem_reverse) fun v8 F3 H3 ⟨x8, ev8, r8⟩ s3 e3 => ?_
  subst ev8
  have h4' := Rp.mono (e2.trans e3) _ _ h4
  have h5' := Rp.mono (e2.trans e3) _ _ h5
  have h6' := Rp.mono (e2.trans e3) _ _ h6
  have r7' := r7.mono e3
  have same : ∀ {σ' : L2.St} {F' : Hp} {te1 te2 : TE} {ks : List Nat}, ks.length ≤ 20000 → EvG K none te1 σ' F' (Is (dN ks)) → EvG K none te2 σ' F' (Is (dN ks)) → EtG none (tB (tCall (spSm K lb1) [] E0 (tCons te1 (tCons te2 tNil)))) σ' F' (· = true) := fun hk h1 h2 => et_B (K := K) (g_call (dN _) (gs_two h1 h2) rfl (dN_lb (by omega)))
  refine t_skip s3 ((et_or (a := false) (b := false) ((et_not (b := true) (et_B (K := K) (g_isR RT (i := 7) rfl r7'))).is rfl) fun _ => ((et_or (a := false) (b := false) ((et_not (b := true) (same rl (r7'.fR RC (i := 7) rfl) (g_var (i := 4) rfl h4'))).is rfl) fun _ => (et_not (b := true) (same ll (r7'.fL RC (i := 7) rfl) (g_var (i := 5) rfl h5'))).is rfl).is rfl)).is rfl) fun F4 H4 s4 e4 => ?_
  have h44 := Rp.mono e4 _ _ h4'
  have h54 := Rp.mono e4 _ _ h5'
  have r74 := r7'.mono e4
  have r84 := r8.mono e4
  have mk : ∀ {σ' : L2.St} {F' : Hp} {te1 te2 : TE} {a b : List Nat} {E : XK}, a.length ≤ 40000 → b.length ≤ 40000 → EvG K none te1 σ' F' (Is (dN a)) → EvG K none te2 σ' F' (Is (dN b)) → EvX none (tMake CR (spRnd K CR) [] E (tCons te1 (tCons te2 tNil))) σ' F' (fun v F2 => ∃ x, v = .ref x ∧ RndAt K CR F2 x a b) := fun ha hb h1 h2 => x_rnd (gs_two h1 h2) ⟨⟨.inr rfl, ha⟩, .inr rfl, hb⟩
  refine t_skip s4 ((et_or (a := false) (b := false) ((et_of (K := K) (g_rne (xv (k := 7) rfl r74) fun F' e' => xv (k := 8) rfl (r84.mono e'))).is (by rw [eqRB_self]; rfl)) fun _ => ((et_or (a := false) (b := false) ((et_of (K := K) (g_opI (r84.fR RC (i := 8) rfl) (g_var (i := 4) rfl h44) (rv_neD (shaped_dN _) (shaped_dN _)))).is (by rw [eqv_dN]; simp)) fun _ => (et_of (K := K) (g_rne (mk (by omega) (by omega) (g_var (i := 4) rfl h44) (g_var (i := 5) rfl h54)) fun F' e' => xv (k := 7) rfl (r74.mono e'))).is (by rw [eqRB_self]; rfl)).is rfl)).is rfl) fun F5 H5 s5 e5 => ?_
  have h45 := Rp.mono e5 _ _ h44
  have h55 := Rp.mono e5 _ _ h54
  have r75 := r74.mono e5
  have cat : ∀ {σ' : L2.St} {k : Nat} {y : V} {ks : List Nat}, ks.length ≤ 20000 → σ'[k]? = some (some y) → Rp K F5 y (dN ks) → EvG K none (tOp (rCatA K) (tVar k) (tTup (tCons (tC (.int 0)) tNil))) σ' F5 (Is (dN (ks ++ [0]))) := fun {σ' k y ks} hk h0 hy => (g_opI (g_var h0 hy) (g_tupI (ds := [natD 0]) (gs_one g_int) (by show 1 ≤ 100000; decide)) (rv_catA (by simp; omega))).is (by
    show PyData.tuple _ = PyData.tuple _
    rw [List.map_append]; rfl)
  refine t_skip s5 ((et_or (a := false) (b := false) ((et_of (K := K) (g_req (mk (by rw [List.length_append]; simp; omega) (by omega) (cat rl (k := 4) rfl h45) (g_var (i := 5) rfl h55)) fun F' e' => xv (k := 7) rfl (r75.mono e'))).is (by rw [eqRB_run])) fun _ => (et_of (K := K) (g_req (mk (by omega) (by rw [List.length_append]; simp; omega) (g_var (i := 4) rfl h45) (cat ll (k := 5) rfl h55)) fun F' e' => xv (k := 7) rfl (r75.mono e'))).is (by rw [eqRB_loop])).is rfl) fun F6 H6 s6 e6 => ?_
  have e36 := (e4.trans e5).trans e6
  have e06 := (e12.trans e3).trans e36
  refine t_retI (K := K) (d := .bool true) s6 ((g_opI (g_opI (g_var (i := 5) rfl (Rp.mono e36 _ _ h5')) (g_tupI gs_nil (by simp)) (rv_eqD (shaped_dN loop) (by have := shaped_dN []; exact this))) (g_opI (g_lcE natD lot (fun h => !decide (((atS (tabsF tabs) lot ls t).getD h seat0).1 = "done")) natD (w_tupI (g_var (i := 3) rfl (Rp.mono e06 _ _ hrp))) (by omega) (fun _ => rfl) (fun h hh F'' e'' y hy => ?_) (fun h hh _ F'' e'' y hy => g_var rfl hy)) (g_lstI gs_nil (by simp)) (rv_eqNil ?_)) rv_eqB).is ?_) fun z F7 H7 s7 hz => ?_
  · exact et_of (K := K) (g_opI (g_opI (g_opI (g_var (i := 6) rfl (Rp.mono (e36.trans e'') _ _ h6')) (g_var rfl hy) (rv_seat (by rw [lenT]; exact hlot h hh))) g_int (rv_ixT (d := .str ((atS (tabsF tabs) lot ls t).getD h seat0).1) (atI_nat (j := 0) rfl))) g_str rv_neS)
  · have := shaped_dI ((steppers lot (atS (tabsF tabs) lot ls t)).map fun k : Nat => (k : Int))
    rw [List.map_map] at this
    exact this
  · have e1 : PyData.eqv (dN loop) (.tuple []) = decide (loop = []) := eqv_dN loop []
    rw [e1]
    refine congrArg PyData.bool (decide_eq_true ?_)
    show decide (loop = []) = ((steppers lot (atS (tabsF tabs) lot ls t)).map natD).isEmpty
    rw [Bool.eq_iff_iff, decide_eq_true_eq, lnil, List.isEmpty_iff, List.map_eq_nil_iff]
  · obtain rfl := rp_bool hz
    exact q F7 H7 s7
/-! the law -/
def spLaw (K : PySem.W.Frag) : Sp := fun vs H Q _ => ∃ (a : Addr) (ns : List Int), vs = [.ref a] ∧ SqL K H a (ns.map V.int) ∧ ∀ H', Q (.bl true) H'
theorem g_worldC {E : XK} {q : Pt} {i : Nat} (h0 : σ[i]? = some (some (.ref q.p))) : EvG K (some q) (tCall (spWorld K) [] E (tCons (tVar i) tNil)) σ F (fun d => ∃ d1 d2, d = .tuple [d1, d2] ∧ ∃ n m : Nat, d1 = .int (n : Int) ∧ d2 = .int (m : Int) ∧ ((n = 2 ∧ 1 ≤ m ∧ m ≤ 3) ∨ (n = 3 ∧ m = 2))) := g_callQ () h0 gs_nil rfl trivial
theorem x_tabs {E : XK} {q : Pt} {i0 i1 i2 n m : Nat} (h0 : σ[i0]? = some (some (.ref q.p))) (h1 : σ[i1]? = some (some (.int (n : Int)))) (h2 : σ[i2]? = some (some (.int (m : Int)))) (hb : 2 ≤ n ∧ n ≤ 4 ∧ 1 ≤ m ∧ m ≤ 4) :
    EvX (some q) (tCall (spTabs P w K) [] E (tCons (tVar i0) (tCons (tVar i1) (tCons (tVar i2) tNil)))) σ F (fun z F2 => ∃ Ss ts, TabsOk n m Ss ts ∧ (∀ S ∈ Ss, m ≤ S ∧ S ≤ 5 ∧ (n ≠ 2 → S ≤ max m 2)) ∧ LstX (LawTab P w K) F2 z ts) := fun H1 e g Q k => ⟨_, h0, _, h1, _, h2, q, n, m, F, rfl, hb, e, g, fun z F2 H2 Ss ts h1 h2 s3 lx => k z F2 H2 ⟨Ss, ts, h1, h2, lx⟩ s3⟩
theorem x_prog {E : XK} {i n m : Nat} {Ss : List Nat} {tabs : List Tab} {v : V} (h0 : σ[i]? = some (some v)) (hb : 2 ≤ n ∧ n ≤ 4 ∧ 1 ≤ m ∧ m ≤ 4 ∧ TabsOk n m Ss tabs ∧ ∀ S ∈ Ss, m ≤ S ∧ S ≤ 5) (lx : LstX (LawTab P w K) F v tabs) :
    EvX pt (tCall (spProg P w K CT) [] E (tCons (tVar i) tNil)) σ F (fun z F2 => ProgX P w K CT F2 z n m (tabsF tabs)) := fun H1 e g Q k => ⟨_, h0, n, m, Ss, tabs, F, v, rfl, hb, e, lx, fun z F2 H2 s px => k z F2 H2 px (s.lift g)⟩
theorem g_firstC {E : XK} {i0 i1 n m : Nat} {Ss : List Nat} {tabs : List Tab} {en : List Int} {v u : V} (h0 : σ[i0]? = some (some v)) (h1 : σ[i1]? = some (some u)) (hb : TabsOk n m Ss tabs ∧ n ≤ 4 ∧ en.length = n ∧ ∀ k ∈ en, 0 ≤ k ∧ k < (m : Int)) (lx : LstX (LawTab P w K) F v tabs) (hu : Rp K F u (.list (en.map .int))) :
    EvG K pt (tCall (spFirst P w K) [] E (tCons (tVar i0) (tCons (tVar i1) tNil))) σ F (Is (standD (firstS tabs en))) := fun H1 e g Q k => ⟨_, h0, _, h1, n, m, Ss, tabs, en, F, v, u, rfl, hb, e, lx, hu, fun z F2 H2 s rz => k _ z F2 H2 rfl (s.lift g) rz⟩
theorem g_lrunC {E : XK} {q : Pt} {i0 i1 n m : Nat} {M : Int} {Ss : List Nat} {tabs : List Tab} {ls : List Seat} {v : V} (h0 : σ[i0]? = some (some (.ref q.p))) (h1 : σ[i1]? = some (some v)) (h2 : EvG K (some q) te σ F (Is (standD ls))) (h3 : EvG K (some q) ty σ F (fun d => ∃ k : Int, d = .int k ∧ 0 ≤ k ∧ k < M)) (hM : M ≤ 1000) (hb : TabsOk n m Ss tabs ∧ n ≤ 4 ∧ (∀ S ∈ Ss, S ≤ 5) ∧ StOk n m tabs ls) (lx : LstX (LawTab P w K) F v tabs) :
    EvG K (some q) (tCall (spLRun P w K) [] E (tCons (tVar i0) (tCons (tVar i1) (tCons te (tCons ty tNil))))) σ F (fun d => ∃ d1 d2, d = .tuple [d1, d2] ∧ ∃ run : List Nat, (run.length : Int) < M ∧ RunOk n (tabsF tabs) ls run ∧ d1 = .list (run.map natD) ∧ d2 = .list ((passS (tabsF tabs) ls run).map standD)) := fun H1 e g Q k =>
  ⟨_, h0, _, h1, h2 H1 e g _ fun d u F1 H2 hd s1 hu => h3.mono s1.sub H2 s1.inn s1.good _ fun d3 w3 F2 H3 ⟨N, hN, N0, N1⟩ s2 hw => by
    subst hd; subst hN
    obtain rfl := rp_int hw
    have s12 := s1.trans s2
    obtain ⟨M', rfl⟩ : ∃ M' : Nat, N = (M' : Int) := ⟨N.toNat, by omega⟩
    refine ⟨q, n, m, M', Ss, tabs, ls, F2, v, u, rfl, ⟨hb.1, hb.2.1, hb.2.2.1, hb.2.2.2, by omega⟩, s12.inn, s12.good, LstX.mono LawTab.mono s12.sub lx, Rp.mono s2.sub _ _ hu, fun z F3 H4 run hr ok s3 hz => k _ z F3 H4 ⟨_, _, rfl, run, by omega, ok, rfl, rfl⟩ (s12.trans s3) hz⟩⟩
theorem g_heldC {E : XK} {n m : Nat} {Ss : List Nat} {tabs : List Tab} {lot : List Nat} {ls : List Seat} {p v r : V} {i0 i1 i3 : Nat} (h0 : σ[i0]? = some (some p)) (h1 : σ[i1]? = some (some v)) (h2 : EvG K pt te σ F (Is (standD ls))) (h3 : σ[i3]? = some (some r)) (hb : TabsOk n m Ss tabs ∧ n ≤ 4 ∧ (∀ S ∈ Ss, S ≤ 5) ∧ StOk n m tabs ls ∧ lot.Pairwise (· < ·) ∧ (∀ h ∈ lot, h < n) ∧ WorldOk n m Ss) (px : ProgX P w K CT F p n m (tabsF tabs)) (lx : LstX (LawTab P w K) F v tabs) (hr : Rp K F r (dN lot)) :
    EvG K pt (tCall (spHeld P w K CT) [] E (tCons (tVar i0) (tCons (tVar i1) (tCons te (tCons (tVar i3) tNil))))) σ F (Is (.bool true)) := fun H1 e g Q k =>
  ⟨_, h0, _, h1, h2 H1 e g _ fun d u F1 H2 hd s1 hu => ⟨_, h3, by
    subst hd
    exact ⟨n, m, Ss, tabs, lot, ls, F1, p, v, u, r, rfl, hb, s1.inn, px.mono s1.sub, LstX.mono LawTab.mono s1.sub lx, hu, Rp.mono s1.sub _ _ hr, fun F2 H3 s2 => k _ _ F2 H3 rfl (s1.trans (s2.lift s1.good)) (.bl _)⟩⟩⟩
theorem ok_law {f fP fD fW fTs fPr fF fRu fL fH fU fS : Addr} {fd fdP fdD fdW fdTs fdPr fdF fdRu fdL fdH fdU fdS : FuncData} (Fn : Fun K "law" "law" s_law f fd) (T : Tx mg)
    (F_law_pot : Fun K "_law_pot" "_law_pot" s_law_pot fP fdP) (b_law_pot : Binds K fdP ["_law_script", "_law_salt"] []) (g_law_pot : mg "_law_pot" = some (.ref fP))
    (F_law_draw : Fun K "_law_draw" "_law_draw" s_law_draw fD fdD) (b_law_draw : Binds K fdD ["_law_pot_here", "_law_many"] []) (g_law_draw : mg "_law_draw" = some (.ref fD))
    (F_law_world : Fun K "_law_world" "_law_world" s_law_world fW fdW) (b_law_world : Binds K fdW ["_law_pot_here"] []) (g_law_world : mg "_law_world" = some (.ref fW))
    (F_law_tables : Fun K "_law_tables" "_law_tables" s_law_tables fTs fdTs) (b_law_tables : Binds K fdTs ["_law_pot_here", "_law_n", "_law_m"] []) (g_law_tables : mg "_law_tables" = some (.ref fTs)) (G_law_tables : FnOk P w K mg base CX0 4 fTs fdTs ["_law_pot_here", "_law_n", "_law_m"] (spTabs P w K))
    (F_law_program : Fun K "_law_program" "_law_program" s_law_program fPr fdPr) (b_law_program : Binds K fdPr ["_law_tables_here"] []) (g_law_program : mg "_law_program" = some (.ref fPr)) (G_law_program : FnOk P w K mg base CX0 8 fPr fdPr ["_law_tables_here"] (spProg P w K CT))
    (F_law_first : Fun K "_law_first" "_law_first" s_law_first fF fdF) (b_law_first : Binds K fdF ["_law_tables_here", "_law_entry"] []) (g_law_first : mg "_law_first" = some (.ref fF))
    (F_law_undone : Fun K "_law_undone" "_law_undone" s_law_undone fU fdU) (b_law_undone : Binds K fdU ["_law_standing"] []) (g_law_undone : mg "_law_undone" = some (.ref fU))
    (F_law_step : Fun K "_law_step" "_law_step" s_law_step fS fdS) (b_law_step : Binds K fdS ["_law_tables_here", "_law_standing", "_law_house"] []) (g_law_step : mg "_law_step" = some (.ref fS))
    (F_law_run : Fun K "_law_run" "_law_run" s_law_run fRu fdRu) (b_law_run : Binds K fdRu ["_law_pot_here", "_law_tables_here", "_law_standing", "_law_many"] []) (g_law_run : mg "_law_run" = some (.ref fRu))
    (F_law_lots_all : Fun K "_law_lots_all" "_law_lots_all" s_law_lots_all fL fdL) (b_law_lots_all : Binds K fdL ["_law_n"] []) (g_law_lots_all : mg "_law_lots_all" = some (.ref fL))
    (F_law_held : Fun K "_law_held" "_law_held" s_law_held fH fdH) (b_law_held : Binds K fdH ["_law_program_here", "_law_tables_here", "_law_standing", "_law_lot"] []) (g_law_held : mg "_law_held" = some (.ref fH)) (G_law_held : FnOk P w K mg base CX0 8 fH fdH ["_law_program_here", "_law_tables_here", "_law_standing", "_law_lot"] (spHeld P w K CT)) :
    FnOk P w K mg base CX0 9 f fd ["_law_script"] (spLaw K) := by
  have G_law_pot : FnOk P w K mg base CX0 1 fP fdP ["_law_script", "_law_salt"] (spPot K) := ok_pot F_law_pot T
  have G_law_draw : FnOk P w K mg base CX0 1 fD fdD ["_law_pot_here", "_law_many"] (spDraw K) := ok_draw F_law_draw T
  have G_law_world : FnOk P w K mg base CX0 2 fW fdW ["_law_pot_here"] (spWorld K) := ok_lworld F_law_world T F_law_draw b_law_draw g_law_draw
  have G_law_first : FnOk P w K mg base CX0 1 fF fdF ["_law_tables_here", "_law_entry"] (spFirst P w K) := ok_lfirst F_law_first T
  have G_law_run : FnOk P w K mg base CX0 2 fRu fdRu ["_law_pot_here", "_law_tables_here", "_law_standing", "_law_many"] (spLRun P w K) := ok_lrun F_law_run T F_law_draw b_law_draw g_law_draw F_law_undone b_law_undone g_law_undone F_law_step b_law_step g_law_step
  have G_law_lots_all : FnOk P w K mg base CX0 1 fL fdL ["_law_n"] (spLots K) := ok_lots F_law_lots_all T
  refine Fn.ok sc_law (fun vs H Q E ⟨_, _, h, _⟩ => by rw [h]; rfl) (fun cdv A outer s H vs Q E hr h => ?_)
  obtain ⟨a, ns, rfl, hS, q⟩ := h
  refine ⟨_, (pss_cons (ps_set (i := 1) sc_law.nd rfl (by first | exact Or.inl rfl | exact Or.inr rfl) (pe_call G_law_pot (hr.mono (by decide)) (by rfl) g_law_pot F_law_pot.kp b_law_pot .nil pass0 (pa_cons (pv 0) (pa_cons pe_int pa_nil))))
    (pss_cons (ps_asg (pe_call G_law_world (hr.mono (by decide)) (by rfl) g_law_world F_law_world.kp b_law_world .nil pass0 (pa_cons (pv 1) pa_nil)) (pg_tup rfl (pgs_cons (pg_name (i := 2) sc_law.nd rfl (by first | exact Or.inl rfl | exact Or.inr rfl)) (pgs_cons (pg_name (i := 3) sc_law.nd rfl (by first | exact Or.inl rfl | exact Or.inr rfl)) pgs_nil))))
    (pss_cons (ps_set (i := 4) sc_law.nd rfl (by first | exact Or.inl rfl | exact Or.inr rfl) (pe_call G_law_tables (hr.mono (by decide)) (by rfl) g_law_tables F_law_tables.kp b_law_tables .nil pass0 (pa_cons (pv 1) (pa_cons (pv 2) (pa_cons (pv 3) pa_nil)))))
    (pss_cons (ps_set (i := 5) sc_law.nd rfl (by first | exact Or.inl rfl | exact Or.inr rfl) (pe_call G_law_program (hr.mono (by decide)) (by rfl) g_law_program F_law_program.kp b_law_program .nil pass0 (pa_cons (pv 4) pa_nil)))
    (pss_cons (ps_setLc (i := 6) (own := [("_law_house", 7)]) (g := gName 7) rfl sc_law.nd rfl rfl (sw_true rfl rfl rfl (by decide +kernel)) (pi_range1 (by rfl) T.range (pa_cons (pv 2) pa_nil)) (blkOk_by (own := [("_law_house", 7)]) (N := ["_law_script", "_law_pot_here", "_law_n", "_law_m", "_law_tables_here", "_law_program_here", "_law_entry", "_law_house", "_law_run_here", "_law_passed", "_law_places", "_law_at", "_law_lot"]) (sc := (defScope s_law)) (by decide +kernel)) (fun _ _ _ _ _ => pg_name (i := 7) sc_law.nd rfl (by first | exact Or.inl rfl | exact Or.inr rfl)) (fun _ _ _ _ _ => pts_nil) (fun _ _ _ _ _ => (pe_call G_law_draw (hr.mono (by decide)) (by rfl) g_law_draw F_law_draw.kp b_law_draw .nil pass0 (pa_cons (pv 1) (pa_cons (pv 3) pa_nil)))))
    (pss_cons (ps_asg (pe_call G_law_run (hr.mono (by decide)) (by rfl) g_law_run F_law_run.kp b_law_run .nil pass0 (pa_cons (pv 1) (pa_cons (pv 4) (pa_cons (pe_call G_law_first (hr.mono (by decide)) (by rfl) g_law_first F_law_first.kp b_law_first .nil pass0 (pa_cons (pv 4) (pa_cons (pv 6) pa_nil))) (pa_cons (pe_call G_law_draw (hr.mono (by decide)) (by rfl) g_law_draw F_law_draw.kp b_law_draw .nil pass0 (pa_cons (pv 1) (pa_cons pe_int pa_nil))) pa_nil))))) (pg_tup rfl (pgs_cons (pg_name (i := 8) sc_law.nd rfl (by first | exact Or.inl rfl | exact Or.inr rfl)) (pgs_cons (pg_name (i := 9) sc_law.nd rfl (by first | exact Or.inl rfl | exact Or.inr rfl)) pgs_nil))))
    (pss_cons (ps_set (i := 10) sc_law.nd rfl (by first | exact Or.inl rfl | exact Or.inr rfl) (pe_lst (pa_cons pe_int (pa_cons (pe_op op_sub (pe_callB (c_len (K := K)) (by rfl) T.len (by decide +kernel) (pa_cons (pv 9) pa_nil)) pe_int) (pa_cons (pe_call G_law_draw (hr.mono (by decide)) (by rfl) g_law_draw F_law_draw.kp b_law_draw .nil pass0 (pa_cons (pv 1) (pa_cons (pe_callB (c_len (K := K)) (by rfl) T.len (by decide +kernel) (pa_cons (pv 9) pa_nil)) pa_nil))) pa_nil)))))
    (pss_cons (ps_for PassesOwn.never rfl (i_list (K := K) (pv 10)) (pg_name (i := 11) sc_law.nd rfl (by first | exact Or.inl rfl | exact Or.inr rfl)) (pss_one (ps_for PassesOwn.never rfl (i_list (K := K) (pe_call G_law_lots_all (hr.mono (by decide)) (by rfl) g_law_lots_all F_law_lots_all.kp b_law_lots_all .nil pass0 (pa_cons (pv 2) pa_nil))) (pg_name (i := 12) sc_law.nd rfl (by first | exact Or.inl rfl | exact Or.inr rfl)) (pss_one (ps_if (pt_not (pt_val (pe_call G_law_held (hr.mono (by decide)) (by rfl) g_law_held F_law_held.kp b_law_held .nil pass0 (pa_cons (pv 5) (pa_cons (pv 4) (pa_cons (pe_ix (o_ixL (K := K)) (pv 9) (pv 11) (fun _ _ => rfl)) (pa_cons (pv 12) pa_nil))))))) (pss_one (ps_ret pe_bl)) pss_nil)))))
    (pss_one (ps_ret pe_bl)))))))))), ?_⟩
  refine ⟨_, rfl, ⟨a, ns, 3011, H, rfl, hS, by decide, by decide, Ex.refl H, fun pq F1 H1 s0 g1 _ => ?_⟩⟩
  have s1 : Step (some pq) F1 H1 F1 H1 := Step.refl s0.inn g1
  refine t_pairR s1 (g_worldC (K := K) (i := 1) rfl) rfl fun d1 d2 v2 v3 F2 H2 ⟨n, m, hd1, hd2, nm⟩ s2 e2 h2 h3 => ?_
  subst hd1; subst hd2
  obtain rfl := rp_int h2
  obtain rfl := rp_int h3
  have nb : 2 ≤ n ∧ n ≤ 4 ∧ 1 ≤ m ∧ m ≤ 4 := by omega
  have gN : ∀ {σ' : L2.St} {F' : Hp}, σ'[2]? = some (some (.int (n : Int))) → EvG K (some pq) (tVar 2) σ' F' (Is (.int (n : Int))) := fun h => g_var (v := .int (n : Int)) h (.int _)
  have gM : ∀ {σ' : L2.St} {F' : Hp}, σ'[3]? = some (some (.int (m : Int))) → EvG K (some pq) (tVar 3) σ' F' (Is (.int (m : Int))) := fun h => g_var (v := .int (m : Int)) h (.int _)
  refine t_asgX s2 (x_tabs (P := P) (w := w) (K := K) (i0 := 1) (i1 := 2) (i2 := 3) rfl rfl rfl nb) fun v4 F3 H3 ⟨Ss, tabs, tok, hS, lx⟩ s3 e3 => ?_
  have hS5 : ∀ S ∈ Ss, S ≤ 5 := fun S hs => (hS S hs).2.1
  have wo : WorldOk n m Ss := by
    rcases nm with ⟨h1, h2, h3⟩ | ⟨h1, h2⟩
    · exact .inl ⟨h1, h3, hS5⟩
    · exact .inr ⟨h1, h2, fun S hs => by have := (hS S hs).2.2 (by omega); omega⟩
  refine t_asgX s3 (x_prog (P := P) (w := w) (K := K) (CT := CT) (i := 4) rfl ⟨nb.1, nb.2.1, nb.2.2.1, nb.2.2.2, tok, fun S hs => ⟨(hS S hs).1, (hS S hs).2.1⟩⟩ lx) fun v5 F4 H4 px s4 e4 => ?_
  refine t_asg (K := K) (R := fun d => ∃ en : List Int, d = .list (en.map .int) ∧ en.length = n ∧ ∀ k ∈ en, 0 ≤ k ∧ k < (m : Int)) s4 ((g_lcR (α := Unit) PyData.int (fun k => 0 ≤ k ∧ k < (m : Int)) (w_range (n := n) (gN rfl) (by omega)) (fun ds h => by rw [h, List.length_map, List.length_range]; omega) (fun _ => rfl) fun F' e' u => (g_callP (m := (m : Int)) rfl (gM rfl) ⟨by omega, by omega⟩).imp fun d ⟨j, hj, j0, j1⟩ => ⟨j, hj, j0, j1⟩).imp fun d ⟨ds, ys, hds, hd, hl, hp⟩ => ⟨ys, hd, by rw [hl, show ds = _ from hds, List.length_map, List.length_range], hp⟩) fun d v6 F5 H5 hd s5 e5 hv6 => ?_
  obtain ⟨en, rfl, hel, heb⟩ := hd
  have lx5 := LstX.mono LawTab.mono (e4.trans e5) lx
  have so := first_ok tok hel heb
  refine t_pairR s5 (g_lrunC (P := P) (w := w) (K := K) (i0 := 1) (i1 := 4) (M := 10) rfl rfl (g_firstC (P := P) (w := w) (i0 := 4) (i1 := 6) rfl rfl ⟨tok, nb.2.1, hel, heb⟩ lx5 hv6) (g_callP (m := 10) rfl g_int (by decide)) (by decide) ⟨tok, nb.2.1, hS5, so⟩ lx5) rfl fun d1 d2 v8 v9 F6 H6 ⟨run, hrl, ok, hd1, hd2⟩ s6 e6 h8 h9 => ?_
  subst hd1; subst hd2
  have sp := ok.pass tok so
  have pl := passS_len (tabsF tabs) (firstS tabs en) run
  generalize passS (tabsF tabs) (firstS tabs en) run = pass at *
  refine t_asg (K := K) (R := fun d => ∃ ps : List Nat, d = .list (ps.map natD) ∧ ps.length ≤ 3 ∧ ∀ k ∈ ps, k < pass.length) s6 ((g_lst (gs_cons (R1 := Is (natD 0)) g_int (gs_cons (R1 := Is (natD (pass.length - 1))) ((g_opI (g_cbI (gs_one (g_var (i := 9) rfl h9)) (rc_lenS (.inl rfl))) g_int rv_sub).is ?_) (g_consR (R := fun d => ∃ k : Int, d = .int k ∧ 0 ≤ k ∧ k < (pass.length : Int)) (g_callP (m := (pass.length : Int)) rfl ((g_cbI (gs_one (g_var (i := 9) rfl h9)) (rc_lenS (.inl rfl))).is (by rw [List.length_map])) ⟨by omega, by omega⟩)))) (fun ds h => ?_)).imp fun d ⟨ds, hd, d1, ds1, h1, h2, d2, ds2, h3, h4, d3, h5, k, h6, k0, k1⟩ => ⟨[0, pass.length - 1, k.toNat], ?_, by show 3 ≤ 3; decide, fun x hx => ?_⟩) fun d v10 F7 H7 hd s7 e7 hv10 => ?_
  · exact congrArg PyData.int (by rw [List.length_map]; omega)
  · obtain ⟨d1, ds1, h1, h2, d2, ds2, h3, h4, d3, h5, _⟩ := h
    rw [h1, h3, h5]
    show 3 ≤ 100000
    decide
  · rw [hd, h1, h3, h5, show d1 = _ from h2, show d2 = _ from h4, h6]
    show PyData.list [_, _, .int k] = PyData.list [_, _, natD k.toNat]
    rw [show natD k.toNat = .int k from congrArg PyData.int (by omega)]
  · simp only [List.mem_cons, List.not_mem_nil, or_false] at hx
    omega
  obtain ⟨ps, rfl, hpl, hps⟩ := hd
  have e47 := (e5.trans e6).trans e7
  have lx7 := LstX.mono LawTab.mono (e4.trans e47) lx
  have px7 := px.mono e47
  have h97 := Rp.mono e7 _ _ h9
  refine t_for (K := K) (ds := ps.map natD) s7 (w_listI (g_var (i := 10) rfl hv10)) (fun i σ' F' => ∃ z11 z12, σ' = [some (.ref a), some (.ref pq.p), some (.int (n : Int)), some (.int (m : Int)), some v4, some v5, some v6, none, some v8, some v9, some v10, z11, z12]) (fun F8 e8 => ⟨_, _, rfl⟩) (fun i d hd σ' F8 H8 y hI s8 e8 hy N hN => ?_) (fun σ' F8 H8 hI s8 e8 => ?_)
  · obtain ⟨z11, z12, rfl⟩ := hI
    obtain ⟨at', hat, rfl⟩ := get_map hd
    have hlt : at' < pass.length := hps _ (List.mem_of_getElem? hat)
    refine t_for1 (K := K) (ds := (lotsAll n).map dN) s8 (w_listI (g_call n (gs_one (gN rfl)) rfl (by show n ≤ 6; omega))) (fun i σ' F' => ∃ z12, σ' = [some (.ref a), some (.ref pq.p), some (.int (n : Int)), some (.int (m : Int)), some v4, some v5, some v6, none, some v8, some v9, some v10, some y, z12]) (fun F9 e9 => ⟨_, rfl⟩) (fun i2 d2 hd2 σ' F9 H9 y2 hI s9 e9 hy2 N2 hN2 => ?_) (fun σ' F9 H9 hI s9 e9 => ?_)
    · obtain ⟨z12, rfl⟩ := hI
      obtain ⟨lot, hlot, rfl⟩ := get_map hd2
      obtain ⟨asc, hln⟩ := lotsAll_ok (List.mem_of_getElem? hlot)
      have e89 := e8.trans e9
      refine t_if1 (b := false) s9 ((et_not (b := true) (et_B (K := K) (g_heldC (P := P) (w := w) (CT := CT) (n := n) (m := m) (ls := pass[at']) (i0 := 5) (i1 := 4) (i3 := 12) rfl rfl (g_opI (g_var (i := 9) rfl (Rp.mono e89 _ _ h97)) (g_var (i := 11) rfl (Rp.mono e9 _ _ hy)) (rv_ixL (d := standD pass[at']) (atI_nat (by rw [List.getElem?_map, List.getElem?_eq_getElem hlt]; rfl)))) rfl ⟨tok, nb.2.1, hS5, sp _ (List.getElem_mem hlt), asc, hln, wo⟩ (px7.mono e89) (LstX.mono LawTab.mono e89 lx7) hy2))).is rfl) (fun z => by cases z) fun _ F10 H10 s10 e10 => hN2 _ F10 H10 ⟨_, rfl⟩ s10 e10
    · obtain ⟨z12, rfl⟩ := hI
      exact hN _ F9 H9 ⟨_, _, rfl⟩ s9 e9
  · obtain ⟨z11, z12, rfl⟩ := hI
    exact t_retI (K := K) s8 g_bl fun z F9 H9 s9 hz => by
      obtain rfl := rp_bool hz
      exact q H9
end
end KD

namespace KD
open PySem PySem.Spec PyProof.Rows L2 Fv Evl StX
theorem binds_tab {K : PySem.W.Frag} {dv : V} {f : Addr} {fd : FuncData} (F : FunTab K dv f fd) : Binds K fd ["self", "houses", "states", "start", "moves"] [] := by
  obtain ⟨ds, hv, hb⟩ := L2.FunD.binds1 F (ps := ["self", "houses", "states", "start", "moves"]) 5 1 (by simp) rfl fun T kV doc pm an cdv ct us its hl hi => match us, its, hl, hi with | [_, _, _, _, _], [_], _, _ => ⟨_, rfl, rfl⟩
  cases hv
  exact hb
theorem binds_whole {K : PySem.W.Frag} {f : Addr} {fd : FuncData} (F : FunW K f fd) : Binds K fd ["thing", "low", "high"] [] := by
  obtain ⟨ds, hv, hb⟩ := L2.FunD.binds1 F (ps := ["thing", "low", "high"]) 3 2 (by simp) rfl fun T kV doc pm an cdv ct us its hl hi => match us, its, hl, hi with | [_, _, _], [_, _], _, _ => ⟨_, rfl, rfl⟩
  cases hv
  exact hb
theorem exm_is {K : PySem.W.Frag} {S B : Addr} {r : Bool} (hb : PySem.W.subIn K (.ref B) (.type "BaseException") = some true) (hc : PySem.W.isClsIn K B = true) (ht : PySem.W.typeIn K (.ref B) = some (.type "type")) (hs : PySem.W.subIn K (.ref S) (.ref B) = some r) : PySem.W.exmOne K (.ref S) (.ref B) = some r := by
  have hc' : (PySem.W.clsIn K B).isSome = true := hc
  unfold PySem.W.exmOne PySem.W.kitCls
  simp only [hb, hc', ht, hs, beq_self_eq_true, Bool.and_self, if_true]
theorem kit_ref {K : PySem.W.Frag} {S B : Addr} (hc : PySem.W.isClsIn K B = true) (ht : PySem.W.typeIn K (.ref B) = some (.type "type")) (hs : PySem.W.subIn K (.ref S) (.ref B) = some true) : PySem.W.kitOne K (.ref S) (.ref B) = some true := by
  have hc' : (PySem.W.clsIn K B).isSome = true := hc
  unfold PySem.W.kitOne PySem.W.kitCls
  simp [hc', ht, hs]
theorem kit_VE {K : PySem.W.Frag} {S : Addr} (hs : PySem.W.subIn K (.ref S) (.type "ValueError") = some true) : PySem.W.kitOne K (.ref S) (.type "ValueError") = some true := by
  have hk : PySem.W.kitMeta "ValueError" = true := by decide +kernel
  unfold PySem.W.kitOne PySem.W.kitCls
  simp [hk, hs]
section
variable {P : Program} {w : World} {K : PySem.W.Frag} {mg : Str → Option Value}
theorem all_mk {l : PySem.W.OpenLaw} {h : Heap} {fa : Addr} (X : K.In h) (G : h.Ns mainGlobals mg) (hfa : mg "law" = some (.ref fa))
    {CT : Addr}
    {CR : Addr}
    {f0 : Addr} {od0 an0 : Option Addr} {sl0 : Array (Option Value)} {oc0 kV0 dc0 pm0 cd0 ct0 : Value}
    {f1 : Addr} {od1 an1 : Option Addr} {sl1 : Array (Option Value)} {oc1 kV1 dc1 pm1 cd1 ct1 : Value}
    {f2 : Addr} {od2 an2 : Option Addr} {sl2 : Array (Option Value)} {oc2 kV2 dc2 pm2 cd2 ct2 : Value}
    {f3 : Addr} {od3 an3 : Option Addr} {sl3 : Array (Option Value)} {oc3 kV3 dc3 pm3 cd3 ct3 : Value}
    {f4 : Addr} {od4 an4 : Option Addr} {sl4 : Array (Option Value)} {oc4 kV4 dc4 pm4 cd4 ct4 : Value}
    {f5 : Addr} {od5 an5 : Option Addr} {sl5 : Array (Option Value)} {oc5 kV5 dc5 pm5 cd5 ct5 : Value}
    {f6 : Addr} {od6 an6 : Option Addr} {sl6 : Array (Option Value)} {oc6 kV6 dc6 pm6 cd6 ct6 : Value}
    {f7 : Addr} {od7 an7 : Option Addr} {sl7 : Array (Option Value)} {oc7 kV7 dc7 pm7 cd7 ct7 : Value}
    {f8 : Addr} {od8 an8 : Option Addr} {sl8 : Array (Option Value)} {oc8 kV8 dc8 pm8 cd8 ct8 : Value}
    {f9 : Addr} {od9 an9 : Option Addr} {sl9 : Array (Option Value)} {oc9 kV9 dc9 pm9 cd9 ct9 : Value}
    {f10 : Addr} {od10 an10 : Option Addr} {sl10 : Array (Option Value)} {oc10 kV10 dc10 pm10 cd10 ct10 : Value}
    {f11 : Addr} {od11 an11 : Option Addr} {sl11 : Array (Option Value)} {oc11 kV11 dc11 pm11 cd11 ct11 : Value}
    {f12 : Addr} {od12 an12 : Option Addr} {sl12 : Array (Option Value)} {oc12 kV12 dc12 pm12 cd12 ct12 : Value}
    {f13 : Addr} {od13 an13 : Option Addr} {sl13 : Array (Option Value)} {oc13 kV13 dc13 pm13 cd13 ct13 : Value}
    {f14 : Addr} {od14 an14 : Option Addr} {sl14 : Array (Option Value)} {oc14 kV14 dc14 pm14 cd14 ct14 : Value}
    {f15 : Addr} {od15 an15 : Option Addr} {sl15 : Array (Option Value)} {oc15 kV15 dc15 pm15 cd15 ct15 : Value}
    {f16 : Addr} {od16 an16 : Option Addr} {sl16 : Array (Option Value)} {oc16 kV16 dc16 pm16 cd16 ct16 : Value}
    {f17 : Addr} {od17 an17 : Option Addr} {sl17 : Array (Option Value)} {oc17 kV17 dc17 pm17 cd17 ct17 : Value}
    {f18 : Addr} {od18 an18 : Option Addr} {sl18 : Array (Option Value)} {oc18 kV18 dc18 pm18 cd18 ct18 : Value}
    {f19 : Addr} {od19 an19 : Option Addr} {sl19 : Array (Option Value)} {oc19 kV19 dc19 pm19 cd19 ct19 : Value}
    {f20 : Addr} {od20 an20 : Option Addr} {sl20 : Array (Option Value)} {oc20 kV20 dc20 pm20 cd20 ct20 : Value}
    {f21 : Addr} {od21 an21 : Option Addr} {sl21 : Array (Option Value)} {oc21 kV21 dc21 pm21 cd21 ct21 : Value}
    {f22 : Addr} {od22 an22 : Option Addr} {sl22 : Array (Option Value)} {oc22 kV22 dc22 pm22 cd22 ct22 : Value}
    {f23 : Addr} {od23 an23 : Option Addr} {sl23 : Array (Option Value)} {oc23 kV23 dc23 pm23 cd23 ct23 : Value}
    {f24 : Addr} {od24 an24 : Option Addr} {sl24 : Array (Option Value)} {oc24 kV24 dc24 pm24 cd24 ct24 : Value}
    {f25 : Addr} {od25 an25 : Option Addr} {sl25 : Array (Option Value)} {oc25 kV25 dc25 pm25 cd25 ct25 : Value}
    {f26 : Addr} {od26 an26 : Option Addr} {sl26 : Array (Option Value)} {oc26 kV26 dc26 pm26 cd26 ct26 : Value}
    {f27 : Addr} {od27 an27 : Option Addr} {sl27 : Array (Option Value)} {oc27 kV27 dc27 pm27 cd27 ct27 : Value}
    {f28 : Addr} {od28 an28 : Option Addr} {sl28 : Array (Option Value)} {oc28 kV28 dc28 pm28 cd28 ct28 : Value}
    {f29 : Addr} {od29 an29 : Option Addr} {sl29 : Array (Option Value)} {oc29 kV29 dc29 pm29 cd29 ct29 : Value}
    {f30 : Addr} {od30 an30 : Option Addr} {sl30 : Array (Option Value)} {oc30 kV30 dc30 pm30 cd30 ct30 : Value}
    {TW : Addr} {ocT : Value} {odT : Option Addr} {nT : Nat} {slT : Array (Option Value)}
    {f31 : Addr} {od31 an31 : Option Addr} {sl31 : Array (Option Value)} {oc31 kV31 dc31 pm31 cd31 ct31 : Value}
    {TM32 eM32 : Addr} {ocM32 : Value} {odM32 : Option Addr} {nM32 : Nat} {slM32 : Array (Option Value)}
    {f32 : Addr} {od32 an32 : Option Addr} {sl32 : Array (Option Value)} {oc32 kV32 dc32 pm32 cd32 ct32 : Value}
    {f33 : Addr} {od33 an33 : Option Addr} {sl33 : Array (Option Value)} {oc33 kV33 dc33 pm33 cd33 ct33 : Value}
    {f34 : Addr} {od34 an34 : Option Addr} {sl34 : Array (Option Value)} {oc34 kV34 dc34 pm34 cd34 ct34 : Value}
    {f35 : Addr} {od35 an35 : Option Addr} {sl35 : Array (Option Value)} {oc35 kV35 dc35 pm35 cd35 ct35 : Value}
    {tS : Tok}
    {tV : Tok}
    {tM : Tok}
    {tH : Tok}
    (aCT : PySem.W.nsIn K mainGlobals "HouseTable" = some (some (.ref CT)))
    (aCR : PySem.W.nsIn K mainGlobals "Rounds" = some (some (.ref CR)))
    (a0 : PySem.W.nsIn K mainGlobals "is_sequence" = some (some (.ref f0)))
    (l0 : K.lookup f0 = some ⟨oc0, od0, .func (PySem.W.fnOf "is_sequence" "is_sequence" (defArgs s_is_sequence) (defBody s_is_sequence) (defScope s_is_sequence) .none kV0 dc0 pm0 an0 cd0 ct0), sl0⟩)
    (c0 : PySem.W.codeIn K cd0 "is_sequence" = true)
    (k0 : PySem.W.keepIn K (.ref f0) = true)
    (a1 : PySem.W.nsIn K mainGlobals "as_tuples" = some (some (.ref f1)))
    (l1 : K.lookup f1 = some ⟨oc1, od1, .func (PySem.W.fnOf "as_tuples" "as_tuples" (defArgs s_as_tuples) (defBody s_as_tuples) (defScope s_as_tuples) .none kV1 dc1 pm1 an1 cd1 ct1), sl1⟩)
    (c1 : PySem.W.codeIn K cd1 "as_tuples" = true)
    (k1 : PySem.W.keepIn K (.ref f1) = true)
    (a2 : PySem.W.nsIn K mainGlobals "_check_frame" = some (some (.ref f2)))
    (l2 : K.lookup f2 = some ⟨oc2, od2, .func (PySem.W.fnOf "_check_frame" "_check_frame" (defArgs s_check_frame) (defBody s_check_frame) (defScope s_check_frame) .none kV2 dc2 pm2 an2 cd2 ct2), sl2⟩)
    (c2 : PySem.W.codeIn K cd2 "_check_frame" = true)
    (k2 : PySem.W.keepIn K (.ref f2) = true)
    (a3 : PySem.W.nsIn K mainGlobals "_is_row" = some (some (.ref f3)))
    (l3 : K.lookup f3 = some ⟨oc3, od3, .func (PySem.W.fnOf "_is_row" "_is_row" (defArgs s_is_row) (defBody s_is_row) (defScope s_is_row) .none kV3 dc3 pm3 an3 cd3 ct3), sl3⟩)
    (c3 : PySem.W.codeIn K cd3 "_is_row" = true)
    (k3 : PySem.W.keepIn K (.ref f3) = true)
    (a4 : PySem.W.nsIn K mainGlobals "_is_move" = some (some (.ref f4)))
    (l4 : K.lookup f4 = some ⟨oc4, od4, .func (PySem.W.fnOf "_is_move" "_is_move" (defArgs s_is_move) (defBody s_is_move) (defScope s_is_move) .none kV4 dc4 pm4 an4 cd4 ct4), sl4⟩)
    (c4 : PySem.W.codeIn K cd4 "_is_move" = true)
    (k4 : PySem.W.keepIn K (.ref f4) = true)
    (a5 : PySem.W.nsIn K mainGlobals "_place_of" = some (some (.ref f5)))
    (l5 : K.lookup f5 = some ⟨oc5, od5, .func (PySem.W.fnOf "_place_of" "_place_of" (defArgs s_place_of) (defBody s_place_of) (defScope s_place_of) .none kV5 dc5 pm5 an5 cd5 ct5), sl5⟩)
    (c5 : PySem.W.codeIn K cd5 "_place_of" = true)
    (k5 : PySem.W.keepIn K (.ref f5) = true)
    (a6 : PySem.W.nsIn K mainGlobals "_kept_moves" = some (some (.ref f6)))
    (l6 : K.lookup f6 = some ⟨oc6, od6, .func (PySem.W.fnOf "_kept_moves" "_kept_moves" (defArgs s_kept_moves) (defBody s_kept_moves) (defScope s_kept_moves) .none kV6 dc6 pm6 an6 cd6 ct6), sl6⟩)
    (c6 : PySem.W.codeIn K cd6 "_kept_moves" = true)
    (k6 : PySem.W.keepIn K (.ref f6) = true)
    (a7 : PySem.W.nsIn K mainGlobals "_entry_fault" = some (some (.ref f7)))
    (l7 : K.lookup f7 = some ⟨oc7, od7, .func (PySem.W.fnOf "_entry_fault" "_entry_fault" (defArgs s_entry_fault) (defBody s_entry_fault) (defScope s_entry_fault) .none kV7 dc7 pm7 an7 cd7 ct7), sl7⟩)
    (c7 : PySem.W.codeIn K cd7 "_entry_fault" = true)
    (k7 : PySem.W.keepIn K (.ref f7) = true)
    (a8 : PySem.W.nsIn K mainGlobals "behind_step" = some (some (.ref f8)))
    (l8 : K.lookup f8 = some ⟨oc8, od8, .func (PySem.W.fnOf "behind_step" "behind_step" (defArgs s_behind_step) (defBody s_behind_step) (defScope s_behind_step) .none kV8 dc8 pm8 an8 cd8 ct8), sl8⟩)
    (c8 : PySem.W.codeIn K cd8 "behind_step" = true)
    (k8 : PySem.W.keepIn K (.ref f8) = true)
    (a9 : PySem.W.nsIn K mainGlobals "cells_beside" = some (some (.ref f9)))
    (l9 : K.lookup f9 = some ⟨oc9, od9, .func (PySem.W.fnOf "cells_beside" "cells_beside" (defArgs s_cells_beside) (defBody s_cells_beside) (defScope s_cells_beside) .none kV9 dc9 pm9 an9 cd9 ct9), sl9⟩)
    (c9 : PySem.W.codeIn K cd9 "cells_beside" = true)
    (k9 : PySem.W.keepIn K (.ref f9) = true)
    (a10 : PySem.W.nsIn K mainGlobals "go_round" = some (some (.ref f10)))
    (l10 : K.lookup f10 = some ⟨oc10, od10, .func (PySem.W.fnOf "go_round" "go_round" (defArgs s_go_round) (defBody s_go_round) (defScope s_go_round) .none kV10 dc10 pm10 an10 cd10 ct10), sl10⟩)
    (c10 : PySem.W.codeIn K cd10 "go_round" = true)
    (k10 : PySem.W.keepIn K (.ref f10) = true)
    (a11 : PySem.W.nsIn K mainGlobals "_law_longer" = some (some (.ref f11)))
    (l11 : K.lookup f11 = some ⟨oc11, od11, .func (PySem.W.fnOf "_law_longer" "_law_longer" (defArgs s_law_longer) (defBody s_law_longer) (defScope s_law_longer) .none kV11 dc11 pm11 an11 cd11 ct11), sl11⟩)
    (c11 : PySem.W.codeIn K cd11 "_law_longer" = true)
    (k11 : PySem.W.keepIn K (.ref f11) = true)
    (a12 : PySem.W.nsIn K mainGlobals "_law_pot" = some (some (.ref f12)))
    (l12 : K.lookup f12 = some ⟨oc12, od12, .func (PySem.W.fnOf "_law_pot" "_law_pot" (defArgs s_law_pot) (defBody s_law_pot) (defScope s_law_pot) .none kV12 dc12 pm12 an12 cd12 ct12), sl12⟩)
    (c12 : PySem.W.codeIn K cd12 "_law_pot" = true)
    (k12 : PySem.W.keepIn K (.ref f12) = true)
    (a13 : PySem.W.nsIn K mainGlobals "_law_draw" = some (some (.ref f13)))
    (l13 : K.lookup f13 = some ⟨oc13, od13, .func (PySem.W.fnOf "_law_draw" "_law_draw" (defArgs s_law_draw) (defBody s_law_draw) (defScope s_law_draw) .none kV13 dc13 pm13 an13 cd13 ct13), sl13⟩)
    (c13 : PySem.W.codeIn K cd13 "_law_draw" = true)
    (k13 : PySem.W.keepIn K (.ref f13) = true)
    (a14 : PySem.W.nsIn K mainGlobals "_law_same" = some (some (.ref f14)))
    (l14 : K.lookup f14 = some ⟨oc14, od14, .func (PySem.W.fnOf "_law_same" "_law_same" (defArgs s_law_same) (defBody s_law_same) (defScope s_law_same) .none kV14 dc14 pm14 an14 cd14 ct14), sl14⟩)
    (c14 : PySem.W.codeIn K cd14 "_law_same" = true)
    (k14 : PySem.W.keepIn K (.ref f14) = true)
    (a15 : PySem.W.nsIn K mainGlobals "_law_readings" = some (some (.ref f15)))
    (l15 : K.lookup f15 = some ⟨oc15, od15, .func (PySem.W.fnOf "_law_readings" "_law_readings" (defArgs s_law_readings) (defBody s_law_readings) (defScope s_law_readings) .none kV15 dc15 pm15 an15 cd15 ct15), sl15⟩)
    (c15 : PySem.W.codeIn K cd15 "_law_readings" = true)
    (k15 : PySem.W.keepIn K (.ref f15) = true)
    (a16 : PySem.W.nsIn K mainGlobals "_law_inputs" = some (some (.ref f16)))
    (l16 : K.lookup f16 = some ⟨oc16, od16, .func (PySem.W.fnOf "_law_inputs" "_law_inputs" (defArgs s_law_inputs) (defBody s_law_inputs) (defScope s_law_inputs) .none kV16 dc16 pm16 an16 cd16 ct16), sl16⟩)
    (c16 : PySem.W.codeIn K cd16 "_law_inputs" = true)
    (k16 : PySem.W.keepIn K (.ref f16) = true)
    (a17 : PySem.W.nsIn K mainGlobals "_law_drawn" = some (some (.ref f17)))
    (l17 : K.lookup f17 = some ⟨oc17, od17, .func (PySem.W.fnOf "_law_drawn" "_law_drawn" (defArgs s_law_drawn) (defBody s_law_drawn) (defScope s_law_drawn) .none kV17 dc17 pm17 an17 cd17 ct17), sl17⟩)
    (c17 : PySem.W.codeIn K cd17 "_law_drawn" = true)
    (k17 : PySem.W.keepIn K (.ref f17) = true)
    (a18 : PySem.W.nsIn K mainGlobals "_law_meeting" = some (some (.ref f18)))
    (l18 : K.lookup f18 = some ⟨oc18, od18, .func (PySem.W.fnOf "_law_meeting" "_law_meeting" (defArgs s_law_meeting) (defBody s_law_meeting) (defScope s_law_meeting) .none kV18 dc18 pm18 an18 cd18 ct18), sl18⟩)
    (c18 : PySem.W.codeIn K cd18 "_law_meeting" = true)
    (k18 : PySem.W.keepIn K (.ref f18) = true)
    (a19 : PySem.W.nsIn K mainGlobals "_law_waiting" = some (some (.ref f19)))
    (l19 : K.lookup f19 = some ⟨oc19, od19, .func (PySem.W.fnOf "_law_waiting" "_law_waiting" (defArgs s_law_waiting) (defBody s_law_waiting) (defScope s_law_waiting) .none kV19 dc19 pm19 an19 cd19 ct19), sl19⟩)
    (c19 : PySem.W.codeIn K cd19 "_law_waiting" = true)
    (k19 : PySem.W.keepIn K (.ref f19) = true)
    (a20 : PySem.W.nsIn K mainGlobals "_law_tables" = some (some (.ref f20)))
    (l20 : K.lookup f20 = some ⟨oc20, od20, .func (PySem.W.fnOf "_law_tables" "_law_tables" (defArgs s_law_tables) (defBody s_law_tables) (defScope s_law_tables) .none kV20 dc20 pm20 an20 cd20 ct20), sl20⟩)
    (c20 : PySem.W.codeIn K cd20 "_law_tables" = true)
    (k20 : PySem.W.keepIn K (.ref f20) = true)
    (a21 : PySem.W.nsIn K mainGlobals "_law_program" = some (some (.ref f21)))
    (l21 : K.lookup f21 = some ⟨oc21, od21, .func (PySem.W.fnOf "_law_program" "_law_program" (defArgs s_law_program) (defBody s_law_program) (defScope s_law_program) .none kV21 dc21 pm21 an21 cd21 ct21), sl21⟩)
    (c21 : PySem.W.codeIn K cd21 "_law_program" = true)
    (k21 : PySem.W.keepIn K (.ref f21) = true)
    (a22 : PySem.W.nsIn K mainGlobals "_law_first" = some (some (.ref f22)))
    (l22 : K.lookup f22 = some ⟨oc22, od22, .func (PySem.W.fnOf "_law_first" "_law_first" (defArgs s_law_first) (defBody s_law_first) (defScope s_law_first) .none kV22 dc22 pm22 an22 cd22 ct22), sl22⟩)
    (c22 : PySem.W.codeIn K cd22 "_law_first" = true)
    (k22 : PySem.W.keepIn K (.ref f22) = true)
    (a23 : PySem.W.nsIn K mainGlobals "_law_step" = some (some (.ref f23)))
    (l23 : K.lookup f23 = some ⟨oc23, od23, .func (PySem.W.fnOf "_law_step" "_law_step" (defArgs s_law_step) (defBody s_law_step) (defScope s_law_step) .none kV23 dc23 pm23 an23 cd23 ct23), sl23⟩)
    (c23 : PySem.W.codeIn K cd23 "_law_step" = true)
    (k23 : PySem.W.keepIn K (.ref f23) = true)
    (a24 : PySem.W.nsIn K mainGlobals "_law_undone" = some (some (.ref f24)))
    (l24 : K.lookup f24 = some ⟨oc24, od24, .func (PySem.W.fnOf "_law_undone" "_law_undone" (defArgs s_law_undone) (defBody s_law_undone) (defScope s_law_undone) .none kV24 dc24 pm24 an24 cd24 ct24), sl24⟩)
    (c24 : PySem.W.codeIn K cd24 "_law_undone" = true)
    (k24 : PySem.W.keepIn K (.ref f24) = true)
    (a25 : PySem.W.nsIn K mainGlobals "_law_run" = some (some (.ref f25)))
    (l25 : K.lookup f25 = some ⟨oc25, od25, .func (PySem.W.fnOf "_law_run" "_law_run" (defArgs s_law_run) (defBody s_law_run) (defScope s_law_run) .none kV25 dc25 pm25 an25 cd25 ct25), sl25⟩)
    (c25 : PySem.W.codeIn K cd25 "_law_run" = true)
    (k25 : PySem.W.keepIn K (.ref f25) = true)
    (a26 : PySem.W.nsIn K mainGlobals "_law_world" = some (some (.ref f26)))
    (l26 : K.lookup f26 = some ⟨oc26, od26, .func (PySem.W.fnOf "_law_world" "_law_world" (defArgs s_law_world) (defBody s_law_world) (defScope s_law_world) .none kV26 dc26 pm26 an26 cd26 ct26), sl26⟩)
    (c26 : PySem.W.codeIn K cd26 "_law_world" = true)
    (k26 : PySem.W.keepIn K (.ref f26) = true)
    (a27 : PySem.W.nsIn K mainGlobals "_law_rounds" = some (some (.ref f27)))
    (l27 : K.lookup f27 = some ⟨oc27, od27, .func (PySem.W.fnOf "_law_rounds" "_law_rounds" (defArgs s_law_rounds) (defBody s_law_rounds) (defScope s_law_rounds) .none kV27 dc27 pm27 an27 cd27 ct27), sl27⟩)
    (c27 : PySem.W.codeIn K cd27 "_law_rounds" = true)
    (k27 : PySem.W.keepIn K (.ref f27) = true)
    (a28 : PySem.W.nsIn K mainGlobals "_law_lots_all" = some (some (.ref f28)))
    (l28 : K.lookup f28 = some ⟨oc28, od28, .func (PySem.W.fnOf "_law_lots_all" "_law_lots_all" (defArgs s_law_lots_all) (defBody s_law_lots_all) (defScope s_law_lots_all) .none kV28 dc28 pm28 an28 cd28 ct28), sl28⟩)
    (c28 : PySem.W.codeIn K cd28 "_law_lots_all" = true)
    (k28 : PySem.W.keepIn K (.ref f28) = true)
    (a29 : PySem.W.nsIn K mainGlobals "_law_held" = some (some (.ref f29)))
    (l29 : K.lookup f29 = some ⟨oc29, od29, .func (PySem.W.fnOf "_law_held" "_law_held" (defArgs s_law_held) (defBody s_law_held) (defScope s_law_held) .none kV29 dc29 pm29 an29 cd29 ct29), sl29⟩)
    (c29 : PySem.W.codeIn K cd29 "_law_held" = true)
    (k29 : PySem.W.keepIn K (.ref f29) = true)
    (a30 : PySem.W.nsIn K mainGlobals "law" = some (some (.ref f30)))
    (l30 : K.lookup f30 = some ⟨oc30, od30, .func (PySem.W.fnOf "law" "law" (defArgs s_law) (defBody s_law) (defScope s_law) .none kV30 dc30 pm30 an30 cd30 ct30), sl30⟩)
    (c30 : PySem.W.codeIn K cd30 "law" = true)
    (k30 : PySem.W.keepIn K (.ref f30) = true)
    (a31 : PySem.W.nsIn K mainGlobals "is_whole" = some (some (.ref f31)))
    (l31 : K.lookup f31 = some ⟨oc31, od31, .func (PySem.W.fnOf "is_whole" "is_whole" (defArgs s_is_whole) (defBody s_is_whole) (defScope s_is_whole) (.ref TW) kV31 dc31 pm31 an31 cd31 ct31), sl31⟩)
    (c31 : PySem.W.codeIn K cd31 "is_whole" = true)
    (k31 : PySem.W.keepIn K (.ref f31) = true)
    (lT : K.lookup TW = some ⟨ocT, odT, .seq [Value.none, Value.none].toArray nT, slT⟩)
    (a32 : PySem.W.findIn K (.ref CT) "__init__" = some (some (.ref f32)))
    (i32 : PySem.W.isFn K (.ref f32) = true)
    (l32 : K.lookup f32 = some ⟨oc32, od32, .func (PySem.W.fnOf "__init__" "HouseTable.__init__" (defArgs s_HouseTable___init__) (defBody s_HouseTable___init__) (defScope s_HouseTable___init__) (.ref TM32) kV32 dc32 pm32 an32 cd32 ct32), sl32⟩)
    (c32 : PySem.W.codeIn K cd32 "HouseTable.__init__" = true)
    (k32 : PySem.W.keepIn K (.ref f32) = true)
    (lM32 : K.lookup TM32 = some ⟨ocM32, odM32, .seq [Value.ref eM32].toArray nM32, slM32⟩)
    (a33 : PySem.W.findIn K (.ref CT) "next_move" = some (some (.ref f33)))
    (i33 : PySem.W.isFn K (.ref f33) = true)
    (l33 : K.lookup f33 = some ⟨oc33, od33, .func (PySem.W.fnOf "next_move" "HouseTable.next_move" (defArgs s_HouseTable_next_move) (defBody s_HouseTable_next_move) (defScope s_HouseTable_next_move) .none kV33 dc33 pm33 an33 cd33 ct33), sl33⟩)
    (c33 : PySem.W.codeIn K cd33 "HouseTable.next_move" = true)
    (k33 : PySem.W.keepIn K (.ref f33) = true)
    (a34 : PySem.W.findIn K (.ref CR) "__init__" = some (some (.ref f34)))
    (i34 : PySem.W.isFn K (.ref f34) = true)
    (l34 : K.lookup f34 = some ⟨oc34, od34, .func (PySem.W.fnOf "__init__" "Rounds.__init__" (defArgs s_Rounds___init__) (defBody s_Rounds___init__) (defScope s_Rounds___init__) .none kV34 dc34 pm34 an34 cd34 ct34), sl34⟩)
    (c34 : PySem.W.codeIn K cd34 "Rounds.__init__" = true)
    (k34 : PySem.W.keepIn K (.ref f34) = true)
    (a35 : PySem.W.findIn K (.ref CR) "__eq__" = some (some (.ref f35)))
    (i35 : PySem.W.isFn K (.ref f35) = true)
    (l35 : K.lookup f35 = some ⟨oc35, od35, .func (PySem.W.fnOf "__eq__" "Rounds.__eq__" (defArgs s_Rounds___eq__) (defBody s_Rounds___eq__) (defScope s_Rounds___eq__) .none kV35 dc35 pm35 an35 cd35 ct35), sl35⟩)
    (c35 : PySem.W.codeIn K cd35 "Rounds.__eq__" = true)
    (k35 : PySem.W.keepIn K (.ref f35) = true)
    (z_isinstance : PySem.W.nsIn K mainGlobals "isinstance" = some none)
    (z_list : PySem.W.nsIn K mainGlobals "list" = some none)
    (z_tuple : PySem.W.nsIn K mainGlobals "tuple" = some none)
    (z_bool : PySem.W.nsIn K mainGlobals "bool" = some none)
    (z_int : PySem.W.nsIn K mainGlobals "int" = some none)
    (z_str : PySem.W.nsIn K mainGlobals "str" = some none)
    (z_all : PySem.W.nsIn K mainGlobals "all" = some none)
    (z_any : PySem.W.nsIn K mainGlobals "any" = some none)
    (z_range : PySem.W.nsIn K mainGlobals "range" = some none)
    (z_sorted : PySem.W.nsIn K mainGlobals "sorted" = some none)
    (z_set : PySem.W.nsIn K mainGlobals "set" = some none)
    (z_max : PySem.W.nsIn K mainGlobals "max" = some none)
    (z_len : PySem.W.nsIn K mainGlobals "len" = some none)
    (z_min : PySem.W.nsIn K mainGlobals "min" = some none)
    (z_repr : PySem.W.nsIn K mainGlobals "repr" = some none)
    (pgCT : PySem.W.plainGet K CT Str.empty = true)
    (hdCT : PySem.W.hasDictIn K CT = true)
    (poCT : PySem.W.plainOver K CT = true)
    (saCT : PySem.W.findIn K (.ref CT) "__setattr__" = some (some (.builtin "object.__setattr__")))
    (mkCT : PySem.W.makesIn K CT = true)
    (kcCT : PySem.W.keepIn K (.ref CT) = true)
    (noCT_n : PySem.W.findIn K (.ref CT) "n" = some none)
    (noCT_m : PySem.W.findIn K (.ref CT) "m" = some none)
    (noCT_states : PySem.W.findIn K (.ref CT) "states" = some none)
    (noCT_start : PySem.W.findIn K (.ref CT) "start" = some none)
    (noCT_moves : PySem.W.findIn K (.ref CT) "moves" = some none)
    (noCT_move_at : PySem.W.findIn K (.ref CT) "_move_at" = some none)
    (pgCR : PySem.W.plainGet K CR Str.empty = true)
    (hdCR : PySem.W.hasDictIn K CR = true)
    (poCR : PySem.W.plainOver K CR = true)
    (saCR : PySem.W.findIn K (.ref CR) "__setattr__" = some (some (.builtin "object.__setattr__")))
    (mkCR : PySem.W.makesIn K CR = true)
    (kcCR : PySem.W.keepIn K (.ref CR) = true)
    (noCR_run : PySem.W.findIn K (.ref CR) "run" = some none)
    (noCR_loop : PySem.W.findIn K (.ref CR) "loop" = some none)
    (ml0 : PySem.W.nsIn K mainGlobals "MOST_STATES" = some (some (.int 40 tS)))
    (ml1 : PySem.W.nsIn K mainGlobals "MOST_VALUES" = some (some (.int 4 tV)))
    (ml2 : PySem.W.nsIn K mainGlobals "MOST_MOVES" = some (some (.int 20000 tM)))
    (ml3 : PySem.W.nsIn K mainGlobals "MOST_HOUSES" = some (some (.int 5 tH)))
    (ciR : PySem.W.findIn K (.ref CR) "__class__" = some (some (.builtin "object.__class__")))
    (spT : PySem.W.specialIn K (.builtin "object.__class__") "__get__" = some (some (.builtin "getset_descriptor.__get__")))
    (tkT : PySem.W.takesIn K (.builtin "object.__class__") = some true)
    (moR : PySem.W.mroIn K CR (.type "object") = some true)
    (icR : PySem.W.isClsIn K CR = true)
    (tyR : PySem.W.typeIn K (.ref CR) = some (.type "type"))
    (ssR : PySem.W.subIn K (.ref CR) (.ref CR) = some true)
    (neR : PySem.W.findIn K (.ref CR) "__ne__" = some (some (.builtin "object.__ne__")))
    (obR : PySem.W.subIn K (.ref CR) (.type "object") = some true) :
    ∃ fd : FuncData, (∀ (s : Shared) (v : Value), BindsTo s fd ⟨[v], []⟩ [("_law_script", v)]) ∧ ∀ base : Heap, K.In base → base.Ns mainGlobals mg → FnOk l.prog w K mg base CX0 9 fa fd ["_law_script"] (spLaw K) := by
  have e := hfa.symm.trans (PySem.W.mg_of X G a30)
  cases e
  have T : Tx mg := ⟨PySem.W.mg_none_of X G z_isinstance, PySem.W.mg_none_of X G z_list, PySem.W.mg_none_of X G z_tuple, PySem.W.mg_none_of X G z_bool, PySem.W.mg_none_of X G z_int, PySem.W.mg_none_of X G z_str, PySem.W.mg_none_of X G z_all, PySem.W.mg_none_of X G z_any, PySem.W.mg_none_of X G z_range, PySem.W.mg_none_of X G z_sorted, PySem.W.mg_none_of X G z_set, PySem.W.mg_none_of X G z_max, PySem.W.mg_none_of X G z_len, PySem.W.mg_none_of X G z_min, PySem.W.mg_none_of X G z_repr⟩
  have F0 := fun_mk (st := s_is_sequence) l0 c0 k0
  have b0 := F0.binds (ps := ["thing"]) fun _ _ _ _ _ _ us hl => match us, hl with | [_], _ => rfl
  have g0 := PySem.W.mg_of X G a0
  have F1 := fun_mk (st := s_as_tuples) l1 c1 k1
  have b1 := F1.binds (ps := ["thing"]) fun _ _ _ _ _ _ us hl => match us, hl with | [_], _ => rfl
  have g1 := PySem.W.mg_of X G a1
  have F2 := fun_mk (st := s_check_frame) l2 c2 k2
  have b2 := F2.binds (ps := ["houses", "states", "start"]) fun _ _ _ _ _ _ us hl => match us, hl with | [_, _, _], _ => rfl
  have g2 := PySem.W.mg_of X G a2
  have F3 := fun_mk (st := s_is_row) l3 c3 k3
  have b3 := F3.binds (ps := ["houses", "others"]) fun _ _ _ _ _ _ us hl => match us, hl with | [_, _], _ => rfl
  have g3 := PySem.W.mg_of X G a3
  have F4 := fun_mk (st := s_is_move) l4 c4 k4
  have b4 := F4.binds (ps := ["states", "values", "move"]) fun _ _ _ _ _ _ us hl => match us, hl with | [_, _, _], _ => rfl
  have g4 := PySem.W.mg_of X G a4
  have F5 := fun_mk (st := s_place_of) l5 c5 k5
  have b5 := F5.binds (ps := ["state", "others"]) fun _ _ _ _ _ _ us hl => match us, hl with | [_, _], _ => rfl
  have g5 := PySem.W.mg_of X G a5
  have F6 := fun_mk (st := s_kept_moves) l6 c6 k6
  have b6 := F6.binds (ps := ["houses", "states", "values", "moves"]) fun _ _ _ _ _ _ us hl => match us, hl with | [_, _, _, _], _ => rfl
  have g6 := PySem.W.mg_of X G a6
  have F7 := fun_mk (st := s_entry_fault) l7 c7 k7
  have b7 := F7.binds (ps := ["houses", "states", "values", "row", "found"]) fun _ _ _ _ _ _ us hl => match us, hl with | [_, _, _, _, _], _ => rfl
  have g7 := PySem.W.mg_of X G a7
  have F8 := fun_mk (st := s_behind_step) l8 c8 k8
  have b8 := F8.binds (ps := ["tables", "standing", "house"]) fun _ _ _ _ _ _ us hl => match us, hl with | [_, _, _], _ => rfl
  have g8 := PySem.W.mg_of X G a8
  have F9 := fun_mk (st := s_cells_beside) l9 c9 k9
  have b9 := F9.binds (ps := ["standing", "house"]) fun _ _ _ _ _ _ us hl => match us, hl with | [_, _], _ => rfl
  have g9 := PySem.W.mg_of X G a9
  have F10 := fun_mk (st := s_go_round) l10 c10 k10
  have b10 := F10.binds (ps := ["program", "standing", "lot"]) fun _ _ _ _ _ _ us hl => match us, hl with | [_, _, _], _ => rfl
  have g10 := PySem.W.mg_of X G a10
  have F11 := fun_mk (st := s_law_longer) l11 c11 k11
  have b11 := F11.binds (ps := ["_law_rows", "_law_marks"]) fun _ _ _ _ _ _ us hl => match us, hl with | [_, _], _ => rfl
  have g11 := PySem.W.mg_of X G a11
  have F12 := fun_mk (st := s_law_pot) l12 c12 k12
  have b12 := F12.binds (ps := ["_law_script", "_law_salt"]) fun _ _ _ _ _ _ us hl => match us, hl with | [_, _], _ => rfl
  have g12 := PySem.W.mg_of X G a12
  have F13 := fun_mk (st := s_law_draw) l13 c13 k13
  have b13 := F13.binds (ps := ["_law_pot_here", "_law_many"]) fun _ _ _ _ _ _ us hl => match us, hl with | [_, _], _ => rfl
  have g13 := PySem.W.mg_of X G a13
  have F14 := fun_mk (st := s_law_same) l14 c14 k14
  have b14 := F14.binds (ps := ["_law_one", "_law_other"]) fun _ _ _ _ _ _ us hl => match us, hl with | [_, _], _ => rfl
  have g14 := PySem.W.mg_of X G a14
  have F15 := fun_mk (st := s_law_readings) l15 c15 k15
  have b15 := F15.binds (ps := ["_law_sizes"]) fun _ _ _ _ _ _ us hl => match us, hl with | [_], _ => rfl
  have g15 := PySem.W.mg_of X G a15
  have F16 := fun_mk (st := s_law_inputs) l16 c16 k16
  have b16 := F16.binds (ps := ["_law_n", "_law_m"]) fun _ _ _ _ _ _ us hl => match us, hl with | [_, _], _ => rfl
  have g16 := PySem.W.mg_of X G a16
  have F17 := fun_mk (st := s_law_drawn) l17 c17 k17
  have b17 := F17.binds (ps := ["_law_pot_here", "_law_m", "_law_size", "_law_others"]) fun _ _ _ _ _ _ us hl => match us, hl with | [_, _, _, _], _ => rfl
  have g17 := PySem.W.mg_of X G a17
  have F18 := fun_mk (st := s_law_meeting) l18 c18 k18
  have b18 := F18.binds (ps := ["_law_pot_here", "_law_n", "_law_m", "_law_size"]) fun _ _ _ _ _ _ us hl => match us, hl with | [_, _, _, _], _ => rfl
  have g18 := PySem.W.mg_of X G a18
  have F19 := fun_mk (st := s_law_waiting) l19 c19 k19
  have b19 := F19.binds (ps := ["_law_pot_here", "_law_n", "_law_m"]) fun _ _ _ _ _ _ us hl => match us, hl with | [_, _, _], _ => rfl
  have g19 := PySem.W.mg_of X G a19
  have F20 := fun_mk (st := s_law_tables) l20 c20 k20
  have b20 := F20.binds (ps := ["_law_pot_here", "_law_n", "_law_m"]) fun _ _ _ _ _ _ us hl => match us, hl with | [_, _, _], _ => rfl
  have g20 := PySem.W.mg_of X G a20
  have F21 := fun_mk (st := s_law_program) l21 c21 k21
  have b21 := F21.binds (ps := ["_law_tables_here"]) fun _ _ _ _ _ _ us hl => match us, hl with | [_], _ => rfl
  have g21 := PySem.W.mg_of X G a21
  have F22 := fun_mk (st := s_law_first) l22 c22 k22
  have b22 := F22.binds (ps := ["_law_tables_here", "_law_entry"]) fun _ _ _ _ _ _ us hl => match us, hl with | [_, _], _ => rfl
  have g22 := PySem.W.mg_of X G a22
  have F23 := fun_mk (st := s_law_step) l23 c23 k23
  have b23 := F23.binds (ps := ["_law_tables_here", "_law_standing", "_law_house"]) fun _ _ _ _ _ _ us hl => match us, hl with | [_, _, _], _ => rfl
  have g23 := PySem.W.mg_of X G a23
  have F24 := fun_mk (st := s_law_undone) l24 c24 k24
  have b24 := F24.binds (ps := ["_law_standing"]) fun _ _ _ _ _ _ us hl => match us, hl with | [_], _ => rfl
  have g24 := PySem.W.mg_of X G a24
  have F25 := fun_mk (st := s_law_run) l25 c25 k25
  have b25 := F25.binds (ps := ["_law_pot_here", "_law_tables_here", "_law_standing", "_law_many"]) fun _ _ _ _ _ _ us hl => match us, hl with | [_, _, _, _], _ => rfl
  have g25 := PySem.W.mg_of X G a25
  have F26 := fun_mk (st := s_law_world) l26 c26 k26
  have b26 := F26.binds (ps := ["_law_pot_here"]) fun _ _ _ _ _ _ us hl => match us, hl with | [_], _ => rfl
  have g26 := PySem.W.mg_of X G a26
  have F27 := fun_mk (st := s_law_rounds) l27 c27 k27
  have b27 := F27.binds (ps := ["_law_tables_here", "_law_standing", "_law_lot"]) fun _ _ _ _ _ _ us hl => match us, hl with | [_, _, _], _ => rfl
  have g27 := PySem.W.mg_of X G a27
  have F28 := fun_mk (st := s_law_lots_all) l28 c28 k28
  have b28 := F28.binds (ps := ["_law_n"]) fun _ _ _ _ _ _ us hl => match us, hl with | [_], _ => rfl
  have g28 := PySem.W.mg_of X G a28
  have F29 := fun_mk (st := s_law_held) l29 c29 k29
  have b29 := F29.binds (ps := ["_law_program_here", "_law_tables_here", "_law_standing", "_law_lot"]) fun _ _ _ _ _ _ us hl => match us, hl with | [_, _, _, _], _ => rfl
  have g29 := PySem.W.mg_of X G a29
  have F30 := fun_mk (st := s_law) l30 c30 k30
  have b30 := F30.binds (ps := ["_law_script"]) fun _ _ _ _ _ _ us hl => match us, hl with | [_], _ => rfl
  have g30 := PySem.W.mg_of X G a30
  have F31 : FunW K f31 _ := ⟨⟨oc31, od31, .ref TW, kV31, dc31, pm31, an31, cd31, ct31, sl31, rfl, l31, c31, .inr ⟨by simp, TW, _, [.none, .none], nT, rfl, lT, rfl, .cons rfl (.cons rfl .nil)⟩, .inl rfl⟩, k31⟩
  have b31 := binds_whole F31
  have g31 := PySem.W.mg_of X G a31
  have F32 : FunTab K (.ref eM32) f32 _ := ⟨⟨oc32, od32, .ref TM32, kV32, dc32, pm32, an32, cd32, ct32, sl32, rfl, l32, c32, .inr ⟨by simp, TM32, _, [.ref eM32], nM32, rfl, lM32, rfl, .cons rfl .nil⟩, .inl rfl⟩, k32⟩
  have b32 := binds_tab F32
  have F33 := fun_mk (st := s_HouseTable_next_move) l33 c33 k33
  have b33 := F33.binds (ps := ["self", "state", "others"]) fun _ _ _ _ _ _ us hl => match us, hl with | [_, _, _], _ => rfl
  have F34 := fun_mk (st := s_Rounds___init__) l34 c34 k34
  have b34 := F34.binds (ps := ["self", "run", "loop"]) fun _ _ _ _ _ _ us hl => match us, hl with | [_, _, _], _ => rfl
  have F35 := fun_mk (st := s_Rounds___eq__) l35 c35 k35
  have b35 := F35.binds (ps := ["self", "other"]) fun _ _ _ _ _ _ us hl => match us, hl with | [_, _], _ => rfl
  have gCT := PySem.W.mg_of X G aCT
  have clCT : Cls K CT := ⟨pgCT, hdCT, poCT, saCT⟩
  have gCR := PySem.W.mg_of X G aCR
  have clCR : Cls K CR := ⟨pgCR, hdCR, poCR, saCR⟩
  have TC : TabC K CT := ⟨clCT, noCT_n, noCT_m, noCT_states, noCT_start, noCT_moves, noCT_move_at⟩
  have RC : RndC K CR := ⟨clCR, noCR_run, noCR_loop⟩
  have RT : RndT K CR := ⟨fun H a dx fs e => .ins e clCR ciR spT tkT moR, kit_ref icR tyR ssR, neR, obR⟩
  refine ⟨PySem.W.fnOf "law" "law" (defArgs s_law) (defBody s_law) (defScope s_law) .none kV30 dc30 pm30 an30 cd30 ct30, fun s v => .of_eq rfl, fun base _ _ => ?_⟩
  have OasT := ok_asT (P := l.prog) (w := w) (base := base) F1 T b1 g1 F0 b0 g0
  have Oframe := ok_frame (P := l.prog) (w := w) (base := base) F2 T (PySem.W.mg_of X G ml3) (PySem.W.mg_of X G ml0) (PySem.W.mg_of X G ml1) F0 b0 g0 F31 b31 g31
  have Oef := ok_ef (P := l.prog) (w := w) (base := base) F7 T (PySem.W.mg_of X G ml0) F0 b0 g0 F31 b31 g31 F3 b3 g3 F4 b4 g4 F5 b5 g5
  have Okept := ok_kept (P := l.prog) (w := w) (base := base) F6 T F7 b7 g7 Oef F1 b1 g1 OasT F5 b5 g5
  have OtabI := ok_tabI (P := l.prog) (w := w) (base := base) F32 T TC (PySem.W.mg_of X G ml2) F2 b2 g2 Oframe F0 b0 g0 F6 b6 g6 Okept
  have Onext := ok_next (P := l.prog) (w := w) (base := base) F33 T TC
  have Obs := ok_bs (P := l.prog) (w := w) (base := base) F8 T TC (⟨a33, i33, k33⟩ : Meth K CT "next_move" f33) Onext b33 F9 b9 g9 F0 b0 g0
  have Oread := ok_read (P := l.prog) (w := w) (base := base) F15 T F11 b11 g11
  have Odrawn := ok_drawn (P := l.prog) (w := w) (base := base) F17 T F13 b13 g13 F15 b15 g15 Oread
  have Omeet := ok_meet (P := l.prog) (w := w) (base := base) F18 T F13 b13 g13 F15 b15 g15 Oread
  have Oinp := ok_inputs (P := l.prog) (w := w) (base := base) F16 T F11 b11 g11
  have Owait := ok_wait (P := l.prog) (w := w) (base := base) F19 T F13 b13 g13 F15 b15 g15 Oread F16 b16 g16 Oinp
  have Otabs := ok_tabs (P := l.prog) (w := w) (base := base) F20 T F13 b13 g13 F17 b17 g17 Odrawn F18 b18 g18 Omeet F19 b19 g19 Owait
  have Oprog := ok_prog (P := l.prog) (w := w) (base := base) F21 T (⟨mkCT, a32, i32, kcCT⟩ : Mk K CT f32) gCT OtabI b32
  have Ornd := ok_rnd (P := l.prog) (w := w) (base := base) F34 T RC F1 b1 g1 F0 b0 g0
  have Oreq := ok_req (P := l.prog) (w := w) (base := base) F35 T RC RT gCR
  have Ogo := ok_go (P := l.prog) (w := w) (base := base) F10 T F1 b1 g1 F0 b0 g0 F8 b8 g8 Obs (⟨mkCR, a34, i34, kcCR⟩ : Mk K CR f34) gCR b34 Ornd
  have Olr := ok_lrounds (P := l.prog) (w := w) (base := base) F27 T F23 b23 g23
  have Oheld := ok_held (P := l.prog) (w := w) (base := base) F29 T RC RT F27 b27 g27 Olr F10 b10 g10 Ogo F14 b14 g14 (⟨mkCR, a34, i34, kcCR⟩ : Mk K CR f34) gCR b34 Ornd a35 i35 b35 Oreq
  exact ok_law F30 T F12 b12 g12 F13 b13 g13 F26 b26 g26 F20 b20 g20 Otabs F21 b21 g21 Oprog F22 b22 g22 F24 b24 g24 F23 b23 g23 F25 b25 g25 F28 b28 g28 F29 b29 g29 Oheld
end
theorem walk {l : PySem.W.OpenLaw} {q : Program} {loose : List Str} {XP : (Str → Option Value) → Heap → Prop} {YP : World → Heap → Prop} {d : DefRec} {K : Params → PySem.W.Frag} (hn : l.most = some 63) (hdf : d.params.defaults = [])
    (hY : ∀ (w : World) (h : Heap), YP w h → (K w.params).In h)
    (F : ∀ (w : World) (mg : Str → Option Value) (fa : Addr) (h : Heap), (K w.params).In h → h.Ns mainGlobals mg → mg d.name = some (.ref fa) →
      ∃ fd : FuncData, (∀ (s : Shared) (u : Value), BindsTo s fd ⟨[u], []⟩ [("_law_script", u)]) ∧ ∀ base : Heap, (K w.params).In base → base.Ns mainGlobals mg → FnOk l.prog w (K w.params) mg base CX0 9 fa fd ["_law_script"] (spLaw (K w.params))) :
    PySem.W.WalkO q loose XP YP l.row.toRowW d [] (fun f vs => PySem.call f vs) :=
  L2.walk_of (n := 63) (k := 9) (x := "_law_script") (CX := fun _ => CX0) (sp := fun w => spLaw (K w.params)) hn (by decide) hdf ⟨rfl, by decide, by decide⟩ hY F (fun _ _ a ns _ _ hS => ⟨a, ns, rfl, hS, fun _ => rfl⟩) fun _ _ _ _ _ z => z
end KD

open PySem PySem.W PyProof.Rows
set_option maxRecDepth 100000 in
set_option maxHeartbeats 0 in
theorem PySem.Challenge.cw_firmvalues_k30_whole_rounds_begin_again_holds : PySem.Challenge.rw_firmvalues_k30_whole_rounds_begin_again.Holds := by
  w_on; o_law; k_head; (case hw => w_witness2)
  k_fill
  refine KD.walk (l := PySem.Challenge.rw_firmvalues_k30_whole_rounds_begin_again) rfl rfl (fun w h Y => PySem.W.kIn_of Y) ?F
  case F =>
    intro w mg fa h KX G hmg
    refine' KD.all_mk KX G hmg ?aCT ?aCR ?a0 ?l0 ?c0 ?k0 ?a1 ?l1 ?c1 ?k1 ?a2 ?l2 ?c2 ?k2 ?a3 ?l3 ?c3 ?k3 ?a4 ?l4 ?c4 ?k4 ?a5 ?l5 ?c5 ?k5 ?a6 ?l6 ?c6 ?k6 ?a7 ?l7 ?c7 ?k7 ?a8 ?l8 ?c8 ?k8 ?a9 ?l9 ?c9 ?k9 ?a10 ?l10 ?c10 ?k10 ?a11 ?l11 ?c11 ?k11 ?a12 ?l12 ?c12 ?k12 ?a13 ?l13 ?c13 ?k13 ?a14 ?l14 ?c14 ?k14 ?a15 ?l15 ?c15 ?k15 ?a16 ?l16 ?c16 ?k16 ?a17 ?l17 ?c17 ?k17 ?a18 ?l18 ?c18 ?k18 ?a19 ?l19 ?c19 ?k19 ?a20 ?l20 ?c20 ?k20 ?a21 ?l21 ?c21 ?k21 ?a22 ?l22 ?c22 ?k22 ?a23 ?l23 ?c23 ?k23 ?a24 ?l24 ?c24 ?k24 ?a25 ?l25 ?c25 ?k25 ?a26 ?l26 ?c26 ?k26 ?a27 ?l27 ?c27 ?k27 ?a28 ?l28 ?c28 ?k28 ?a29 ?l29 ?c29 ?k29 ?a30 ?l30 ?c30 ?k30 ?a31 ?l31 ?c31 ?k31 ?lT ?a32 ?i32 ?l32 ?c32 ?k32 ?lM32 ?a33 ?i33 ?l33 ?c33 ?k33 ?a34 ?i34 ?l34 ?c34 ?k34 ?a35 ?i35 ?l35 ?c35 ?k35 ?z_isinstance ?z_list ?z_tuple ?z_bool ?z_int ?z_str ?z_all ?z_any ?z_range ?z_sorted ?z_set ?z_max ?z_len ?z_min ?z_repr ?pgCT ?hdCT ?poCT ?saCT ?mkCT ?kcCT ?noCT_n ?noCT_m ?noCT_states ?noCT_start ?noCT_moves ?noCT_move_at ?pgCR ?hdCR ?poCR ?saCR ?mkCR ?kcCR ?noCR_run ?noCR_loop ?ml0 ?ml1 ?ml2 ?ml3 ?ciR ?spT ?tkT ?moR ?icR ?tyR ?ssR ?neR ?obR
    (case aCT => k_is)
    (case aCR => k_is)
    (case a0 => k_is)
    (case l0 => k_is)
    (case c0 => k_is)
    (case k0 => k_is)
    (case a1 => k_is)
    (case l1 => k_is)
    (case c1 => k_is)
    (case k1 => k_is)
    (case a2 => k_is)
    (case l2 => k_is)
    (case c2 => k_is)
    (case k2 => k_is)
    (case a3 => k_is)
    (case l3 => k_is)
    (case c3 => k_is)
    (case k3 => k_is)
    (case a4 => k_is)
    (case l4 => k_is)
    (case c4 => k_is)
    (case k4 => k_is)
    (case a5 => k_is)
    (case l5 => k_is)
    (case c5 => k_is)
    (case k5 => k_is)
    (case a6 => k_is)
    (case l6 => k_is)
    (case c6 => k_is)
    (case k6 => k_is)
    (case a7 => k_is)
    (case l7 => k_is)
    (case c7 => k_is)
    (case k7 => k_is)
    (case a8 => k_is)
    (case l8 => k_is)
    (case c8 => k_is)
    (case k8 => k_is)
    (case a9 => k_is)
    (case l9 => k_is)
    (case c9 => k_is)
    (case k9 => k_is)
    (case a10 => k_is)
    (case l10 => k_is)
    (case c10 => k_is)
    (case k10 => k_is)
    (case a11 => k_is)
    (case l11 => k_is)
    (case c11 => k_is)
    (case k11 => k_is)
    (case a12 => k_is)
    (case l12 => k_is)
    (case c12 => k_is)
    (case k12 => k_is)
    (case a13 => k_is)
    (case l13 => k_is)
    (case c13 => k_is)
    (case k13 => k_is)
    (case a14 => k_is)
    (case l14 => k_is)
    (case c14 => k_is)
    (case k14 => k_is)
    (case a15 => k_is)
    (case l15 => k_is)
    (case c15 => k_is)
    (case k15 => k_is)
    (case a16 => k_is)
    (case l16 => k_is)
    (case c16 => k_is)
    (case k16 => k_is)
    (case a17 => k_is)
    (case l17 => k_is)
    (case c17 => k_is)
    (case k17 => k_is)
    (case a18 => k_is)
    (case l18 => k_is)
    (case c18 => k_is)
    (case k18 => k_is)
    (case a19 => k_is)
    (case l19 => k_is)
    (case c19 => k_is)
    (case k19 => k_is)
    (case a20 => k_is)
    (case l20 => k_is)
    (case c20 => k_is)
    (case k20 => k_is)
    (case a21 => k_is)
    (case l21 => k_is)
    (case c21 => k_is)
    (case k21 => k_is)
    (case a22 => k_is)
    (case l22 => k_is)
    (case c22 => k_is)
    (case k22 => k_is)
    (case a23 => k_is)
    (case l23 => k_is)
    (case c23 => k_is)
    (case k23 => k_is)
    (case a24 => k_is)
    (case l24 => k_is)
    (case c24 => k_is)
    (case k24 => k_is)
    (case a25 => k_is)
    (case l25 => k_is)
    (case c25 => k_is)
    (case k25 => k_is)
    (case a26 => k_is)
    (case l26 => k_is)
    (case c26 => k_is)
    (case k26 => k_is)
    (case a27 => k_is)
    (case l27 => k_is)
    (case c27 => k_is)
    (case k27 => k_is)
    (case a28 => k_is)
    (case l28 => k_is)
    (case c28 => k_is)
    (case k28 => k_is)
    (case a29 => k_is)
    (case l29 => k_is)
    (case c29 => k_is)
    (case k29 => k_is)
    (case a30 => k_is)
    (case l30 => k_is)
    (case c30 => k_is)
    (case k30 => k_is)
    (case a31 => k_is)
    (case l31 => k_is)
    (case c31 => k_is)
    (case k31 => k_is)
    (case lT => k_is)
    (case a32 => k_is)
    (case i32 => k_is)
    (case l32 => k_is)
    (case c32 => k_is)
    (case k32 => k_is)
    (case lM32 => k_is)
    (case a33 => k_is)
    (case i33 => k_is)
    (case l33 => k_is)
    (case c33 => k_is)
    (case k33 => k_is)
    (case a34 => k_is)
    (case i34 => k_is)
    (case l34 => k_is)
    (case c34 => k_is)
    (case k34 => k_is)
    (case a35 => k_is)
    (case i35 => k_is)
    (case l35 => k_is)
    (case c35 => k_is)
    (case k35 => k_is)
    (case z_isinstance => k_is)
    (case z_list => k_is)
    (case z_tuple => k_is)
    (case z_bool => k_is)
    (case z_int => k_is)
    (case z_str => k_is)
    (case z_all => k_is)
    (case z_any => k_is)
    (case z_range => k_is)
    (case z_sorted => k_is)
    (case z_set => k_is)
    (case z_max => k_is)
    (case z_len => k_is)
    (case z_min => k_is)
    (case z_repr => k_is)
    (case pgCT => k_is)
    (case hdCT => k_is)
    (case poCT => k_is)
    (case saCT => k_is)
    (case mkCT => k_is)
    (case kcCT => k_is)
    (case noCT_n => k_is)
    (case noCT_m => k_is)
    (case noCT_states => k_is)
    (case noCT_start => k_is)
    (case noCT_moves => k_is)
    (case noCT_move_at => k_is)
    (case pgCR => k_is)
    (case hdCR => k_is)
    (case poCR => k_is)
    (case saCR => k_is)
    (case mkCR => k_is)
    (case kcCR => k_is)
    (case noCR_run => k_is)
    (case noCR_loop => k_is)
    (case ml0 => k_is)
    (case ml1 => k_is)
    (case ml2 => k_is)
    (case ml3 => k_is)
    (case ciR => k_is)
    (case spT => k_is)
    (case tkT => k_is)
    (case moR => k_is)
    (case icR => k_is)
    (case tyR => k_is)
    (case ssR => k_is)
    (case neR => k_is)
    (case obR => k_is)

