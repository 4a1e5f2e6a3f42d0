import PyProof.Rows.All
import Wide.All
import OpenK.AllK
import Wide.FinOn
import HandS.ForMost
import HandS.Base
import HandS.Call
import HandS.List
import HandS.Comp
import HandS.Ends
import HandS.Evl
import HandS.Words
import HandS.IsInst
import HandS.Deep
import HandS.Conv
import HandS.Flow
import HandS.Star
import HandS.TupAny
import HandS.SetFor
import HandS.SortKw
import HandS.Strs
import KE.DataMinMax
import KE.SortData
import HandS.Dict
import HandS.DictComp
import KE.SortCalls
import HandS.ClsMeth
import HandS.Property
import HandS.Style
import HandS.ExcInit
import HandS.ExcField
import HandS.ExcIs
import PyProof.ReprRoads
import PyProof.ReprReads
import HandS.ExcOwn
import KE.KIsAll
import KE.KMatchCls
import HandS.Small
import PyProof.Rows.TupMore
import HandS.HotCalls
import HandS.Text
import HandS.More
import HandS.SuiteRaise
import HandS.RaiseFrom
import HandS.ExcInitHot
import HandS.TupSets
import HandS.WordsList
import HandS.Exc
import HandS.WordsExc
import HandS.Defaults
import PySem.Challenge.RW_firmvalues_k12_whole_least_chains
import HandS.FStr
import HandS.Wide
import HandS.OwnEq
import KE.SortKeyHeap
import KE.FramesApart
import HandS.SetKeys
import PyProof.DictMoreH
import KE.KDictSum
import KE.KeyNested
import KE.KDictKeyed
import HandS.Iter
import HandS.TupLen
import KE.KDictWalk
import PyProof.DictTruth
import HandS.SortInts
import HandS.TupMul
import PyProof.DictDisplay
import PyProof.Conv_int_bool
import Flt.Ops
import PyProof.InstNe
import PyProof.Seq
set_option Elab.async false
set_option linter.all false
set_option maxRecDepth 100000
set_option maxHeartbeats 8000000
/-! fv: what an expression evaluates to, over a part of the heap that stays -/
namespace Fv
open PySem L2 Evl
/-! ### data in the heap: lists stand in the heap itself, tuples are read -/
mutual
inductive Rp (K : PySem.W.Frag) (H : Hp) : V → PyData → Prop
  | non : Rp K H .non .none
  | bl (b : Bool) : Rp K H (.bl b) (.bool b)
  | int (i : Int) : Rp K H (.int i) (.int i)
  | str (x : Str) : Rp K H (.str x) (.str x)
  | lst {a : Addr} {xs : List V} {ds : List PyData} : H a = some (.lst xs) → RpAll K H xs ds → Rp K H (.ref a) (.list ds)
  | tup {a : Addr} {xs : List V} {ds : List PyData} : H a = some (.tup xs) → RpAll K H xs ds → Rp K H (.ref a) (.tuple ds)
inductive RpAll (K : PySem.W.Frag) (H : Hp) : List V → List PyData → Prop
  | nil : RpAll K H [] []
  | cons {v : V} {vs : List V} {d : PyData} {ds : List PyData} : Rp K H v d → RpAll K H vs ds → RpAll K H (v :: vs) (d :: ds)
end
section
variable {K : PySem.W.Frag} {H H' : Hp}
mutual
theorem Rp.mono (e : Ex H H') : ∀ (d : PyData) (v : V), Rp K H v d → Rp K H' v d
  | .none, _, h => by cases h; exact .non
  | .bool b, _, h => by cases h; exact .bl b
  | .int i, _, h => by cases h; exact .int i
  | .str x, _, h => by cases h; exact .str x
  | .list ds, _, h => by
    cases h with
    | lst hs ha => exact .lst (e _ _ hs) (RpAll.mono e ds _ ha)
  | .tuple ds, _, h => by
    cases h with
    | tup hs ha => exact .tup (e _ _ hs) (RpAll.mono e ds _ ha)
  | .dict _, _, h => by cases h
theorem RpAll.mono (e : Ex H H') : ∀ (ds : List PyData) (vs : List V), RpAll K H vs ds → RpAll K H' vs ds
  | [], _, h => by cases h; exact .nil
  | d :: ds, _, h => by
    cases h with
    | cons h1 h2 => exact .cons (Rp.mono e d _ h1) (RpAll.mono e ds _ h2)
end
mutual
theorem Rp.dp : ∀ (d : PyData) (v : V), Rp K H v d → Dp K H v d
  | .none, _, h => by cases h; exact .non
  | .bool b, _, h => by cases h; exact .bl b
  | .int i, _, h => by cases h; exact .int i
  | .str x, _, h => by cases h; exact .str x
  | .list ds, _, h => by
    cases h with
    | lst hs ha => exact .lst (.inl (.inl hs)) (RpAll.dp ds _ ha)
  | .tuple ds, _, h => by
    cases h with
    | tup hs ha => exact .tup (st_of hs) (RpAll.dp ds _ ha)
  | .dict _, _, h => by cases h
theorem RpAll.dp : ∀ (ds : List PyData) (vs : List V), RpAll K H vs ds → DpAll K H vs ds
  | [], _, h => by cases h; exact .nil
  | d :: ds, _, h => by
    cases h with
    | cons h1 h2 => exact .cons (Rp.dp d _ h1) (RpAll.dp ds _ h2)
end
theorem RpAll.length : ∀ {ds : List PyData} {vs : List V}, RpAll K H vs ds → vs.length = ds.length
  | [], _, h => by cases h; rfl
  | d :: ds, _, h => by
    cases h with
    | cons h1 h2 => simp [RpAll.length h2]
theorem RpAll.append : ∀ {ds es : List PyData} {vs ws : List V}, RpAll K H vs ds → RpAll K H ws es → RpAll K H (vs ++ ws) (ds ++ es)
  | [], _, _, _, h, k => by cases h; exact k
  | d :: ds, _, _, _, h, k => by
    cases h with
    | cons h1 h2 => exact .cons h1 (RpAll.append h2 k)
theorem RpAll.get : ∀ {ds : List PyData} {vs : List V} {i : Nat} {v : V}, RpAll K H vs ds → vs[i]? = some v → ∃ d, ds[i]? = some d ∧ Rp K H v d
  | [], _, _, _, h, e => by cases h; simp at e
  | d :: ds, _, 0, _, h, e => by
    cases h with
    | cons h1 h2 => simp at e; subst e; exact ⟨d, rfl, h1⟩
  | d :: ds, _, i + 1, _, h, e => by
    cases h with
    | cons h1 h2 =>
      obtain ⟨d', e1, r⟩ := RpAll.get h2 (by simpa using e)
      exact ⟨d', by simpa using e1, r⟩
theorem RpAll.getD : ∀ {ds : List PyData} {vs : List V} {i : Nat} {d : PyData}, RpAll K H vs ds → ds[i]? = some d → ∃ v, vs[i]? = some v ∧ Rp K H v d
  | [], _, _, _, h, e => by simp at e
  | d :: ds, _, 0, _, h, e => by
    cases h with
    | cons h1 h2 => simp at e; subst e; exact ⟨_, rfl, h1⟩
  | d :: ds, _, i + 1, _, h, e => by
    cases h with
    | cons h1 h2 =>
      obtain ⟨v, e1, r⟩ := RpAll.getD h2 (by simpa using e)
      exact ⟨v, by simpa using e1, r⟩
theorem RpAll.one {v : V} {d : PyData} (h : Rp K H v d) : RpAll K H [v] [d] := .cons h .nil
theorem rp_int {v : V} {i : Int} (h : Rp K H v (.int i)) : v = .int i := by cases h; rfl
theorem rp_bool {v : V} {b : Bool} (h : Rp K H v (.bool b)) : v = .bl b := by cases h; rfl
theorem rp_none {v : V} (h : Rp K H v .none) : v = .non := by cases h; rfl
theorem rp_str {v : V} {x : Str} (h : Rp K H v (.str x)) : v = .str x := by cases h; rfl
theorem rp_tup {v : V} {ds : List PyData} (h : Rp K H v (.tuple ds)) : ∃ a xs, v = .ref a ∧ H a = some (.tup xs) ∧ RpAll K H xs ds := by
  cases h with
  | tup hs ha => exact ⟨_, _, rfl, hs, ha⟩
theorem rp_lst {v : V} {ds : List PyData} (h : Rp K H v (.list ds)) : ∃ a xs, v = .ref a ∧ H a = some (.lst xs) ∧ RpAll K H xs ds := by
  cases h with
  | lst hs ha => exact ⟨_, _, rfl, hs, ha⟩
theorem rpAll_ints : ∀ {ns : List Int} {vs : List V}, RpAll K H vs (ns.map PyData.int) → vs = ns.map V.int
  | [], _, h => by cases h; rfl
  | n :: ns, _, h => by
    cases h with
    | cons h1 h2 => rw [rp_int h1, rpAll_ints h2]; rfl
theorem rpAll_of_ints : ∀ (ns : List Int), RpAll K H (ns.map V.int) (ns.map PyData.int)
  | [] => .nil
  | n :: ns => .cons (.int n) (rpAll_of_ints ns)
theorem rpAll_bools : ∀ {bs : List Bool} {vs : List V}, RpAll K H vs (bs.map PyData.bool) → vs = bs.map V.bl
  | [], _, h => by cases h; rfl
  | b :: bs, _, h => by
    cases h with
    | cons h1 h2 => rw [rp_bool h1, rpAll_bools h2]; rfl
end
theorem tx {K : PySem.W.Frag} {H H' : Hp} {a : Addr} {xs : List V} (e : Ex H H') (h : H a = some (.tup xs)) : SqT K H' a xs := st_of (e _ _ h)
/-! ### the part that stays, and what may change -/
/-- what F2 has more than F was not there before -/
def New (F H F2 : Hp) : Prop := ∀ a, F a = none → (∃ o, H a = some o ∧ ∀ ys, o ≠ .tup ys) → F2 a = none
theorem loose_ne {H : Hp} {a b : Addr} (h : ∃ o, H a = some o ∧ ∀ ys, o ≠ .tup ys) (h0 : H b = none) : a ≠ b := fun z => by
  obtain ⟨o, h1, _⟩ := h
  rw [z, h0] at h1; cases h1
/-- the law's pot: three numbers and a list of numbers, which stays -/
structure Pt where
  p : Addr
  l : Addr
  ns : List Int
structure PotAt (H : Hp) (q : Pt) : Prop where
  ne : q.l ≠ q.p
  ls : H q.l = some (.lst (q.ns.map V.int))
  few : q.ns.length ≤ 60
  ex : ∃ (a b c : Int), H q.p = some (.lst [.int a, .int b, .int c, .ref q.l]) ∧ 0 ≤ a ∧ 0 ≤ b ∧ b < 2147483647 ∧ 0 ≤ c ∧ c ≤ q.ns.length
def Keep (pt : Option Pt) (H H' : Hp) : Prop := ∀ a o, (∀ q, pt = some q → a ≠ q.p) → H a = some o → H' a = some o
def Good (pt : Option Pt) (F H : Hp) : Prop := ∀ q, pt = some q → F q.p = none ∧ PotAt H q
theorem PotAt.some {H : Hp} {q : Pt} (h : PotAt H q) : H q.p ≠ none := by
  obtain ⟨a, b, c, e, _⟩ := h.ex
  rw [e]; simp
theorem PotAt.loose {H : Hp} {q : Pt} (h : PotAt H q) : ∃ o : HO, H q.p = Option.some o ∧ ∀ ys, o ≠ HO.tup ys := by
  obtain ⟨a, b, c, e, _⟩ := h.ex
  rw [e]; simp
theorem Keep.refl (pt : Option Pt) (H : Hp) : Keep pt H H := fun _ _ _ h => h
theorem Keep.trans {pt : Option Pt} {H H1 H2 : Hp} (a : Keep pt H H1) (b : Keep pt H1 H2) : Keep pt H H2 := fun x o n h => b x o n (a x o n h)
theorem Keep.of {pt : Option Pt} {H H1 : Hp} (a : Ex H H1) : Keep pt H H1 := fun x o _ h => a x o h
theorem Keep.ex {H H1 : Hp} (a : Keep none H H1) : Ex H H1 := fun x o h => a x o (fun _ z => by cases z) h
theorem Good.nil {F H : Hp} : Good none F H := fun _ h => by cases h
theorem PotAt.mono {H H' : Hp} {q : Pt} (h : PotAt H q) (e : Ex H H') : PotAt H' q := by
  obtain ⟨a, b, c, h1, r⟩ := h.ex
  exact ⟨h.ne, e _ _ h.ls, h.few, a, b, c, e _ _ h1, r⟩
theorem Good.less {pt : Option Pt} {F F' H : Hp} (g : Good pt F' H) (e : Ex F F') : Good pt F H := fun p hp => by
  refine ⟨?_, (g p hp).2⟩
  cases w : F p.p with
  | none => rfl
  | some o =>
    have h := (g p hp).1
    rw [e p.p o w] at h
    cases h
/-- what F knows stays where only the pot changes -/
theorem Keep.sub {pt : Option Pt} {F H H1 : Hp} (k : Keep pt H H1) (g : Good pt F H) (e : Ex F H) : Ex F H1 := fun a o h => by
  refine k a o (fun q z w => ?_) (e a o h)
  have := (g q z).1
  rw [← w, h] at this
  cases this
theorem New.refl (F H : Hp) : New F H F := fun _ h _ => h
/-- there before -/
theorem Keep.there {pt : Option Pt} {H H1 : Hp} (k : Keep pt H H1) {F F1 : Hp} (g : Good pt F1 H1) {a : Addr} (h : H a ≠ none) : H1 a ≠ none := by
  cases e : H a with
  | none => exact absurd e h
  | some o =>
    by_cases z : ∃ q, pt = some q ∧ a = q.p
    · obtain ⟨q, z1, z2⟩ := z
      rw [z2]; exact (g q z1).2.some
    · rw [k a o (fun q w1 w2 => z ⟨q, w1, w2⟩) e]; simp
theorem Keep.loose {pt : Option Pt} {H H1 : Hp} (k : Keep pt H H1) {F1 : Hp} (g : Good pt F1 H1) {a : Addr} (h : ∃ o, H a = some o ∧ ∀ ys, o ≠ .tup ys) : ∃ o, H1 a = some o ∧ ∀ ys, o ≠ .tup ys := by
  obtain ⟨o, e, n⟩ := h
  by_cases z : ∃ q, pt = some q ∧ a = q.p
  · obtain ⟨q, z1, z2⟩ := z
    rw [z2]; exact (g q z1).2.loose
  · exact ⟨o, k a o (fun q w1 w2 => z ⟨q, w1, w2⟩) e, n⟩
/-- what a piece leaves: F grew to F2, H became H2 -/
structure Step (pt : Option Pt) (F H F2 H2 : Hp) : Prop where
  sub : Ex F F2
  inn : Ex F2 H2
  keep : Keep pt H H2
  good : Good pt F2 H2
  new : New F H F2
theorem Step.refl {pt : Option Pt} {F H : Hp} (e : Ex F H) (g : Good pt F H) : Step pt F H F H := ⟨Ex.refl F, e, Keep.refl pt H, g, New.refl F H⟩
theorem Step.trans {pt : Option Pt} {F H F1 H1 F2 H2 : Hp} (a : Step pt F H F1 H1) (b : Step pt F1 H1 F2 H2) : Step pt F H F2 H2 :=
  ⟨a.sub.trans b.sub, b.inn, a.keep.trans b.keep, b.good, fun x h1 h2 => b.new x (a.new x h1 h2) (a.keep.loose a.good h2)⟩
/-- two parts together -/
def join (F G : Hp) : Hp := fun a => match F a with | some o => some o | none => G a
theorem join_l {F G : Hp} : Ex F (join F G) := fun a o h => by unfold join; rw [h]
theorem join_r {F G H : Hp} (f : Ex F H) (g : Ex G H) : Ex G (join F G) := fun a o h => by
  unfold join
  cases e : F a with
  | none => exact h
  | some u =>
    have h1 := f a u e
    rw [g a o h] at h1
    exact h1.symm
theorem join_in {F G H : Hp} (f : Ex F H) (g : Ex G H) : Ex (join F G) H := fun a o h => by
  unfold join at h
  cases e : F a with
  | none =>
    rw [e] at h
    exact g a o h
  | some u =>
    rw [e] at h
    have z := f a u e
    rw [z]
    exact h
theorem join_none {F G : Hp} {a : Addr} (f : F a = none) (g : G a = none) : join F G a = none := by unfold join; rw [f]; exact g
/-- the same piece seen from a greater part -/
theorem Step.wide {pt : Option Pt} {F F' H F2 H2 : Hp} (e : Ex F F') (e' : Ex F' H) (g : Good pt F' H) (s : Step pt F H F2 H2) : Step pt F' H (join F2 F') H2 := by
  have k : Ex F' H2 := s.keep.sub g e'
  refine ⟨join_r s.inn k, join_in s.inn k, s.keep, fun p hp => ⟨join_none (s.good p hp).1 (g p hp).1, (s.good p hp).2⟩, fun a h1 h2 => join_none (s.new a ?_ h2) h1⟩
  cases q : F a with
  | none => rfl
  | some o => rw [e a o q] at h1; cases h1
/-- a piece that changes nothing, where a pot stands -/
theorem Step.lift {pt : Option Pt} {F H F2 H2 : Hp} (g : Good pt F H) (s : Step none F H F2 H2) : Step pt F H F2 H2 :=
  ⟨s.sub, s.inn, Keep.of s.keep.ex, fun p hp => ⟨s.new p.p (g p hp).1 (g p hp).2.loose, (g p hp).2.mono s.keep.ex⟩, s.new⟩
/-- a new object is laid and stays -/
theorem Step.laid {pt : Option Pt} {F H : Hp} {p : Addr} {o : HO} (e : Ex F H) (g : Good pt F H) (hp : H p = none) : Step pt F H (upd F p o) (upd H p o) := by
  have fp : F p = none := by
    cases q : F p with
    | none => rfl
    | some u => rw [e p u q] at hp; cases hp
  refine ⟨Ex.new fp, fun a u h => ?_, Keep.of (Ex.new hp), fun x hx => ?_, fun a h1 h2 => ?_⟩
  · by_cases z : a = p
    · rw [z, upd_same] at h ⊢; exact h
    · rw [upd_ne z] at h ⊢; exact e a _ h
  · obtain ⟨q1, q2⟩ := g x hx
    have hxp : x.p ≠ p := fun z => q2.some (by rw [z]; exact hp)
    exact ⟨by rw [upd_ne hxp]; exact q1, q2.mono (Ex.new hp)⟩
  · have z : a ≠ p := loose_ne h2 hp
    rw [upd_ne z]; exact h1
/-- tuples that stand are taken among what stays -/
theorem Step.tups {pt : Option Pt} {F G H : Hp} (e : Ex F H) (g : Good pt F H) (k : ∀ b o, G b = some o → H b = some o ∧ ∃ ys, o = .tup ys) : Step pt F H (join F G) H := by
  have gi : Ex G H := fun b o h => (k b o h).1
  refine ⟨join_l, join_in e gi, Keep.refl pt H, fun q hq => ⟨join_none (g q hq).1 ?_, (g q hq).2⟩, fun a h1 h2 => join_none h1 ?_⟩
  · cases w : G q.p with
    | none => rfl
    | some o =>
      obtain ⟨h1, ys, rfl⟩ := k _ _ w
      obtain ⟨o, h2, n⟩ := (g q hq).2.loose
      rw [h1] at h2
      exact absurd (Option.some.inj h2).symm (n ys)
  · cases w : G a with
    | none => rfl
    | some o =>
      obtain ⟨h3, ys, rfl⟩ := k _ _ w
      obtain ⟨o, h4, n⟩ := h2
      rw [h3] at h4
      exact absurd (Option.some.inj h4).symm (n ys)
/-! ### what evaluates to what -/
abbrev PD := PyData → Prop
def EvG (K : PySem.W.Frag) (pt : Option Pt) (te : TE) (σ : L2.St) (F : Hp) (R : PD) : Prop :=
  ∀ H1, Ex F H1 → Good pt F H1 → ∀ Q : VK, (∀ d v F2 H2, R d → Step pt F H1 F2 H2 → Rp K F2 v d → Q v H2) → te σ H1 Q
def EvsG (K : PySem.W.Frag) (pt : Option Pt) (ta : TA) (σ : L2.St) (F : Hp) (R : List PyData → Prop) : Prop :=
  ∀ H1, Ex F H1 → Good pt F H1 → ∀ Q : List V → Hp → Prop, (∀ ds vs F2 H2, R ds → Step pt F H1 F2 H2 → RpAll K F2 vs ds → Q vs H2) → ta σ H1 Q
def EtG (pt : Option Pt) (tt : TT) (σ : L2.St) (F : Hp) (R : Bool → Prop) : Prop :=
  ∀ H1, Ex F H1 → Good pt F H1 → ∀ Q : Bool → Hp → Prop, (∀ b F2 H2, R b → Step pt F H1 F2 H2 → Q b H2) → tt σ H1 Q
/-- operations on values -/
def RvG (K : PySem.W.Frag) (r : L2.R2) (d e : PyData) (R : PD) : Prop := ∀ F H x y, Ex F H → Rp K F x d → Rp K F y e → ∀ Q : VK, (∀ z v F2 H2, R z → Step none F H F2 H2 → Rp K F2 v z → Q v H2) → r x y H Q
def RcG (K : PySem.W.Frag) (r : List V → Hp → VK → Prop) (ds : List PyData) (R : PD) : Prop := ∀ F H vs, Ex F H → RpAll K F vs ds → ∀ Q : VK, (∀ z v F2 H2, R z → Step none F H F2 H2 → Rp K F2 v z → Q v H2) → r vs H Q
/-- the same d -/
abbrev Is (d : PyData) : PD := fun x => x = d
section
variable {K : PySem.W.Frag} {pt : Option Pt} {σ : L2.St} {F F' : Hp} {te ta tb : TE} {ts tr : TA} {t u : TT} {R R1 S2 R3 : PD} {d e z : PyData} {r : L2.R2}
theorem EvG.mono (h : EvG K pt te σ F R) (e : Ex F F') : EvG K pt te σ F' R := fun H1 i g Q q =>
  h H1 (e.trans i) (g.less e) Q fun d v F2 H2 hr s hv => q d v _ H2 hr (s.wide e i g) (Rp.mono join_l _ _ hv)
theorem EvG.lift (h : EvG K none te σ F R) : EvG K pt te σ F R := fun H1 i g Q q => h H1 i .nil Q fun d v F2 H2 hr s hv => q d v F2 H2 hr (s.lift g) hv
theorem EvG.imp (h : EvG K pt te σ F R) (k : ∀ d, R d → R1 d) : EvG K pt te σ F R1 := fun H1 i g Q q => h H1 i g Q fun d v F2 H2 hr s hv => q d v F2 H2 (k d hr) s hv
theorem EvG.is (h : EvG K pt te σ F (Is d)) (k : d = e) : EvG K pt te σ F (Is e) := k ▸ h
theorem EtG.mono {R : Bool → Prop} (h : EtG pt t σ F R) (e : Ex F F') : EtG pt t σ F' R := fun H1 i g Q q =>
  h H1 (e.trans i) (g.less e) Q fun b F2 H2 hr s => q b _ H2 hr (s.wide e i g)
theorem EtG.lift {R : Bool → Prop} (h : EtG none t σ F R) : EtG pt t σ F R := fun H1 i g Q q => h H1 i .nil Q fun b F2 H2 hr s => q b F2 H2 hr (s.lift g)
theorem EtG.is {b c : Bool} (h : EtG pt t σ F (· = b)) (k : b = c) : EtG pt t σ F (· = c) := k ▸ h
theorem EvsG.mono {R : List PyData → Prop} (h : EvsG K pt ts σ F R) (e : Ex F F') : EvsG K pt ts σ F' R := fun H1 i g Q q =>
  h H1 (e.trans i) (g.less e) Q fun d v F2 H2 hr s hv => q d v _ H2 hr (s.wide e i g) (RpAll.mono join_l _ _ hv)
theorem g_var {i : Nat} {v : V} (h : σ[i]? = some (some v)) (hr : Rp K F v d) : EvG K pt (tVar i) σ F (Is d) := fun H1 e g Q q => ⟨v, h, q d v F H1 rfl (.refl e g) hr⟩
theorem g_int {i : Int} : EvG K pt (tC (.int i)) σ F (Is (.int i)) := fun H1 e g Q q => q _ _ F H1 rfl (.refl e g) (.int i)
theorem g_bl {b : Bool} : EvG K pt (tC (.bl b)) σ F (Is (.bool b)) := fun H1 e g Q q => q _ _ F H1 rfl (.refl e g) (.bl b)
theorem g_non : EvG K pt (tC .non) σ F (Is .none) := fun H1 e g Q q => q _ _ F H1 rfl (.refl e g) .non
theorem g_str {x : Str} : EvG K pt (tC (.str x)) σ F (Is (.str x)) := fun H1 e g Q q => q _ _ F H1 rfl (.refl e g) (.str x)
/-- two parts, one after the other; the second may know the first's value -/
theorem g_op (ha : EvG K pt ta σ F R1) (hb : EvG K pt tb σ F S2) (hr : ∀ d e, R1 d → S2 e → RvG K r d e R3) : EvG K pt (tOp r ta tb) σ F R3 := fun H1 i g Q q =>
  ha H1 i g _ fun d v F2 H2 hd s hv => hb.mono s.sub H2 s.inn s.good _ fun e w F3 H3 he s3 hw =>
    hr d e hd he F3 H3 v w s3.inn (Rp.mono s3.sub _ _ hv) hw Q fun z x F4 H4 hz s4 hx => q z x F4 H4 hz ((s.trans s3).trans (s4.lift s3.good)) hx
theorem gs_nil : EvsG K pt tNil σ F (· = []) := fun H1 i g Q q => q [] [] F H1 rfl (.refl i g) .nil
theorem gs_cons {R2 : List PyData → Prop} (ha : EvG K pt ta σ F R1) (hb : EvsG K pt tr σ F R2) : EvsG K pt (tCons ta tr) σ F (fun l => ∃ d ds, l = d :: ds ∧ R1 d ∧ R2 ds) := fun H1 i g Q q =>
  ha H1 i g _ fun d v F2 H2 hd s hv => hb.mono s.sub H2 s.inn s.good _ fun ds vs F3 H3 hds s3 hvs => q (d :: ds) (v :: vs) F3 H3 ⟨d, ds, rfl, hd, hds⟩ (s.trans s3) (.cons (Rp.mono s3.sub _ _ hv) hvs)
theorem gs_consI {ds : List PyData} (ha : EvG K pt ta σ F (Is d)) (hb : EvsG K pt tr σ F (· = ds)) : EvsG K pt (tCons ta tr) σ F (· = d :: ds) := fun H1 i g Q q =>
  gs_cons ha hb H1 i g Q fun l vs F2 H2 h s hv => by
    obtain ⟨d', ds', e, h1, h2⟩ := h
    exact q l vs F2 H2 (by rw [e, h1, h2]) s hv
theorem g_tup {R : List PyData → Prop} (h : EvsG K pt ts σ F R) (hz : ∀ ds, R ds → ds.length ≤ 100000) : EvG K pt (tTup ts) σ F (fun x => ∃ ds, x = .tuple ds ∧ R ds) := fun H1 i g Q q =>
  h H1 i g _ fun ds vs F2 H2 hd s hv => ⟨by rw [hv.length]; exact sz_of (hz ds hd), fun p hp => by
    have s3 : Step pt F2 H2 (upd F2 p (.tup vs)) (upd H2 p (.tup vs)) := .laid s.inn s.good hp
    exact q (.tuple ds) _ _ _ ⟨ds, rfl, hd⟩ (s.trans s3) (.tup upd_same (RpAll.mono s3.sub _ _ hv))⟩
theorem g_lst {R : List PyData → Prop} (h : EvsG K pt ts σ F R) (hz : ∀ ds, R ds → ds.length ≤ 100000) : EvG K pt (tLst ts) σ F (fun x => ∃ ds, x = .list ds ∧ R ds) := fun H1 i g Q q =>
  h H1 i g _ fun ds vs F2 H2 hd s hv => ⟨by rw [hv.length]; exact sz_of (hz ds hd), fun p hp => by
    have s3 : Step pt F2 H2 (upd F2 p (.lst vs)) (upd H2 p (.lst vs)) := .laid s.inn s.good hp
    exact q (.list ds) _ _ _ ⟨ds, rfl, hd⟩ (s.trans s3) (.lst upd_same (RpAll.mono s3.sub _ _ hv))⟩
theorem g_tupI {ds : List PyData} (h : EvsG K pt ts σ F (· = ds)) (hz : ds.length ≤ 100000) : EvG K pt (tTup ts) σ F (Is (.tuple ds)) := (g_tup h fun _ e => by rw [e]; exact hz).imp fun _ ⟨_, e, e2⟩ => by rw [e, e2]
theorem g_lstI {ds : List PyData} (h : EvsG K pt ts σ F (· = ds)) (hz : ds.length ≤ 100000) : EvG K pt (tLst ts) σ F (Is (.list ds)) := (g_lst h fun _ e => by rw [e]; exact hz).imp fun _ ⟨_, e, e2⟩ => by rw [e, e2]
/-- tests -/
theorem et_of {b : Bool} (h : EvG K pt te σ F (Is (.bool b))) : EtG pt (tTest te) σ F (· = b) := fun H1 i g Q q => h H1 i g _ fun d v F2 H2 hd s hv => by
  subst hd
  exact ⟨b, rp_bool hv, q b F2 H2 rfl s⟩
theorem et_B {b : Bool} (h : EvG K pt te σ F (Is (.bool b))) : EtG pt (tB te) σ F (· = b) := fun H1 i g Q q => h H1 i g _ fun d v F2 H2 hd s hv => by
  subst hd
  exact ⟨b, rp_bool hv, q b F2 H2 rfl s⟩
theorem et_yes : EtG pt tYes σ F (· = true) := fun H1 i g Q q => q true F H1 rfl (.refl i g)
theorem et_not {b : Bool} (h : EtG pt t σ F (· = b)) : EtG pt (tNot t) σ F (· = !b) := fun H1 i g Q q => h H1 i g _ fun c F2 H2 hc s => by
  subst hc
  exact q _ F2 H2 rfl s
theorem et_and {a b : Bool} (h1 : EtG pt t σ F (· = a)) (h2 : a = true → EtG pt u σ F (· = b)) : EtG pt (tAnd t u) σ F (· = (a && b)) := fun H1 i g Q q => h1 H1 i g _ fun c F2 H2 hc s => by
  subst hc
  cases c with
  | true => exact (h2 rfl).mono s.sub H2 s.inn s.good Q fun b' F3 H3 hb s3 => q b' F3 H3 (by rw [hb]; rfl) (s.trans s3)
  | false => exact q false F2 H2 rfl s
theorem et_or {a b : Bool} (h1 : EtG pt t σ F (· = a)) (h2 : a = false → EtG pt u σ F (· = b)) : EtG pt (tOr t u) σ F (· = (a || b)) := fun H1 i g Q q => h1 H1 i g _ fun c F2 H2 hc s => by
  subst hc
  cases c with
  | false => exact (h2 rfl).mono s.sub H2 s.inn s.good Q fun b' F3 H3 hb s3 => q b' F3 H3 (by rw [hb]; rfl) (s.trans s3)
  | true => exact q true F2 H2 rfl s
theorem g_andV {a b : Bool} (h1 : EvG K pt ta σ F (Is (.bool a))) (h2 : a = true → EvG K pt tb σ F (Is (.bool b))) : EvG K pt (tAndV ta tb) σ F (Is (.bool (a && b))) := fun H1 i g Q q => h1 H1 i g _ fun d v F2 H2 hd s hv => by
  subst hd
  refine ⟨a, rp_bool hv, ?_⟩
  cases a with
  | true => exact (h2 rfl).mono s.sub H2 s.inn s.good Q fun d' v' F3 H3 hd' s3 hv' => q d' v' F3 H3 hd' (s.trans s3) hv'
  | false => exact q _ _ F2 H2 rfl s (.bl false)
theorem g_orV {a b : Bool} (h1 : EvG K pt ta σ F (Is (.bool a))) (h2 : a = false → EvG K pt tb σ F (Is (.bool b))) : EvG K pt (tOrV ta tb) σ F (Is (.bool (a || b))) := fun H1 i g Q q => h1 H1 i g _ fun d v F2 H2 hd s hv => by
  subst hd
  refine ⟨a, rp_bool hv, ?_⟩
  cases a with
  | false => exact (h2 rfl).mono s.sub H2 s.inn s.good Q fun d' v' F3 H3 hd' s3 hv' => q d' v' F3 H3 hd' (s.trans s3) hv'
  | true => exact q _ _ F2 H2 rfl s (.bl true)
theorem g_notV {a : Bool} (h : EvG K pt ta σ F (Is (.bool a))) : EvG K pt (tNotV ta) σ F (Is (.bool (!a))) := fun H1 i g Q q => h H1 i g _ fun d v F2 H2 hd s hv => by
  subst hd
  exact ⟨a, rp_bool hv, q _ _ F2 H2 rfl s (.bl _)⟩
theorem g_if {b : Bool} (h : EtG pt t σ F (· = b)) (h1 : b = true → EvG K pt ta σ F R) (h2 : b = false → EvG K pt tb σ F R) : EvG K pt (tIf t ta tb) σ F R := fun H1 i g Q q => h H1 i g _ fun c F2 H2 hc s => by
  subst hc
  cases c with
  | true => exact (h1 rfl).mono s.sub H2 s.inn s.good Q fun d' v' F3 H3 hd' s3 hv' => q d' v' F3 H3 hd' (s.trans s3) hv'
  | false => exact (h2 rfl).mono s.sub H2 s.inn s.good Q fun d' v' F3 H3 hd' s3 hv' => q d' v' F3 H3 hd' (s.trans s3) hv'
/-- a value from an operation that lays nothing -/
theorem rv_val (h : ∀ F H x y, Ex F H → Rp K F x d → Rp K F y e → ∃ v, (∀ Q : VK, Q v H → r x y H Q) ∧ Rp K F v z) : RvG K r d e (Is z) := fun F H x y i hx hy Q q => by
  obtain ⟨v, k, hv⟩ := h F H x y i hx hy
  exact k Q (q z v F H rfl (.refl i .nil) hv)
theorem rc_val {r : List V → Hp → VK → Prop} {ds : List PyData} (h : ∀ F H vs, Ex F H → RpAll K F vs ds → ∃ v, (∀ Q : VK, Q v H → r vs H Q) ∧ Rp K F v z) : RcG K r ds (Is z) := fun F H vs i hx Q q => by
  obtain ⟨v, k, hv⟩ := h F H vs i hx
  exact k Q (q z v F H rfl (.refl i .nil) hv)
theorem rv_I0 {g : Int → Int → V} {f : Int → Int → PyData} {i j : Int} (hg : ∀ F, Rp K F (g i j) (f i j)) : RvG K (rI0 g) (.int i) (.int j) (Is (f i j)) := rv_val fun F H x y _ hx hy => ⟨g i j, fun Q q => ⟨i, j, rp_int hx, rp_int hy, q⟩, hg F⟩
theorem rv_I {C : Int → Int → Prop} {g : Int → Int → V} {f : Int → Int → PyData} {i j : Int} (hc : C i j) (hg : ∀ F, Rp K F (g i j) (f i j)) : RvG K (rI C g) (.int i) (.int j) (Is (f i j)) := rv_val fun F H x y _ hx hy => ⟨g i j, fun Q q => ⟨i, j, rp_int hx, rp_int hy, hc, q⟩, hg F⟩
theorem rv_eqD (hd : SeqAt.shaped d = true) (he : SeqAt.shaped e = true) : RvG K (rEqD K) d e (Is (.bool (PyData.eqv d e))) := rv_val fun F H x y i hx hy => ⟨_, fun Q q => ⟨d, e, Rp.dp _ _ (Rp.mono i _ _ hx), Rp.dp _ _ (Rp.mono i _ _ hy), hd, he, q⟩, .bl _⟩
theorem rv_neD (hd : SeqAt.shaped d = true) (he : SeqAt.shaped e = true) : RvG K (rNeD K) d e (Is (.bool (!PyData.eqv d e))) := rv_val fun F H x y i hx hy => ⟨_, fun Q q => ⟨d, e, Rp.dp _ _ (Rp.mono i _ _ hx), Rp.dp _ _ (Rp.mono i _ _ hy), hd, he, q⟩, .bl _⟩
theorem g_cb {r : List V → Hp → VK → Prop} {R1 : List PyData → Prop} (h : EvsG K pt ts σ F R1) (hr : ∀ ds, R1 ds → RcG K r ds R) : EvG K pt (tCB r ts) σ F R := fun H1 i g Q q =>
  h H1 i g _ fun ds vs F2 H2 hd s hv => hr ds hd F2 H2 vs s.inn hv Q fun z v F3 H3 hz s3 hv' => q z v F3 H3 hz (s.trans (s3.lift s.good)) hv'
end
end Fv
namespace Fv
open PySem L2 Evl
/-! ### what is walked -/
structure Yields (K : PySem.W.Frag) (J : It) (F : Hp) (ds : List PyData) : Prop where
  go : ∀ i H, Ex F H → i < ds.length → J.go i H
  stop : ∀ H, Ex F H → J.stop ds.length H
  yld : ∀ i H x H', Ex F H → i < ds.length → J.yld i H x H' → H' = H ∧ ∃ d, ds[i]? = some d ∧ Rp K F x d
def WiG (K : PySem.W.Frag) (pt : Option Pt) (wi : TI) (σ : L2.St) (F : Hp) (R : List PyData → Prop) : Prop :=
  ∀ H1, Ex F H1 → Good pt F H1 → ∀ RR : It → Hp → Prop, (∀ ds J F2 H2, R ds → Step pt F H1 F2 H2 → Yields K J F2 ds → RR J H2) → wi σ H1 RR
section
variable {K : PySem.W.Frag} {pt : Option Pt} {σ : L2.St} {F F' : Hp} {te ta tb : TE} {ts tr : TA} {t u : TT} {R R1 S2 R3 : PD} {d e z : PyData} {r : L2.R2} {wi wi1 : TI}
theorem w_listI {ds : List PyData} (h : EvG K pt te σ F (Is (.list ds))) : WiG K pt (iList K te) σ F (· = ds) := fun H1 i g RR q =>
  h H1 i g _ fun d v F2 H2 hd s hv => by
    subst hd
    obtain ⟨a, xs, rfl, hl, ha⟩ := rp_lst hv
    refine ⟨a, rfl, ⟨xs, sq_of (s.inn _ _ hl)⟩, q ds _ F2 H2 rfl s ⟨fun i H e hi => ?_, fun H e => ⟨xs, sq_of (e _ _ hl), Nat.le_of_eq ha.length⟩, fun i H x H' e hi y => ?_⟩⟩
    · have hi' : i < xs.length := by rw [ha.length]; exact hi
      exact ⟨xs, xs[i], sq_of (e _ _ hl), List.getElem?_eq_getElem hi'⟩
    · exact ⟨y.1, ha.get (y.2 xs (sq_of (e _ _ hl)))⟩
theorem w_tupI {ds : List PyData} (h : EvG K pt te σ F (Is (.tuple ds))) : WiG K pt (iTup K te) σ F (· = ds) := fun H1 i g RR q =>
  h H1 i g _ fun d v F2 H2 hd s hv => by
    subst hd
    obtain ⟨a, xs, rfl, hl, ha⟩ := rp_tup hv
    refine ⟨a, rfl, ⟨xs, tx s.inn hl⟩, q ds _ F2 H2 rfl s ⟨fun i H e hi => ?_, fun H e => ⟨xs, tx e hl, Nat.le_of_eq ha.length⟩, fun i H x H' e hi y => ?_⟩⟩
    · have hi' : i < xs.length := by rw [ha.length]; exact hi
      exact ⟨xs, xs[i], tx e hl, List.getElem?_eq_getElem hi'⟩
    · exact ⟨y.1, ha.get (y.2 xs (tx e hl))⟩
/-- the numbers lo, lo + 1, .. -/
def rng (lo : Int) (n : Nat) : List PyData := (List.range n).map fun (k : Nat) => PyData.int (lo + (k : Int))
theorem rng_len (lo : Int) (n : Nat) : (rng lo n).length = n := by unfold rng; simp
theorem rng_get {lo : Int} {n i : Nat} (h : i < n) : (rng lo n)[i]? = some (.int (lo + (i : Int))) := by unfold rng; rw [List.getElem?_map, List.getElem?_range h]; rfl
theorem y_rng (lo : Int) (n : Nat) (F : Hp) : Yields K (Itr lo n) F (rng lo n) := ⟨fun i H _ hi => by rw [rng_len] at hi; exact hi, fun H _ => by rw [rng_len]; exact Nat.le_refl _, fun i H x H' _ hi y => by
  rw [rng_len] at hi
  exact ⟨y.1, _, rng_get hi, by rw [y.2]; exact .int _⟩⟩
theorem w_rng1 {R0 : List PyData → Prop} (h : EvsG K pt ts σ F R0) (hn : ∀ ds, R0 ds → ∃ n : Int, ds = [.int n] ∧ -(2 ^ 62) ≤ n ∧ n < 2 ^ 62) : WiG K pt (iRng1 ts) σ F (fun l => ∃ n : Int, R0 [.int n] ∧ l = rng 0 n.toNat) := fun H1 i g RR q =>
  h H1 i g _ fun ds vs F2 H2 hd s hv => by
    obtain ⟨n, rfl, h1, h2⟩ := hn ds hd
    have e : vs = [.int n] := rpAll_ints (ns := [n]) hv
    subst e
    exact ⟨n, rfl, h1, h2, q _ _ F2 H2 ⟨n, hd, rfl⟩ s (y_rng 0 n.toNat F2)⟩
theorem w_rng1I {n : Int} (h : EvsG K pt ts σ F (· = [.int n])) (h1 : -(2 ^ 62) ≤ n) (h2 : n < 2 ^ 62) : WiG K pt (iRng1 ts) σ F (· = rng 0 n.toNat) := fun H1 i g RR q =>
  w_rng1 h (fun ds e => ⟨n, e, h1, h2⟩) H1 i g RR fun ds J F2 H2 hd s y => by
    obtain ⟨m, e1, e2⟩ := hd
    have : m = n := by injection e1 with e1; injection e1
    subst this
    exact q ds J F2 H2 e2 s y
/-! ### comprehensions -/
/-- a list that grows at Dl beside the part that stays -/
def Grow (K : PySem.W.Frag) (pt : Option Pt) (F H1 : Hp) (Dl : Addr) (A : List PyData → Prop) (H' : Hp) : Prop :=
  ∃ F' l acc, Step pt F H1 F' H' ∧ F' Dl = none ∧ H' Dl = some (.lst acc) ∧ RpAll K F' acc l ∧ A l
theorem Good.upd {F H : Hp} {Dl : Addr} {o : HO} (g : Good pt F H) (h : ∀ q, pt = some q → Dl ≠ q.p ∧ Dl ≠ q.l) : Good pt F (upd H Dl o) := fun q hq => by
  obtain ⟨g1, g2⟩ := g q hq
  obtain ⟨a, b, c, e, r⟩ := g2.ex
  refine ⟨g1, g2.ne, ?_, g2.few, a, b, c, ?_, r⟩
  · rw [upd_ne (h q hq).2.symm]; exact g2.ls
  · rw [upd_ne (h q hq).1.symm]; exact e
theorem off_pot {F H : Hp} {Dl : Addr} (g : Good pt F H) (h : H Dl = none) : ∀ q, pt = some q → Dl ≠ q.p ∧ Dl ≠ q.l := fun q hq => by
  obtain ⟨_, g2⟩ := g q hq
  exact ⟨fun z => g2.some (by rw [← z]; exact h), fun z => by have := g2.ls; rw [← z, h] at this; cases this⟩
theorem Step.put {F H1 F' H' : Hp} {Dl : Addr} {o : HO} (s : Step pt F H1 F' H') (g : Good pt F H1) (h1 : H1 Dl = none) (f : F' Dl = none) : Step pt F H1 F' (upd H' Dl o) :=
  ⟨s.sub, fun a u h => by
    have : a ≠ Dl := fun z => by rw [z, f] at h; cases h
    rw [upd_ne this]; exact s.inn a u h, fun a u n h => by
    have : a ≠ Dl := fun z => by rw [z, h1] at h; cases h
    rw [upd_ne this]; exact s.keep a u n h, s.good.upd (off_pot g h1), s.new⟩
theorem Grow.start {F H1 : Hp} {Dl : Addr} {A : List PyData → Prop} (i : Ex F H1) (g : Good pt F H1) (h : H1 Dl = none) (a : A []) : Grow K pt F H1 Dl A (upd H1 Dl (.lst [])) := by
  have f : F Dl = none := by
    cases w : F Dl with
    | none => rfl
    | some o => rw [i _ _ w] at h; cases h
  exact ⟨F, [], [], (Step.refl i g).put g h f, f, upd_same, .nil, a⟩
/-- frozen at the end -/
theorem Grow.done {F H1 H' : Hp} {Dl : Addr} {A : List PyData → Prop} (g : Good pt F H1) (h : H1 Dl = none) (w : Grow K pt F H1 Dl A H') : ∃ F2 l, A l ∧ Step pt F H1 F2 H' ∧ Rp K F2 (.ref Dl) (.list l) := by
  obtain ⟨F', l, acc, s, f, e, r, a⟩ := w
  have e1 : Ex F' (upd F' Dl (.lst acc)) := Ex.new f
  refine ⟨upd F' Dl (.lst acc), l, a, ⟨s.sub.trans e1, fun b u hb => ?_, s.keep, fun q hq => ⟨?_, (s.good q hq).2⟩, fun b h1 h2 => ?_⟩, .lst upd_same (RpAll.mono e1 _ _ r)⟩
  · by_cases z : b = Dl
    · rw [z, upd_same] at hb; rw [z, e]; exact hb
    · rw [upd_ne z] at hb; exact s.inn b u hb
  · rw [upd_ne (off_pot g h q hq).1.symm]; exact (s.good q hq).1
  · have z : b ≠ Dl := loose_ne h2 h
    rw [upd_ne z]; exact s.new b h1 h2
theorem Grow.imp {F H1 H' : Hp} {Dl : Addr} {A B : List PyData → Prop} (w : Grow K pt F H1 Dl A H') (k : ∀ l, A l → B l) : Grow K pt F H1 Dl B H' := by
  obtain ⟨F', l, acc, s, f, e, r, a⟩ := w
  exact ⟨F', l, acc, s, f, e, r, k l a⟩
/-- a piece runs beside the list -/
theorem Step.beside {F H1 F' H' F2 H2 : Hp} {Dl : Addr} {acc : List V} (g : Good pt F H1) (h : H1 Dl = none) (f : F' Dl = none) (e : H' Dl = some (.lst acc)) (s : Step pt F' H' F2 H2) : F2 Dl = none ∧ H2 Dl = some (.lst acc) :=
  ⟨s.new Dl f (by rw [e]; simp), s.keep Dl _ (fun q hq => (off_pot g h q hq).1) e⟩
/-- one turn: the test, then the item -/
theorem Grow.turn {F H1 H' : Hp} {Dl : Addr} {A B : List PyData → Prop} {σ2 : L2.St} (g : Good pt F H1) (h : H1 Dl = none) (w : Grow K pt F H1 Dl A H') (hz : ∀ l, A l → l.length < 100000)
    (P : Bool → Prop) (ht : ∀ F', Ex F F' → EtG pt t σ2 F' P) (he : P true → ∀ F', Ex F F' → EvG K pt te σ2 F' R) (hy : P true → ∀ l d, A l → R d → B (l ++ [d])) (hn : P false → ∀ l, A l → B l) :
    t σ2 H' fun b H3 => if b = true then te σ2 H3 fun y H4 => ∃ acc, H4 Dl = some (.lst acc) ∧ acc.length < sizeLine ∧ Grow K pt F H1 Dl B (upd H4 Dl (.lst (acc ++ [y]))) else Grow K pt F H1 Dl B H3 := by
  obtain ⟨F', l, acc, s, f, e, r, a⟩ := w
  refine ht F' s.sub H' s.inn s.good _ fun b F2 H2 hb s2 => ?_
  obtain ⟨f2, e2⟩ := s2.beside g h f e
  cases b with
  | true =>
    show te σ2 H2 fun y H4 => ∃ acc, H4 Dl = some (.lst acc) ∧ acc.length < sizeLine ∧ Grow K pt F H1 Dl B (upd H4 Dl (.lst (acc ++ [y])))
    refine he hb F2 (s.sub.trans s2.sub) H2 s2.inn s2.good _ fun d v F3 H3 hd s3 hv => ?_
    obtain ⟨f3, e3⟩ := s3.beside g h f2 e2
    refine ⟨acc, e3, sz_lt (by rw [r.length]; exact hz l a), F3, l ++ [d], acc ++ [v], ((s.trans s2).trans s3).put g h f3, f3, upd_same, ?_, hy hb l d a hd⟩
    exact RpAll.append (RpAll.mono (s2.sub.trans s3.sub) _ _ r) (.one hv)
  | false =>
    show Grow K pt F H1 Dl B H2
    exact ⟨F2, l, acc, s.trans s2, f2, e2, RpAll.mono s2.sub _ _ r, hn hb l a⟩
/-- [e for x in .. if ..]: A tells the list made behind i turns -/
theorem g_lc {j : Nat} {vs : List Nat} {RS : List PyData → Prop} (A : List PyData → Nat → List PyData → Prop) (hw : WiG K pt wi σ F RS) (hz : ∀ ds, RS ds → ds.length ≤ 50000) (hwp : ∀ x, wipe ((wipe σ vs).set j (some x)) vs = wipe σ vs)
    (hA : ∀ ds i l, RS ds → A ds i l → l.length ≤ i) (h0 : ∀ ds, RS ds → A ds 0 [])
    (hs : ∀ ds i d, RS ds → ds[i]? = some d → ∃ (P : Bool → Prop) (Re : PD), (P true → ∀ l x, A ds i l → Re x → A ds (i + 1) (l ++ [x])) ∧ (P false → ∀ l, A ds i l → A ds (i + 1) l) ∧
      ∀ F', Ex F F' → ∀ x, Rp K F' x d → EtG pt t ((wipe σ vs).set j (some x)) F' P ∧ (P true → EvG K pt te ((wipe σ vs).set j (some x)) F' Re)) :
    EvG K pt (tLc wi (gName j) t te vs) σ F (fun x => ∃ ds l, x = .list l ∧ RS ds ∧ A ds ds.length l) := fun H0 i0 g0 Q q =>
  hw H0 i0 g0 _ fun ds J F1 H1 hds s1 Y => fun Dl hD => by
    have gi := s1.inn
    have gg := s1.good
    refine ⟨fun i m H => m = ds.length - i ∧ i ≤ ds.length ∧ Grow K pt F1 H1 Dl (A ds i) H, ⟨ds.length, by simp, Nat.zero_le _, .start gi gg hD (h0 ds hds)⟩, ?_⟩
    rintro i m H ⟨rfl, hi, w⟩
    obtain ⟨F', l, acc, s, f, e, r, a⟩ := id w
    have eH : Ex F1 H := s.sub.trans s.inn
    by_cases hlt : i < ds.length
    · refine .inr ⟨Y.go i H eH hlt, Grow K pt F1 H1 Dl (A ds (i + 1)), fun H' p' => ⟨ds.length - (i + 1), by omega, rfl, hlt, p'⟩, fun x H' y => ?_⟩
      obtain ⟨rfl, d, hd, hx⟩ := Y.yld i H x H' eH hlt y
      obtain ⟨P, Re, k1, k2, k3⟩ := hs ds i d hds hd
      refine ⟨hwp x, w.turn gg hD (fun l' a' => by have := hA ds i l' hds a'; have := hz ds hds; omega) P (fun F'' e'' => (k3 F'' (s1.sub.trans e'') x (Rp.mono e'' _ _ hx)).1) (fun hp F'' e'' => (k3 F'' (s1.sub.trans e'') x (Rp.mono e'' _ _ hx)).2 hp) (fun hp l' x' => k1 hp l' x') (fun hp l' => k2 hp l')⟩
    · have hE : i = ds.length := Nat.le_antisymm hi (Nat.le_of_not_lt hlt)
      subst hE
      refine .inl ⟨Y.stop H eH, ?_⟩
      obtain ⟨F2, l2, a2, s2, r2⟩ := w.done gg hD
      exact q _ _ F2 H ⟨ds, l2, rfl, hds, a2⟩ (s1.trans s2) r2
/-! ### promises of defs that change nothing, calls -/
def PSp {ι : Type} (K : PySem.W.Frag) (A : ι → List PyData) (P : ι → Prop) (f : ι → PyData) : Sp := fun vs H Q _ => ∃ i F, P i ∧ Ex F H ∧ RpAll K F vs (A i) ∧ ∀ v F2 H2, Step none F H F2 H2 → Rp K F2 v (f i) → Q v H2
theorem PSp.len {ι : Type} {A : ι → List PyData} {P : ι → Prop} {f : ι → PyData} {n : Nat} (h : ∀ i, (A i).length = n) : ∀ vs H Q E, PSp K A P f vs H Q E → vs.length = n := fun vs H Q E ⟨i, F, _, _, r, _⟩ => by rw [r.length, h]
theorem g_call {ι : Type} {A : ι → List PyData} {P : ι → Prop} {f : ι → PyData} {ds : List PyData} {E : XK} (i : ι) (h : EvsG K pt ts σ F (· = ds)) (ha : ds = A i) (hp : P i) : EvG K pt (tCall (PSp K A P f) [] E ts) σ F (Is (f i)) := fun H1 e g Q q =>
  h H1 e g _ fun ds' vs F2 H2 hd s hv => by
    rw [hd, ha] at hv
    refine ⟨i, F2, hp, s.inn, by rw [List.append_nil]; exact hv, fun v F3 H3 s3 hv3 => q _ v F3 H3 rfl (s.trans (s3.lift s.good)) hv3⟩
end
/-! ### statements -/
section
variable {K : PySem.W.Frag} {pt : Option Pt} {σ : L2.St} {F0 H0 F H F' : Hp} {te ta tb : TE} {ts tr : TA} {t u : TT} {R R1 S2 R3 : PD} {d e z : PyData} {wi : TI} {D : Ends} {tu tw tz : TS}
theorem t_ret (s : Step pt F0 H0 F H) (h : EvG K pt te σ F R) (q : ∀ d v F2 H2, R d → Step pt F0 H0 F2 H2 → Rp K F2 v d → D.rt v H2) : tRet te D σ H := h H s.inn s.good _ fun d v F2 H2 hd s2 hv => q d v F2 H2 hd (s.trans s2) hv
theorem t_retI (s : Step pt F0 H0 F H) (h : EvG K pt te σ F (Is d)) (q : ∀ v F2 H2, Step pt F0 H0 F2 H2 → Rp K F2 v d → D.rt v H2) : tRet te D σ H := t_ret s h fun d' v F2 H2 e s2 hv => q v F2 H2 s2 (by rw [← (show d' = d from e)]; exact hv)
theorem t_asg {i : Nat} (s : Step pt F0 H0 F H) (h : EvG K pt te σ F R) (q : ∀ d v F2 H2, R d → Step pt F0 H0 F2 H2 → Ex F F2 → Rp K F2 v d → tz D (σ.set i (some v)) H2) : tSeq (tAsg te (gName i)) tz D σ H :=
  h H s.inn s.good _ fun d v F2 H2 hd s2 hv => q d v F2 H2 hd (s.trans s2) s2.sub hv
theorem t_asgI {i : Nat} (s : Step pt F0 H0 F H) (h : EvG K pt te σ F (Is d)) (q : ∀ v F2 H2, Step pt F0 H0 F2 H2 → Ex F F2 → Rp K F2 v d → tz D (σ.set i (some v)) H2) : tSeq (tAsg te (gName i)) tz D σ H :=
  t_asg s h fun d' v F2 H2 e s2 e2 hv => q v F2 H2 s2 e2 (by rw [← (show d' = d from e)]; exact hv)
theorem t_if {b : Bool} (s : Step pt F0 H0 F H) (h : EtG pt t σ F (· = b)) (h1 : b = true → ∀ F2 H2, Step pt F0 H0 F2 H2 → Ex F F2 → tu { D with nx := tz D } σ H2) (h2 : b = false → ∀ F2 H2, Step pt F0 H0 F2 H2 → Ex F F2 → tw { D with nx := tz D } σ H2) :
    tSeq (tIfS t tu tw) tz D σ H := h H s.inn s.good _ fun c F2 H2 hc s2 => by
  subst hc
  cases c with
  | true => exact h1 rfl F2 H2 (s.trans s2) s2.sub
  | false => exact h2 rfl F2 H2 (s.trans s2) s2.sub
theorem t_when {b : Bool} (s : Step pt F0 H0 F H) (h : EtG pt t σ F (· = b)) (h1 : b = true → ∀ F2 H2, Step pt F0 H0 F2 H2 → Ex F F2 → tu { D with nx := tz D } σ H2) (h2 : b = false → ∀ F2 H2, Step pt F0 H0 F2 H2 → Ex F F2 → tz D σ H2) :
    tSeq (tIfS t tu tNext) tz D σ H := t_if s h h1 h2
theorem t_if1 {b : Bool} (s : Step pt F0 H0 F H) (h : EtG pt t σ F (· = b)) (h1 : b = true → ∀ F2 H2, Step pt F0 H0 F2 H2 → Ex F F2 → tu D σ H2) (h2 : b = false → ∀ F2 H2, Step pt F0 H0 F2 H2 → Ex F F2 → tw D σ H2) :
    tIfS t tu tw D σ H := h H s.inn s.good _ fun c F2 H2 hc s2 => by
  subst hc
  cases c with
  | true => exact h1 rfl F2 H2 (s.trans s2) s2.sub
  | false => exact h2 rfl F2 H2 (s.trans s2) s2.sub
/-- for x in ..: I tells the slots behind i turns -/
theorem t_for {j : Nat} {ds : List PyData} (s : Step pt F0 H0 F H) (hw : WiG K pt wi σ F (· = ds)) (I : Nat → L2.St → Hp → Prop) (h0 : ∀ F2, Ex F F2 → I 0 σ F2)
    (hs : ∀ i d, ds[i]? = some d → ∀ σ' F' H' x, I i σ' F' → Step pt F0 H0 F' H' → Ex F F' → Rp K F' x d →
      ∀ N : L2.St → Hp → Prop, (∀ σ2 F2 H2, I (i + 1) σ2 F2 → Step pt F0 H0 F2 H2 → Ex F' F2 → N σ2 H2) → tu { D with nx := N, ct := N, bk := tz D } (σ'.set j (some x)) H')
    (hd : ∀ σ' F' H', I ds.length σ' F' → Step pt F0 H0 F' H' → Ex F F' → tz D σ' H') : tSeq (tFor wi (gName j) tu) tz D σ H :=
  hw H s.inn s.good _ fun ds' J F1 H1 e s1 Y => by
    subst e
    refine ⟨fun i m σ' H' => m = ds'.length - i ∧ i ≤ ds'.length ∧ ∃ F', Step pt F0 H0 F' H' ∧ Ex F1 F' ∧ I i σ' F', ⟨ds'.length, by simp, Nat.zero_le _, F1, s.trans s1, Ex.refl _, h0 F1 s1.sub⟩, ?_⟩
    rintro i m σ' H' ⟨rfl, hi, F', s', e', p⟩
    have eH : Ex F1 H' := e'.trans s'.inn
    by_cases hlt : i < ds'.length
    · refine .inr ⟨Y.go i H' eH hlt, fun σ2 H2 => ∃ F2, Step pt F0 H0 F2 H2 ∧ Ex F1 F2 ∧ I (i + 1) σ2 F2, fun σ2 H2 ⟨F2, a, b, c⟩ => ⟨ds'.length - (i + 1), by omega, rfl, hlt, F2, a, b, c⟩, fun x H2 y => ?_⟩
      obtain ⟨rfl, d, hdd, hx⟩ := Y.yld i H' x H2 eH hlt y
      exact hs i d hdd σ' F' _ x p s' (s1.sub.trans e') (Rp.mono e' _ _ hx) _ fun σ2 F2 H2 a b c => ⟨F2, b, e'.trans c, a⟩
    · have hE : i = ds'.length := Nat.le_antisymm hi (Nat.le_of_not_lt hlt)
      subst hE
      exact .inl ⟨Y.stop H' eH, hd σ' F' H' p s' (s1.sub.trans e')⟩
end
end Fv
namespace Fv
open PySem L2 Evl
/-! ### == of data -/
/-- a tuple of whole numbers, a list and a tuple of such -/
abbrev dT (ns : List Int) : PyData := .tuple (ns.map PyData.int)
abbrev dLT (ls : List (List Int)) : PyData := .list (ls.map dT)
abbrev dTT (ls : List (List Int)) : PyData := .tuple (ls.map dT)
theorem eqvAll_ints : ∀ ns ms : List Int, PyData.eqvAll (ns.map .int) (ms.map .int) = decide (ns = ms)
  | [], [] => by simp [PyData.eqvAll]
  | [], m :: ms => by simp [PyData.eqvAll]
  | n :: ns, [] => by simp [PyData.eqvAll]
  | n :: ns, m :: ms => by
    simp only [List.map_cons, PyData.eqvAll, PyData.eqv, eqvAll_ints ns ms]
    by_cases h : n = m <;> by_cases k : ns = ms <;> simp [h, k]
theorem eqv_dT (ns ms : List Int) : PyData.eqv (dT ns) (dT ms) = decide (ns = ms) := by
  simp only [PyData.eqv]; exact eqvAll_ints ns ms
theorem any_dT (ls : List (List Int)) (m : List Int) : (ls.map dT).any (fun z => PyData.eqv z (dT m)) = decide (m ∈ ls) := by
  rw [List.any_map]
  induction ls with
  | nil => simp
  | cons l ls ih =>
    rw [List.any_cons, ih]
    simp only [Function.comp, eqv_dT]
    by_cases h : l = m
    · subst h; simp
    · by_cases k : m ∈ ls <;> simp [h, k, Ne.symm h]
theorem shaped_of {d : PyData} (h1 : d.canLay0 = true) (h2 : d.depth ≤ 64) : SeqAt.shaped d = true := by unfold SeqAt.shaped; simp [h1, h2]
theorem canLayAll_ints : ∀ ns : List Int, PyData.canLayAll0 (ns.map .int) = true
  | [] => by simp [PyData.canLayAll0]
  | n :: ns => by simp [PyData.canLayAll0, PyData.canLay0, canLayAll_ints ns]
theorem depthAll_ints : ∀ ns : List Int, PyData.depthAll (ns.map .int) ≤ 1
  | [] => by simp [PyData.depthAll]
  | n :: ns => by
    have := depthAll_ints ns
    simp only [List.map_cons, PyData.depthAll, PyData.depth]
    omega
theorem canLay_dT (ns : List Int) : (dT ns).canLay0 = true := by simp [dT, PyData.canLay0, canLayAll_ints]
theorem depth_dT (ns : List Int) : (dT ns).depth ≤ 2 := by
  have := depthAll_ints ns
  simp only [dT, PyData.depth]; omega
theorem shaped_dT (ns : List Int) : SeqAt.shaped (dT ns) = true := shaped_of (canLay_dT ns) (by have := depth_dT ns; omega)
theorem canLayAll_dT : ∀ ls : List (List Int), PyData.canLayAll0 (ls.map dT) = true
  | [] => by simp [PyData.canLayAll0]
  | n :: ns => by simp only [List.map_cons, PyData.canLayAll0, canLay_dT, canLayAll_dT ns]; rfl
theorem depthAll_dT : ∀ ls : List (List Int), PyData.depthAll (ls.map dT) ≤ 2
  | [] => by simp [PyData.depthAll]
  | n :: ns => by
    have := depthAll_dT ns
    have := depth_dT n
    simp only [List.map_cons, PyData.depthAll]
    omega
theorem shaped_dLT (ls : List (List Int)) : SeqAt.shaped (dLT ls) = true := shaped_of (by simp only [dLT, PyData.canLay0]; exact canLayAll_dT ls) (by have := depthAll_dT ls; simp only [dLT, PyData.depth]; omega)
section
variable {K : PySem.W.Frag} {pt : Option Pt} {σ : L2.St} {F F' H : Hp} {te ta tb : TE} {ts tr : TA} {t u : TT} {R R1 S2 R3 : PD} {d e z : PyData} {r : L2.R2} {wi wi1 : TI}
/-! ### operations -/
theorem rv_add {i j : Int} : RvG K (rI0 fun i j => .int (i + j)) (.int i) (.int j) (Is (.int (i + j))) := rv_I0 (f := fun i j => .int (i + j)) fun F => .int _
theorem rv_sub {i j : Int} : RvG K (rI0 fun i j => .int (i - j)) (.int i) (.int j) (Is (.int (i - j))) := rv_I0 (f := fun i j => .int (i - j)) fun F => .int _
theorem rv_bl {g : Int → Int → Bool} {i j : Int} : RvG K (rI0 fun i j => .bl (g i j)) (.int i) (.int j) (Is (.bool (g i j))) := rv_I0 (f := fun i j => .bool (g i j)) fun F => .bl _
def isNone : PyData → Bool
  | .none => true
  | _ => false
theorem rp_isN {v : V} (r : Rp K F v d) : decide (v = .non) = isNone d := by
  cases r <;> simp [isNone]
theorem rv_isN {d : PyData} : RvG K (fun x y H Q => y = .non ∧ Q (.bl (decide (x = .non))) H) d .none (Is (.bool (isNone d))) := rv_val fun F H x y _ hx hy => ⟨_, fun Q q => ⟨rp_none hy, q⟩, by rw [rp_isN hx]; exact .bl _⟩
theorem rv_notN {d : PyData} : RvG K (fun x y H Q => y = .non ∧ Q (.bl (!decide (x = .non))) H) d .none (Is (.bool (!isNone d))) := rv_val fun F H x y _ hx hy => ⟨_, fun Q q => ⟨rp_none hy, q⟩, by rw [rp_isN hx]; exact .bl _⟩
theorem inV_ints (i : Int) (ns : List Int) : inV (.int i) (ns.map V.int) = decide (i ∈ ns) := by
  unfold inV
  rw [List.any_map]
  induction ns with
  | nil => simp
  | cons n ns ih =>
    rw [List.any_cons, ih]
    by_cases h : n = i
    · subst h; simp [eqV]
    · by_cases k : i ∈ ns <;> simp [eqV, h, k, Ne.symm h]
theorem flat_ints (ns : List Int) : (ns.map V.int).all flatV = true := by induction ns <;> simp_all [flatV]
theorem rv_inT {i : Int} {ns : List Int} : RvG K (rIn K false) (.int i) (dT ns) (Is (.bool (decide (i ∈ ns)))) := rv_val fun F H x y e hx hy => by
  obtain ⟨a, xs, rfl, hl, ha⟩ := rp_tup hy
  have e1 := rpAll_ints ha
  subst e1
  rw [rp_int hx]
  exact ⟨_, fun Q q => ⟨a, _, rfl, .inr (tx e hl), rfl, flat_ints ns, q⟩, by rw [inV_ints]; exact .bl _⟩
theorem rv_ninT {i : Int} {ns : List Int} : RvG K (rIn K true) (.int i) (dT ns) (Is (.bool (!decide (i ∈ ns)))) := rv_val fun F H x y e hx hy => by
  obtain ⟨a, xs, rfl, hl, ha⟩ := rp_tup hy
  have e1 := rpAll_ints ha
  subst e1
  rw [rp_int hx]
  exact ⟨_, fun Q q => ⟨a, _, rfl, .inr (tx e hl), rfl, flat_ints ns, q⟩, by rw [inV_ints]; exact .bl _⟩
theorem rv_inD {m : List Int} {ls : List (List Int)} : RvG K (rInD K) (dT m) (dLT ls) (Is (.bool (decide (m ∈ ls)))) := rv_val fun F H x y e hx hy =>
  ⟨_, fun Q q => ⟨dT m, ls.map dT, Rp.dp _ _ (Rp.mono e _ _ hx), Rp.dp _ _ (Rp.mono e _ _ hy), shaped_dT m, shaped_dLT ls, q⟩, by rw [any_dT]; exact .bl _⟩
theorem rv_ninD {m : List Int} {ls : List (List Int)} : RvG K (rNotInD K) (dT m) (dLT ls) (Is (.bool (!decide (m ∈ ls)))) := rv_val fun F H x y e hx hy =>
  ⟨_, fun Q q => ⟨dT m, ls.map dT, Rp.dp _ _ (Rp.mono e _ _ hx), Rp.dp _ _ (Rp.mono e _ _ hy), shaped_dT m, shaped_dLT ls, q⟩, by rw [any_dT]; exact .bl _⟩
theorem rv_neT {m n : List Int} : RvG K (rNeD K) (dT m) (dT n) (Is (.bool (!decide (m = n)))) := fun F H x y i hx hy Q q => rv_neD (shaped_dT m) (shaped_dT n) F H x y i hx hy Q fun z v F2 H2 hz => q z v F2 H2 (by rw [show z = _ from hz, eqv_dT])
theorem atI_rp {ds : List PyData} {xs : List V} {i : Int} (h : RpAll K F xs ds) (e : atI ds i = some d) : ∃ v, atI xs i = some v ∧ Rp K F v d := by
  unfold atI at e ⊢
  rw [h.length]
  cases q : ixN ds.length i with
  | none => rw [q] at e; cases e
  | some j =>
    rw [q] at e
    exact h.getD e
theorem rv_ixT {ds : List PyData} {i : Int} (h : atI ds i = some d) : RvG K (rIxT K) (.tuple ds) (.int i) (Is d) := rv_val fun F H x y e hx hy => by
  obtain ⟨a, xs, rfl, hl, ha⟩ := rp_tup hx
  obtain ⟨v, e1, r1⟩ := atI_rp ha h
  exact ⟨v, fun Q q => ⟨a, xs, i, v, rfl, rp_int hy, tx e hl, e1, q⟩, r1⟩
theorem rv_ixL {ds : List PyData} {i : Int} (h : atI ds i = some d) : RvG K (rIxL K) (.list ds) (.int i) (Is d) := rv_val fun F H x y e hx hy => by
  obtain ⟨a, xs, rfl, hl, ha⟩ := rp_lst hx
  obtain ⟨v, e1, r1⟩ := atI_rp ha h
  exact ⟨v, fun Q q => ⟨a, xs, i, v, rfl, rp_int hy, sq_of (e _ _ hl), e1, q⟩, r1⟩
theorem rv_cat {ds es : List PyData} (hz : ds.length + es.length ≤ 100000) : RvG K rCat (.list ds) (.list es) (Is (.list (ds ++ es))) := fun F H x y e hx hy Q q => by
  obtain ⟨a, xs, rfl, hl, ha⟩ := rp_lst hx
  obtain ⟨b, ys, rfl, hm, hb⟩ := rp_lst hy
  refine ⟨a, b, xs, ys, rfl, rfl, e _ _ hl, e _ _ hm, by rw [ha.length, hb.length]; exact sz_of hz, fun p hp => ?_⟩
  have s : Step none F H (upd F p (.lst (xs ++ ys))) (upd H p (.lst (xs ++ ys))) := .laid e .nil hp
  exact q _ _ _ _ rfl s (.lst upd_same (RpAll.mono s.sub _ _ (ha.append hb)))
/-! ### calls of built-ins -/
theorem rc_all {bs : List Bool} : RcG K (rAll K) [.list (bs.map .bool)] (Is (.bool (bs.all id))) := rc_val fun F H vs e h => by
  cases h with
  | cons h1 h2 =>
    cases h2
    obtain ⟨a, xs, rfl, hl, ha⟩ := rp_lst h1
    have e1 := rpAll_bools ha
    subst e1
    exact ⟨_, fun Q q => ⟨a, bs, rfl, sq_of (e _ _ hl), q⟩, .bl _⟩
theorem rc_any {bs : List Bool} : RcG K (rAny K) [.list (bs.map .bool)] (Is (.bool (bs.any id))) := rc_val fun F H vs e h => by
  cases h with
  | cons h1 h2 =>
    cases h2
    obtain ⟨a, xs, rfl, hl, ha⟩ := rp_lst h1
    have e1 := rpAll_bools ha
    subst e1
    exact ⟨_, fun Q q => ⟨a, bs, rfl, sq_of (e _ _ hl), q⟩, .bl _⟩
theorem rc_tupL {ds : List PyData} : RcG K (fun xs H Q => ∃ p ys, xs = [.ref p] ∧ ((SqL K H p ys ∧ ∀ l, H l = none → Q (.ref l) (upd H l (.tup ys))) ∨ (SqT K H p ys ∧ Q (.ref p) H))) [.list ds] (Is (.tuple ds)) := fun F H vs e h Q q => by
  cases h with
  | cons h1 h2 =>
    cases h2
    obtain ⟨a, xs, rfl, hl, ha⟩ := rp_lst h1
    refine ⟨a, xs, rfl, .inl ⟨sq_of (e _ _ hl), fun p hp => ?_⟩⟩
    have s : Step none F H (upd F p (.tup xs)) (upd H p (.tup xs)) := .laid e .nil hp
    exact q _ _ _ _ rfl s (.tup upd_same (RpAll.mono s.sub _ _ ha))
theorem rc_tupT {ds : List PyData} : RcG K (fun xs H Q => ∃ p ys, xs = [.ref p] ∧ ((SqL K H p ys ∧ ∀ l, H l = none → Q (.ref l) (upd H l (.tup ys))) ∨ (SqT K H p ys ∧ Q (.ref p) H))) [.tuple ds] (Is (.tuple ds)) := rc_val fun F H vs e h => by
  cases h with
  | cons h1 h2 =>
    cases h2
    obtain ⟨a, xs, rfl, hl, ha⟩ := rp_tup h1
    exact ⟨_, fun Q q => ⟨a, xs, rfl, .inr ⟨tx e hl, q⟩⟩, .tup hl ha⟩
theorem rc_lenL {ds : List PyData} : RcG K (fun xs H Q => ∃ p ys, xs = [.ref p] ∧ (SqL K H p ys ∨ SqT K H p ys) ∧ Q (.int ys.length) H) [.list ds] (Is (.int ds.length)) := rc_val fun F H vs e h => by
  cases h with
  | cons h1 h2 =>
    cases h2
    obtain ⟨a, xs, rfl, hl, ha⟩ := rp_lst h1
    exact ⟨_, fun Q q => ⟨a, xs, rfl, .inl (sq_of (e _ _ hl)), q⟩, by rw [← ha.length]; exact .int _⟩
theorem rc_lenT {ds : List PyData} : RcG K (fun xs H Q => ∃ p ys, xs = [.ref p] ∧ (SqL K H p ys ∨ SqT K H p ys) ∧ Q (.int ys.length) H) [.tuple ds] (Is (.int ds.length)) := rc_val fun F H vs e h => by
  cases h with
  | cons h1 h2 =>
    cases h2
    obtain ⟨a, xs, rfl, hl, ha⟩ := rp_tup h1
    exact ⟨_, fun Q q => ⟨a, xs, rfl, .inr (tx e hl), q⟩, by rw [← ha.length]; exact .int _⟩
/-- the built-in class of data -/
def tyD : PyData → String
  | .none => "NoneType" | .bool _ => "bool" | .int _ => "int" | .str _ => "str" | .list _ => "list" | .tuple _ => "tuple" | .dict _ => "dict"
theorem rp_ty {v : V} (r : Rp K F v d) : TyX K F v (.type (tyD d)) := by
  cases r with
  | non => exact .base .non
  | bl b => exact .base (.bl b)
  | int i => exact .base (.int i)
  | str x => exact .base (.str x)
  | lst h _ => exact .base (.lst h)
  | tup h _ =>
    exact .base (.tup h)
/-- isinstance(x, T), T a built-in class -/
theorem g_isi {T : String} {b : Bool} (h : EvG K pt te σ F (Is d)) (hk : kitB (tyD d) T = some b) : EvG K pt (tCB (rIsi K) (tCons te (tCons (tC (.ty T)) tNil))) σ F (Is (.bool b)) := fun H1 i g Q q =>
  h H1 i g _ fun d' v F2 H2 hd s hv => by
    subst hd
    exact ⟨v, .ty T, _, _, b, rfl, .ty T, rp_ty (Rp.mono s.inn _ _ hv), kit_ty hk, q _ _ F2 H2 rfl s (.bl b)⟩
/-- isinstance(x, (S, T)) -/
theorem g_isi2 {S T : String} {b c : Bool} (h : EvG K pt te σ F (Is d)) (hk : kitB (tyD d) S = some b) (hk2 : kitB (tyD d) T = some c) : EvG K pt (tCB (rIsiT K) (tCons te (tCons (tTup (tCons (tC (.ty S)) (tCons (tC (.ty T)) tNil))) tNil))) σ F (Is (.bool (b || c))) := fun H1 i g Q q =>
  h H1 i g _ fun d' v F2 H2 hd s hv => by
    subst hd
    refine ⟨sz_of (by show 2 ≤ 100000; decide), fun p hp => ?_⟩
    have s3 : Step pt F2 H2 (upd F2 p (.tup [.ty S, .ty T])) (upd H2 p (.tup [.ty S, .ty T])) := .laid s.inn s.good hp
    refine ⟨v, p, _, _, [.type S, .type T], b || c, rfl, upd_same, .cons (.ty S) (.cons (.ty T) .nil), rp_ty (Rp.mono (s3.sub.trans s3.inn) _ _ hv), ?_, q _ _ _ _ rfl (s.trans s3) (.bl _)⟩
    refine kitAny_cons (kit_ty hk) (fun hb => ?_) (fun hb => by rw [hb]; rfl)
    subst hb
    refine kitAny_cons (kit_ty hk2) (fun hc => ?_) (fun hc => by rw [hc]; rfl)
    subst hc
    exact kitAny_nil
/-- the truth of a list, a tuple -/
theorem et_truL {ds : List PyData} (h : EvG K pt te σ F (Is (.list ds))) : EtG pt (fun σ H Q => te σ H fun x H' => ∃ k, TruV K x H' k ∧ Q k H') σ F (· = !ds.isEmpty) := fun H1 i g Q q =>
  h H1 i g _ fun d' v F2 H2 hd s hv => by
    subst hd
    obtain ⟨a, xs, rfl, hl, ha⟩ := rp_lst hv
    have e : xs.isEmpty = ds.isEmpty := by have := ha.length; cases xs <;> cases ds <;> simp_all
    exact ⟨!ds.isEmpty, .inl ⟨xs, sq_of (s.inn _ _ hl), by rw [e]⟩, q _ F2 H2 rfl s⟩
theorem et_truT {ds : List PyData} (h : EvG K pt te σ F (Is (.tuple ds))) : EtG pt (fun σ H Q => te σ H fun x H' => ∃ k, TruV K x H' k ∧ Q k H') σ F (· = !ds.isEmpty) := fun H1 i g Q q =>
  h H1 i g _ fun d' v F2 H2 hd s hv => by
    subst hd
    obtain ⟨a, xs, rfl, hl, ha⟩ := rp_tup hv
    have e : xs.isEmpty = ds.isEmpty := by have := ha.length; cases xs <;> cases ds <;> simp_all
    exact ⟨!ds.isEmpty, .inr (.inl ⟨xs, tx s.inn hl, by rw [e]⟩), q _ F2 H2 rfl s⟩
theorem et_truI {n : Int} (h : EvG K pt te σ F (Is (.int n))) : EtG pt (fun σ H Q => te σ H fun x H' => ∃ k, TruV K x H' k ∧ Q k H') σ F (· = (n != 0)) := fun H1 i g Q q =>
  h H1 i g _ fun d' v F2 H2 hd s hv => by
    subst hd
    rw [rp_int hv]
    exact ⟨n != 0, rfl, q _ F2 H2 rfl s⟩
end
end Fv
/-! the rules with K told, so that they stand within comprehensions -/
namespace Fv
open PySem PySem.Spec PyProof.Rows L2 Evl StX
section
variable {X : Cx} {K : PySem.W.Frag} {tg : Expr}
abbrev rLen (K : PySem.W.Frag) : List V → Hp → VK → Prop := fun xs H Q => ∃ p ys, xs = [.ref p] ∧ (SqL K H p ys ∨ SqT K H p ys) ∧ Q (.int ys.length) H
abbrev rTup (K : PySem.W.Frag) : List V → Hp → VK → Prop := fun xs H Q => ∃ p ys, xs = [.ref p] ∧ ((SqL K H p ys ∧ ∀ l, H l = none → Q (.ref l) (upd H l (.tup ys))) ∨ (SqT K H p ys ∧ Q (.ref p) H))
abbrev rList (K : PySem.W.Frag) : List V → Hp → VK → Prop := fun xs H Q => ∃ p ys, xs = [.ref p] ∧ (SqL K H p ys ∨ SqT K H p ys) ∧ ∀ l, H l = none → Q (.ref l) (upd H l (.lst ys))
theorem o_in (h : X.K = K := by rfl) : OpR X (compareOp .In) (rIn K false) := h ▸ op_in_seq
theorem o_notIn (h : X.K = K := by rfl) : OpR X (compareOp .NotIn) (rIn K true) := h ▸ op_notIn_seq
theorem o_inD (hu : X.A.units + 65 < cLine) (h : X.K = K := by rfl) : OpR X (compareOp .In) (rInD K) := h ▸ op_inD hu
theorem o_notInD (hu : X.A.units + 65 < cLine) (h : X.K = K := by rfl) : OpR X (compareOp .NotIn) (rNotInD K) := h ▸ op_notInD hu
theorem o_eqD (hu : X.A.units + 64 < cLine) (h : X.K = K := by rfl) : OpR X (compareOp .Eq) (rEqD K) := h ▸ op_eqD hu
theorem o_neD (hu : X.A.units + 64 < cLine) (h : X.K = K := by rfl) : OpR X (compareOp .NotEq) (rNeD K) := h ▸ op_neD hu
theorem o_ixT (h : X.K = K := by rfl) : IxR X (rIxT K) := h ▸ ix_tup
theorem o_ixL (h : X.K = K := by rfl) : IxR X (rIxL K) := h ▸ ix_list
theorem c_all (hc : X.calm = true := by rfl) (h : X.K = K := by rfl) : CallR X (.builtin "all") (rAll K) := h ▸ cr_all hc
theorem c_any (hc : X.calm = true := by rfl) (h : X.K = K := by rfl) : CallR X (.builtin "any") (rAny K) := h ▸ cr_any hc
theorem c_len (h : X.K = K := by rfl) : CallR X (.builtin "len") (rLen K) := h ▸ call_len_seq
theorem c_tup (h : X.K = K := by rfl) : CallR X (.type "tuple") (rTup K) := h ▸ call_tuple_of
theorem c_list (h : X.K = K := by rfl) : CallR X (.type "list") (rList K) := h ▸ call_list_of
theorem c_isi (h : X.K = K := by rfl) : CallR X (.builtin "isinstance") (rIsi K) := h ▸ call_isi
theorem c_isiT (h : X.K = K := by rfl) : CallR X (.builtin "isinstance") (rIsiT K) := h ▸ call_isiT
theorem s_list (h : X.K = K := by rfl) : SlR X (rSlL K) := h ▸ sl_list
theorem s_tup (h : X.K = K := by rfl) : SlR X (rSlA K) := h ▸ sl_tupA
theorem i_list {l : Expr} {tl : TE} (hl : PE X l tl) (h : X.K = K := by rfl) : PI X tg l (iList K tl) := h ▸ pi_list hl
theorem i_tup {l : Expr} {tl : TE} (hl : PE X l tl) (h : X.K = K := by rfl) : PI X tg l (iTup K tl) := h ▸ pi_tup hl
theorem e_fld {e : Expr} {ta : TE} {f : Str} {pos : Pos} (he : PE X e ta) (hb : attributeBase e f X.env (eval e X.env) = eval e X.env) (h : X.K = K := by rfl) : PE X (.Attribute e f pos) (tFld K ta f) := h ▸ pe_fld he hb
theorem e_truth {a : Expr} {ta : TE} (ha : PE X a ta) (he : ∀ whole, isTrue a X.env whole = (do let v ← whole; standAt a.pos; holding [v] (truthy v)) := by intro _; rfl) (h : X.K = K := by rfl) :
    PT X a (fun σ H Q => ta σ H fun x H' => ∃ k, TruV K x H' k ∧ Q k H') := h ▸ pt_truth ha he
theorem a_star {e : Expr} {te : TE} {es : List Expr} {t : TA} {p : Pos} (he : PE X e te) (hr : PA X es t) (hs : starEach (.Starred e p :: es) X.env = (true, eval e X.env) :: starEach es X.env := by rfl) (h : X.K = K := by rfl) : PA X (.Starred e p :: es) (tStar K te t) := h ▸ pa_star he hr hs
end
section
variable {K : PySem.W.Frag} {pt : Option Pt} {σ : L2.St} {F F' H : Hp} {te ta tb : TE} {ts tr : TA} {t u : TT} {R R1 S2 R3 : PD} {d e z : PyData} {r : L2.R2}
theorem rc_list {ds : List PyData} {src : PyData} (hs : src = .list ds ∨ src = .tuple ds) : RcG K (rList K) [src] (Is (.list ds)) := fun F H vs e h Q q => by
  cases h with
  | cons h1 h2 =>
    cases h2
    have go : ∀ a xs, (SqL K H a xs ∨ SqT K H a xs) → RpAll K F xs ds → rList K [.ref a] H Q := fun a xs hl ha => ⟨a, xs, rfl, hl, fun p hp => by
      have s : Step none F H (upd F p (.lst xs)) (upd H p (.lst xs)) := .laid e .nil hp
      exact q _ _ _ _ rfl s (.lst upd_same (RpAll.mono s.sub _ _ ha))⟩
    rcases hs with rfl | rfl
    · obtain ⟨a, xs, rfl, hl, ha⟩ := rp_lst h1
      exact go a xs (.inl (sq_of (e _ _ hl))) ha
    · obtain ⟨a, xs, rfl, hl, ha⟩ := rp_tup h1
      exact go a xs (.inr (tx e hl)) ha
/-- *xs in a display -/
theorem gs_star {ds es : List PyData} {src : PyData} (hs : src = .list ds ∨ src = .tuple ds) (h : EvG K pt te σ F (Is src)) (hr : EvsG K pt tr σ F (· = es)) : EvsG K pt (tStar K te tr) σ F (· = ds ++ es) := fun H1 i g Q q =>
  h H1 i g _ fun d v F2 H2 hd s hv => by
    subst hd
    have go : ∀ a xs, v = .ref a → (F2 a = some (.tup xs) ∨ F2 a = some (.lst xs)) → RpAll K F2 xs ds → ∃ p xs, v = V.ref p ∧ (SqT K H2 p xs ∨ SqL K H2 p xs) ∧ tr σ H2 fun ys H3 => Q (xs ++ ys) H3 := fun a xs ev hl ha => by
      refine ⟨a, xs, ev, ?_, hr.mono s.sub H2 s.inn s.good _ fun es' ys F3 H3 he s3 hy => ?_⟩
      · rcases hl with hl | hl
        · exact .inl (tx s.inn hl)
        · exact .inr (sq_of (s.inn _ _ hl))
      · subst he
        exact q _ _ F3 H3 rfl (s.trans s3) (RpAll.append (RpAll.mono s3.sub _ _ ha) hy)
    rcases hs with rfl | rfl
    · obtain ⟨a, xs, rfl, hl, ha⟩ := rp_lst hv
      exact go a xs rfl (.inr hl) ha
    · obtain ⟨a, xs, rfl, hl, ha⟩ := rp_tup hv
      exact go a xs rfl (.inl hl) ha
end
end Fv
namespace Fv
open PySem PySem.Spec PyProof.Rows L2 Evl StX
/-! ### set(t), sorted of it -/
theorem c_sortedSet {X : Cx} {w : World} (hc : X.calm = true := by rfl) (hw : X.w = w := by rfl) : CallR X (.builtin "sorted") (rSortedSet w) := hw ▸ cr_sortedSet hc
/-- an object that is laid beside -/
theorem Step.litter {pt : Option Pt} {F H : Hp} {p : Addr} {o : HO} (e : Ex F H) (g : Good pt F H) (hp : H p = none) : Step pt F H F (upd H p o) :=
  ⟨Ex.refl F, e.trans (Ex.new hp), Keep.of (Ex.new hp), fun q hq => ⟨(g q hq).1, (g q hq).2.mono (Ex.new hp)⟩, New.refl F H⟩
section
variable {K : PySem.W.Frag} {w : World} {pt : Option Pt} {σ : L2.St} {F F' H : Hp} {te ta tb : TE} {ts tr : TA} {t u : TT} {R R1 S2 R3 : PD} {d e z : PyData} {r : L2.R2}
/-- the one ascending row of the members of ns below n -/
def lotOf (n : Nat) (ns : List Int) : List Int := ((List.range n).map Int.ofNat).filter fun k => decide (k ∈ ns)
theorem pw_range (n : Nat) : ((List.range n).map Int.ofNat).Pairwise (· < ·) := by
  rw [List.pairwise_map]
  exact (List.pairwise_lt_range (n := n)).imp fun h => by simp only [Int.ofNat_eq_natCast]; omega
theorem asc_unique : ∀ {a b : List Int}, a.Pairwise (· < ·) → b.Pairwise (· < ·) → (∀ k, k ∈ a ↔ k ∈ b) → a = b
  | [], [], _, _, _ => rfl
  | [], y :: b, _, _, h => absurd ((h y).mpr (by simp)) (by simp)
  | x :: a, [], _, _, h => absurd ((h x).mp (by simp)) (by simp)
  | x :: a, y :: b, ha, hb, h => by
    have ha' := List.pairwise_cons.mp ha
    have hb' := List.pairwise_cons.mp hb
    have exy : x = y := by
      have h1 : x ∈ y :: b := (h x).mp (by simp)
      have h2 : y ∈ x :: a := (h y).mpr (by simp)
      rcases List.mem_cons.mp h1 with e | m
      · exact e
      · rcases List.mem_cons.mp h2 with e | m'
        · exact e.symm
        · have := hb'.1 x m
          have := ha'.1 y m'
          omega
    subst exy
    refine congrArg (x :: ·) (asc_unique ha'.2 hb'.2 fun k => ⟨fun m => ?_, fun m => ?_⟩)
    · have h1 : k ∈ x :: b := (h k).mp (List.mem_cons_of_mem _ m)
      rcases List.mem_cons.mp h1 with e | m'
      · have := ha'.1 k m; omega
      · exact m'
    · have h1 : k ∈ x :: a := (h k).mpr (List.mem_cons_of_mem _ m)
      rcases List.mem_cons.mp h1 with e | m'
      · have := hb'.1 k m; omega
      · exact m'
theorem lotOf_asc (n : Nat) (ns : List Int) : (lotOf n ns).Pairwise (· < ·) := (pw_range n).filter _
theorem mem_lotOf {n : Nat} {ns : List Int} {k : Int} : k ∈ lotOf n ns ↔ (0 ≤ k ∧ k < n) ∧ k ∈ ns := by
  unfold lotOf
  rw [List.mem_filter, List.mem_map, decide_eq_true_eq]
  constructor
  · rintro ⟨⟨j, hj, rfl⟩, h⟩
    rw [List.mem_range] at hj
    exact ⟨⟨by simp only [Int.ofNat_eq_natCast]; omega, by simp only [Int.ofNat_eq_natCast]; omega⟩, h⟩
  · rintro ⟨⟨h1, h2⟩, h⟩
    exact ⟨⟨k.toNat, by rw [List.mem_range]; omega, by simp only [Int.ofNat_eq_natCast]; omega⟩, h⟩
theorem sorted_is {n : Nat} {ns ms : List Int} (hp : ms.Pairwise (· < ·)) (hm : ∀ k, k ∈ ms ↔ k ∈ ns) (hb : ∀ k ∈ ns, 0 ≤ k ∧ k < n) : ms = lotOf n ns :=
  asc_unique hp (lotOf_asc n ns) fun k => by rw [mem_lotOf, hm]; exact ⟨fun h => ⟨hb k h, h⟩, fun h => h.2⟩
/-! ### max(t, default=d) -/
/-- the greatest of ns, d if there is none -/
def maxOf (d : Int) : List Int → Int
  | [] => d
  | n :: r => r.foldl max n
def rMaxD (K : PySem.W.Frag) : List V → List V → Hp → VK → Prop := fun xs zs H Q => ∃ (p : Addr) (ns : List Int) (d : Int), xs = [.ref p] ∧ zs = [.int d] ∧ SqT K H p (ns.map V.int) ∧
  Q (.int (maxOf d ns)) H
theorem intOf {v : Value} {h : Heap} {i : Int} {bs : List Addr} (r : Reads h v (.int i) bs) : ∃ t, v = Value.int i t := by
  cases r with
  | int i t => exact ⟨t, rfl⟩
theorem c_maxD {X : Cx} {K : PySem.W.Frag} (hu : X.A.units + 3 < cLine) (hc : X.calm = true := by rfl) (h : X.K = K := by rfl) : CallRK X (.builtin "max") [Str.ofString "default"] (rMaxD K) := by
  subst h
  intro pins s σ H xs zs us ws Q I r rz h
  obtain ⟨p, ns, d, rfl, rfl, hq, q⟩ := h
  rw [Vals.ref1 r]
  obtain ⟨tk, rfl⟩ : ∃ t, ws = [Value.int d t] := by
    cases rz with
    | cons r1 r2 => cases r2; obtain ⟨t, rfl⟩ := r1; exact ⟨t, rfl⟩
  obtain ⟨its, rv, ht, hz⟩ := I.tuple hq
  obtain ⟨as, hr⟩ := Dp.readsAll I (ns.map .int) _ its (RpAll.dp _ _ (rpAll_of_ints ns)) rv
  have kept : ∀ (v : V) (u : Value) (h' : Heap) (tk : Nat), RelV v u → (∀ b o, s.heap.get? b = some o → h'.get? b = some o) → Q v H → EP X pins σ Q u { s with heap := h', toks := tk } := fun v u h' tk rvu k hq => ⟨v, H, I.kept (t' := tk) k, rvu, hq⟩
  refine PySem.W.max_tuple_default (I.ok.hd hc) ht hr ⟨?_, ?_⟩ ?_ (fun hn h' tk k => ?_) (fun y ys i v h' tk bs e hv hrd k => ?_)
  · intro x hx y hy
    obtain ⟨a, _, rfl⟩ := List.mem_map.mp hx
    obtain ⟨b, _, rfl⟩ := List.mem_map.mp hy
    rfl
  · intro x hx
    obtain ⟨a, _, rfl⟩ := List.mem_map.mp hx
    intro z; cases z
  · have := depthAll_ints ns
    omega
  · have : ns = [] := List.map_eq_nil_iff.mp hn
    subst this
    exact kept (.int d) _ h' tk ⟨_, rfl⟩ k q
  · cases ns with
    | nil => cases e
    | cons n r =>
      simp only [List.map_cons, List.cons.injEq] at e
      obtain ⟨rfl, rfl⟩ := e
      rw [PySem.W.maxD_ints] at hrd
      obtain ⟨t, rfl⟩ := intOf hrd
      exact kept (.int _) _ h' tk ⟨_, rfl⟩ k q
theorem g_maxD {ns : List Int} {c : Int} (h : EvG K pt te σ F (Is (dT ns))) (hd : EvG K pt ta σ F (Is (.int c))) : EvG K pt (tCKw (rMaxD K) (tCons te tNil) (tCons ta tNil)) σ F (Is (.int (maxOf c ns))) := fun H1 i g Q q =>
  h H1 i g _ fun d v F2 H2 hd' s hv => hd.mono s.sub H2 s.inn s.good _ fun d2 v2 F3 H3 hd2 s3 hv2 => by
    subst hd'; subst hd2
    obtain ⟨a, xs, rfl, hl, ha⟩ := rp_tup hv
    have e1 := rpAll_ints ha
    subst e1
    refine ⟨a, ns, c, rfl, by rw [rp_int hv2], tx s3.inn (s3.sub _ _ hl), ?_⟩
    exact q _ _ F3 H3 rfl (s.trans s3) (.int _)
/-! ### () + t -/
end
end Fv
namespace Fv
open PySem PySem.Spec PyProof.Rows L2 Evl StX
theorem hu3 {k : Nat} {A : Around} (hr : Room k A) : A.units + 3 < cLine := Nat.lt_of_le_of_lt (Nat.add_le_add_left (by decide : 3 ≤ 64) _) hr.units
theorem hu65 {k : Nat} {A : Around} (hr : Room k A) : A.units + 65 < cLine := by have := hr.un; omega
theorem o_catA {X : Cx} {K : PySem.W.Frag} (h : X.K = K := by rfl) : OpR X (binaryOp .Add) (rCatA K) := h ▸ op_catA
section
variable {K : PySem.W.Frag} {w : World} {pt : Option Pt} {σ : L2.St} {F F' H : Hp} {te ta tb : TE} {ts tr : TA} {t u : TT} {R R1 S2 R3 : PD} {d e z : PyData} {r : L2.R2} {wi wi1 : TI}
theorem rv_catA {ds es : List PyData} (hz : ds.length + es.length ≤ 100000) : RvG K (rCatA K) (.tuple ds) (.tuple es) (Is (.tuple (ds ++ es))) := fun F H x y e hx hy Q q => by
  obtain ⟨a, xs, rfl, hl, ha⟩ := rp_tup hx
  obtain ⟨b, ys, rfl, hm, hb⟩ := rp_tup hy
  refine ⟨a, b, xs, ys, rfl, rfl, tx e hl, tx e hm, by rw [ha.length, hb.length]; exact sz_of hz, ?_, ?_, fun _ _ p hp => ?_⟩
  · rintro rfl
    cases ha
    exact q _ _ F H rfl (.refl e .nil) (.tup hm hb)
  · rintro _ rfl
    cases hb
    exact q _ _ F H rfl (.refl e .nil) (.tup hl (by rw [List.append_nil]; exact ha))
  · have s : Step none F H (upd F p (.tup (xs ++ ys))) (upd H p (.tup (xs ++ ys))) := .laid e .nil hp
    exact q _ _ _ _ rfl s (.tup upd_same (RpAll.mono s.sub _ _ (ha.append hb)))
theorem get_map {α : Type} {enc : α → PyData} {xs : List α} {i : Nat} {d : PyData} (h : (xs.map enc)[i]? = some d) : ∃ x, xs[i]? = some x ∧ d = enc x := by
  rw [List.getElem?_map] at h
  cases e : xs[i]? with
  | none => rw [e] at h; cases h
  | some x => rw [e] at h; exact ⟨x, rfl, (Option.some.inj h).symm⟩
theorem take_succA {α : Type} {ds : List α} {i : Nat} {d : α} (h : ds[i]? = some d) : ds.take (i + 1) = ds.take i ++ [d] := by
  rw [List.take_add_one, h]; rfl
theorem g_lcE {α : Type} {j : Nat} {vs : List Nat} (enc : α → PyData) (xs : List α) (p : α → Bool) (g : α → PyData) (hw : WiG K pt wi σ F (· = xs.map enc)) (hz : xs.length ≤ 50000) (hwp : ∀ x, wipe ((wipe σ vs).set j (some x)) vs = wipe σ vs)
    (ht : ∀ x ∈ xs, ∀ F', Ex F F' → ∀ v, Rp K F' v (enc x) → EtG pt t ((wipe σ vs).set j (some v)) F' (· = p x))
    (he : ∀ x ∈ xs, p x = true → ∀ F', Ex F F' → ∀ v, Rp K F' v (enc x) → EvG K pt te ((wipe σ vs).set j (some v)) F' (Is (g x))) :
    EvG K pt (tLc wi (gName j) t te vs) σ F (Is (.list ((xs.filter p).map g))) := by
  refine (g_lc (RS := (· = xs.map enc)) (fun _ i l => l = ((xs.take i).filter p).map g) hw (fun _ e => by rw [e, List.length_map]; exact hz) hwp (fun ds i l _ a => ?_) (fun _ _ => by simp) (fun ds' i d e hd => ?_)).imp fun x hx => ?_
  · rw [a, List.length_map]
    exact Nat.le_trans (List.length_filter_le _ _) (by rw [List.length_take]; exact Nat.min_le_left _ _)
  · subst e
    obtain ⟨x, hx, rfl⟩ := get_map hd
    have hm : x ∈ xs := List.mem_of_getElem? hx
    refine ⟨(· = p x), Is (g x), fun hp l y a ex => ?_, fun hp l a => ?_, fun F' e v hv => ⟨ht x hm F' e v hv, fun hp => he x hm hp.symm F' e v hv⟩⟩
    · rw [take_succA hx, List.filter_append, List.map_append, a, ex]
      simp [hp.symm]
    · rw [take_succA hx, List.filter_append, List.map_append, a]
      simp [hp.symm]
  · obtain ⟨ds', l, e1, e2, e3⟩ := hx
    subst e2
    rw [List.length_map, List.take_length] at e3
    show x = _
    rw [e1, e3]
theorem g_lcEM {α : Type} {j : Nat} {vs : List Nat} (enc : α → PyData) (xs : List α) (g : α → PyData) (hw : WiG K pt wi σ F (· = xs.map enc)) (hz : xs.length ≤ 50000) (hwp : ∀ x, wipe ((wipe σ vs).set j (some x)) vs = wipe σ vs)
    (he : ∀ x ∈ xs, ∀ F', Ex F F' → ∀ v, Rp K F' v (enc x) → EvG K pt te ((wipe σ vs).set j (some v)) F' (Is (g x))) :
    EvG K pt (tLc wi (gName j) tYes te vs) σ F (Is (.list (xs.map g))) :=
  (g_lcE enc xs (fun _ => true) g hw hz hwp (fun _ _ _ _ _ _ => et_yes) (fun d hd _ => he d hd)).is (congrArg (fun l => PyData.list (List.map g l)) (show xs.filter (fun _ => true) = xs from List.filter_eq_self.mpr (fun _ _ => rfl)))
/-- the items are drawn: each has P -/
theorem g_lcR {α β : Type} {j : Nat} {vs : List Nat} (enc : β → PyData) (P : β → Prop) {RS : List PyData → Prop} (hw : WiG K pt wi σ F RS) (hz : ∀ ds, RS ds → ds.length ≤ 50000) (hwp : ∀ x, wipe ((wipe σ vs).set j (some x)) vs = wipe σ vs)
    (he : ∀ F', Ex F F' → ∀ v, EvG K pt te ((wipe σ vs).set j (some v)) F' (fun x => ∃ y, x = enc y ∧ P y)) :
    EvG K pt (tLc wi (gName j) tYes te vs) σ F (fun x => ∃ (ds : List PyData) (ys : List β), RS ds ∧ x = .list (ys.map enc) ∧ ys.length = ds.length ∧ ∀ y ∈ ys, P y) := by
  refine (g_lc (RS := RS) (fun _ i l => ∃ ys : List β, l = ys.map enc ∧ ys.length = i ∧ ∀ y ∈ ys, P y) hw hz hwp (fun ds i l _ a => ?_) (fun _ _ => ⟨[], rfl, rfl, by simp⟩) (fun ds' i d e hd => ?_)).imp fun x hx => ?_
  · obtain ⟨ys, rfl, e, _⟩ := a
    rw [List.length_map, e]; exact Nat.le_refl _
  · refine ⟨(· = true), fun x => ∃ y, x = enc y ∧ P y, fun _ l x a ex => ?_, (fun hp => by cases hp), fun F' e v hv => ⟨et_yes, fun _ => he F' e v⟩⟩
    obtain ⟨ys, rfl, e, hP⟩ := a
    obtain ⟨y, rfl, py⟩ := ex
    refine ⟨ys ++ [y], by simp, by simp [e], fun z hz => ?_⟩
    rcases List.mem_append.mp hz with m | m
    · exact hP z m
    · rw [List.mem_singleton.mp m]; exact py
  · obtain ⟨ds', l, e1, e2, ys, rfl, e4, e5⟩ := hx
    exact ⟨ds', ys, e2, e1, e4, e5⟩
theorem yes_of {σ : L2.St} {H : Hp} {Q : Bool → Hp → Prop} (h : Q true H) : tYes σ H Q := h
theorem ite_t {p q : Prop} (h : p) : (if true = true then p else q) := by rw [if_pos rfl]; exact h
/-- [e for x in .. for y in .. if ..] -/
theorem g_lc2E {α β : Type} {j j1 : Nat} {vs vs1 : List Nat} (enc : α → PyData) (enc1 : β → PyData) (xs : List α) (ys : α → List β) (p : α → β → Bool) (g : α → β → PyData) (hw : WiG K pt wi σ F (· = xs.map enc)) (hz : xs.length ≤ 300) (hz1 : ∀ x ∈ xs, (ys x).length ≤ 300)
    (hwp : ∀ x, wipe ((wipe σ vs).set j (some x)) vs = wipe σ vs) (hwp1 : ∀ x y, wipe ((wipe ((wipe σ vs).set j (some x)) vs1).set j1 (some y)) vs1 = wipe ((wipe σ vs).set j (some x)) vs1)
    (hw1 : ∀ x ∈ xs, ∀ F', Ex F F' → ∀ v, Rp K F' v (enc x) → WiG K pt wi1 ((wipe σ vs).set j (some v)) F' (· = (ys x).map enc1))
    (ht : ∀ x ∈ xs, ∀ y ∈ ys x, ∀ F', Ex F F' → ∀ v u, Rp K F' v (enc x) → Rp K F' u (enc1 y) → EtG pt t ((wipe ((wipe σ vs).set j (some v)) vs1).set j1 (some u)) F' (· = p x y))
    (he : ∀ x ∈ xs, ∀ y ∈ ys x, p x y = true → ∀ F', Ex F F' → ∀ v u, Rp K F' v (enc x) → Rp K F' u (enc1 y) → EvG K pt te ((wipe ((wipe σ vs).set j (some v)) vs1).set j1 (some u)) F' (Is (g x y))) :
    EvG K pt (tLc2 wi (gName j) tYes wi1 (gName j1) t te vs vs1) σ F (Is (.list (xs.flatMap fun x => ((ys x).filter (p x)).map (g x)))) := fun H0 i0 g0 Q q =>
  hw H0 i0 g0 _ fun ds J F1 H1 hds s1 Y => fun Dl hD => by
    subst hds
    have gi := s1.inn
    have gg := s1.good
    let fl := fun l : List α => l.flatMap fun x => ((ys x).filter (p x)).map (g x)
    have hfl : ∀ i, i ≤ xs.length → (fl (xs.take i)).length ≤ i * 300 := by
      intro i
      induction i with
      | zero => intro _; simp [fl]
      | succ i ih =>
        intro hi
        have e := List.getElem?_eq_getElem (show i < xs.length by omega)
        rw [take_succA e]
        show ((xs.take i ++ [xs[i]]).flatMap _).length ≤ _
        rw [List.flatMap_append, List.length_append]
        have h1 := ih (by omega)
        have h2 := hz1 _ (List.mem_of_getElem? e)
        have h3 := List.length_filter_le (p xs[i]) (ys xs[i])
        simp only [List.flatMap_cons, List.flatMap_nil, List.append_nil, List.length_map]
        show (fl (xs.take i)).length + _ ≤ _
        omega
    refine ⟨fun i m H => m = xs.length - i ∧ i ≤ xs.length ∧ Grow K pt F1 H1 Dl (· = fl (xs.take i)) H, ⟨xs.length, by simp, Nat.zero_le _, .start gi gg hD (by simp [fl])⟩, ?_⟩
    rintro i m H ⟨rfl, hi, w⟩
    obtain ⟨F', l, acc, s, f, e, r, a⟩ := id w
    have eH : Ex F1 H := s.sub.trans s.inn
    by_cases hlt : i < xs.length
    · refine .inr ⟨Y.go i H eH (by rw [List.length_map]; exact hlt), Grow K pt F1 H1 Dl (· = fl (xs.take (i + 1))), fun H' p' => ⟨xs.length - (i + 1), by omega, rfl, hlt, p'⟩, fun v H' y => ?_⟩
      obtain ⟨rfl, d, hd, hx⟩ := Y.yld i H v H' eH (by rw [List.length_map]; exact hlt) y
      obtain ⟨x, hxx, rfl⟩ := get_map hd
      have hm : x ∈ xs := List.mem_of_getElem? hxx
      refine ⟨hwp v, ?_⟩
      refine yes_of (ite_t ?_)
      -- the inner walk
      refine hw1 x hm F' (s1.sub.trans s.sub) v (Rp.mono s.sub _ _ hx) H' s.inn s.good _ fun ds1 J1 F2 H2 hds1 s2 Y1 => ?_
      subst hds1
      obtain ⟨f2, e2⟩ := s2.beside gg hD f e
      let fi := fun k : Nat => fl (xs.take i) ++ (((ys x).take k).filter (p x)).map (g x)
      refine ⟨fun k m H => m = (ys x).length - k ∧ k ≤ (ys x).length ∧ ∃ F3 acc, Step pt F1 H1 F3 H ∧ Ex F2 F3 ∧ F3 Dl = none ∧ H Dl = some (.lst acc) ∧ RpAll K F3 acc (fi k), ⟨(ys x).length, by simp, Nat.zero_le _, F2, acc, s.trans s2, Ex.refl _, f2, e2, ?_⟩, ?_⟩
      · show RpAll K F2 acc (fl (xs.take i) ++ (((ys x).take 0).filter (p x)).map (g x))
        rw [List.take_zero, List.filter_nil, List.map_nil, List.append_nil, ← a]
        exact RpAll.mono s2.sub _ _ r
      rintro k m H3 ⟨rfl, hk, F3, acc3, s3, e23, f3, e3, r3⟩
      have eH3 : Ex F2 H3 := e23.trans s3.inn
      by_cases hkl : k < (ys x).length
      · refine .inr ⟨Y1.go k H3 eH3 (by rw [List.length_map]; exact hkl), fun H => ∃ F3 acc, Step pt F1 H1 F3 H ∧ Ex F2 F3 ∧ F3 Dl = none ∧ H Dl = some (.lst acc) ∧ RpAll K F3 acc (fi (k + 1)), fun H' p' => ⟨(ys x).length - (k + 1), by omega, rfl, hkl, p'⟩, fun u H' yy => ?_⟩
        obtain ⟨rfl, d1, hd1, hu⟩ := Y1.yld k H3 u H' eH3 (by rw [List.length_map]; exact hkl) yy
        obtain ⟨y, hyy, rfl⟩ := get_map hd1
        have hmy : y ∈ ys x := List.mem_of_getElem? hyy
        have hv3 : Rp K F3 v (enc x) := Rp.mono s3.sub _ _ hx
        have hu3 : Rp K F3 u (enc1 y) := Rp.mono e23 _ _ hu
        refine ⟨hwp1 v u, ?_⟩
        refine ht x hm y hmy F3 (s1.sub.trans s3.sub) v u hv3 hu3 H' s3.inn s3.good _ fun b F4 H4 hb s4 => ?_
        obtain ⟨f4, e4⟩ := s4.beside gg hD f3 e3
        subst hb
        cases hp : p x y with
        | true =>
          rw [if_pos rfl]
          refine he x hm y hmy hp F4 ((s1.sub.trans s3.sub).trans s4.sub) v u (Rp.mono s4.sub _ _ hv3) (Rp.mono s4.sub _ _ hu3) H4 s4.inn s4.good _ fun z zv F5 H5 hzz s5 hzv => ?_
          obtain ⟨f5, e5⟩ := s5.beside gg hD f4 e4
          subst hzz
          refine ⟨acc3, e5, sz_lt ?_, F5, acc3 ++ [zv], ((s3.trans s4).trans s5).put gg hD f5, (e23.trans s4.sub).trans s5.sub, f5, upd_same, ?_⟩
          · rw [r3.length]
            show (fl (xs.take i) ++ (((ys x).take k).filter (p x)).map (g x)).length < 100000
            rw [List.length_append, List.length_map]
            have h1 := hfl i hi
            have h2 := List.length_filter_le (p x) ((ys x).take k)
            have h3 := hz1 x hm
            rw [List.length_take] at h2
            have h4 : i * 300 ≤ 300 * 300 := Nat.mul_le_mul_right _ (by omega)
            omega
          · show RpAll K F5 _ (fl (xs.take i) ++ (((ys x).take (k + 1)).filter (p x)).map (g x))
            rw [take_succA hyy, List.filter_append, List.map_append]
            have : [y].filter (p x) = [y] := by simp [hp]
            rw [this, List.map_cons, List.map_nil, ← List.append_assoc]
            exact RpAll.append (RpAll.mono (s4.sub.trans s5.sub) _ _ r3) (.one hzv)
        | false =>
          rw [if_neg Bool.false_ne_true]
          refine ⟨F4, acc3, s3.trans s4, e23.trans s4.sub, f4, e4, ?_⟩
          show RpAll K F4 _ (fl (xs.take i) ++ (((ys x).take (k + 1)).filter (p x)).map (g x))
          rw [take_succA hyy, List.filter_append, List.map_append]
          have : [y].filter (p x) = [] := by simp [hp]
          rw [this, List.map_nil, List.append_nil]
          exact RpAll.mono s4.sub _ _ r3
      · have hE : k = (ys x).length := Nat.le_antisymm hk (Nat.le_of_not_lt hkl)
        subst hE
        refine .inl ⟨by have := Y1.stop H3 eH3; rw [List.length_map] at this; exact this, F3, fl (xs.take (i + 1)), acc3, s3, f3, e3, ?_, rfl⟩
        have e6 : fl (xs.take (i + 1)) = fi (ys x).length := by
          show (xs.take (i + 1)).flatMap _ = fl (xs.take i) ++ (((ys x).take (ys x).length).filter (p x)).map (g x)
          rw [take_succA hxx, List.flatMap_append, List.take_length]
          simp only [List.flatMap_cons, List.flatMap_nil, List.append_nil]
          rfl
        rw [e6]
        exact r3
    · have hE : i = xs.length := Nat.le_antisymm hi (Nat.le_of_not_lt hlt)
      subst hE
      refine .inl ⟨by have := Y.stop H eH; rw [List.length_map] at this; exact this, ?_⟩
      obtain ⟨F2, l2, a2, s2, r2⟩ := w.done gg hD
      refine q _ _ F2 H ?_ (s1.trans s2) r2
      show PyData.list l2 = _
      rw [a2, List.take_length]
theorem rc_allM {α : Type} (a : List α) (p : α → Bool) : RcG K (rAll K) [.list (a.map fun x => .bool (p x))] (Is (.bool (a.all p))) := by
  have h := rc_all (K := K) (bs := a.map p)
  rw [List.map_map] at h
  have e : (a.map p).all id = a.all p := by induction a <;> simp_all
  rw [e] at h
  exact h
theorem rc_anyM {α : Type} (a : List α) (p : α → Bool) : RcG K (rAny K) [.list (a.map fun x => .bool (p x))] (Is (.bool (a.any p))) := by
  have h := rc_any (K := K) (bs := a.map p)
  rw [List.map_map] at h
  have e : (a.map p).any id = a.any p := by induction a <;> simp_all
  rw [e] at h
  exact h
theorem g_cbI {r : List V → Hp → VK → Prop} {ds : List PyData} (h : EvsG K pt ts σ F (· = ds)) (hr : RcG K r ds R) : EvG K pt (tCB r ts) σ F R := g_cb h fun _ e => e ▸ hr
theorem g_consR (h : EvG K pt te σ F R) : EvsG K pt (tCons te tNil) σ F (fun l => ∃ d, l = [d] ∧ R d) := fun H1 i g Q q => gs_cons h gs_nil H1 i g Q fun l vs F2 H2 hl s hv => by
  obtain ⟨d, ds, e, h1, h2⟩ := hl
  exact q l vs F2 H2 ⟨d, by rw [e, h2], h1⟩ s hv
/-- one argument -/
theorem gs_one (h : EvG K pt te σ F (Is d)) : EvsG K pt (tCons te tNil) σ F (· = [d]) := gs_consI h gs_nil
theorem gs_two (h : EvG K pt ta σ F (Is d)) (h2 : EvG K pt tb σ F (Is e)) : EvsG K pt (tCons ta (tCons tb tNil)) σ F (· = [d, e]) := gs_consI h (gs_one h2)
theorem gs_three {tc : TE} (h : EvG K pt ta σ F (Is d)) (h2 : EvG K pt tb σ F (Is e)) (h3 : EvG K pt tc σ F (Is z)) : EvsG K pt (tCons ta (tCons tb (tCons tc tNil))) σ F (· = [d, e, z]) := gs_consI h (gs_two h2 h3)
theorem g_un1 {i : Int} (h : EvG K pt te σ F (Is (.int i))) : EvG K pt (tUn (rU fun i => .int (-i)) te) σ F (Is (.int (-i))) := fun H1 i' g Q q => h H1 i' g _ fun d v F2 H2 hd s hv => by
  subst hd
  exact ⟨i, rp_int hv, q _ _ F2 H2 rfl s (.int _)⟩
theorem g_opI (ha : EvG K pt ta σ F (Is d)) (hb : EvG K pt tb σ F (Is e)) (hr : RvG K r d e R) : EvG K pt (tOp r ta tb) σ F R := g_op ha hb fun _ _ h1 h2 => h1 ▸ h2 ▸ hr
end
section
variable {K : PySem.W.Frag} {pt : Option Pt} {σ : L2.St} {F0 H0 F H F' : Hp} {te ta tb : TE} {t u : TT} {R : PD} {d e z : PyData} {D : Ends} {tu tw tz : TS}
theorem t_asg1 {i : Nat} (s : Step pt F0 H0 F H) (h : EvG K pt te σ F R) (q : ∀ d v F2 H2, R d → Step pt F0 H0 F2 H2 → Ex F F2 → Rp K F2 v d → D.nx (σ.set i (some v)) H2) : tAsg te (gName i) D σ H :=
  h H s.inn s.good _ fun d v F2 H2 hd s2 hv => q d v F2 H2 hd (s.trans s2) s2.sub hv
theorem t_for1 {wi : TI} {j : Nat} {ds : List PyData} (s : Step pt F0 H0 F H) (hw : WiG K pt wi σ F (· = ds)) (I : Nat → L2.St → Hp → Prop) (h0 : ∀ F2, Ex F F2 → I 0 σ F2)
    (hs : ∀ i d, ds[i]? = some d → ∀ σ' F' H' x, I i σ' F' → Step pt F0 H0 F' H' → Ex F F' → Rp K F' x d →
      ∀ N : L2.St → Hp → Prop, (∀ σ2 F2 H2, I (i + 1) σ2 F2 → Step pt F0 H0 F2 H2 → Ex F' F2 → N σ2 H2) → tu { D with nx := N, ct := N, bk := D.nx } (σ'.set j (some x)) H')
    (hd : ∀ σ' F' H', I ds.length σ' F' → Step pt F0 H0 F' H' → Ex F F' → D.nx σ' H') : tFor wi (gName j) tu D σ H :=
  t_for (D := { D with nx := D.nx }) (tz := fun D' σ H => D.nx σ H) s hw I h0 hs hd
/-- a test that fails: the suite is skipped -/
theorem t_skip (s : Step pt F0 H0 F H) (h : EtG pt t σ F (· = false)) (q : ∀ F2 H2, Step pt F0 H0 F2 H2 → Ex F F2 → tz D σ H2) : tSeq (tIfS t tu tNext) tz D σ H := t_when s h (fun z => by cases z) fun _ => q
end
end Fv
namespace Fv
open PySem PySem.Spec PyProof.Rows L2 Evl StX
theorem o_ix {X : Cx} {K : PySem.W.Frag} (h : X.K = K := by rfl) : IxR X (rIx K) := h ▸ ix_seq
section
variable {K : PySem.W.Frag} {w : World} {pt : Option Pt} {σ : L2.St} {F F' H : Hp} {te ta tb : TE} {ts tr : TA} {t u : TT} {R R1 S2 R3 : PD} {d e z : PyData} {r : L2.R2} {wi wi1 : TI}
theorem rv_ix {ds : List PyData} {src : PyData} {i : Int} (hs : src = .list ds ∨ src = .tuple ds) (h : atI ds i = some d) : RvG K (rIx K) src (.int i) (Is d) := fun F H x y e hx hy Q q => by
  rcases hs with rfl | rfl
  · exact .inl (rv_ixL h F H x y e hx hy Q q)
  · exact .inr (.inl (rv_ixT h F H x y e hx hy Q q))
theorem rv_eqI {i j : Int} : RvG K rEq (.int i) (.int j) (Is (.bool (decide (i = j)))) := rv_val fun F H x y _ hx hy => by
  rw [rp_int hx, rp_int hy]
  refine ⟨.bl (decide (V.int i = V.int j)), fun Q q => ⟨rfl, q⟩, ?_⟩
  have : decide (V.int i = V.int j) = decide (i = j) := by by_cases h : i = j <;> simp [h]
  rw [this]; exact .bl _
theorem rc_lenS {ds : List PyData} {src : PyData} (hs : src = .list ds ∨ src = .tuple ds) : RcG K (rLen K) [src] (Is (.int ds.length)) := by
  rcases hs with rfl | rfl
  · exact rc_lenL
  · exact rc_lenT
end
/-! ### a list that grows -/
/-- at l a list of ls beside the part that stays; it was made behind H0 -/
structure Gst (K : PySem.W.Frag) (pt : Option Pt) (F0 H0 : Hp) (l : Addr) (F H : Hp) (ls : List PyData) : Prop where
  step : Step pt F0 H0 F H
  off : F l = none
  ex : ∃ acc, H l = some (.lst acc) ∧ RpAll K F acc ls
section
variable {K : PySem.W.Frag} {pt : Option Pt} {σ : L2.St} {F0 H0 F H F' F2 H2 : Hp} {te ta tb : TE} {ts tr : TA} {t u : TT} {R R1 S2 R3 : PD} {d e z : PyData} {wi : TI} {D : Ends} {tu tw tz : TS} {l : Addr} {ls : List PyData}
theorem Gst.run (g0 : Good pt F0 H0) (h0 : H0 l = none) (g : Gst K pt F0 H0 l F H ls) (s : Step pt F H F2 H2) : Gst K pt F0 H0 l F2 H2 ls := by
  obtain ⟨acc, e, r⟩ := g.ex
  obtain ⟨f2, e2⟩ := s.beside g0 h0 g.off e
  -- the pot is off l
  exact ⟨g.step.trans s, f2, acc, e2, RpAll.mono s.sub _ _ r⟩
theorem Gst.put (g0 : Good pt F0 H0) (h0 : H0 l = none) (g : Gst K pt F0 H0 l F H ls) {v : V} (hv : Rp K F v d) : ∃ acc, H l = some (.lst acc) ∧ acc.length = ls.length ∧ Gst K pt F0 H0 l F (upd H l (.lst (acc ++ [v]))) (ls ++ [d]) := by
  obtain ⟨acc, e, r⟩ := g.ex
  exact ⟨acc, e, r.length, g.step.put g0 h0 g.off, g.off, _, upd_same, r.append (.one hv)⟩
theorem Gst.done (g0 : Good pt F0 H0) (h0 : H0 l = none) (g : Gst K pt F0 H0 l F H ls) : ∃ F2, Step pt F0 H0 F2 H ∧ Ex F F2 ∧ Rp K F2 (.ref l) (.list ls) := by
  obtain ⟨acc, e, r⟩ := g.ex
  have e1 : Ex F (upd F l (.lst acc)) := Ex.new g.off
  refine ⟨upd F l (.lst acc), ⟨g.step.sub.trans e1, fun b u hb => ?_, g.step.keep, fun q hq => ⟨?_, (g.step.good q hq).2⟩, fun b h1 h2 => ?_⟩, e1, .lst upd_same (RpAll.mono e1 _ _ r)⟩
  · by_cases z : b = l
    · rw [z, upd_same] at hb; rw [z, e]; exact hb
    · rw [upd_ne z] at hb; exact g.step.inn b u hb
  · rw [upd_ne (off_pot g0 h0 q hq).1.symm]; exact (g.step.good q hq).1
  · have z : b ≠ l := loose_ne h2 h0
    rw [upd_ne z]; exact g.step.new b h1 h2
/-- x = [] -/
theorem t_newL {i : Nat} (s : Step pt F0 H0 F H) (q : ∀ l, H0 l = none → H l = none → Gst K pt F0 H0 l F (upd H l (.lst [])) [] → tz D (σ.set i (some (.ref l))) (upd H l (.lst []))) (hb : ∀ l, H l = none → H0 l = none) : tSeq (tAsg (tLst tNil) (gName i)) tz D σ H :=
  ⟨Nat.zero_le _, fun l hl => by
    have f : F l = none := by
      cases e : F l with
      | none => rfl
      | some o => rw [s.inn _ _ e] at hl; cases hl
    exact q l (hb l hl) hl ⟨s.trans (.litter s.inn s.good hl), f, [], upd_same, .nil⟩⟩
/-- x.append(e) -/
theorem t_app {i : Nat} (g0 : Good pt F0 H0) (h0 : H0 l = none) (g : Gst K pt F0 H0 l F H ls) (hi : σ[i]? = some (some (.ref l))) (h : EvG K pt te σ F R) (hz : ls.length < 100000)
    (q : ∀ d F2 H2, R d → Gst K pt F0 H0 l F2 H2 (ls ++ [d]) → Ex F F2 → D.nx σ H2) : tDrop (tBM K "list" rAppend (tVar i) (tCons te tNil)) D σ H := by
  obtain ⟨acc, e, r⟩ := g.ex
  refine ⟨.ref l, hi, .inl ⟨rfl, acc, sq_of e⟩, h H g.step.inn g.step.good _ fun d v F2 H2 hd s hv => ?_⟩
  obtain ⟨acc2, e2, hlen, g2⟩ := (g.run g0 h0 s).put g0 h0 hv
  exact ⟨l, acc2, v, rfl, rfl, e2, sz_lt (by rw [hlen]; exact hz), q d F2 _ hd g2 s.sub⟩
/-- a loop beside a list that grows: I tells the slots and the list behind i turns -/
theorem t_forG {j : Nat} {ds : List PyData} (g0 : Good pt F0 H0) (h0 : H0 l = none) (g : Gst K pt F0 H0 l F H ls) (hw : WiG K pt wi σ F (· = ds)) (I : Nat → L2.St → Hp → List PyData → Prop) (hi : ∀ F2, Ex F F2 → I 0 σ F2 ls)
    (hs : ∀ i d, ds[i]? = some d → ∀ σ' F' H' x ls', I i σ' F' ls' → Gst K pt F0 H0 l F' H' ls' → Ex F F' → Rp K F' x d →
      ∀ N : L2.St → Hp → Prop, (∀ σ2 F2 H2 ls2, I (i + 1) σ2 F2 ls2 → Gst K pt F0 H0 l F2 H2 ls2 → Ex F' F2 → N σ2 H2) → tu { D with nx := N, ct := N, bk := tz D } (σ'.set j (some x)) H')
    (hd : ∀ σ' F' H' ls', I ds.length σ' F' ls' → Gst K pt F0 H0 l F' H' ls' → Ex F F' → tz D σ' H') : tSeq (tFor wi (gName j) tu) tz D σ H :=
  hw H g.step.inn g.step.good _ fun ds' J F1 H1 e s1 Y => by
    subst e
    refine ⟨fun i m σ' H' => m = ds'.length - i ∧ i ≤ ds'.length ∧ ∃ F' ls', Gst K pt F0 H0 l F' H' ls' ∧ Ex F1 F' ∧ I i σ' F' ls', ⟨ds'.length, by simp, Nat.zero_le _, F1, ls, g.run g0 h0 s1, Ex.refl _, hi F1 s1.sub⟩, ?_⟩
    rintro i m σ' H' ⟨rfl, hil, F', ls', g', e', p⟩
    have eH : Ex F1 H' := e'.trans g'.step.inn
    by_cases hlt : i < ds'.length
    · refine .inr ⟨Y.go i H' eH hlt, fun σ2 H2 => ∃ F2 ls2, Gst K pt F0 H0 l F2 H2 ls2 ∧ Ex F1 F2 ∧ I (i + 1) σ2 F2 ls2, fun σ2 H2 ⟨F2, ls2, a, b, c⟩ => ⟨ds'.length - (i + 1), by omega, rfl, hlt, F2, ls2, a, b, c⟩, fun x H2 y => ?_⟩
      obtain ⟨rfl, d, hdd, hx⟩ := Y.yld i H' x H2 eH hlt y
      exact hs i d hdd σ' F' _ x ls' p g' (s1.sub.trans e') (Rp.mono e' _ _ hx) _ fun σ2 F2 H2 ls2 a b c => ⟨F2, ls2, b, e'.trans c, a⟩
    · have hE : i = ds'.length := Nat.le_antisymm hil (Nat.le_of_not_lt hlt)
      subst hE
      exact .inl ⟨Y.stop H' eH, hd σ' F' H' ls' p g' (s1.sub.trans e')⟩
end
end Fv
namespace Fv
open PySem L2 Evl
theorem Step.back {pt : Option Pt} {F0 H0 F H : Hp} (s : Step pt F0 H0 F H) (l : Addr) (h : H l = none) : H0 l = none := by
  cases e : H0 l with
  | none => rfl
  | some o => exact absurd h (s.keep.there (F := F) s.good (by rw [e]; simp))
end Fv
/-! a dict comprehension whose keys are tuples -/
namespace Fv
open PySem PySem.Spec PyProof.Rows L2 Evl StX
/-- the store of one entry, the key a tuple that stands -/
theorem putT {Y : Cx} {pins : List (Addr × Obj)} {τ : L2.St} {G : Hp} {s : Shared} {E : Value → Shared → Prop} {D b : Addr} {es : List (List Key × V)} {k : List Key} {v : V} {u r : Value} {Q : Unit → Shared → Prop}
    (hu : Y.A.units + 1 < cLine) (I : Inv Y pins τ G s) (hD : G D = some (.dT es)) (hk : G b = some (.tup (k.map kV))) (hz : es.length < sizeLine) (ru : RelV (.ref b) u) (rr : RelV v r)
    (fin : ∀ s', Inv Y pins τ (upd G D (.dT (putK es k v))) s' → Q () s') : wpAny (model Y.prog Y.w) Y.A (dictSet D u r) Q E s := by
  cases (show u = Value.ref b from ru)
  obtain ⟨hl, hsys, ts, kt, of⟩ := dt_of I.hok hD
  refine wpAny_dictSet_heap (hsz := by rw [← Paired.length kt]; exact hl) (show (tupleKind (mixKind Y.prog Y.w)).room Y.A from Nat.lt_of_succ_lt hu) (key_of I.hok hk) of fun hp' new same => fin _ ?_
  obtain ⟨o, ar, n, e1, e2, e3, e4, _, e6⟩ := new
  have fit : (putK es k v).length ≤ sizeLine := by have := length_putK es k v; omega
  refine d_write I (by rw [hD]; trivial) same ⟨o, e1⟩ ⟨fit, hsys, _, (kt.put k hk rr).keeps fun c ys ec => ?_, o, ar, n, e1, e2, e3, e4, e6⟩
  have : c ≠ D := ne_of ec hD (fun z => by cases z)
  rw [upd_ne this]; exact ec
/-- {k: v for target in iter if ..}: D is the new dict, each key a tuple of ints and texts -/
def tDcT (wi : TI) (g : TG) (tt : TT) (tk tv : TE) (vs : List Nat) : TE := fun σ H Q => wi σ H fun J H1 => ∀ D, H1 D = none →
  ∃ W : Nat → Nat → Hp → Prop, (∃ m, W 0 m (upd H1 D (.dT []))) ∧ ∀ i m H, W i m H →
    (J.stop i H ∧ Q (.ref D) H) ∨
    (J.go i H ∧ ∃ Nx : Hp → Prop, (∀ H', Nx H' → ∃ m', m' < m ∧ W (i + 1) m' H') ∧
      ∀ x H', J.yld i H x H' → g x (wipe σ vs) H' fun σ2 H2 => wipe σ2 vs = wipe σ vs ∧ tt σ2 H2 fun b H3 =>
        if b = true then tk σ2 H3 fun y H4 => tv σ2 H4 fun z H5 => ∃ es k q, y = .ref q ∧ H5 q = some (.tup (k.map kV)) ∧ H5 D = some (.dT es) ∧ es.length < sizeLine ∧ Nx (upd H5 D (.dT (putK es k z)))
        else Nx H3)
section
variable {X : Cx} {kx vx tg iter : Expr} {ifs : List Expr} {scope : Scope} {own : List (Str × Nat)} {pos : Pos} {wi : TI} {g : TG} {tt : TT} {tk tv : TE}
/-- the scope's block of a comprehension, whatever its own frame -/
abbrev Blk (X : Cx) (scope : Scope) (P : Cx → Prop) : Prop := ∀ (s : Shared) (H : Hp) (C : Addr) (cl : List (Str × Addr)) (fp : List Addr), P (X.blk s H scope (compEnvC scope cl C X.env) fp)
theorem pe_dcT (hc : X.calm = true) (hu : X.A.units + 1 < cLine) (hN : X.N.Nodup) (hi : PI X tg iter wi) (ok : BlkOk X.N X.env.scope scope own)
    (hg : Blk X scope fun Y => PG Y tg g) (ht : Blk X scope fun Y => PTs Y ifs tt) (hk : Blk X scope fun Y => PE Y kx tk) (hv : Blk X scope fun Y => PE Y vx tv) (hs : ∀ x, foldedSetIterable iter X.env x = pure x := by intro _; rfl) :
    PE X (.DictComp kx vx [⟨tg, iter, ifs, 0⟩] scope pos) (tDcT wi g tt tk tv (own.map (·.2))) := by
  refine ⟨fun pins s σ H Q I q => ?_⟩
  rw [arm_eval_DictComp]
  have clo : ∀ n ∈ scope.names, n.2 = .free → ∃ c, X.env.cells.lookup n.1 = some c := fun n hn e => (ok.free n hn e).elim (fun z => I.ok.has _ (.inl z)) fun z => I.ok.has _ (.inr z)
  refine wpAny_comprehension_free (use := none) rfl hs (closure_ok clo) ok.kind (fun n hn e => by rw [ok.uniq n hn, e]) (thn (hi.run pins s σ H _ I q) fun xv sa ha => thn ha fun itv sb hb => ?_)
  obtain ⟨it, fp, tn, J, Hb, rfl, Ib, T, tb, fb, qb⟩ := hb
  refine wpAny_newObj_type (newEnv_comp ?_)
  -- the dict D, then the block's frame C
  generalize eD : sb.heap.objs.size = D
  have freeD : Hb D = none := Ib.hok.fresh (Nat.le_of_eq eD)
  obtain ⟨W, ⟨m0, w0⟩, turn⟩ := qb D freeD
  generalize ec : ({ sb with heap := sb.heap.push { cls := .type "dict", data := .dict #[] } } : Shared) = sc
  have push : sc.heap = sb.heap.push { cls := .type "dict", data := .dict #[] } := by rw [← ec]
  have Ic : Inv X pins σ (upd Hb D (.dT [])) sc := by
    subst eD; subst ec
    exact Ib.laid (t' := sb.toks) (fun _ _ e => Heap.get?_push_of_some _ e) (Nat.le_refl _) (dt_empty sb.heap Ib.big)
  have fc : ∀ b ∈ fp, FpOk X pins (upd Hb D (.dT [])) b ∧ b < sc.heap.objs.size := fun b hb => by
    obtain ⟨o, e, _⟩ := T.obj _ _ tb b hb
    have lt := Heap.lt_size e
    have ne : b ≠ D := fun z => by rw [z, ← eD] at lt; exact Nat.lt_irrefl _ lt
    exact ⟨⟨by rw [upd_ne ne]; exact (fb b hb).1, (fb b hb).2⟩, by rw [push, Heap.size_push]; exact Nat.lt_succ_of_lt lt⟩
  have tc : tn 0 sc.heap := T.keep _ _ _ tb fun _ _ _ e => by rw [push]; exact Heap.get?_push_of_some _ e
  have Id := block_start Ic ok hN fc
  have none3 : ∀ b ∈ fp, upd Hb D (.dT []) b = none := fun b hb => (fc b hb).1.1
  have bg := hg sc (upd Hb D (.dT [])) sc.heap.objs.size (cellsFrom (sc.heap.objs.size + 1) scope.names (cloFrom X.env.cells scope.names [])) fp
  have bt := ht sc (upd Hb D (.dT [])) sc.heap.objs.size (cellsFrom (sc.heap.objs.size + 1) scope.names (cloFrom X.env.cells scope.names [])) fp
  have bk := hk sc (upd Hb D (.dT [])) sc.heap.objs.size (cellsFrom (sc.heap.objs.size + 1) scope.names (cloFrom X.env.cells scope.names [])) fp
  have bv := hv sc (upd Hb D (.dT [])) sc.heap.objs.size (cellsFrom (sc.heap.objs.size + 1) scope.names (cloFrom X.env.cells scope.names [])) fp
  show codeAny _ _ (.compStart (.DictComp kx vx [⟨tg, iter, ifs, 0⟩] scope pos) 0 (.ref it) (.ref D) (compEnvC scope (cellsFrom (sc.heap.objs.size + 1) scope.names (cloFrom X.env.cells scope.names [])) sc.heap.objs.size X.env))
    (compPost (model X.prog X.w) X.A X.xe none (EP X pins σ Q) (.ref D) sc.heap.objs.size) { sc with heap := pushCells (sc.heap.push { cls := .type "dict", data := .dict #[] }) scope.names }
  have td : tn 0 (pushCells (sc.heap.push { cls := .type "dict", data := .dict #[] }) scope.names) := T.keep _ _ _ tc fun _ _ _ e => pushCells_keeps _ _ _ _ (Heap.get?_push_of_some _ e)
  generalize eY : compEnvC scope (cellsFrom (sc.heap.objs.size + 1) scope.names (cloFrom X.env.cells scope.names [])) sc.heap.objs.size X.env = env1 at Id bg bt bk bv ⊢
  have locY : env1.locals = sc.heap.objs.size := by rw [← eY]; rfl
  generalize eH : upd Hb D (.dT []) = Hc at Ic Id bg bt bk bv w0 none3 fc
  generalize es0 : ({ sc with heap := pushCells (sc.heap.push { cls := .type "dict", data := .dict #[] }) scope.names } : Shared) = sd at Id ⊢
  have td' : tn 0 sd.heap := by rw [← es0]; exact td
  generalize eZ : X.blk sc Hc scope env1 fp = Y at Id bg bt bk bv
  have YA : Y.A = X.A := by rw [← eZ]
  have own1 : ∀ {τ : L2.St} {G : Hp} {s' : Shared}, Inv Y [] τ G s' → (∀ b ∈ fp, G b = none) → ∀ b ∈ fp, FpOk Y [] G b := fun {τ G s'} J1 hn b hb => by
    subst eZ
    exact ⟨hn b hb, (J1.ok.exf b hb).1, J1.ok.exfs b hb, .inl hb, fun x c e => (J1.ok.exf b hb).2 x c e, fun p hp => by simp at hp⟩
  have main : codeAny (model X.prog X.w) X.A (.compLoop (.DictComp kx vx [⟨tg, iter, ifs, 0⟩] scope pos) 0 (.ref it) (.ref D) env1) (compPost (model X.prog X.w) X.A X.xe none (EP X pins σ Q) (.ref D) sc.heap.objs.size) sd := by
    refine compLoop_anyD (fun n s' => ∃ i G, Inv Y [] (wipe σ (own.map (·.2))) G s' ∧ tn i s'.heap ∧ (∀ b ∈ fp, G b = none) ∧ W i n G) ?_ m0 ⟨0, Hc, Id, td', none3, w0⟩
    rintro n s1 ⟨i, G, J1, t1, n1, w1⟩
    rcases turn i n G w1 with ⟨stp, qq⟩ | ⟨go, Nx, hNx, step⟩
    · -- the end: back in the def's own frame
      have z := T.done Y (by subst eZ; rfl) (by subst eZ; rfl) (by subst eZ; rfl) (by subst eZ; exact hc) i [] s1 _ G (fun _ _ => False) J1 (own1 J1 n1) t1 stp
      rw [YA] at z
      refine thnF z fun r s2 ⟨er, J2⟩ => ?_
      subst er; subst eZ
      have nC : G sc.heap.objs.size = none := by
        have z : G env1.locals = none := J2.free
        rw [locY] at z; exact z
      obtain ⟨m, hm, _⟩ := J2.loc
      have hm : s2.heap.Ns env1.locals m := hm
      rw [locY] at hm
      have back : Inv X pins σ G s2 := Ic.call' (ch := fp) J2.os J2.base J2.hok J2.bare fun b hb => let y := (fc b hb).1.2; ⟨y.2.2.1, y.1, y.2.2.2.1, y.2.2.2.2⟩
      obtain ⟨f0, f1, f2, f3, f4, f5⟩ := Ic.fpOk (Nat.le_refl _) nC
      exact ⟨m, hm, fun h3 sb3 => ⟨.ref D, G, back.turned (t' := s2.toks) (fun b o hb e => (sb3.2 b hb).trans e) f0 f1 f3 f4 f5, rfl, qq⟩⟩
    · have z := T.item Y (by subst eZ; rfl) (by subst eZ; rfl) (by subst eZ; rfl) (by subst eZ; exact hc) i [] s1 _ G (fun _ _ => False) J1 (own1 J1 n1) t1 go
      rw [YA] at z
      refine thnF z fun r s2 ⟨u, er, h2⟩ => ?_
      subst er
      refine thnF h2 fun _ s3 ⟨x, G3, J3, r3, y3, t3, n3⟩ => ?_
      have J3' := J3.pinned (own1 J3 n3) (T.obj _ _ t3)
      have zg := bg.run _ s3 _ G3 x u _ J3' r3 (step x G3 y3)
      subst eZ
      refine thnF zg fun _ s4 ⟨τ, G4, J4, hw4, q4⟩ => ?_
      refine thnF (bt.run _ s4 τ G4 _ J4 q4) fun b s5 ⟨G5, J5, q5⟩ => ?_
      have len : (wipe σ (own.map (·.2))).length = τ.length := by rw [← hw4, wipe_length]
      have close : ∀ {s' : Shared} {G' : Hp}, Inv (X.blk sc Hc scope env1 fp) ([] ++ pinsAt fp s3.heap) τ G' s' → Nx G' → ∃ m, m < n ∧ ∃ i G, Inv (X.blk sc Hc scope env1 fp) [] (wipe σ (own.map (·.2))) G s' ∧ tn i s'.heap ∧ (∀ b ∈ fp, G b = none) ∧ W i m G := fun {s' G'} J' nx => by
        obtain ⟨m', lt, w'⟩ := hNx G' nx
        have held : ∀ b ∈ fp, ∀ o, s3.heap.get? b = some o → s'.heap.get? b = some o ∧ G' b = none := fun b hb o e =>
          have y := J'.pin (b, o) (List.mem_append_right _ (List.mem_append_right _ (mem_pinsAt hb e)))
          ⟨y.1, y.2.1⟩
        refine ⟨m', lt, i + 1, G', (J'.unpinned (pins := [])).weak len (fun j v e => (wipe_some (hw4 ▸ e)).1), T.keep _ _ _ t3 fun b hb o e => (held b hb o e).1, fun b hb => ?_, w'⟩
        obtain ⟨o, e, _⟩ := T.obj _ _ t3 b hb
        exact (held b hb o e).2
      cases b with
      | false => exact close J5 (by simpa using q5)
      | true =>
        have q5' := q5
        simp only [if_true] at q5'
        refine thnF (bk.run _ s5 τ G5 _ J5 q5') fun kv s6 ⟨yk, G6, J6, r6, q6⟩ => ?_
        refine thnF (bv.run _ s6 τ G6 _ J6 q6) fun vv s7 ⟨yv, G7, J7, r7, es, k, q, ek, hq, hD, hz, nx⟩ => ?_
        subst ek
        exact putT (Y := X.blk sc Hc scope env1 fp) hu J7 hD hq hz r6 r7 fun s8 J8 => close J8 nx
  exact codeAny_compStart_dict main (T.self X.A 0 _ _ _ td' main)
end
end Fv
/-! sorted of a list of rows of whole numbers -/
namespace Fv
open PySem PySem.Spec PyProof.Rows L2 Evl StX
/-- the rows in Python's order -/
def sortL (ls : List (List Int)) : List (List Int) := ls.mergeSort (PySem.W.dataLe false dT)
theorem sortL_perm (ls : List (List Int)) : (sortL ls).Perm ls := List.mergeSort_perm _ _
theorem each_of_vals {β : Type} {f : β → V} : ∀ {bs : List β} {us : List Value}, Vals (bs.map f) us → PySem.W.EachIs (fun u b => RelV (f b) u) us bs
  | [], _, h => by cases h; exact .nil
  | b :: bs, _, h => by
    cases h with
    | cons r t => exact .cons r (each_of_vals t)
theorem vals_of_each {β : Type} {f : β → V} : ∀ {bs : List β} {us : List Value}, PySem.W.EachIs (fun u b => RelV (f b) u) us bs → Vals (bs.map f) us
  | [], _, h => by cases h; exact .nil
  | b :: bs, _, h => by
    cases h with
    | cons r t => exact .cons r (vals_of_each t)
theorem sorts_unit {prog : Program} {w : World} {A : Around} {s : Shared} {vs : List Value} (e : PySem.W.EachIs (fun v d => ∃ as, Reads s.heap v d as) vs [dT []]) (hu : A.units + 1 < cLine) : PySem.W.SortsAt prog w A s (PySem.W.dataKind s.heap [dT []]) vs := by
  have one : ∀ d, d ∈ [dT []] → d = dT [] := fun d h => List.mem_singleton.mp h
  refine ⟨fun v hv => ?_, general', fun E x y a b Q ha hb hq => ?_, fun h2 => ?_⟩
  · obtain ⟨d, hd, as, r⟩ := e.left v hv
    exact ⟨_, PySem.W.dataKind_some (fun d h d' h' => by rw [one d h, one d' h']; rfl) hd r⟩
  · obtain ⟨d, as, hd, ra, rfl⟩ := PySem.W.dataKind_inv ha
    obtain ⟨d', as', hd', rb, rfl⟩ := PySem.W.dataKind_inv hb
    have e1 := one d hd
    have e2 := one d' hd'
    subst e1 e2
    show wpAny _ _ (oneLt' false x y) Q E s
    exact PySem.W.oneLt_alike (f := false) (fun z => by cases z) ra rb rfl (fun z => by cases z) (by have : (dT []).depth = 1 := by decide
                                                                                                     rw [this]; omega) hq
  · have := e.length
    simp at this
    omega
/-- sorted(xs), xs a list of rows -/
def rSortLL (K : PySem.W.Frag) : List V → Hp → VK → Prop := fun xs H Q => ∃ (l : Addr) (ps : List (V × List Int)), xs = [.ref l] ∧ H l = some (.lst (ps.map (·.1))) ∧ (∀ p ∈ ps, Rp K H p.1 (dT p.2)) ∧
  ((∀ p ∈ ps, p.2 ≠ []) ∨ ps.map (·.2) = [[]]) ∧ ∀ (qs : List (V × List Int)) p, qs.Perm ps → qs.map (·.2) = sortL (ps.map (·.2)) → H p = none → Q (.ref p) (upd H p (.lst (qs.map (·.1))))
theorem c_sortLL {X : Cx} {K : PySem.W.Frag} (hu : X.A.units + 65 < cLine) (h : X.K = K := by rfl) : CallR X (.builtin "sorted") (rSortLL K) := by
  subst h
  intro pins s σ H xs us Q I r q
  obtain ⟨l, ps, rfl, hl, hp, hk, q⟩ := q
  rw [Vals.ref1 r]
  obtain ⟨its, rv, pl, hz⟩ := I.list (SqL.of hl)
  have ea : PySem.W.EachIs (fun u b => RelV b.1 u) its ps := each_of_vals rv
  have rd : ∀ u (b : V × List Int), b ∈ ps → RelV b.1 u → ∃ as, Reads s.heap u (dT b.2) as := fun u b hb ru => Dp.reads I (dT b.2) b.1 u (Rp.dp _ _ (hp b hb)) ru
  let hS : Heap := PySem.W.sortingHeap (PySem.W.copyHeap s.heap its) (s.heap.objs.size + 1) its
  have er0 : PySem.W.EachIs (fun u (b : V × List Int) => ∃ as, Reads hS u (dT b.2) as) its ps := (PySem.W.each_mem ea).mono fun u b ⟨ru, hb⟩ => by
    obtain ⟨as, x⟩ := rd u b hb ru
    exact ⟨as, PyProof.Rows.Reads.keeps (fun _ _ => PySem.W.sorting_copy_old) x⟩
  have er1 : PySem.W.EachIs (fun u d => ∃ as, Reads hS u d as) its (ps.map fun b => dT b.2) := PySem.W.each_map (R := fun u d => ∃ as, Reads hS u d as) (fun b : V × List Int => dT b.2) er0
  have al : PySem.W.AllAlike (ps.map fun b => dT b.2) := PySem.W.AllAlike.of fun b b' => PySem.W.alike_ints b.2 b'.2
  have dep : ∀ b : V × List Int, (dT b.2).depth ≤ 2 := fun b => depth_dT b.2
  have S : PySem.W.SortsAt X.prog X.w X.A.in1.in1 { s with heap := hS } (PySem.W.dataKind hS (ps.map fun b => dT b.2)) its := by
    rcases hk with hne | h1
    · refine PySem.W.SortsAt.data (s := { s with heap := hS }) er1 al (.inl fun d hd => ?_) fun d hd => ?_
      · obtain ⟨b, hb, rfl⟩ := List.mem_map.mp hd
        have := hne b hb
        cases e : b.2 with
        | nil => exact absurd e this
        | cons x r => exact ⟨.int x, r.map .int, by simp [dT]⟩
      · obtain ⟨b, hb, rfl⟩ := List.mem_map.mp hd
        have := dep b
        show X.A.units + 1 + 1 + _ < _
        omega
    · have e2 : (ps.map fun b => dT b.2) = [dT []] := by
        have := congrArg (List.map dT) h1
        simpa [List.map_map, Function.comp_def] using this
      rw [e2] at er1 ⊢
      exact sorts_unit (s := { s with heap := hS }) er1 (by show X.A.units + 1 + 1 + 1 < _; omega)
  have out := PySem.W.sortVals_data (h' := hS) (enc := fun b : V × List Int => dT b.2) false ea er0 al
  refine PySem.W.sorted_vals pl.isList S (by rw [← rv.length]; exact hz) ?_
  generalize PySem.W.sortVals (PySem.W.dataKind hS (ps.map fun b => dT b.2)) false its its = ou at out
  generalize eq : ps.mergeSort (PySem.W.dataLe false fun b : V × List Int => dT b.2) = qs at out
  have pq : qs.Perm ps := eq ▸ List.mergeSort_perm _ _
  have snd : qs.map (·.2) = sortL (ps.map (·.2)) := by
    rw [← eq]
    exact PySem.W.sort_maps (s := PySem.W.dataLe false dT) (fun x : V × List Int => x.2) fun _ _ _ _ => rfl
  have vo : Vals (qs.map (·.1)) ou := vals_of_each out
  obtain ⟨c, hc⟩ := PyProof.Rows.sortedAll_at s.heap its ou.toArray
  have fr : H (s.heap.objs.size + 1) = none := I.hok.fresh (Nat.le_succ _)
  have len : (qs.map (·.1)).length ≤ sizeLine := by
    rw [List.length_map, pq.length_eq, ← List.length_map (f := (·.1))]; exact hz
  exact ⟨.ref (s.heap.objs.size + 1), upd H (s.heap.objs.size + 1) (.lst (qs.map (·.1))), I.laid (t' := s.toks) (fun _ _ => PyProof.Rows.sortedAll_old) (Nat.le_succ _) ⟨len, ou, c, vo, hc⟩, rfl, q qs _ pq snd fr⟩
section
variable {K : PySem.W.Frag} {w : World} {pt : Option Pt} {σ : L2.St} {F F' H : Hp} {te : TE}
theorem rp_rows : ∀ {xs : List V} {ls : List (List Int)}, RpAll K F xs (ls.map dT) → (xs.zip ls).map (·.1) = xs ∧ (xs.zip ls).map (·.2) = ls ∧ ∀ p ∈ xs.zip ls, Rp K F p.1 (dT p.2)
  | _, [], h => by cases h; simp
  | _, l :: ls, h => by
    cases h with
    | cons h1 h2 =>
      obtain ⟨e1, e2, e3⟩ := rp_rows h2
      refine ⟨by simp [e1], by simp [e2], fun p hp => ?_⟩
      rw [List.zip_cons_cons] at hp
      rcases List.mem_cons.mp hp with rfl | m
      · exact h1
      · exact e3 p m
theorem rows_rp : ∀ {ps : List (V × List Int)}, (∀ p ∈ ps, Rp K F p.1 (dT p.2)) → RpAll K F (ps.map (·.1)) ((ps.map (·.2)).map dT)
  | [], _ => .nil
  | p :: ps, h => .cons (h p (by simp)) (rows_rp fun q m => h q (List.mem_cons_of_mem _ m))
theorem g_sortLL {ls : List (List Int)} (h : EvG K pt te σ F (Is (dLT ls))) (hk : (∀ l ∈ ls, l ≠ []) ∨ ls = [[]]) : EvG K pt (tCB (rSortLL K) (tCons te tNil)) σ F (Is (dLT (sortL ls))) := fun H1 i g Q q =>
  h H1 i g _ fun d v F2 H2 hd s hv => by
    subst hd
    obtain ⟨a, xs, rfl, hl, ha⟩ := rp_lst hv
    obtain ⟨e1, e2, e3⟩ := rp_rows ha
    refine ⟨a, xs.zip ls, rfl, by rw [e1]; exact s.inn _ _ hl, fun p hp => Rp.mono s.inn _ _ (e3 p hp), ?_, fun qs p pq es hp => ?_⟩
    · rcases hk with hk | hk
      · exact .inl fun p hp => hk _ (by rw [← e2]; exact List.mem_map_of_mem hp)
      · exact .inr (by rw [e2]; exact hk)
    · have s3 : Step pt F2 H2 (upd F2 p (.lst (qs.map (·.1)))) (upd H2 p (.lst (qs.map (·.1)))) := .laid s.inn s.good hp
      refine q _ _ _ _ rfl (s.trans s3) (.lst upd_same ?_)
      rw [e2] at es
      rw [← es]
      exact rows_rp fun r hr => Rp.mono s3.sub _ _ (e3 r (pq.mem_iff.mp hr))
end
end Fv
/-! dicts with rows as keys; objects -/
namespace Fv
open PySem PySem.Spec PyProof.Rows L2 Evl StX
abbrev key (l : List Int) : List Key := l.map Sum.inl
theorem key_kV (l : List Int) : (key l).map kV = l.map V.int := by simp [key, Function.comp_def, kV]
def letD (ls : List (List Int)) : List (List Key × V) := ls.foldl (fun es l => putK es (key l) (.bl true)) []
theorem letD_snoc (ls : List (List Int)) (l : List Int) : letD (ls ++ [l]) = putK (letD ls) (key l) (.bl true) := by simp [letD]
theorem key_inj {a b : List Int} (h : key a = key b) : a = b := by
  have := congrArg (List.map kV) h
  rw [key_kV, key_kV] at this
  exact (List.map_inj_right (fun x y h => by injection h)).mp this
theorem letD_len (ls : List (List Int)) : (letD ls).length ≤ ls.length := by
  unfold letD
  suffices ∀ (es : List (List Key × V)), (ls.foldl (fun es l => putK es (key l) (.bl true)) es).length ≤ es.length + ls.length by simpa using this []
  induction ls with
  | nil => intro es; simp
  | cons l ls ih =>
    intro es
    have h1 := ih (putK es (key l) (.bl true))
    have h2 := length_putK es (key l) (.bl true)
    simp only [List.foldl_cons, List.length_cons]
    omega
theorem valV_letD (ls : List (List Int)) (m : List Int) : valV (letD ls) (key m) = if m ∈ ls then some (.bl true) else none := by
  unfold letD
  suffices ∀ (es : List (List Key × V)), valV (ls.foldl (fun es l => putK es (key l) (.bl true)) es) (key m) = if m ∈ ls then some (.bl true) else valV es (key m) by simpa [valV_nil] using this []
  induction ls with
  | nil => intro es; simp
  | cons l ls ih =>
    intro es
    rw [List.foldl_cons, ih, valV_put]
    by_cases h : m ∈ ls
    · simp [h]
    · by_cases k : m = l
      · subst k; simp
      · have : key m ≠ key l := fun z => k (key_inj z)
        simp [h, k, this]
/-- a value that is no data: told by what stands in the part that stays -/
def EvX (pt : Option Pt) (te : TE) (σ : L2.St) (F : Hp) (Φ : V → Hp → Prop) : Prop :=
  ∀ H1, Ex F H1 → Good pt F H1 → ∀ Q : VK, (∀ v F2 H2, Φ v F2 → Step pt F H1 F2 H2 → Q v H2) → te σ H1 Q
section
variable {K : PySem.W.Frag} {w : World} {pt : Option Pt} {σ : L2.St} {F F' H : Hp} {te tv : TE} {t : TT} {wi : TI}
/-- {l: True for l in rows} -/
theorem x_dcT {j : Nat} {vs : List Nat} {ls : List (List Int)} (hw : WiG K pt wi σ F (· = ls.map dT)) (hz : ls.length ≤ 300) (hwp : ∀ x, wipe ((wipe σ vs).set j (some x)) vs = wipe σ vs)
    (hk : ∀ l ∈ ls, ∀ F', Ex F F' → ∀ v, Rp K F' v (dT l) → EvG K pt te ((wipe σ vs).set j (some v)) F' (Is (dT l))) (hv : ∀ F', Ex F F' → ∀ v, EvG K pt tv ((wipe σ vs).set j (some v)) F' (Is (.bool true))) :
    EvX pt (tDcT wi (gName j) tYes te tv vs) σ F (fun v F2 => ∃ D, v = .ref D ∧ F2 D = some (.dT (letD ls))) := fun H0 i0 g0 Q q =>
  hw H0 i0 g0 _ fun ds J F1 H1 hds s1 Y => fun D hD => by
    subst hds
    have gi := s1.inn
    have gg := s1.good
    have f1 : F1 D = none := by
      cases w : F1 D with
      | none => rfl
      | some o => rw [gi _ _ w] at hD; cases hD
    refine ⟨fun i m H => m = ls.length - i ∧ i ≤ ls.length ∧ ∃ F', Step pt F1 H1 F' H ∧ F' D = none ∧ H D = some (.dT (letD (ls.take i))), ⟨ls.length, by simp, Nat.zero_le _, F1, .litter gi gg hD, f1, upd_same⟩, ?_⟩
    rintro i m H ⟨rfl, hi, F', s, f, e⟩
    have eH : Ex F1 H := s.sub.trans s.inn
    by_cases hlt : i < ls.length
    · refine .inr ⟨Y.go i H eH (by rw [List.length_map]; exact hlt), fun H => ∃ F', Step pt F1 H1 F' H ∧ F' D = none ∧ H D = some (.dT (letD (ls.take (i + 1)))), fun H' p' => ⟨ls.length - (i + 1), by omega, rfl, hlt, p'⟩, fun v H' y => ?_⟩
      obtain ⟨rfl, d, hd, hx⟩ := Y.yld i H v H' eH (by rw [List.length_map]; exact hlt) y
      obtain ⟨l, hl, rfl⟩ := get_map hd
      have hm : l ∈ ls := List.mem_of_getElem? hl
      refine ⟨hwp v, yes_of (ite_t ?_)⟩
      refine hk l hm F' (s1.sub.trans s.sub) v (Rp.mono s.sub _ _ hx) H' s.inn s.good _ fun d2 y2 F2 H2 hd2 s2 hy2 => ?_
      have off : ∀ q, pt = some q → D ≠ q.p := fun q hq => (off_pot gg hD q hq).1
      have f2 := s2.new D f (by rw [e]; simp)
      have e2 := s2.keep D _ off e
      refine hv F2 ((s1.sub.trans s.sub).trans s2.sub) v H2 s2.inn s2.good _ fun d3 y3 F3 H3 hd3 s3 hy3 => ?_
      have f3 := s3.new D f2 (by rw [e2]; simp)
      have e3 := s3.keep D _ off e2
      subst hd2; subst hd3
      rw [rp_bool hy3]
      obtain ⟨q2, xs, rfl, hq2, ha⟩ := rp_tup hy2
      have e1 := rpAll_ints ha
      subst e1
      refine ⟨_, key l, q2, rfl, by rw [key_kV]; exact s3.inn _ _ (s3.sub _ _ hq2), e3, sz_lt ?_, F3, ((s.trans s2).trans s3).put gg hD f3, f3, ?_⟩
      · have := letD_len (ls.take i)
        rw [List.length_take] at this
        omega
      · rw [take_succA hl, letD_snoc]
        exact upd_same
    · have hE : i = ls.length := Nat.le_antisymm hi (Nat.le_of_not_lt hlt)
      subst hE
      rw [List.take_length] at e
      refine .inl ⟨by have := Y.stop H eH; rw [List.length_map] at this; exact this, q _ (upd F' D (.dT (letD ls))) H ⟨D, rfl, upd_same⟩ (s1.trans ⟨s.sub.trans (Ex.new f), fun b u hb => ?_, s.keep, fun z hz => ⟨?_, (s.good z hz).2⟩, fun b h1 h2 => ?_⟩)⟩
      · by_cases z : b = D
        · rw [z, upd_same] at hb; rw [z, e]; exact hb
        · rw [upd_ne z] at hb; exact s.inn b u hb
      · rw [upd_ne (off_pot gg hD z hz).1.symm]; exact (s.good z hz).1
      · have z : b ≠ D := loose_ne h2 hD
        rw [upd_ne z]; exact s.new b h1 h2
end
/-- H without a -/
def del (H : Hp) (a : Addr) : Hp := fun b => if b = a then none else H b
theorem del_same {H : Hp} {a : Addr} : del H a a = none := by unfold del; rw [if_pos rfl]
theorem del_ne {H : Hp} {a b : Addr} (h : b ≠ a) : del H a b = H b := by unfold del; rw [if_neg h]
theorem del_ex {H : Hp} {a : Addr} : Ex (del H a) H := fun b o h => by
  by_cases z : b = a
  · rw [z, del_same] at h; cases h
  · rw [del_ne z] at h; exact h
/-- what stands for itself within a body: the object at x is the body's own -/
theorem Step.own {F H : Hp} (e : Ex F H) (x dx : Addr) : Step none F (del (del H x) dx) F H := ⟨Ex.refl F, e, Keep.of fun a o h => del_ex _ _ (del_ex _ _ h), .nil, New.refl F _⟩
section
variable {K : PySem.W.Frag} {pt : Option Pt} {σ : L2.St} {F0 H0 F H : Hp} {te : TE} {R : PD} {d : PyData} {D : Ends} {tz : TS} {x dx C : Addr} {fs : List (Str × V)} {i : Nat} {f : Str}
theorem EvG.toX (h : EvG K pt te σ F (Is d)) : EvX pt te σ F (fun v F2 => Rp K F2 v d) := fun H1 i g Q q => h H1 i g Q fun d' v F2 H2 hd s hv => q v F2 H2 (by rw [← (show d' = d from hd)]; exact hv) s
/-- self.f = e -/
theorem t_fld1 {Φ : V → Hp → Prop} (s : Step none F0 H0 F H) (h0 : H0 x = none) (hx : F x = none) (hi : σ[i]? = some (some (.ref x))) (ho : H x = some (.ins C dx fs)) (cl : Cls K C) (na : NoAttr K C f) (hz : fs.length < 1000) (h : EvX none te σ F Φ)
    (q : ∀ v F2 H2, Φ v F2 → Step none F0 H0 F2 H2 → Ex F F2 → F2 x = none → H2 x = some (.ins C dx (putF f v fs)) → D.nx σ H2) : sFld K (tVar i) te f D σ H :=
  h H s.inn .nil _ fun v F2 H2 hv s2 => by
    have f2 : F2 x = none := s2.new x hx (by rw [ho]; simp)
    exact ⟨.ref x, hi, x, C, dx, fs, rfl, s2.keep.ex x _ ho, cl, na, hz, q v F2 _ hv ((s.trans s2).put .nil h0 f2) s2.sub f2 upd_same⟩
theorem t_fld {Φ : V → Hp → Prop} (s : Step none F0 H0 F H) (h0 : H0 x = none) (hx : F x = none) (hi : σ[i]? = some (some (.ref x))) (ho : H x = some (.ins C dx fs)) (cl : Cls K C) (na : NoAttr K C f) (hz : fs.length < 1000) (h : EvX none te σ F Φ)
    (q : ∀ v F2 H2, Φ v F2 → Step none F0 H0 F2 H2 → Ex F F2 → F2 x = none → H2 x = some (.ins C dx (putF f v fs)) → tz D σ H2) : tSeq (sFld K (tVar i) te f) tz D σ H :=
  t_fld1 (D := { D with nx := tz D }) s h0 hx hi ho cl na hz h q
end
end Fv
namespace Fv
open PySem L2 Evl
theorem Step.own1 {F H : Hp} (e : Ex F H) (x : Addr) : Step none F (del H x) F H := ⟨Ex.refl F, e, Keep.of del_ex, .nil, New.refl F _⟩
theorem Step.less {F B B' F2 H2 : Hp} (s : Step none F B F2 H2) (e : Ex B' B) : Step none F B' F2 H2 :=
  ⟨s.sub, s.inn, Keep.of fun a o h => s.keep.ex a o (e a o h), .nil, fun a h1 ⟨o, h2, n⟩ => s.new a h1 ⟨o, e a o h2, n⟩⟩
theorem Step.add {F B F2 H2 : Hp} {a : Addr} {o : HO} (s : Step none F B F2 H2) (f : F2 a = none) (h : H2 a = some o) (b : B a = none) : Step none F B (upd F2 a o) H2 :=
  ⟨s.sub.trans (Ex.new f), fun c u hc => by
    by_cases z : c = a
    · rw [z, upd_same] at hc; rw [z, h]; exact hc
    · rw [upd_ne z] at hc; exact s.inn c u hc, s.keep, .nil, fun c h1 h2 => by
    have z : c ≠ a := loose_ne h2 b
    rw [upd_ne z]; exact s.new c h1 h2⟩
end Fv
/-! ranges as rows, slices, fields, keys, static methods -/
namespace Fv
open PySem PySem.Spec PyProof.Rows L2 Evl StX
section
variable {K : PySem.W.Frag} {w : World} {pt : Option Pt} {σ : L2.St} {F F' H : Hp} {te ta tb tv : TE} {t : TT} {wi : TI} {d : PyData} {R : PD}
theorem rgV_rng (a b : Int) (F : Hp) : RpAll K F (rgV a b) (rng a (b - a).toNat) := by
  unfold rgV rng
  have : ∀ (l : List Nat), RpAll K F (l.map fun i => V.int (a + (i : Nat))) (l.map fun (k : Nat) => PyData.int (a + (k : Int))) := by
    intro l
    induction l with
    | nil => exact .nil
    | cons x r ih => exact .cons (.int _) ih
  exact this _
theorem g_tupR1 {n : Int} (h : EvG K pt te σ F (Is (.int n))) (h0 : 0 ≤ n) (h1 : n ≤ 16777216) : EvG K pt (tTupRg (tRg1 te)) σ F (Is (.tuple (rng 0 n.toNat))) := fun H1 i g Q q =>
  h H1 i g _ fun d v F2 H2 hd s hv => by
    subst hd
    refine ⟨n, rp_int hv, .of_le (Int.le_refl _) h1 (by omega) h0, fun p hp => ?_⟩
    have s3 : Step pt F2 H2 (upd F2 p (.tup (rgV 0 n))) (upd H2 p (.tup (rgV 0 n))) := .laid s.inn s.good hp
    exact q _ _ _ _ rfl (s.trans s3) (.tup upd_same (by simpa using rgV_rng (K := K) 0 n (upd F2 p (.tup (rgV 0 n)))))
theorem g_tupR2 {a b : Int} (ha : EvG K pt ta σ F (Is (.int a))) (hb : EvG K pt tb σ F (Is (.int b))) (h0 : 0 ≤ a) (h1 : b ≤ 16777216) (h2 : a ≤ 16777216) (h3 : 0 ≤ b) : EvG K pt (tTupRg (tRg2 ta tb)) σ F (Is (.tuple (rng a (b - a).toNat))) := fun H1 i g Q q =>
  ha H1 i g _ fun d v F2 H2 hd s hv => hb.mono s.sub H2 s.inn s.good _ fun e u F3 H3 he s2 hu => by
    subst hd; subst he
    refine ⟨a, b, rp_int hv, rp_int hu, .of_le h0 h1 h2 h3, fun p hp => ?_⟩
    have s3 : Step pt F3 H3 (upd F3 p (.tup (rgV a b))) (upd H3 p (.tup (rgV a b))) := .laid s2.inn s2.good hp
    exact q _ _ _ _ rfl ((s.trans s2).trans s3) (.tup upd_same (rgV_rng a b _))
/-- t[i:] -/
theorem g_slA {ds : List PyData} {i : Nat} (h : EvG K pt te σ F (Is (.tuple ds))) (hi : EvG K pt ta σ F (Is (.int (i : Int)))) : EvG K pt (tSl (rSlA K) te (tPart ta) tNoPart) σ F (Is (.tuple (ds.drop i))) := fun H1 i' g Q q =>
  h H1 i' g _ fun d v F2 H2 hd s hv => hi.mono s.sub H2 s.inn s.good _ fun e u F3 H3 he s2 hu => by
    subst hd; subst he
    obtain ⟨a, xs, rfl, hl, ha⟩ := rp_tup hv
    refine ⟨(i : Int), rp_int hu, a, xs, rfl, tx s2.inn (s2.sub _ _ hl), fun hw => ?_, fun hw p hp => ?_⟩
    · rw [HT.sIx_nat] at hw
      have : ds.drop i = ds := by
        have hl := ha.length
        by_cases z : xs.length = 0
        · have : ds = [] := List.eq_nil_of_length_eq_zero (by omega)
          rw [this]; simp
        · have : i = 0 := by have := hw.1; omega
          rw [this]; rfl
      refine q _ _ F3 H3 rfl (s.trans s2) ?_
      rw [this]
      exact .tup (s2.sub _ _ hl) (RpAll.mono s2.sub _ _ ha)
    · have e1 : cutV xs (some (i : Int)) none = xs.drop i := by
        unfold cutV
        rw [HT.sIx_nat, HT.sIx_none]
        by_cases z : i ≤ xs.length
        · rw [Nat.min_eq_left z]
          exact List.take_of_length_le (by rw [List.length_drop]; omega)
        · rw [Nat.min_eq_right (by omega), Nat.sub_self, List.take_zero, List.drop_eq_nil_of_le (by omega)]
      rw [e1]
      have s3 : Step pt F3 H3 (upd F3 p (.tup (xs.drop i))) (upd H3 p (.tup (xs.drop i))) := .laid s2.inn s2.good hp
      refine q _ _ _ _ rfl ((s.trans s2).trans s3) (.tup upd_same (RpAll.mono (s2.sub.trans s3.sub) _ _ ?_))
      have : ∀ (n : Nat) {xs : List V} {ds : List PyData}, RpAll K F2 xs ds → RpAll K F2 (xs.drop n) (ds.drop n) := by
        intro n
        induction n with
        | zero => intro _ _ h; exact h
        | succ n ih =>
          intro xs ds h
          cases h with
          | nil => exact .nil
          | cons h1 h2 => exact ih h2
      exact this i ha
/-- o.f, o's fields told in the part that stays -/
theorem x_fld {Φ : V → Hp → Prop} {i : Nat} {x C dx : Addr} {fs : List (Str × V)} {f : Str} {v : V} (hi : σ[i]? = some (some (.ref x))) (ho : F x = some (.ins C dx fs)) (cl : Cls K C) (na : NoAttr K C f) (hl : fs.lookup f = some v) (hv : ∀ F', Ex F F' → Φ v F') : EvX pt (tFld K (tVar i) f) σ F Φ := fun H1 i' g Q q =>
  ⟨.ref x, hi, x, C, dx, fs, v, rfl, i' _ _ ho, cl, na, hl, q v F H1 (hv F (Ex.refl F)) (.refl i' g)⟩
theorem g_fld {i : Nat} {x C dx : Addr} {fs : List (Str × V)} {f : Str} {v : V} (hi : σ[i]? = some (some (.ref x))) (ho : F x = some (.ins C dx fs)) (cl : Cls K C) (na : NoAttr K C f) (hl : fs.lookup f = some v) (hv : Rp K F v d) : EvG K pt (tFld K (tVar i) f) σ F (Is d) := fun H1 i' g Q q =>
  ⟨.ref x, hi, x, C, dx, fs, v, rfl, i' _ _ ho, cl, na, hl, q d v F H1 rfl (.refl i' g) hv⟩
theorem EvX.mono {Φ : V → Hp → Prop} (hm : ∀ v F1 F2, Ex F1 F2 → Φ v F1 → Φ v F2) (h : EvX pt te σ F Φ) (e : Ex F F') : EvX pt te σ F' Φ := fun H1 i g Q q =>
  h H1 (e.trans i) (g.less e) Q fun v F2 H2 hv s => q v _ H2 (hm v _ _ join_l hv) (s.wide e i g)
/-- a row among the keys of a dict -/
theorem g_din {m : List Int} {ls : List (List Int)} (hk : EvG K pt te σ F (Is (dT m))) (hd : ∀ F', Ex F F' → EvX pt ta σ F' (fun v F2 => ∃ D, v = .ref D ∧ F2 D = some (.dT (letD ls)))) : EvG K pt (tDIn te ta) σ F (Is (.bool (decide (m ∈ ls)))) := fun H1 i g Q q =>
  hk H1 i g _ fun d v F2 H2 hd' s hv => hd F2 s.sub H2 s.inn s.good _ fun u F3 H3 ⟨D, hu, hD⟩ s2 => by
    subst hd'
    obtain ⟨a, xs, rfl, hl, ha⟩ := rp_tup hv
    have e1 := rpAll_ints ha
    subst e1
    refine ⟨D, _, hu, DGet.t (k := key m) (s2.inn _ _ hD) (by rw [key_kV]; exact s2.inn _ _ (s2.sub _ _ hl)), q _ _ F3 H3 rfl (s.trans s2) ?_⟩
    rw [valV_letD]
    by_cases z : m ∈ ls
    · rw [if_pos z]; simp only [Option.isSome_some, z, decide_true]; exact .bl true
    · rw [if_neg z]; simp only [Option.isSome_none, z, decide_false]; exact .bl false
end
/-! ### C.m(..), m a static method -/
end Fv
/-! the pot: expressions that lay nothing -/
namespace Fv
open PySem PySem.Spec PyProof.Rows L2 Evl StX
def EvC (te : TE) (σ : L2.St) (H : Hp) (v : V) : Prop := ∀ Q : VK, Q v H → te σ H Q
def EtC (t : TT) (σ : L2.St) (H : Hp) (b : Bool) : Prop := ∀ Q : Bool → Hp → Prop, Q b H → t σ H Q
section
variable {K : PySem.W.Frag} {σ : L2.St} {H : Hp} {te ta tb : TE} {t u : TT} {x y z : V} {r : L2.R2}
theorem ec_var {i : Nat} (h : σ[i]? = some (some x)) : EvC (tVar i) σ H x := fun Q q => ⟨x, h, q⟩
theorem ec_int {i : Int} : EvC (tC (.int i)) σ H (.int i) := fun Q q => q
theorem ec_op (ha : EvC ta σ H x) (hb : EvC tb σ H y) (hr : ∀ Q : VK, Q z H → r x y H Q) : EvC (tOp r ta tb) σ H z := fun Q q => ha _ (hb _ (hr Q q))
theorem ec_I0 {g : Int → Int → V} {i j : Int} (ha : EvC ta σ H (.int i)) (hb : EvC tb σ H (.int j)) : EvC (tOp (rI0 g) ta tb) σ H (g i j) := ec_op ha hb fun Q q => ⟨i, j, rfl, rfl, q⟩
theorem ec_I {C : Int → Int → Prop} {g : Int → Int → V} {i j : Int} (ha : EvC ta σ H (.int i)) (hb : EvC tb σ H (.int j)) (hc : C i j) : EvC (tOp (rI C g) ta tb) σ H (g i j) := ec_op ha hb fun Q q => ⟨i, j, rfl, rfl, hc, q⟩
theorem ec_eq {i j : Int} (ha : EvC ta σ H (.int i)) (hb : EvC tb σ H (.int j)) : EvC (tOp rEq ta tb) σ H (.bl (decide (i = j))) := ec_op ha hb fun Q q => by
  have : decide (V.int i = V.int j) = decide (i = j) := by by_cases h : i = j <;> simp [h]
  exact ⟨rfl, by rw [this]; exact q⟩
theorem ec_ixL {p : Addr} {xs : List V} {i : Int} {v : V} (ha : EvC ta σ H (.ref p)) (hb : EvC tb σ H (.int i)) (hp : H p = some (.lst xs)) (hi : atI xs i = some v) : EvC (tOp (rIxL K) ta tb) σ H v := ec_op ha hb fun Q q => ⟨p, xs, i, v, rfl, rfl, SqL.of hp, hi, q⟩
theorem ec_int1 {i : Int} (h : EvC te σ H (.int i)) : EvC (tCB (fun xs H Q => (∃ i, xs = [.int i] ∧ Q (.int i) H) ∨ ∃ k, xs = [.bl k] ∧ Q (.int (if k then 1 else 0)) H) (tCons te tNil)) σ H (.int i) := fun Q q => h _ (.inl ⟨i, rfl, q⟩)
theorem ec_len {p : Addr} {xs : List V} (h : EvC te σ H (.ref p)) (hp : H p = some (.lst xs)) : EvC (tCB (rLen K) (tCons te tNil)) σ H (.int xs.length) := fun Q q => h _ ⟨p, xs, rfl, .inl (SqL.of hp), q⟩
theorem etc_of {b : Bool} (h : EvC te σ H (.bl b)) : EtC (tTest te) σ H b := fun Q q => h _ ⟨b, rfl, q⟩
theorem etc_and {a b : Bool} (h1 : EtC t σ H a) (h2 : a = true → EtC u σ H b) : EtC (tAnd t u) σ H (a && b) := fun Q q => h1 _ (by
  cases a with
  | true => exact h2 rfl Q q
  | false => exact q)
/-- the pot as it stands -/
structure Pot (H : Hp) (q : Pt) (a b c : Int) : Prop where
  at_ : H q.p = some (.lst [.int a, .int b, .int c, .ref q.l])
  ls : H q.l = some (.lst (q.ns.map V.int))
  ne : q.l ≠ q.p
  few : q.ns.length ≤ 60
  a0 : 0 ≤ a
  b0 : 0 ≤ b
  b1 : b < 2147483647
  c0 : 0 ≤ c
  c1 : c ≤ q.ns.length
theorem Pot.of {q : Pt} (h : PotAt H q) : ∃ a b c, Pot H q a b c := by
  obtain ⟨a, b, c, h1, h2, h3, h4, h5, h6⟩ := h.ex
  exact ⟨a, b, c, h1, h.ls, h.ne, h.few, h2, h3, h4, h5, h6⟩
theorem Pot.pot {q : Pt} {a b c : Int} (h : Pot H q a b c) : PotAt H q := ⟨h.ne, h.ls, h.few, a, b, c, h.at_, h.a0, h.b0, h.b1, h.c0, h.c1⟩
theorem Pot.put {q : Pt} {a b c a' b' c' : Int} (h : Pot H q a b c) (h1 : 0 ≤ a') (h2 : 0 ≤ b') (h3 : b' < 2147483647) (h4 : 0 ≤ c') (h5 : c' ≤ q.ns.length) : Pot (upd H q.p (.lst [.int a', .int b', .int c', .ref q.l])) q a' b' c' :=
  ⟨upd_same, by rw [upd_ne h.ne]; exact h.ls, h.ne, h.few, h1, h2, h3, h4, h5⟩
theorem Step.pot {F : Hp} {q : Pt} {o : HO} (e : Ex F H) (g : Good (some q) F H) (h : PotAt (upd H q.p o) q) : Step (some q) F H F (upd H q.p o) := by
  have fp := (g q rfl).1
  refine ⟨Ex.refl F, fun a u h => ?_, fun a u hq h => ?_, fun q' hq => ?_, New.refl F H⟩
  · rw [upd_ne (fun z => by rw [z, fp] at h; cases h)]; exact e _ _ h
  · rw [upd_ne (hq q rfl)]; exact h
  · obtain rfl := Option.some.inj hq
    exact ⟨fp, h⟩
/-- pot[i] = e -/
theorem ts_put {q : Pt} {D : Ends} {tz : TS} {i : Int} {j : Nat} {v : V} {xs : List V} (h : EvC te σ H v) (h0 : σ[0]? = some (some (.ref q.p))) (hp : H q.p = some (.lst xs)) (hj : ixN xs.length i = some j) (k : tz D σ (upd H q.p (.lst (xs.set j v)))) :
    tSeq (tAsg te (gSub (tVar 0) (tC (.int i)) rSetL)) tz D σ H := h _ ⟨_, h0, ⟨q.p, xs, i, j, rfl, rfl, hp, hj, k⟩⟩
theorem ts_put1 {q : Pt} {D : Ends} {i : Int} {j : Nat} {v : V} {xs : List V} (h : EvC te σ H v) (h0 : σ[0]? = some (some (.ref q.p))) (hp : H q.p = some (.lst xs)) (hj : ixN xs.length i = some j) (k : D.nx σ (upd H q.p (.lst (xs.set j v)))) :
    tAsg te (gSub (tVar 0) (tC (.int i)) rSetL) D σ H := h _ ⟨_, h0, ⟨q.p, xs, i, j, rfl, rfl, hp, hj, k⟩⟩
theorem ts_asg {D : Ends} {tz : TS} {i : Nat} {v : V} (h : EvC te σ H v) (k : tz D (σ.set i (some v)) H) : tSeq (tAsg te (gName i)) tz D σ H := h _ k
theorem ts_ret {D : Ends} {v : V} (h : EvC te σ H v) (k : D.rt v H) : tRet te D σ H := h _ k
theorem ts_if {D : Ends} {tu tw tz : TS} {b : Bool} (h : EtC t σ H b) (k1 : b = true → tu { D with nx := tz D } σ H) (k2 : b = false → tw { D with nx := tz D } σ H) : tSeq (tIfS t tu tw) tz D σ H := h _ (by
  cases b with
  | true => exact k1 rfl
  | false => exact k2 rfl)
theorem ts_if1 {D : Ends} {tu tw : TS} {b : Bool} (h : EtC t σ H b) (k1 : b = true → tu D σ H) (k2 : b = false → tw D σ H) : tIfS t tu tw D σ H := h _ (by
  cases b with
  | true => exact k1 rfl
  | false => exact k2 rfl)
end
end Fv
namespace Fv
open PySem PySem.Spec PyProof.Rows L2 Evl StX
section
variable {σ : L2.St} {H : Hp} {t : TT}
theorem ts_when {D : Ends} {tu tz : TS} {b : Bool} (J : L2.St → Hp → Prop) (h : EtC t σ H b) (k1 : b = true → ∀ N : L2.St → Hp → Prop, (∀ σ' H', J σ' H' → N σ' H') → tu { D with nx := N } σ H) (k2 : b = false → J σ H) (k : ∀ σ' H', J σ' H' → tz D σ' H') :
    tSeq (tIfS t tu tNext) tz D σ H := ts_if h (fun e => k1 e _ fun σ' H' j => k σ' H' j) fun e => k σ H (k2 e)
end
theorem fm0 (i : Int) {j : Int} (h : 0 < j) : 0 ≤ i.fmod j ∧ i.fmod j < j := ⟨Int.fmod_nonneg_of_pos i h, Int.fmod_lt_of_pos i h⟩
end Fv
namespace Fv
open PySem PySem.Spec PyProof.Rows L2 Evl StX
/-- a promise of a def that takes the pot and a number -/
def spP (K : PySem.W.Frag) (P : Int → Prop) (R : Int → PD) : Sp := fun vs H Q _ => ∃ (q : Pt) (m : Int) (F : Hp), vs = [.ref q.p, .int m] ∧ P m ∧ Ex F H ∧ Good (some q) F H ∧ ∀ d v F2 H2, R m d → Step (some q) F H F2 H2 → Rp K F2 v d → Q v H2
theorem spP.len {K : PySem.W.Frag} {P : Int → Prop} {R : Int → PD} : ∀ vs H Q E, spP K P R vs H Q E → vs.length = 2 := fun vs H Q E ⟨_, _, _, h, _⟩ => by rw [h]; rfl
section
variable {K : PySem.W.Frag} {pt : Option Pt} {σ : L2.St} {F F' H : Hp} {te ta tb : TE} {ts tr : TA} {t u : TT} {R R1 S2 R3 : PD} {d e z : PyData} {r : L2.R2}
theorem g_callP {P : Int → Prop} {R : Int → PD} {E : XK} {q : Pt} {i : Nat} {m : Int} (h0 : σ[i]? = some (some (.ref q.p))) (h : EvG K (some q) te σ F (Is (.int m))) (hp : P m) : EvG K (some q) (tCall (spP K P R) [] E (tCons (tVar i) (tCons te tNil))) σ F (R m) := fun H1 e g Q k =>
  ⟨_, h0, h H1 e g _ fun d v F2 H2 hd s hv => by
    subst hd
    obtain rfl := rp_int hv
    exact ⟨q, m, F2, rfl, hp, s.inn, s.good, fun d v F3 H3 hr s3 hv3 => k d v F3 H3 hr (s.trans s3) hv3⟩⟩
theorem rv_shl {j : Nat} (h : j ≤ 60) : RvG K (rI CPow fun i j => .int (i * 2 ^ j.toNat)) (.int 1) (.int (j : Int)) (Is (.int (2 ^ j))) := fun F H x y i hx hy Q q => rv_I (f := fun i j => .int (i * 2 ^ j.toNat)) (C := CPow) (show CPow 1 (j : Int) from ⟨by omega, by omega, by decide⟩) (fun F => .int _) F H x y i hx hy Q fun z v F2 H2 hz s hv => q z v F2 H2 (by rw [show z = _ from hz]; simp) s hv
theorem rv_shr {i j : Int} (h : 0 ≤ j) : RvG K (rI (fun _ j => 0 ≤ j) fun i j => .int (i / 2 ^ j.toNat)) (.int i) (.int j) (Is (.int (i / 2 ^ j.toNat))) := rv_I (f := fun i j => .int (i / 2 ^ j.toNat)) h fun F => .int _
theorem rv_and {i j : Int} : RvG K (rI0 fun i j => .int (Builtin.bitAnd i j)) (.int i) (.int j) (Is (.int (Builtin.bitAnd i j))) := rv_I0 (f := fun i j => .int (Builtin.bitAnd i j)) fun F => .int _
theorem rc_int1 {i : Int} : RcG K (fun xs H Q => (∃ i, xs = [.int i] ∧ Q (.int i) H) ∨ ∃ k, xs = [.bl k] ∧ Q (.int (if k then 1 else 0)) H) [.int i] (Is (.int i)) := rc_val fun F H vs e h => by
  have hv : vs = [.int i] := rpAll_ints (ns := [i]) h
  exact ⟨.int i, fun Q q => .inl ⟨i, hv, q⟩, .int i⟩
/-- script[0:60] -/
theorem g_slS {a : Addr} {ns : List Int} {i : Nat} (h0 : σ[i]? = some (some (.ref a))) (h : SqL K F a (ns.map V.int)) : EvG K pt (tSl (rSlL K) (tVar i) (tPart (tC (.int 0))) (tPart (tC (.int 60)))) σ F (Is (.list ((ns.take 60).map .int))) := fun H1 e g Q q => by
  refine ⟨_, h0, 0, rfl, 60, rfl, a, ns.map V.int, rfl, ex_l e h, fun p hp => ?_⟩
  have e1 : cutV (ns.map V.int) (some 0) (some 60) = (ns.take 60).map V.int := by
    unfold cutV
    rw [show HT.sIx (ns.map V.int).length 0 (some 0) = min 0 (ns.map V.int).length from HT.sIx_nat _ _ 0, show HT.sIx (ns.map V.int).length (ns.map V.int).length (some 60) = min 60 (ns.map V.int).length from HT.sIx_nat _ _ 60, Nat.zero_min, List.drop_zero, Nat.sub_zero, List.map_take]
    by_cases z : 60 ≤ (ns.map V.int).length
    · rw [Nat.min_eq_left z]
    · rw [Nat.min_eq_right (by omega), List.take_of_length_le (Nat.le_refl _), List.take_of_length_le (by omega)]
  rw [e1]
  have s3 : Step pt F H1 (upd F p (.lst ((ns.take 60).map V.int))) (upd H1 p (.lst ((ns.take 60).map V.int))) := .laid e g hp
  exact q _ _ _ _ rfl s3 (.lst upd_same (rpAll_of_ints _))
theorem g_propD {C x dx : Addr} {fs : List (Str × V)} {sp : Sp} {E : XK} {i : Nat} {z : PyData} (h0 : σ[i]? = some (some (.ref x))) (ho : F x = some (.ins C dx fs))
    (hs : ∀ F1 H1, Ex F F1 → Ex F1 H1 → ∀ Q : VK, (∀ v F2 H2, Step none F1 H1 F2 H2 → Rp K F2 v z → Q v H2) → sp [.ref x] H1 Q E) : EvG K pt (tProp C sp [] E (tVar i)) σ F (Is z) := fun H1 e g Q q =>
  ⟨_, h0, x, dx, fs, rfl, e _ _ ho, hs F H1 (Ex.refl F) e Q fun v F3 H3 s3 hv3 => q _ v F3 H3 rfl (s3.lift g) hv3⟩
end
section
variable {K : PySem.W.Frag} {pt : Option Pt} {σ : L2.St} {F0 H0 F H : Hp} {te : TE} {D : Ends} {tz : TS} {Φ : V → Hp → Prop}
theorem t_asgX {i : Nat} (s : Step pt F0 H0 F H) (h : EvX pt te σ F Φ) (q : ∀ v F2 H2, Φ v F2 → Step pt F0 H0 F2 H2 → Ex F F2 → tz D (σ.set i (some v)) H2) : tSeq (tAsg te (gName i)) tz D σ H :=
  h H s.inn s.good _ fun v F2 H2 hv s2 => q v F2 H2 hv (s.trans s2) s2.sub
theorem t_retLst {ts : TA} {ds : List PyData} (s : Step pt F0 H0 F H) (h : EvsG K pt ts σ F (· = ds)) (k : ∀ vs F2 H2, Step pt F0 H0 F2 H2 → RpAll K F2 vs ds → vs.length ≤ sizeLine ∧ ∀ p, H2 p = none → D.rt (.ref p) (upd H2 p (.lst vs))) : tRet (tLst ts) D σ H :=
  h H s.inn s.good _ fun ds' vs F2 H2 hd s2 hv => by
    subst hd
    exact k vs F2 H2 (s.trans s2) hv
theorem t_retX (s : Step pt F0 H0 F H) (h : EvX pt te σ F Φ) (q : ∀ v F2 H2, Φ v F2 → Step pt F0 H0 F2 H2 → D.rt v H2) : tRet te D σ H :=
  h H s.inn s.good _ fun v F2 H2 hv s2 => q v F2 H2 hv (s.trans s2)
end
end Fv
namespace Fv
open PySem PySem.Spec PyProof.Rows L2 Evl StX
end Fv
/-! rows with gaps: None or a whole number at each place -/
namespace Fv
open PySem PySem.Spec PyProof.Rows L2 Evl StX
def optD : Option Int → PyData
  | none => .none
  | some i => .int i
abbrev dO (v : List (Option Int)) : PyData := .tuple (v.map optD)
abbrev natD (k : Nat) : PyData := .int (k : Int)
theorem rng_nat (n : Nat) : rng 0 n = (List.range n).map natD := by
  unfold rng
  refine List.map_congr_left fun k _ => ?_
  simp
section
variable {K : PySem.W.Frag} {pt : Option Pt} {σ : L2.St} {F F' H : Hp} {te ta tb : TE} {ts tr : TA} {t u : TT} {R R1 : PD} {d e z : PyData}
theorem rv_isB {a b : Bool} : RvG K rIsB (.bool a) (.bool b) (Is (.bool (decide (a = b)))) := rv_val fun F H x y _ hx hy => ⟨_, fun Q q => ⟨a, b, rp_bool hx, rp_bool hy, q⟩, .bl _⟩
/-- range(len(x)) -/
theorem w_len {ds : List PyData} {n : Nat} (h : EvG K pt te σ F (Is (.tuple ds))) (hn : ds.length = n) (hz : n ≤ 100000) : WiG K pt (iRng1 (tCons (tCB (rLen K) (tCons te tNil)) tNil)) σ F (· = (List.range n).map natD) := by
  have := w_rng1I (K := K) (pt := pt) (σ := σ) (F := F) (n := (n : Int)) (gs_one ((g_cbI (gs_one h) rc_lenT).is (by rw [hn]))) (by omega) (by omega)
  rw [show (n : Int).toNat = n by omega, rng_nat] at this
  exact this
theorem w_range {n : Nat} (h : EvG K pt te σ F (Is (.int (n : Int)))) (hz : n ≤ 100000) : WiG K pt (iRng1 (tCons te tNil)) σ F (· = (List.range n).map natD) := by
  have := w_rng1I (K := K) (pt := pt) (σ := σ) (F := F) (n := (n : Int)) (gs_one h) (by omega) (by omega)
  rw [show (n : Int).toNat = n by omega, rng_nat] at this
  exact this
end
end Fv
namespace Fv
open PySem PySem.Spec PyProof.Rows L2 Evl StX
/-- a promise of a def that takes the pot and data -/
def spQ {ι : Type} (K : PySem.W.Frag) (A : ι → List PyData) (P : ι → Prop) (R : ι → PD) : Sp := fun vs H Q _ => ∃ (q : Pt) (i : ι) (F : Hp) (as : List V), vs = .ref q.p :: as ∧ P i ∧ Ex F H ∧ Good (some q) F H ∧ RpAll K F as (A i) ∧ ∀ d v F2 H2, R i d → Step (some q) F H F2 H2 → Rp K F2 v d → Q v H2
theorem spQ.len {ι : Type} {K : PySem.W.Frag} {A : ι → List PyData} {P : ι → Prop} {R : ι → PD} {n : Nat} (h : ∀ i, (A i).length = n) : ∀ vs H Q E, spQ K A P R vs H Q E → vs.length = n + 1 := fun vs H Q E ⟨_, i, _, _, e, _, _, _, r, _⟩ => by rw [e, List.length_cons, r.length, h]
section
variable {K : PySem.W.Frag} {pt : Option Pt} {σ : L2.St} {F F' F0 H0 H : Hp} {te ta tb : TE} {ts tr : TA} {t u : TT} {R R1 : PD} {d e z : PyData} {D : Ends} {tz tu : TS} {wi : TI}
theorem g_callQ {ι : Type} {A : ι → List PyData} {P : ι → Prop} {R : ι → PD} {E : XK} {q : Pt} {i : Nat} {ds : List PyData} (x : ι) (h0 : σ[i]? = some (some (.ref q.p))) (h : EvsG K (some q) ts σ F (· = ds)) (ha : ds = A x) (hp : P x) : EvG K (some q) (tCall (spQ K A P R) [] E (tCons (tVar i) ts)) σ F (R x) := fun H1 e g Q k =>
  ⟨_, h0, h H1 e g _ fun ds' vs F2 H2 hd s hv => by
    rw [hd, ha] at hv
    exact ⟨q, x, F2, vs, by rw [List.append_nil], hp, s.inn, s.good, hv, fun d v F3 H3 hr s3 hv3 => k d v F3 H3 hr (s.trans s3) hv3⟩⟩
/-! ### two lists of one's own -/
structure Two (K : PySem.W.Frag) (pt : Option Pt) (F0 H0 : Hp) (l m : Addr) (F H : Hp) (ls ms : List PyData) : Prop where
  step : Step pt F0 H0 F H
  ne : l ≠ m
  h1 : H0 l = none
  h2 : H0 m = none
  o1 : F l = none
  o2 : F m = none
  e1 : ∃ xs, H l = some (.lst xs) ∧ RpAll K F xs ls
  e2 : ∃ xs, H m = some (.lst xs) ∧ RpAll K F xs ms
variable {l m : Addr} {ls ms : List PyData} {F2 H2 : Hp}
theorem Two.run (g0 : Good pt F0 H0) (w : Two K pt F0 H0 l m F H ls ms) (s : Step pt F H F2 H2) : Two K pt F0 H0 l m F2 H2 ls ms := by
  obtain ⟨xs, a1, a2⟩ := w.e1
  obtain ⟨ys, b1, b2⟩ := w.e2
  obtain ⟨f1, k1⟩ := s.beside g0 w.h1 w.o1 a1
  obtain ⟨f2, k2⟩ := s.beside g0 w.h2 w.o2 b1
  exact ⟨w.step.trans s, w.ne, w.h1, w.h2, f1, f2, ⟨xs, k1, RpAll.mono s.sub _ _ a2⟩, ⟨ys, k2, RpAll.mono s.sub _ _ b2⟩⟩
theorem Two.swap (w : Two K pt F0 H0 l m F H ls ms) : Two K pt F0 H0 m l F H ms ls := ⟨w.step, w.ne.symm, w.h2, w.h1, w.o2, w.o1, w.e2, w.e1⟩
theorem RpAll.erase : ∀ {ds : List PyData} {vs : List V} (i : Nat), RpAll K F vs ds → RpAll K F (vs.eraseIdx i) (ds.eraseIdx i)
  | [], _, i, h => by cases h; cases i <;> exact .nil
  | d :: ds, _, 0, h => by
    cases h with
    | cons h1 h2 => exact h2
  | d :: ds, _, i + 1, h => by
    cases h with
    | cons h1 h2 => exact .cons h1 (RpAll.erase i h2)
/-- the length of one's own list -/
theorem Two.len (w : Two K pt F0 H0 l m F H ls ms) : ∃ xs, H l = some (.lst xs) ∧ xs.length = ls.length := by
  obtain ⟨xs, a1, a2⟩ := w.e1
  exact ⟨xs, a1, a2.length⟩
theorem not_in {F H : Hp} {l : Addr} (e : Ex F H) (h : H l = none) : F l = none := by
  cases z : F l with
  | none => rfl
  | some o => have := e _ _ z; rw [h] at this; cases this
end
end Fv
namespace Fv
open PySem PySem.Spec PyProof.Rows L2 Evl StX
end Fv
/-! C.__init__(self, ..) of an exception class C of the program whose __init__ is ValueError's -/
namespace Fv
open PySem PySem.Spec PyProof.Rows L2 Evl StX
section
variable {X : Cx} {e : Expr} {es : List Expr} {ta : TA} {p1 p2 pos : Pos} {x : Str} {C : Addr} {mc : Value}
theorem pe_fminit {pl : Sem Bool} (hg : Gl X x) (hm : X.mg x = some (.ref C)) (r : ClX.CRead X.K C mc) (vV : PySem.W.findCls X.K (.ref C) mc "__init__" = some (.val (.builtin "ValueError.__init__"))) (ha : PA X (e :: es) ta)
    (hdb : (x == ("__debug__" : Str)) = false := by decide)
    (hc : eval (.Call (.Attribute (.Name x p1) "__init__" p2) (e :: es) [] pos) X.env = (do
      let ov ← eval (.Name x p1) X.env
      standAt p2.atName
      let (f, first) ← holding [ov] (getMethod ov "__init__" pl)
      callWith pos f first (backTo pos (starEach (e :: es) X.env)) (backToKw pos (keywordEach [] X.env))) := by rfl)
    (he : starEach (e :: es) X.env = (false, eval e X.env) :: starEach es X.env := by rfl) (hpl : (backTo pos (starEach es X.env)).any (·.1) = false := by rfl) :
    PE X (.Call (.Attribute (.Name x p1) "__init__" p2) (e :: es) [] pos) (tVeI X.K ta) := by
  refine ⟨fun pins s σ H Q I h => ?_⟩
  refine PySem.W.methodCall_KW (pl := pl) (ld_glob I hg hm ?_ hdb) hc
  refine PySem.W.method_cls I.kIn r.ga (PySem.W.cls_value I.kIn r.rd vV (by decide +kernel) ?_)
  show wpAny _ _ (callWith pos (Value.builtin "ValueError.__init__") [] (backTo pos (starEach (e :: es) X.env)) []) _ _ _
  refine PyProof.Rows.callWith_method1 (thn (ha.run pos pins _ σ H _ (I.tok _) h) fun us s1 ⟨vs, H1, I1, r1, a, C, ws, ev, hl, T, ea, q⟩ => ?_) he hpl
  subst ev
  cases r1 with
  | @cons _ u0 _ ur ra rw' =>
    obtain rfl : u0 = Value.ref a := ra
    have hlen : ur.length ≤ sizeLine := by
      rw [← Paired.length rw', sizeLine_eq]
      omega
    exact oinit_ok T I1 ea hlen fun s' J => ⟨.non, H1, J, rfl, q⟩
end
end Fv
/-! promises of defs where no text of a list is being made around them (so that repr of one is known) -/
namespace Fv
open PySem PySem.Spec PyProof.Rows L2 Evl StX
/-- nothing is being shown -/
def Calmly (A : Around) : Prop := A.guards = some []
theorem Calmly.deeper {A : Around} (c : Calmly A) (env : Env) : Calmly (A.deeper env) := c
theorem Calmly.mark {A : Around} (c : Calmly A) (v : Option Value) : Calmly (A.mark v) := c
structure FnG (P : Program) (w : World) (K : PySem.W.Frag) (mg : Str → Option Value) (base : Heap) (CX : CXT) (k : Nat) (f : Addr) (fd : FuncData) (ps : List Str) (sp : Sp) : Prop where
  ln : ∀ vs H Q E, sp vs H Q E → vs.length = ps.length
  go : ∀ (A : Around) (out : List Env) (s : Shared) (H : Hp) (as : Args) (us : List Value) (vs : List V) (Q : VK) (E : XK), Calmly A → Room k A → Env0 P w K mg base A out s H → BindsTo s fd as (ps.zip us) → Vals vs us → sp vs H Q E → codeAny (model P w) A (.call (.ref f) as) (CR CX out P w H s Q E) s
theorem gfn_mk {CX : CXT} {P : Program} {w : World} {K : PySem.W.Frag} {mg : Str → Option Value} {base : Heap} {k : Nat} {f : Addr} {nm ql : Str} {pr : Arguments} {bd : List Stmt} {sc : Scope} {d1 d2 d3 d4 cv d5 oc : Value} {an od : Option Addr} {sl : Array (Option Value)} {N ps : List Str} {sp : Sp}
    (lk : K.lookup f = some ⟨oc, od, .func (PySem.W.fnOf nm ql pr bd sc d1 d2 d3 d4 an cv d5), sl⟩) (hc : PySem.W.codeIn K cv ql = true) (S : FnScope N ps sc) (ln : ∀ vs H Q E, sp vs H Q E → vs.length = ps.length)
    (hb : ∀ (A : Around) (out : List Env) (s : Shared) (H : Hp) (vs : List V) (Q : VK) (E : XK), Calmly A → Room k (A.deeper (envOfC ql sc s.heap.objs.size f cv)) → sp vs H Q E → ∃ t, PSs (cxOf CX P w K mg base N ql sc f cv A out s H E) bd t ∧ t { nx := fun _ H2 => Q .non H2, rt := Q } (start N vs) H) :
    FnG P w K mg base CX (k + 1) f (PySem.W.fnOf nm ql pr bd sc d1 d2 d3 d4 an cv d5) ps sp := by
  refine ⟨ln, fun A out s H as us vs Q E cm room e0 bi rv hs => ?_⟩
  have lv := ln _ _ _ _ hs
  have kin : K.In s.heap := e0.mod.kin.keeps fun b o z => (e0.bs b o z).1
  have nol : s.heap.NoLimit := e0.mod.nolimit.keeps fun b o z => (e0.bs b o z).1
  have kinds : ∀ y ∈ ps.zip us, sc.names.lookup y.1 = some .local ∨ (sc.names.lookup y.1 = some .cell ∧ ((cellsFrom (s.heap.objs.size + 1) sc.names []).lookup y.1).isSome = true) := by
    rintro ⟨x, v⟩ hy
    exact (S.par x (List.of_mem_zip hy).1).imp id fun z => ⟨z, PySem.W.cellsFrom_some _ _ _ (.inl z)⟩
  refine codeAny_call_function room.depth (kin _ _ lk) rfl S.co S.gen rfl (PySem.W.codeRec_of kin hc) (bi _ _ _ _ (wpAny_newFunctionEnv_cells S.kind kinds fun env he s2 y => ?_)); subst he
  refine ⟨nol.keeps y.toInCall.keep, codeAny_func ?_⟩; obtain ⟨t, ht, hq⟩ := hb A out s H vs Q E cm (room.deeper _) hs
  refine wpAny_mono (ht.run [] s2 (start N vs) H _ (inv_start S room.hd e0 lv rv y) hq) (fun fl s3 z => ?_) fun _ _ z => z
  cases fl with
  | brk => exact (z.elim fun _ z => z.elim fun _ z => z.2).elim
  | cont => exact (z.elim fun _ z => z.elim fun _ z => z.2).elim
  | next => obtain ⟨σ2, H2, J, q⟩ := z; exact ⟨V.non, H2, J.os, J.bare, J.base, J.hok, rfl, q⟩
  | ret u => obtain ⟨v, σ2, H2, J, ru, q⟩ := z; exact ⟨v, H2, J.os, J.bare, J.base, J.hok, ru, q⟩
section
variable {X : Cx} {CX : CXT} {k : Nat} {f : Addr} {fd : FuncData} {ps : List Str} {sp : Sp} {ds : List Value} {dvs : List V} {E : XK} {x : Str} {p pos : Pos} {e : Expr} {es : List Expr} {t : TA}
/-- x(e, ..) of such a def -/
theorem pe_callG (F : FnG X.prog X.w X.K X.mg X.base CX k f fd ps sp) (cm : Calmly X.A) (room : Room k X.A) (gl : Gl X x) (hm : X.mg x = some (.ref f)) (kp : PySem.W.keepIn X.K (.ref f) = true) (hb : Binds X.K fd ps ds) (hd : Vals dvs ds) (hx : Passes CX X E) (ha : PA X (e :: es) t)
    (h1 : (x == ("__debug__" : Str)) = false := by decide) (h2 : starEach (e :: es) X.env = (false, eval e X.env) :: starEach es X.env := by rfl) (h3 : (backTo pos (starEach es X.env)).any (·.1) = false := by rfl) : PE X (.Call (.Name x p) (e :: es) [] pos) (tCall sp dvs E t) := by
  constructor
  intro pins s σ H Q I h
  refine wpAny_Call_Name_kw (ld_glob I gl hm (PySem.W.callWith_K (h₀ := X.base) I.ok.mod.kin kp (thn (ha.run pos pins s σ H _ I h) fun us s1 z => ?_) h2 h3) h1)
  obtain ⟨vs, H1, I1, rv, q⟩ := z
  have r2 : Vals (vs ++ dvs) (us ++ ds) := rv.append hd
  have hl : (us ++ ds).length = ps.length := r2.length.symm.trans (F.ln _ _ _ _ q)
  refine ⟨I1.kIn, wpAny_call (codeAny_mono (F.go X.A X.stack s1 H1 ⟨us, []⟩ (us ++ ds) (vs ++ dvs) Q E cm room I1.env0 (hb s1 us I1.kIn hl) r2 q) fun r s' hq => ?_)⟩
  match r, hq with
  | .error er, hq => exact hx pins σ H1 s1 er s' I1 hq
  | .ok (.ret u), hq => exact I1.after hq
end
end Fv
/-! the law's own call: nothing is being shown around it -/
namespace Fv
open PySem PySem.Spec PyProof.Rows L2 Evl StX
theorem calm_top : Calmly callerA := rfl
/-- the law, called from an abstract heap that tracks the script alone, or nothing -/
theorem lawG_core {P : Program} {w : World} {K : PySem.W.Frag} {mg mb : Str → Option Value} {CX : CXT} {k : Nat} {fa a : Addr} {fd : FuncData} {x : Str} {sp : Sp} {s1 : Shared} {ob : Obj} {H : Hp}
    (kin : K.In s1.heap) (n1 : s1.heap.Ns mainGlobals mg) (n2 : s1.heap.Ns builtinsNs mb) (n3 : ∀ y : Str, y ≠ "__name__" → mb y = bootBuiltins y) (lim : s1.heap.NoLimit) (gs : s1.gens = #[]) (ga : s1.heap.get? a = some ob) (nd : ∀ es ep, ob.data ≠ .dict es ep) (room : Room k callerA)
    (F : ∀ base : Heap, K.In base → base.Ns mainGlobals mg → FnG P w K mg base CX k fa fd [x] sp) (bi : ∀ (s : Shared) (u : Value), BindsTo s fd ⟨[u], []⟩ [(x, u)]) (only : Only H) (hs : sp [.ref a] H (fun v _ => v = .bl true) fun _ _ _ => False) (hCX : ∀ e s', CX [] H s1 (fun _ _ _ => False) e s' → False)
    (hok : HOk P w H s1.heap) (hA : ∀ b, H b ≠ none → b = a ∧ K.lookup a = none) :
    codeAny (model P w) callerA (.call (.ref fa) ⟨[.ref a], []⟩) (fun r s' => r = .ok (.ret (.bool true)) ∧ OldK s1.heap s'.heap ∧ s'.os = s1.os ∧ AllBare s'.gens) s1 := by
  have free : ∀ {b : Addr} {o : Obj}, s1.heap.get? b = some o → (∀ z : b = a, False) → H b = none := fun {b o} _ hb => by
    cases q : H b with
    | none => rfl
    | some u => exact (hb (hA b (by rw [q]; exact fun z => by cases z)).1).elim
  have ns : ∀ {b : Addr} {m : Str → Option Value}, s1.heap.Ns b m → (hidT s1.heap H).Ns b m := by
    rintro b m ⟨o, es, ep, z1, z2, z3⟩
    exact ⟨o, es, ep, hidT_get z1 (free z1 fun z => by subst z; rw [ga] at z1; cases z1; exact nd _ _ z2), z2, z3⟩
  have kb : K.In (hidT s1.heap H) := fun b o z => hidT_get (kin b o z) (by
    cases q : H b with
    | none => rfl
    | some u =>
      obtain ⟨rfl, z2⟩ := hA b (by rw [q]; exact fun z => by cases z)
      rw [z2] at z; cases z)
  obtain ⟨mc, c1, c2⟩ := lim
  have md : Mod K mg (hidT s1.heap H) := ⟨kb, ns n1, ⟨mb, ns n2, n3⟩, mc, ns c1, c2⟩
  have e0 : Env0 P w K mg (hidT s1.heap H) callerA [] s1 H := ⟨rfl, md, fun b o z => of_hidT z, Nat.le_of_eq (hidT_size _ _), trivial, fun b z => absurd z (List.not_mem_nil), hok, .of_eq gs⟩
  have run := (F _ kb (ns n1)).go callerA [] s1 H ⟨[.ref a], []⟩ [.ref a] [.ref a] _ _ calm_top room e0 (bi s1 (.ref a)) (.cons rfl .nil) hs
  refine codeAny_mono run fun r s' h => ?_
  match r, h with
  | .error e, h => exact (hCX e s' h).elim
  | .ok (.ret u), h =>
    obtain ⟨v, H2, o2, b2, un, hok2, rv, rfl⟩ := h
    obtain rfl : u = Value.bool true := rv
    refine ⟨rfl, .of_keep fun b o z => ?_, o2, b2⟩
    cases q : H b with
    | none => exact un.keep b o z q (fun m => by cases m) (fun m => by cases m)
    | some u =>
      rcases only b with y | ⟨oo, xs, y⟩
      · rw [q] at y; cases y
      · have g2 := (hok2 b _ (un.frzs b oo _ y)).1
        have g1 := (hok b _ y).1
        rw [z] at g1; cases g1; exact g2
theorem lawG {P : Program} {w : World} {K : PySem.W.Frag} {mg mb : Str → Option Value} {CX : CXT} {k : Nat} {fa a : Addr} {fd : FuncData} {x : Str} {sp : Sp} {s1 : Shared} {vs : List Value} {ns : List Int}
    (kin : K.In s1.heap) (n1 : s1.heap.Ns mainGlobals mg) (n2 : s1.heap.Ns builtinsNs mb) (n3 : ∀ y : Str, y ≠ "__name__" → mb y = bootBuiltins y) (lim : s1.heap.NoLimit) (gs : s1.gens = #[]) (ga : s1.heap.get? a = some { cls := .type "list", data := .seq vs.toArray }) (whs : IntsAre vs ns) (few : ns.length ≤ sizeLine) (room : Room k callerA)
    (F : ∀ base : Heap, K.In base → base.Ns mainGlobals mg → FnG P w K mg base CX k fa fd [x] sp) (bi : ∀ (s : Shared) (u : Value), BindsTo s fd ⟨[u], []⟩ [(x, u)])
    (hs : ∀ H : Hp, Only H → SqL K H a (ns.map V.int) → sp [.ref a] H (fun v _ => v = .bl true) fun _ _ _ => False) (hCX : ∀ H e s', CX [] H s1 (fun _ _ _ => False) e s' → False) :
    codeAny (model P w) callerA (.call (.ref fa) ⟨[.ref a], []⟩) (fun r s' => r = .ok (.ret (.bool true)) ∧ OldK s1.heap s'.heap ∧ s'.os = s1.os ∧ AllBare s'.gens) s1 := by
  have rv := vals_ints whs
  have noD : ∀ es ep, (({ cls := .type "list", data := .seq vs.toArray } : Obj)).data ≠ .dict es ep := fun es ep z => by cases z
  cases hk : K.lookup a with
  | some o =>
    have z := kin a o hk
    rw [ga] at z; cases z
    refine lawG_core (H := fun _ => none) kin n1 n2 n3 lim gs ga noD room F bi (fun _ => .inl rfl) (hs _ (fun _ => .inl rfl) (.inr ⟨_, vs.toArray, _, hk, rfl, rfl, rfl, ?_, by simpa using rv⟩)) (hCX _) (fun b u q => by cases (show (none : Option HO) = some u from q)) fun b z => (z rfl).elim
    rw [List.size_toArray, whs.length]; exact few
  | none =>
    let ob : Obj := { cls := .type "list", data := .seq vs.toArray }
    let H : Hp := fun b => if b = a then some (.frz ob (.lst (ns.map V.int))) else none
    have at_ : H a = some (.frz ob (.lst (ns.map V.int))) := if_pos rfl
    have on : Only H := fun b => (Classical.em (b = a)).elim (fun z => .inr ⟨_, _, if_pos z⟩) fun z => .inl (if_neg z)
    refine lawG_core (H := H) kin n1 n2 n3 lim gs ga noD room F bi on (hs _ on (.inl (.inr ⟨ob, at_⟩))) (hCX _) (fun b u q => ?_) fun b z => ?_
    · by_cases y : b = a
      · subst y
        rw [at_] at q; cases q
        exact ⟨ga, by rw [List.length_map]; exact few, vs, _, rv, ga⟩
      · rw [show H b = none from if_neg y] at q; cases q
    · by_cases y : b = a
      · exact ⟨y, hk⟩
      · exact (z (if_neg y)).elim
theorem walkG {l : PySem.W.OpenLaw} {n k : Nat} {q : Program} {lo : List Str} {XP : (Str → Option Value) → Heap → Prop} {YP : World → Heap → Prop} {d : DefRec} {K : Params → PySem.W.Frag} {CX : World → CXT} {sp : World → Sp} {x : Str} (hn : l.most = some n) (hn2 : n ≤ sizeLine) (hdf : d.params.defaults = []) (room : Room k callerA) (hY : ∀ (w : World) (h : Heap), YP w h → (K w.params).In h)
    (F : ∀ (w : World) (mg : Str → Option Value) (fa : Addr) (h : Heap), (K w.params).In h → h.Ns mainGlobals mg → mg d.name = some (.ref fa) → ∃ fd : FuncData, (∀ (s : Shared) (u : Value), BindsTo s fd ⟨[u], []⟩ [(x, u)]) ∧ ∀ base : Heap, (K w.params).In base → base.Ns mainGlobals mg → FnG l.prog w (K w.params) mg base (CX w) k fa fd [x] (sp w))
    (hs : ∀ (w : World) (H : Hp) (a : Addr) (ns : List Int), ns.length ≤ n → Only H → SqL (K w.params) H a (ns.map V.int) → sp w [.ref a] H (fun v _ => v = .bl true) fun _ _ _ => False) (hCX : ∀ (w : World) (H : Hp) (s : Shared) (e : Value) (s' : Shared), CX w [] H s (fun _ _ _ => False) e s' → False) :
    PySem.W.WalkO q lo XP YP l.row.toRowW d [] (fun f vs => PySem.call f vs) := by
  refine Att.attach_call hn hdf fun w s0 s1 mg mb fa o pm cd doc a vs ns G Y ho hd hcd hmg hobj hints hlen hg => ?_
  obtain ⟨fd, bi, FF⟩ := F w mg fa _ (hY w _ Y) G.T.g hmg
  exact lawG (hY w _ Y) G.T.g G.T.b G.T.builtins G.T.nolimit hg hobj hints (Nat.le_trans hlen hn2) room FF bi (fun H o S => hs w H a ns hlen o S) fun H e s' => hCX w H s1 e s'
end Fv
/-! repr; x in t for a tuple of data of any depth; isinstance of a caught exception with fields -/
namespace Fv
open PySem PySem.Spec PyProof.Rows L2 Evl StX
section
variable {X : Cx} {K : PySem.W.Frag}
/-! ### repr -/
def rRepr (K : PySem.W.Frag) : List V → Hp → VK → Prop := fun xs H Q => ∃ (v : V) (d : PyData), xs = [v] ∧ Dp K H v d ∧ d.showable = true ∧ d.hasDict = false ∧ d.shown.length ≤ sizeLine ∧ d.depth ≤ 60 ∧ Q (.str d.shown) H
theorem c_repr (cm : Calmly X.A) (hu : X.A.units + 65 < cLine) (h : X.K = K := by rfl) : CallR X (.builtin "repr") (rRepr K) := by
  subst h
  intro pins s σ H xs us Q I r q0
  obtain ⟨v, d, rfl, hd, s1, s2, s3, s4, q⟩ := q0
  obtain ⟨u, rfl, rv⟩ := vals1 r
  obtain ⟨as, rd⟩ := Dp.reads I d v u hd rv
  have no : d.hasDict = true → sysModules ∉ as := fun z => by rw [s2] at z; cases z
  have ref : ∀ a, u = .ref a → wpAny (model X.prog X.w) X.A (call (.builtin "repr") [u]) (EP X pins σ Q) X.xe s := fun a z => by
    subst z
    exact repr_of_reads' rd s1 no cm (by omega) (fun _ _ e => e) (fun h' t tk k => ⟨.str d.shown, H, I.kept k, ⟨t, rfl⟩, q⟩) s3
  cases hd with
  | non => cases rv; exact P.repr_of_none ⟨.str _, H, I.tok _, ⟨_, rfl⟩, q⟩
  | bl b => cases rv; exact P.repr_of_bool ⟨.str _, H, I.tok _, ⟨_, rfl⟩, q⟩
  | int i =>
    obtain ⟨t, rfl⟩ := rv
    exact P.repr_of_int (by simpa [PyData.showable] using s1) ⟨.str _, H, I.tok _, ⟨_, rfl⟩, q⟩
  | str x =>
    obtain ⟨t, rfl⟩ := rv
    exact P.repr_of_str ⟨.str _, H, I.tok _, ⟨_, rfl⟩, q⟩ s3
  | lst hs ha => exact ref _ rv
  | tup hs ha => exact ref _ rv
/-! ### in -/
def rInU (K : PySem.W.Frag) (neg : Bool) : R2 := fun x y H Q => ∃ d ds, Dp K H x d ∧ Dp K H y (.tuple ds) ∧ SeqAt.shaped d = true ∧ SeqAt.shaped (.tuple ds) = true ∧ Q (.bl (if neg then !ds.any fun z => PyData.eqv z d else ds.any fun z => PyData.eqv z d)) H
theorem o_ninU (hu : X.A.units + 65 < cLine) (h : X.K = K := by rfl) : OpR X (compareOp .NotIn) (rInU K true) := by
  subst h
  intro pins s σ H x y v u Q I rx ry q0
  obtain ⟨d, ds, hd, he, sd, se, q⟩ := q0
  obtain ⟨as, r1⟩ := Dp.reads I d x v hd rx
  obtain ⟨bs, r2⟩ := Dp.reads I _ y u he ry
  exact SeqAt.notIn_tuple_reads r2 r1 (SeqAt.canLay_of_shaped se) (SeqAt.canLay_of_shaped sd) (room_in_shaped sd hu) ⟨.bl _, H, I, rfl, q⟩
end
end Fv
namespace Fv
open PySem PySem.Spec PyProof.Rows L2 Evl StX
/-- isinstance says yes as soon as the kind of the thing says so -/
theorem isi_yes {K : PySem.W.Frag} {x c t : Value} {Pz : Heap → Prop} (ty : ∀ (M : Model) (h : Heap), K.In h → Pz h → PySem.W.Looks M h (typeOf x) t) (e : PySem.W.kitOne K t c = some true) : Answers (fun s => K.In s.heap ∧ Pz s.heap) x c true := by
  rintro dep tk prog w A R ⟨hp, g, d, n, os⟩ ⟨⟨kin, pz⟩, q⟩
  have L0 := ty (model prog w) hp kin pz
  unfold PySem.W.kitOne at e
  unfold Builtin.«isinstance.nested»; refine wpAny_bind (L0.at ?_)
  by_cases z : (t == c) = true
  · rw [if_pos z]
    first
      | exact wpAny_pure (q n)
      | exact wpAny_bind (wpAny_rule (q n))
      | exact wpAny_bind (wpAny_rule (wpAny_pure (q n)))
      | exact wpAny_pure (wpAny_pure (q n))
      | exact wpAny_bind (wpAny_pure (wpAny_pure (q n)))
  · rw [if_neg z] at e ⊢; obtain ⟨k1, k2, k3⟩ := PySem.W.kit_cls (M := model prog w) kin e
    have k4 : PySem.W.Looks (model prog w) hp (isInstance x c) true := L0.andThen k3
    refine wpAny_bind (k1.at ?_); rw [if_pos (by decide)]; k_delta "plainIsInstance"
    refine wpAny_bind (wpAny_bind (k2.at ?_)); simp only [Bool.not_true, Bool.false_eq_true, if_false]; refine wpAny_bind (k4.at ?_)
    first
      | exact wpAny_pure (wpAny_pure (q n))
      | (simp only [if_true]; first | exact wpAny_pure (wpAny_pure (q n)) | exact wpAny_pure (q n) | exact wpAny_bind (wpAny_pure (wpAny_pure (q n))))
section
variable {X : Cx} {a C : Addr} {oe : Obj} {cls : Value} {d : Option Addr} {pn : List (Addr × Obj)}
/-- isinstance(e, c), e the caught exception: yes -/
def rIsY (K : PySem.W.Frag) (cls : Value) (a : Addr) : List V → Hp → VK → Prop := fun xs H Q => ∃ (c : V) (cv : Value), xs = [.ref a, c] ∧ (∀ u, RelV c u → u = cv) ∧ PySem.W.kitOne K cls cv = some true ∧ Q (.bl true) H
theorem c_isY {K : PySem.W.Frag} (hz : Zc cls d oe) (h : X.K = K := by rfl) : CallR (X.suite a ((a, oe) :: pn)) (.builtin "isinstance") (rIsY K cls a) := by
  subst h
  intro pins s σ H xs us Q I r q0
  obtain ⟨c, cv, rfl, hc, e, q⟩ := q0
  obtain ⟨u0, u1, rfl, ra, rc⟩ : ∃ u0 u1, us = [u0, u1] ∧ RelV (.ref a) u0 ∧ RelV c u1 := by
    cases r with
    | cons r1 r2 =>
      cases r2 with
      | cons r3 r4 => cases r4; exact ⟨_, _, rfl, r1, r3⟩
  obtain rfl : u0 = Value.ref a := ra
  obtain rfl := hc _ rc
  have got := (I.pin (a, oe) (List.mem_append_left _ List.mem_cons_self)).1
  refine call_isinstance (S := fun _ R s => (X.K.In s.heap ∧ s.heap.get? a = some oe) ∧ ∀ tk, R (.ok (.ret (.bool true))) { s with toks := tk })
    (fun prog w A R s hs => isinstance_outer (isi_yes (Pz := fun h => h.get? a = some oe) (fun M h kin z => fun A Q E s k q => wpAny_typeOf_ref (k _ _ z) (by rw [hz.1]; exact q)) e 0 _ prog w A R s hs) (fun z => nomatch z)) ⟨⟨I.kIn, got⟩, fun tk => ⟨.bl true, H, I.tok tk, rfl, q⟩⟩
end
end Fv
/-! set(l) of a list of whole numbers, its members known -/
namespace Fv
open PySem PySem.Spec PyProof.Rows L2 Evl StX
/-- an empty set, as it is laid -/
abbrev set0 (w : World) : Obj := { cls := .type "set", dict := none, data := .set #[] 0 (.fresh 0 0 (!w.params.followText "set-order")) }
section
variable {P : Program} {w : World} {A : Around} {E : Value → Shared → Prop} {s : Shared}
set_option maxHeartbeats 8000000 in
theorem set_of_list {l : Addr} {its : Array Value} (ns : List Int) {Q : Value → Shared → Prop} (calm : A.handled = none) (isl : s.heap.IsList l its) (whole : IntsAre its.toList ns) (few : ns.length + 1 < scanBound)
    (k : ∀ (h2 : Heap) (tk c : Nat), SetR w h2 s.heap.objs.size (fun j => decide (j ∈ ns)) c → c ≤ ns.length → (∀ b o, s.heap.get? b = some o → h2.get? b = some o) → Q (.ref s.heap.objs.size) { s with heap := h2, toks := tk }) : wpAny (model P w) A (call (.type "set") [.ref l]) Q E s := by
  have size : its.size = ns.length := by simpa using IntsAre.length whole
  obtain ⟨c1, tl1, mro1⟩ := F.called_set.mro
  have f1 := F.called_set.made; have f2 := F.called_set.sub
  refine wpAny_call (codeAny_of_tree ?_); show wpAny _ _ (callAny (.type "set") _) _ _ _
  refine wpAny_pure ⟨Code.quiet_builtin _ (by decide +kernel), codeAny_builtin F.entry_type_call ?_⟩; rw [Around.under_plain (weight_type_call_type "set" [.ref l] []) rfl]
  have f3 := F.called_set.notType; have f4 := F.called_set.canCreate; have f5 := F.typeCall_set_1 (.ref l)
  (repeat (any_goals (first | assumption | wp_step)))
  refine codeAny_mono (code_set_led1 (.ref l) (E := E) (Q₁ := fun o s1 => o = .ref s.heap.objs.size ∧ s1 = { s with heap := s.heap.push (set0 w) }) ⟨rfl, rfl⟩) fun r s1 hr => ?_
  cases r with
  | error e => exact hr
  | ok fl =>
    cases fl with
    | ret ob =>
      obtain ⟨rfl, rfl⟩ := hr
      have at0 : (s.heap.push (set0 w)).get? s.heap.objs.size = some (set0 w) := Heap.get?_push_size _ rfl
      have ty0 : Shared.TypeIs { s with heap := s.heap.push (set0 w) } (.ref s.heap.objs.size) "set" := ⟨_, at0, rfl⟩
      have f6 := F.called_set.init.lookup; have f7 := F.called_set.init.bind (.ref s.heap.objs.size)
      (repeat (any_goals (first | assumption | wp_step)))
      refine codeAny_mono (codeAny_call_builtin (R := wants (fun r s2 => r = .none ∧ ∃ h2 tk c, s2 = { s with heap := h2, toks := tk } ∧ SetR w h2 s.heap.objs.size (fun j => decide (j ∈ ns)) c ∧ c ≤ ns.length ∧ (∀ b o, s.heap.get? b = some o → h2.get? b = some o)) E) F.called_set.init.plain F.entry_set_init (check_set_init_1 ty0 ?_)) fun r2 s2 hr2 => ?_
      · obtain ⟨⟨oc, od, oa, os⟩, got, e1, nl, e2⟩ := isl
        simp only at e1 e2; subst e1; subst e2
        have got1 : (s.heap.push (set0 w)).get? l = some { cls := .type "list", dict := od, data := .seq its nl, slots := os } := Heap.get?_push_of_some _ got
        have g1 := F.sub_list_set; have g2 := F.sub_list_frozenset
        have g3 : (Value.type "list" == Value.type "dict") = false := by decide
        have isl1 : (s.heap.push (set0 w)).IsList l its := ⟨_, got1, rfl, nl, rfl⟩
        unfold Builtin.«set.__init__» noKeywords Builtin.Frozenset.updateFrom
        generalize hI : pyIter = PI
        wp_walk
        subst hI; refine wpAny_pyIter_list isl1 (wpAny_bind (wpAny_runValue ?_))
        have lt : l < s.heap.objs.size := Heap.lt_size got
        have calm3 : A.in1.in1.in1.handled = none := by simp [calm]
        have ne1 : l ≠ (s.heap.push (set0 w)).objs.size := by rw [Heap.size_push]; exact Nat.ne_of_lt (Nat.lt_succ_of_lt lt)
        have off : s.heap.objs.size ∉ [(s.heap.push (set0 w)).objs.size, l] := by
          rw [Heap.size_push]; simp only [List.mem_cons, List.not_mem_nil, or_false, not_or]
          exact ⟨Nat.ne_of_lt (Nat.lt_succ_self _), Nat.ne_of_gt lt⟩
        have vals : ∀ (i : Nat) (v : Value), its[i]? = some v → ∃ j t, ns[i]? = some j ∧ v = .int j t := fun i v hv => by
          have hi : i < ns.length := size ▸ (Array.getElem?_eq_some_iff.mp hv).1
          obtain ⟨t, e⟩ := PyProof.Rows.IntsAre.int_at whole i v (by rw [Array.getElem?_toList]; exact hv)
          exact ⟨ns[i], t, List.getElem?_eq_getElem hi, by rw [e, List.getD_eq_getElem?_getD, List.getElem?_eq_getElem hi]; rfl⟩
        refine set_update_ints ((Walks.list calm3 _ l ne1 its).toS) s.heap.objs.size off ns size few vals (its.size - 0) 0 _ (by omega) (Nat.zero_le _) ⟨⟨_, Heap.get?_push_size _ rfl, rfl, rfl⟩, (isl1.push _)⟩ ?first ?rest
        case first => exact ⟨0, Nat.le_refl 0, setR_new_at (Heap.get?_push_of_some _ at0)⟩
        case rest =>
          rintro ⟨h2, g2', d2, t2, o2⟩ c2 hm hc2 hS2
          have z1 : g2' = s.gens := hm.gens; have z2 : d2 = s.drawn := hm.drawn; have z3 : o2 = s.os := hm.os
          subst z1; subst z2; subst z3; show wpAny _ _ _ _ _ _
          refine wpAny_pure ?_; show wpAny _ _ (ret Value.none) _ _ _
          rw [size] at hc2
          refine wpAny_pure ⟨rfl, h2, t2, c2, rfl, hS2, hc2, fun b o e => ?_⟩
          have b0 : b < s.heap.objs.size := Heap.lt_size e
          have b2 : b ≠ (s.heap.push (set0 w)).objs.size := by rw [Heap.size_push]; exact Nat.ne_of_lt (Nat.lt_succ_of_lt b0)
          exact hm.heap b o (by simp only [List.mem_cons, List.not_mem_nil, or_false, not_or]; exact ⟨Nat.ne_of_lt b0, b2⟩) (Heap.get?_push_of_some _ (Heap.get?_push_of_some _ e))
      · match r2, hr2 with
        | .error e, hr2 => exact hr2
        | .ok (.ret r), hr2 =>
          obtain ⟨rfl, h2, tk, c, rfl, y1, y2, y3⟩ := hr2
          (repeat (any_goals (first | assumption | wp_step)))
          exact k _ _ _ y1 y2 y3
        | .ok .next, hr2 => exact hr2.elim
        | .ok .brk, hr2 => exact hr2.elim
        | .ok .cont, hr2 => exact hr2.elim
    | next => exact hr.elim
    | brk => exact hr.elim
    | cont => exact hr.elim
end
def rSetLi (K : PySem.W.Frag) (w : World) : List V → Hp → VK → Prop := fun xs H Q => ∃ (p : Addr) (ns : List Int), xs = [.ref p] ∧ SqL K H p (ns.map V.int) ∧ ns.length ≤ 60 ∧
  ∀ a c, H a = none → c ≤ ns.length → Q (.ref a) (upd H a (SetO w a (fun j => decide (j ∈ ns)) c))
theorem c_setL {X : Cx} {K : PySem.W.Frag} {w : World} (hc : X.calm = true := by rfl) (h : X.K = K := by rfl) (hw : X.w = w := by rfl) : CallR X (.type "set") (rSetLi K w) := by
  subst h; subst hw
  rintro pins s σ H xs us Q I r ⟨p, ns, rfl, hq, hl, q⟩
  rw [Vals.ref1 r]
  obtain ⟨its, rv, ht, hz⟩ := I.list hq
  refine set_of_list ns (I.ok.hd hc) ht.isList (by simpa using ints_of_vals rv) (by unfold scanBound; omega) fun h' tk c R1 hcn k => ?_
  exact ⟨.ref s.heap.objs.size, _, I.laid (t' := tk) k (Nat.le_refl _) (setO_new R1), rfl, q _ c (I.hok.fresh (Nat.le_refl _)) hcn⟩
/-- a list of whole numbers -/
abbrev dI (ns : List Int) : PyData := .list (ns.map PyData.int)
theorem g_sortedSetL {K : PySem.W.Frag} {w : World} {pt : Option Pt} {σ : L2.St} {F : Hp} {te : TE} {ns : List Int} (h : EvG K pt te σ F (Is (dI ns))) (hz : ns.length ≤ 60) : EvG K pt (tCB (rSortedSet w) (tCons (tCB (rSetLi K w) (tCons te tNil)) tNil)) σ F
    (fun x => ∃ ms : List Int, x = .list (ms.map .int) ∧ ms.Pairwise (· < ·) ∧ ∀ k, k ∈ ms ↔ k ∈ ns) := fun H1 i g Q q =>
  h H1 i g _ fun d v F2 H2 hd s hv => by
    subst hd
    obtain ⟨a, xs, rfl, hl, ha⟩ := rp_lst hv
    have e1 := rpAll_ints ha
    subst e1
    refine ⟨a, ns, rfl, SqL.of (s.inn _ _ hl), hz, fun b c hb hc => ?_⟩
    have s3 : Step pt F2 H2 F2 (upd H2 b (SetO w b (fun j => decide (j ∈ ns)) c)) := .litter s.inn s.good hb
    refine ⟨b, _, c, rfl, upd_same, by omega, fun ms p hp hm hlen hn => ?_⟩
    have s4 : Step pt F2 (upd H2 b (SetO w b (fun j => decide (j ∈ ns)) c)) (upd F2 p (.lst (ms.map V.int))) _ := .laid s3.inn s3.good hn
    exact q _ _ _ _ ⟨ms, rfl, hp, fun k => by rw [hm k, decide_eq_true_eq]⟩ ((s.trans s3).trans s4) (.lst upd_same (rpAll_of_ints ms))
end Fv
namespace Fv
open PySem PySem.Spec PyProof.Rows L2 Evl StX
/-! ### bool(t) of a tuple -/
section
variable {K : PySem.W.Frag} {pt : Option Pt} {σ : L2.St} {F F' F0 H0 H : Hp} {te ta tb : TE} {ts tr : TA} {t u : TT} {R R1 : PD} {d e z : PyData} {D : Ends} {tz tu : TS} {wi : TI}
/-! ### choices whose test is not known -/
theorem g_ifR {S : Bool → Prop} (h : EtG pt t σ F S) (h1 : EvG K pt ta σ F R) (h2 : EvG K pt tb σ F R) : EvG K pt (tIf t ta tb) σ F R := fun H1 i g Q q => h H1 i g _ fun c F2 H2 hc s => by
  cases c with
  | true => exact h1.mono s.sub H2 s.inn s.good Q fun d' v' F3 H3 hd' s3 hv' => q d' v' F3 H3 hd' (s.trans s3) hv'
  | false => exact h2.mono s.sub H2 s.inn s.good Q fun d' v' F3 H3 hd' s3 hv' => q d' v' F3 H3 hd' (s.trans s3) hv'
theorem et_truR {S : Int → Prop} (h : EvG K pt te σ F (fun d => ∃ k : Int, d = .int k ∧ S k)) : EtG pt (fun σ H Q => te σ H fun x H' => ∃ k, TruV K x H' k ∧ Q k H') σ F (fun _ => True) := fun H1 i g Q q =>
  h H1 i g _ fun d' v F2 H2 hd s hv => by
    obtain ⟨n, rfl, _⟩ := hd
    rw [rp_int hv]
    exact ⟨n != 0, rfl, q _ F2 H2 trivial s⟩
/-- an item of a written list, at a drawn place -/
theorem g_pick {ds : List PyData} {c : Int} (ha : EvG K pt ta σ F (Is (.list ds))) (hb : EvG K pt tb σ F (fun d => ∃ k : Int, d = .int k ∧ 0 ≤ k ∧ k < c)) (hc : c ≤ (ds.length : Int)) (hP : ∀ d ∈ ds, R d) : EvG K pt (tOp (rIxL K) ta tb) σ F R := g_op ha hb fun d e hd he => by
  obtain ⟨k, rfl, k0, k1⟩ := he
  subst hd
  obtain ⟨j, rfl⟩ : ∃ j : Nat, k = (j : Int) := ⟨k.toNat, by omega⟩
  have hj : j < ds.length := by omega
  intro F H x y i hx hy Q q
  exact rv_ixL (d := ds[j]) (atI_nat (List.getElem?_eq_getElem hj)) F H x y i hx hy Q fun z v F2 H2 hz s hv => q z v F2 H2 (by rw [show z = ds[j] from hz]; exact hP _ (List.getElem_mem hj)) s hv
/-! ### == [] -/
theorem rv_eqNil {ds : List PyData} (h : SeqAt.shaped (.list ds) = true) : RvG K (rEqD K) (.list ds) (.list []) (Is (.bool ds.isEmpty)) := by
  have := rv_eqD (K := K) h (show SeqAt.shaped (.list []) = true by decide)
  have e : PyData.eqv (.list ds) (.list []) = ds.isEmpty := by
    cases ds <;> simp [PyData.eqv, PyData.eqvAll]
  rw [e] at this; exact this
theorem c_min2 {X : Cx} (hc : X.calm = true := by rfl) : CallR X (.builtin "min") (fun xs H Q => ∃ i j, xs = [.int i, .int j] ∧ Q (.int (if j < i then j else i)) H) := call_min2 hc
theorem rc_min2 {i j : Int} : RcG K (fun xs H Q => ∃ i j, xs = [.int i, .int j] ∧ Q (.int (if j < i then j else i)) H) [.int i, .int j] (Is (.int (if j < i then j else i))) := rc_val fun F H vs e h => by
  cases h with
  | cons h1 h2 =>
    cases h2 with
    | cons h3 h4 =>
      cases h4
      rw [rp_int h1, rp_int h3]
      exact ⟨_, fun Q q => ⟨i, j, rfl, q⟩, .int _⟩
end
end Fv
/-! loops over what is not known beforehand; l[:i] -/
namespace Fv
open PySem PySem.Spec PyProof.Rows L2 Evl StX
section
variable {K : PySem.W.Frag} {pt : Option Pt} {σ : L2.St} {F F' F0 H0 H : Hp} {te ta tb : TE} {ts tr : TA} {t u : TT} {R R1 : PD} {RS : List PyData → Prop} {d e z : PyData} {D : Ends} {tz tu : TS} {wi : TI} {l : Addr} {ls : List PyData}
theorem t_forGR {j : Nat} (g0 : Good pt F0 H0) (h0 : H0 l = none) (g : Gst K pt F0 H0 l F H ls) (hw : WiG K pt wi σ F RS) (I : List PyData → Nat → L2.St → Hp → List PyData → Prop) (hi : ∀ ds, RS ds → ∀ F2, Ex F F2 → I ds 0 σ F2 ls)
    (hs : ∀ ds, RS ds → ∀ i d, ds[i]? = some d → ∀ σ' F' H' x ls', I ds i σ' F' ls' → Gst K pt F0 H0 l F' H' ls' → Ex F F' → Rp K F' x d →
      ∀ N : L2.St → Hp → Prop, (∀ σ2 F2 H2 ls2, I ds (i + 1) σ2 F2 ls2 → Gst K pt F0 H0 l F2 H2 ls2 → Ex F' F2 → N σ2 H2) → tu { D with nx := N, ct := N, bk := tz D } (σ'.set j (some x)) H')
    (hd : ∀ ds, RS ds → ∀ σ' F' H' ls', I ds ds.length σ' F' ls' → Gst K pt F0 H0 l F' H' ls' → Ex F F' → tz D σ' H') : tSeq (tFor wi (gName j) tu) tz D σ H :=
  hw H g.step.inn g.step.good _ fun ds J F1 H1 hr s1 Y => by
    refine ⟨fun i m σ' H' => m = ds.length - i ∧ i ≤ ds.length ∧ ∃ F' ls', Gst K pt F0 H0 l F' H' ls' ∧ Ex F1 F' ∧ I ds i σ' F' ls', ⟨ds.length, by simp, Nat.zero_le _, F1, ls, g.run g0 h0 s1, Ex.refl _, hi ds hr F1 s1.sub⟩, ?_⟩
    rintro i m σ' H' ⟨rfl, hil, F', ls', g', e', p⟩
    have eH : Ex F1 H' := e'.trans g'.step.inn
    by_cases hlt : i < ds.length
    · refine .inr ⟨Y.go i H' eH hlt, fun σ2 H2 => ∃ F2 ls2, Gst K pt F0 H0 l F2 H2 ls2 ∧ Ex F1 F2 ∧ I ds (i + 1) σ2 F2 ls2, fun σ2 H2 ⟨F2, ls2, a, b, c⟩ => ⟨ds.length - (i + 1), by omega, rfl, hlt, F2, ls2, a, b, c⟩, fun x H2 y => ?_⟩
      obtain ⟨rfl, d, hdd, hx⟩ := Y.yld i H' x H2 eH hlt y
      exact hs ds hr i d hdd σ' F' _ x ls' p g' (s1.sub.trans e') (Rp.mono e' _ _ hx) _ fun σ2 F2 H2 ls2 a b c => ⟨F2, ls2, b, e'.trans c, a⟩
    · have hE : i = ds.length := Nat.le_antisymm hil (Nat.le_of_not_lt hlt)
      subst hE
      exact .inl ⟨Y.stop H' eH, hd ds hr σ' F' H' ls' p g' (s1.sub.trans e')⟩
theorem RpAll.take : ∀ {ds : List PyData} {vs : List V} (i : Nat), RpAll K F vs ds → RpAll K F (vs.take i) (ds.take i)
  | [], _, i, h => by cases h; simp; exact .nil
  | d :: ds, _, 0, h => by simp; exact .nil
  | d :: ds, _, i + 1, h => by
    cases h with
    | cons h1 h2 => exact .cons h1 (RpAll.take i h2)
end
end Fv
/-! a caught exception handed to a def; several clauses that name it -/
namespace Fv
open PySem PySem.Spec PyProof.Rows L2 L2H Evl StX
end Fv
namespace Fv
open PySem PySem.Spec PyProof.Rows L2 L2H Evl StX
/-! ### try: body, except c as n: .., except d as n: .. where one of the clauses names what flies -/
end Fv
/-! a list of one's own, written in place -/
namespace Fv
open PySem PySem.Spec PyProof.Rows L2 Evl StX
section
variable {K : PySem.W.Frag} {pt : Option Pt} {σ : L2.St} {F F' F0 H0 H : Hp} {te ti ta tb : TE} {ts tr : TA} {t u : TT} {R R1 : PD} {d e z : PyData} {D : Ends} {tz tu tw : TS} {l : Addr} {ls : List PyData}
theorem RpAll.set : ∀ {ds : List PyData} {vs : List V} (j : Nat) {v : V} {d : PyData}, RpAll K F vs ds → Rp K F v d → RpAll K F (vs.set j v) (ds.set j d)
  | [], _, j, v, d, h, _ => by cases h; cases j <;> exact .nil
  | _ :: _, _, 0, v, d, h, hv => by
    cases h with
    | cons h1 h2 => exact .cons hv h2
  | _ :: _, _, j + 1, v, d, h, hv => by
    cases h with
    | cons h1 h2 => exact .cons h1 (RpAll.set j h2 hv)
theorem Gst.set (g0 : Good pt F0 H0) (h0 : H0 l = none) (g : Gst K pt F0 H0 l F H ls) {v : V} (j : Nat) (hv : Rp K F v d) : ∃ acc, H l = some (.lst acc) ∧ acc.length = ls.length ∧ Gst K pt F0 H0 l F (upd H l (.lst (acc.set j v))) (ls.set j d) := by
  obtain ⟨acc, e, r⟩ := g.ex
  exact ⟨acc, e, r.length, g.step.put g0 h0 g.off, g.off, _, upd_same, RpAll.set j r hv⟩
end
end Fv
/-! an empty dict among data; lists of things of a kind -/
namespace Fv
open PySem PySem.Spec PyProof.Rows L2 Evl StX
end Fv
/-! tests beside a list of one's own; parts -/
namespace Fv
open PySem PySem.Spec PyProof.Rows L2 Evl StX
end Fv
/-! a list of one's own out of a comprehension; promises that may let an error out -/
namespace Fv
open PySem PySem.Spec PyProof.Rows L2 Evl StX
/-- a promise that lets nothing out is one that may -/
theorem FnOk.up {P : Program} {w : World} {K : PySem.W.Frag} {mg : Str → Option Value} {base : Heap} {CX : CXT} {j k : Nat} {f : Addr} {fd : FuncData} {ps : List Str} {sp : Sp} (h : FnOk P w K mg base CX0 j f fd ps sp) (hk : j ≤ k) : FnOk P w K mg base CX k f fd ps sp :=
  ⟨h.len, fun A out s H as us vs Q E r e0 b rv hs => codeAny_mono (h.run A out s H as us vs Q E (r.mono hk) e0 b rv hs) fun r s' hq => match r, hq with
    | .error _, hq => hq.elim
    | .ok (.ret _), hq => hq⟩
end Fv
/-! expressions that read a list of one's own, told where it stands -/
namespace Fv
open PySem PySem.Spec PyProof.Rows L2 Evl StX
end Fv
/-! an error of one's own class whose maker stores nothing -/
namespace Fv
open PySem PySem.Spec PyProof.Rows L2 Evl StX
section
variable {X : Cx}
theorem made_none {pins : List (Addr × Obj)} {σ : L2.St} {H1 H2 : Hp} {Q : XK} {hp hp2 h2 : Heap} {g1 g2 : Array GenState} {d1 d2 : Drawn} {t1 t2 : Nat} {os1 os2 : OsState} {a C : Addr} (T : Raises X (.ref C)) (I1 : Inv X pins σ H1 ⟨hp, g1, d1, t1, os1⟩)
    (above : hp.objs.size ≤ a) (kp : ∀ b o, hp.get? b = some o → hp2.get? b = some o) (un : Un (frs X.stack) [] (upd H1 a (exo a C none)) H2 hp2 h2) (hok : HOk X.prog X.w H2 h2) (ho : os2 = os1) (bare : AllBare g2)
    (ea : H2 a = some (exo a C none)) (q : Q (.ref C) none (L2.del H2 a)) : MkP X pins σ Q (.ref a) ⟨h2, g2, d2, t2, os2⟩ := by
  obtain ⟨t0, hoe⟩ := exo_at hok ea
  have fresh : H1 a = none := I1.hok.fresh above
  obtain ⟨G, gs, gone⟩ := restrict h2 fun b => decide (b ≠ a)
  have same : ∀ b, b ≠ a → G.get? b = h2.get? b := fun b hb => gs b (decide_eq_true hb)
  have ga : G.get? a = none := gone a (by simp)
  have off : ∀ {b : Addr} {o : Obj}, hp.get? b = some o → b ≠ a := fun {b o} z => Nat.ne_of_lt (Nat.lt_of_lt_of_le (Heap.lt_size z) above)
  have laid : ∀ {b : Addr}, b ≠ a → H1 b = none → upd H1 a (exo a C none) b = none := fun {b} hb n => by rw [upd_ne hb]; exact n
  have U : Un (frs X.stack) [] H1 (L2.del H2 a) hp G :=
    { keep := fun b o z n hf _ => (same b (off z)).trans (un.keep b o (kp b o z) (laid (off z) n) hf (by simp))
      slot := fun b o z n hf _ => by
        rw [same b (off z)]
        exact un.slot b o (kp b o z) (laid (off z) n) hf (by simp)
      free := fun b o z n _ => (L2.del_ne (off z)).trans (un.free b o (kp b o z) (laid (off z) n) (by simp))
      there := fun b o z _ => by
        rw [same b (off z)]
        exact un.there b o (kp b o z) (by simp)
      tups := fun b xs z => (L2.del_ne (ne_of_none z fresh)).trans (un.tups b xs ((upd_ne (ne_of_none z fresh)).trans z))
      frzs := fun b o v z => (L2.del_ne (ne_of_none z fresh)).trans (un.frzs b o v ((upd_ne (ne_of_none z fresh)).trans z))
      tbls := fun b ps z => by
        rw [L2.del_ne (ne_of_none z fresh)]
        exact un.tbls b ps ((upd_ne (ne_of_none z fresh)).trans z) }
  have ok3 : HOk X.prog X.w (L2.del H2 a) G := fun b o z => by
    have hba : b ≠ a := fun e => by rw [e, L2.del_same] at z; cases z
    rw [L2.del_ne hba] at z
    have noa : ∀ {c : Addr}, H2 c = some (.own b) → c ≠ a := fun {c} hc => at_ne ea hc exo_own
    refine (hok b o z).stay (fun c v hc y => ?_) (fun c hc => (L2.del_ne (noa hc)).trans hc) fun c xs hc => (L2.del_ne (at_ne ea hc exo_tup)).trans hc
    rw [same c (hc.elim (fun e => e ▸ hba) fun e => noa e)]
    exact y
  have J : Inv X pins σ (L2.del H2 a) ⟨G, g2, d2, t2, os2⟩ := I1.call' (ch := []) ho U ok3 bare (fun b z => absurd z (by simp))
  refine ⟨a, _, _, ⟨G, g2, d2, t2, os2⟩, _, .ref C, none, rfl, J, fun b o z => ?_, ga, hoe, ⟨rfl, rfl⟩, rfl, rfl, L2.del_same, rfl, bare, T, q⟩
  by_cases hba : b = a
  · rw [hba, ga] at z; cases z
  · exact (same b hba).symm.trans z
/-- C() that stores nothing, made to be raised -/
def tMk0 (C : Addr) (sp : Sp) : L2.St → Hp → XK → Prop := fun _ H Q => ∀ a, H a = none → sp [.ref a] (upd H a (exo a C none)) (fun v H2 => v = .non ∧ H2 a = some (exo a C none) ∧ Q (.ref C) none (L2.del H2 a)) (fun _ _ _ => False)
theorem pmk_oex0 {CX : CXT} {x : Str} {C fI : Addr} {k : Nat} {fd : FuncData} {ps : List Str} {sp : Sp} {p pos : Pos} (T : OexC X.K C) (iC : PySem.W.findIn X.K (.ref C) "__init__" = some (some (.ref fI))) (tI : PySem.W.typeIn X.K (.ref fI) = some (.type "function"))
    (F1 : FnOk X.prog X.w X.K X.mg X.base CX k fI fd ps sp) (hr : Room (k + 1) X.A) (hb : Binds X.K fd ps []) (hx : Passes CX X (fun _ _ _ => False)) (hg : Gl X x) (hm : X.mg x = some (.ref C)) (hdb : (x == ("__debug__" : Str)) = false := by decide) :
    PMk X (.Call (.Name x p) [] [] pos) (tMk0 C sp) := by
  intro pins s σ H Q I h
  obtain ⟨nm, qq, N, bs, bm, sn, sub, ab, col, dd, k0, k1, k2, k3, k5, hC, hbm⟩ := T.cls
  refine wpAny_Call_Name_kw (ld_glob I hg hm ?_ hdb)
  refine PySem.W.callWith_K0 I.kIn T.kC ?_
  show wpAny _ _ (call (.ref C) []) _ _ _
  obtain ⟨hp, g, dr, tk, os⟩ := s
  have lo : hp.objs.size ≤ hp.objs.size + 1 := Nat.le_succ _
  have q0 := h (hp.objs.size + 1) (I.hok.fresh lo)
  have kk : ∀ b o, hp.get? b = some o → ((hp.push (PySem.W.kdv_tup [])).push (PySem.HandSPX.excO C hp.objs.size)).get? b = some o := fun b o e => Heap.get?_push_of_some _ (Heap.get?_push_of_some _ e)
  have got : ((hp.push (PySem.W.kdv_tup [])).push (PySem.HandSPX.excO C hp.objs.size)).get? (hp.objs.size + 1) = some (PySem.HandSPX.excO C hp.objs.size) := by heap_get
  have J : Inv X pins σ (upd H (hp.objs.size + 1) (exo (hp.objs.size + 1) C none)) ⟨(hp.push (PySem.W.kdv_tup [])).push (PySem.HandSPX.excO C hp.objs.size), g, dr, tk, os⟩ :=
    I.laid (t' := tk) (a := hp.objs.size + 1) (o := exo (hp.objs.size + 1) C none) (h' := (hp.push (PySem.W.kdv_tup [])).push (PySem.HandSPX.excO C hp.objs.size)) kk lo (exo_ok got)
  have rv : Vals [V.ref (hp.objs.size + 1)] [Value.ref (hp.objs.size + 1)] := .cons rfl .nil
  have ln : ([Value.ref (hp.objs.size + 1)] : List Value).length = ps.length := by
    rw [← F1.len _ _ _ _ q0]; rfl
  refine wpAny_call (PySem.HandSPX.call_own F.excBase_ValueError (fun Y => PySem.HandSPX.refsVE_contains Y bm hbm) (I.kIn _ _ hC) (PySem.W.looks_findIn I.kIn iC) (fun self => PySem.W.bind_fn I.kIn self tI) (by decide)
    (codeAny_mono (F1.run _ X.stack _ _ ⟨[Value.ref (hp.objs.size + 1)], []⟩ [Value.ref (hp.objs.size + 1)] _ _ (fun _ _ _ => False) (hr.make C [] []) (J.env0.make C [] []) (hb _ [Value.ref (hp.objs.size + 1)] J.kIn (by simpa using ln)) rv q0) fun r s2 z => ?_))
  match r, z with
  | .error er, z => exact hx pins σ _ _ er s2 J z
  | .ok (.ret u), z =>
    obtain ⟨v, H2, os2, bare2, un2, hok2, rv2, ev, ea, q2⟩ := z
    subst ev
    obtain ⟨h2, g2, d2, t2, os'⟩ := s2
    exact ⟨rv2, made_none (raises_own T.exC T.tyC) I lo kk un2 hok2 os2 bare2 ea q2⟩
end
end Fv
/-! a list of one's own, read for a while as if it were fixed -/
namespace Fv
open PySem PySem.Spec PyProof.Rows L2 Evl StX
section
variable {K : PySem.W.Frag} {pt : Option Pt} {σ : L2.St} {F F' F0 H0 H : Hp} {te ti ta tb : TE} {ts tr : TA} {t : TT} {R : PD} {d : PyData} {D : Ends} {tz : TS} {wi : TI} {l : Addr} {ls : List PyData}
theorem Gst.fix (g0 : Good pt F0 H0) (h0 : H0 l = none) (g : Gst K pt F0 H0 l F H ls) : ∃ Fp, Ex F Fp ∧ Ex Fp H ∧ Good pt Fp H ∧ Rp K Fp (.ref l) (.list ls) ∧ ∀ F2 H2, Step pt Fp H F2 H2 →
    ∃ F3, Gst K pt F0 H0 l F3 H2 ls ∧ Ex F F3 ∧ (∀ v ns, Rp K F2 v (dT ns) → Rp K F3 v (dT ns)) ∧ ∀ v i, Rp K F2 v (.int i) → v = .int i := by
  obtain ⟨acc, e, r⟩ := id g.ex
  obtain ⟨Fp, sp, ep, rp⟩ := g.done g0 h0
  refine ⟨Fp, ep, sp.inn, sp.good, rp, fun F2 H2 s => ?_⟩
  have st := sp.trans s
  obtain ⟨acc2, e2, hl2⟩ : ∃ acc2, F2 l = some (.lst acc2) ∧ acc2 = acc := by
    obtain ⟨a, xs, ea, hx, _⟩ := rp_lst rp
    cases ea
    have h1 := sp.inn _ _ hx
    rw [e] at h1
    exact ⟨xs, s.sub _ _ hx, by cases h1; rfl⟩
  subst hl2
  have keepF : Ex F (L2.del F2 l) := fun a o h => by
    have z : a ≠ l := fun z => by rw [z, g.off] at h; cases h
    rw [L2.del_ne z]; exact s.sub _ _ (ep _ _ h)
  refine ⟨L2.del F2 l, ⟨⟨g.step.sub.trans keepF, fun a o h => ?_, st.keep, fun q hq => ⟨?_, (st.good q hq).2⟩, fun a h1 h2 => ?_⟩, L2.del_same, acc2, s.inn _ _ e2, RpAll.mono keepF _ _ r⟩, keepF, fun v ns hv => ?_, fun v i hv => rp_int hv⟩
  · by_cases z : a = l
    · rw [z, L2.del_same] at h; cases h
    · rw [L2.del_ne z] at h; exact s.inn _ _ h
  · by_cases z : q.p = l
    · rw [z, L2.del_same]
    · rw [L2.del_ne z]; exact (st.good q hq).1
  · by_cases z : a = l
    · rw [z, L2.del_same]
    · rw [L2.del_ne z]; exact st.new a h1 h2
  · obtain ⟨a, xs, rfl, hx, ha⟩ := rp_tup hv
    have e3 := rpAll_ints ha
    subst e3
    have z : a ≠ l := fun z => by rw [z, e2] at hx; cases hx
    exact .tup (by rw [L2.del_ne z]; exact hx) (rpAll_of_ints ns)
end
end Fv
namespace Fv
open PySem PySem.Spec PyProof.Rows L2 Evl StX
section
variable {K : PySem.W.Frag} {pt : Option Pt} {σ : L2.St} {F F' F0 H0 H : Hp} {te : TE} {d : PyData} {D : Ends} {l : Addr} {ls : List PyData} {wi : TI} {RS RS2 : List PyData → Prop}
theorem WiG.imp (h : WiG K pt wi σ F RS) (hi : ∀ ds, RS ds → RS2 ds) : WiG K pt wi σ F RS2 := fun H1 e g RR q => h H1 e g RR fun ds J F2 H2 hr s Y => q ds J F2 H2 (hi ds hr) s Y
end
end Fv
/-! the same, where its context is told to be None -/
namespace Fv
open PySem PySem.Spec PyProof.Rows L2 Evl StX
end Fv
/-! instances made, static methods called, where an error may fly: what is wanted of it knows the slots -/
namespace Fv
open PySem PySem.Spec PyProof.Rows L2 Evl StX
end Fv
/-! more of what reads one's own list where it stands; a list that is known by a property -/
namespace Fv
open PySem PySem.Spec PyProof.Rows L2 Evl StX
section
variable {K : PySem.W.Frag} {pt : Option Pt} {σ : L2.St} {F F' F0 H0 H : Hp} {te ti ta tb : TE} {ts tr : TA} {t : TT} {R R1 R2 : PD} {d e y : PyData} {D : Ends} {tz : TS} {l : Addr} {ls ds : List PyData} {wi : TI} {r : L2.R2}
theorem w_listE {RS : List PyData → Prop} (h : EvG K pt te σ F (fun d => ∃ ds, d = .list ds ∧ RS ds)) : WiG K pt (iList K te) σ F RS := fun H1 i g RR q =>
  h H1 i g _ fun d v F2 H2 hd s hv => by
    obtain ⟨ds, rfl, hds⟩ := hd
    have := w_listI (K := K) (pt := pt) (te := fun _ H Q => Q v H) (σ := σ) (F := F2) (ds := ds) (fun H1 i g Q q => q _ v F2 H1 rfl (.refl i g) hv) H2 s.inn s.good RR fun ds' J F3 H3 hd3 s3 Y => q ds' J F3 H3 (by rw [show ds' = ds from hd3]; exact hds) (s.trans s3) Y
    exact this
end
end Fv
namespace KJ
open PySem PySem.Spec PyProof.Rows L2 L2H Fv Evl StX
def topS (i : Nat) : Stmt := PySem.Challenge.pw_firmvalues_k12_whole_least_chains.main.body.getD i (.Pass ⟨0, 0, 0, 0⟩)
structure Tx (mg : Str → Option Value) : Prop where
  isinstance : mg "isinstance" = none
  list : mg "list" = none
  tuple : mg "tuple" = none
  bool : mg "bool" = none
  int : mg "int" = none
  str : mg "str" = none
  all : mg "all" = none
  any : mg "any" = none
  range : mg "range" = none
  sorted : mg "sorted" = none
  set : mg "set" = none
  max : mg "max" = none
  len : mg "len" = none
  min : mg "min" = none
  repr : mg "repr" = none
abbrev s_is_whole : Stmt := topS 11
theorem sc_is_whole : FnScope ["thing", "low", "high"] ["thing", "low", "high"] (defScope s_is_whole) := ⟨rfl, rfl, rfl, by decide +kernel, rfl, by decide +kernel, by decide +kernel⟩
abbrev s_is_sequence : Stmt := topS 12
theorem sc_is_sequence : FnScope ["thing"] ["thing"] (defScope s_is_sequence) := ⟨rfl, rfl, rfl, by decide +kernel, rfl, by decide +kernel, by decide +kernel⟩
abbrev s_is_whole_row : Stmt := topS 13
theorem sc_is_whole_row : FnScope ["thing", "item"] ["thing"] (defScope s_is_whole_row) := ⟨rfl, rfl, rfl, by decide +kernel, rfl, by decide +kernel, by decide +kernel⟩
abbrev s_check_entry : Stmt := topS 14
theorem sc_check_entry : FnScope ["houses", "values", "entry", "house"] ["houses", "values", "entry"] (defScope s_check_entry) := ⟨rfl, rfl, rfl, by decide +kernel, rfl, by decide +kernel, by decide +kernel⟩
abbrev s_checked_inputs : Stmt := topS 40
theorem sc_checked_inputs : FnScope ["houses", "values", "inputs", "checked", "index", "entry"] ["houses", "values", "inputs"] (defScope s_checked_inputs) := ⟨rfl, rfl, rfl, by decide +kernel, rfl, by decide +kernel, by decide +kernel⟩
/-- is_whole has two defaults -/
abbrev FunW (K : PySem.W.Frag) (f : Addr) (fd : FuncData) : Prop := L2.FunD K "is_whole" "is_whole" (defArgs s_is_whole) (defBody s_is_whole) (defScope s_is_whole) [.non, .non] [] f fd
theorem okD {P : Program} {w : World} {K : PySem.W.Frag} {mg : Str → Option Value} {base : Heap} {x qual : Str} {params : Arguments} {body : List Stmt} {scope : Scope} {dvs : List V} {kws : List (Str × V)} {f : Addr} {fd : FuncData} {N ps : List Str} {k : Nat} {sp : Sp} (F : L2.FunD K x qual params body scope dvs kws f fd) (S : FnScope N ps scope) (len : ∀ vs H Q E, sp vs H Q E → vs.length = ps.length)
    (hbody : ∀ (cdv : Value) (A : Around) (outer : List Env) (s : Shared) (H : Hp) (vs : List V) (Q : VK) (E : XK), Room k (A.deeper (envOfC qual scope s.heap.objs.size f cdv)) → sp vs H Q E →
      ∃ t, PSs (cxOf CX0 P w K mg base N qual scope f cdv A outer s H E).nox body t ∧ t { nx := fun _ H' => Q .non H', rt := Q } (start N vs) H) : FnOk P w K mg base CX0 (k + 1) f fd ps sp :=
  F.ok S len fun cdv A outer s H vs Q E hr h => by
    obtain ⟨t, h1, q⟩ := hbody cdv A outer s H vs Q E hr h
    exact ⟨t, h1.nox, q⟩
def isL : PyData → Bool
  | .list _ => true
  | _ => false
def isT : PyData → Bool
  | .tuple _ => true
  | _ => false
def isB : PyData → Bool
  | .bool _ => true
  | _ => false
def isI : PyData → Bool
  | .bool _ => true
  | .int _ => true
  | _ => false
theorem kit_list : ∀ d : PyData, kitB (tyD d) "list" = some (isL d)
  | .none => by decide +kernel
  | .bool _ => by show kitB "bool" "list" = some false; decide +kernel
  | .int _ => by show kitB "int" "list" = some false; decide +kernel
  | .str _ => by show kitB "str" "list" = some false; decide +kernel
  | .list _ => by show kitB "list" "list" = some true; decide +kernel
  | .tuple _ => by show kitB "tuple" "list" = some false; decide +kernel
  | .dict _ => by show kitB "dict" "list" = some false; decide +kernel
theorem kit_tuple : ∀ d : PyData, kitB (tyD d) "tuple" = some (isT d)
  | .none => by decide +kernel
  | .bool _ => by show kitB "bool" "tuple" = some false; decide +kernel
  | .int _ => by show kitB "int" "tuple" = some false; decide +kernel
  | .str _ => by show kitB "str" "tuple" = some false; decide +kernel
  | .list _ => by show kitB "list" "tuple" = some false; decide +kernel
  | .tuple _ => by show kitB "tuple" "tuple" = some true; decide +kernel
  | .dict _ => by show kitB "dict" "tuple" = some false; decide +kernel
theorem kit_bool : ∀ d : PyData, kitB (tyD d) "bool" = some (isB d)
  | .none => by decide +kernel
  | .bool _ => by show kitB "bool" "bool" = some true; decide +kernel
  | .int _ => by show kitB "int" "bool" = some false; decide +kernel
  | .str _ => by show kitB "str" "bool" = some false; decide +kernel
  | .list _ => by show kitB "list" "bool" = some false; decide +kernel
  | .tuple _ => by show kitB "tuple" "bool" = some false; decide +kernel
  | .dict _ => by show kitB "dict" "bool" = some false; decide +kernel
theorem kit_int : ∀ d : PyData, kitB (tyD d) "int" = some (isI d)
  | .none => by decide +kernel
  | .bool _ => by show kitB "bool" "int" = some true; decide +kernel
  | .int _ => by show kitB "int" "int" = some true; decide +kernel
  | .str _ => by show kitB "str" "int" = some false; decide +kernel
  | .list _ => by show kitB "list" "int" = some false; decide +kernel
  | .tuple _ => by show kitB "tuple" "int" = some false; decide +kernel
  | .dict _ => by show kitB "dict" "int" = some false; decide +kernel
/-- None or a whole number -/
def oD : Option Int → PyData
  | none => .none
  | some i => .int i
def loOk (i : Int) : Option Int → Bool
  | none => true
  | some l => decide (l ≤ i)
def hiOk (i : Int) : Option Int → Bool
  | none => true
  | some h => decide (i ≤ h)
def isWhole (lo hi : Option Int) : PyData → Bool
  | .int i => loOk i lo && hiOk i hi
  | _ => false
section
variable {P : Program} {w : World} {K : PySem.W.Frag} {mg : Str → Option Value} {base : Heap}
theorem rpAll1 {F : Hp} {vs : List V} {d : PyData} (h : RpAll K F vs [d]) : ∃ v, vs = [v] ∧ Rp K F v d := by
  cases h with
  | cons h1 h2 => cases h2; exact ⟨_, rfl, h1⟩
theorem rpAll2 {F : Hp} {vs : List V} {d e : PyData} (h : RpAll K F vs [d, e]) : ∃ v x, vs = [v, x] ∧ Rp K F v d ∧ Rp K F x e := by
  cases h with
  | cons h1 h2 =>
    obtain ⟨x, rfl, hx⟩ := rpAll1 h2
    exact ⟨_, x, rfl, h1, hx⟩
theorem rpAll3 {F : Hp} {vs : List V} {d e g : PyData} (h : RpAll K F vs [d, e, g]) : ∃ v x y, vs = [v, x, y] ∧ Rp K F v d ∧ Rp K F x e ∧ Rp K F y g := by
  cases h with
  | cons h1 h2 =>
    obtain ⟨x, y, rfl, hx, hy⟩ := rpAll2 h2
    exact ⟨_, x, y, rfl, h1, hx, hy⟩
/-! is_sequence -/
abbrev spSeq (K : PySem.W.Frag) : Sp := PSp K (fun d : PyData => [d]) (fun _ => True) (fun d => .bool (isL d || isT d))
theorem ok_seq {f : Addr} {fd : FuncData} (Fn : Fun K "is_sequence" "is_sequence" s_is_sequence f fd) (T : Tx mg) : FnOk P w K mg base CX0 1 f fd ["thing"] (spSeq K) := by
  refine Fn.ok sc_is_sequence (PSp.len (fun _ => rfl)) (fun cdv A outer s H vs Q E hr h => ?_)
  obtain ⟨d, F, _, e, ha, q⟩ := h
  obtain ⟨v, rfl, hv⟩ := rpAll1 ha
  exact ⟨_, (pss_one (ps_ret (pe_callB (c_isiT (K := K)) (by rfl) T.isinstance (by decide +kernel) (pa_cons (pv 0) (pa_cons (pe_tup (pa_cons (pe_bltn (v := .ty "list") (by rfl) T.list (by decide +kernel) rfl) (pa_cons (pe_bltn (v := .ty "tuple") (by rfl) T.tuple (by decide +kernel) rfl) pa_nil))) pa_nil))))), t_retI (Step.refl e .nil) (g_isi2 (g_var rfl hv) (kit_list d) (kit_tuple d)) q⟩
/-! is_whole -/
abbrev spWhole (K : PySem.W.Frag) : Sp := PSp K (fun i : PyData × Option Int × Option Int => [i.1, oD i.2.1, oD i.2.2]) (fun _ => True) (fun i => .bool (isWhole i.2.1 i.2.2 i.1))
theorem ok_whole {f : Addr} {fd : FuncData} (Fn : FunW K f fd) (T : Tx mg) : FnOk P w K mg base CX0 1 f fd ["thing", "low", "high"] (spWhole K) := by
  refine okD Fn sc_is_whole (PSp.len (fun _ => rfl)) (fun cdv A outer s H vs Q E hr h => ?_)
  obtain ⟨⟨d, lo, hi⟩, F, _, e, ha, q⟩ := h
  obtain ⟨v, x, y, rfl, hv, hx, hy⟩ := rpAll3 ha
  refine ⟨_, (pss_cons (ps_if (PW.pt (pw_or (pt_val (pe_callB (c_isi (K := K)) (by rfl) T.isinstance (by decide +kernel) (pa_cons (pv 0) (pa_cons (pe_bltn (v := .ty "bool") (by rfl) T.bool (by decide +kernel) rfl) pa_nil)))) (pw_or1 (pt_not (pt_val (pe_callB (c_isi (K := K)) (by rfl) T.isinstance (by decide +kernel) (pa_cons (pv 0) (pa_cons (pe_bltn (v := .ty "int") (by rfl) T.int (by decide +kernel) rfl) pa_nil)))))))) (pss_one (ps_ret pe_bl)) pss_nil)
    (pss_one (ps_ret (pe_and (pe_or (pe_cmpR op_isN (pv 1) pe_non (nomark _)) (pe_one (pe_cmpR op_ge (pv 0) (pv 1) (nomark _)))) (pe_one (pe_or (pe_cmpR op_isN (pv 2) pe_non (nomark _)) (pe_one (pe_cmpR op_le (pv 0) (pv 2) (nomark _))))))))), ?_⟩
  refine t_when (b := isB d || !isI d) (Step.refl e .nil) (et_or (et_B (g_isi (g_var rfl hv) (kit_bool d))) fun _ => et_not (et_B (g_isi (g_var rfl hv) (kit_int d)))) (fun hb F2 H2 s2 e2 => ?_) (fun hb F2 H2 s2 e2 => ?_)
  · refine t_retI (K := K) s2 g_bl fun v F3 H3 s3 hv3 => q v F3 H3 s3 ?_
    have : isWhole lo hi d = false := by cases d <;> simp_all [isB, isI, isWhole]
    show Rp K F3 v (.bool (isWhole lo hi d))
    rw [this]; exact hv3
  · obtain ⟨i, rfl⟩ : ∃ i, d = .int i := by cases d <;> simp_all [isB, isI]
    have v1 := Rp.mono e2 _ _ hv
    have x1 := Rp.mono e2 _ _ hx
    have y1 := Rp.mono e2 _ _ hy
    refine t_retI s2 (g_andV (a := loOk i lo) (b := hiOk i hi) ?_ fun _ => ?_) q
    · refine (g_orV (a := isNone (oD lo)) (b := loOk i lo) (g_op (g_var rfl x1) g_non fun _ _ h1 h2 => h1 ▸ h2 ▸ rv_isN) fun hn => ?_).is ?_
      · cases lo with
        | none => cases hn
        | some l => exact g_op (g_var rfl v1) (g_var rfl x1) fun _ _ h1 h2 => h1 ▸ h2 ▸ rv_bl (g := fun i j => decide (j ≤ i))
      · cases lo <;> simp [oD, isNone, loOk]
    · refine (g_orV (a := isNone (oD hi)) (b := hiOk i hi) (g_op (g_var rfl y1) g_non fun _ _ h1 h2 => h1 ▸ h2 ▸ rv_isN) fun hn => ?_).is ?_
      · cases hi with
        | none => cases hn
        | some l => exact g_op (g_var rfl v1) (g_var rfl y1) fun _ _ h1 h2 => h1 ▸ h2 ▸ rv_bl (g := fun i j => decide (i ≤ j))
      · cases hi <;> simp [oD, isNone, hiOk]
/-! lot_within -/
end
end KJ
namespace KJ
open PySem PySem.Spec PyProof.Rows L2 L2H Fv Evl StX
abbrev Row (n m : Nat) (r : List Int) : Prop := r.length = n ∧ ∀ k ∈ r, 0 ≤ k ∧ k < (m : Int)
theorem rv_neI {K : PySem.W.Frag} {i j : Int} : RvG K rNe (.int i) (.int j) (Is (.bool (!decide (i = j)))) := rv_val fun F H x y _ hx hy => by
  rw [rp_int hx, rp_int hy]
  refine ⟨.bl (!decide (V.int i = V.int j)), fun Q q => ⟨rfl, q⟩, ?_⟩
  have : decide (V.int i = V.int j) = decide (i = j) := by by_cases h : i = j <;> simp [h]
  rw [this]; exact .bl _
section
variable {P : Program} {w : World} {K : PySem.W.Frag} {mg : Str → Option Value} {base : Heap}
variable {pt : Option Pt} {σ : L2.St} {F F0 H0 H : Hp} {te ta tb : TE} {ts tr : TA} {D : Ends} {tz : TS}
theorem g_whole1 {E : XK} {d : PyData} (h : EvG K pt te σ F (Is d)) : EvG K pt (tCall (spWhole K) [.non, .non] E (tCons te tNil)) σ F (Is (.bool (isWhole none none d))) := fun H1 e g Q q => h H1 e g _ fun d' v F2 H2 hd s hv => by
  subst hd
  exact ⟨(d', none, none), F2, trivial, s.inn, .cons hv (.cons .non (.cons .non .nil)), fun v F3 H3 s3 hv3 => q _ v F3 H3 rfl (s.trans (s3.lift s.good)) hv3⟩
abbrev spEnt (K : PySem.W.Frag) : Sp := PSp K (fun i : Nat × Nat × List Int => [.int i.1, .int i.2.1, dT i.2.2]) (fun i => i.1 ≤ 5 ∧ i.2.1 ≤ 5 ∧ i.2.2.length = i.1 ∧ ∀ k ∈ i.2.2, 0 ≤ k ∧ k < (i.2.1 : Int)) (fun i => dT i.2.2)
theorem ok_gentry {f fS fW : Addr} {fd fdS fdW : FuncData} (Fn : Fun K "check_entry" "check_entry" s_check_entry f fd) (T : Tx mg)
    (F_is_sequence : Fun K "is_sequence" "is_sequence" s_is_sequence fS fdS) (b_is_sequence : Binds K fdS ["thing"] []) (g_is_sequence : mg "is_sequence" = some (.ref fS))
    (F_is_whole : FunW K fW fdW) (b_is_whole : Binds K fdW ["thing", "low", "high"] []) (g_is_whole : mg "is_whole" = some (.ref fW)) : FnOk P w K mg base CX0 2 f fd ["houses", "values", "entry"] (spEnt K) := by
  have G_is_sequence : FnOk P w K mg base CX0 1 fS fdS ["thing"] (spSeq K) := ok_seq F_is_sequence T
  have G_is_whole : FnOk P w K mg base CX0 1 fW fdW ["thing", "low", "high"] (spWhole K) := ok_whole F_is_whole T
  refine Fn.ok sc_check_entry (PSp.len (fun _ => rfl)) (fun cdv A outer s H vs Q E hr h => ?_)
  obtain ⟨⟨n, m, row⟩, F, ⟨hn, hm, hl, hk⟩, e, ha, q⟩ := h
  simp only at hn hm hl hk
  obtain ⟨v1, v2, v, rfl, h1, h2, hv⟩ := rpAll3 ha
  obtain rfl := rp_int h1
  obtain rfl := rp_int h2
  have sq : dT row = .list (row.map PyData.int) ∨ dT row = .tuple (row.map PyData.int) := .inr rfl
  refine ⟨_, (pss_cons (ps_if (PW.pt (pw_or (pt_not (pt_val (pe_call G_is_sequence (hr.mono (by decide)) (by rfl) g_is_sequence F_is_sequence.kp b_is_sequence .nil pass0 (pa_cons (pv 2) pa_nil)))) (pw_or1 (pt_cmpR op_ne (pe_callB (c_len (K := K)) (by rfl) T.len (by decide +kernel) (pa_cons (pv 2) pa_nil)) (pv 0) (nomark _))))) (pss_one ps_never) pss_nil)
    (pss_cons (ps_for PassesOwn.never rfl (pi_range1 (by rfl) T.range (pa_cons (pv 0) pa_nil)) (pg_name (i := 3) sc_check_entry.nd rfl (by first | exact Or.inl rfl | exact Or.inr rfl)) (pss_one (ps_if (pt_not (pt_val (pe_call G_is_whole (hr.mono (by decide)) (by rfl) g_is_whole F_is_whole.kp b_is_whole .nil pass0 (pa_cons (pe_ix (o_ix (K := K)) (pv 2) (pv 3) (fun _ _ => rfl)) (pa_cons pe_int (pa_cons (pe_op op_sub (pv 1) pe_int) pa_nil)))))) (pss_one ps_never) pss_nil)))
    (pss_one (ps_ret (pe_callTy (c_tup (K := K)) (by rfl) T.tuple (by decide +kernel) (pa_cons (pv 2) pa_nil)))))), ?_⟩
  refine t_skip (Step.refl e .nil) ((et_or (a := false) (b := false) ((et_not (b := true) (et_B (g_call (dT row) (gs_one (g_var rfl hv)) rfl trivial))).is rfl) fun _ => (et_of (g_opI (g_cbI (gs_one (g_var rfl hv)) (rc_lenS sq)) (g_var (v := .int n) rfl (.int _)) rv_neI)).is (by simp [hl])).is rfl) fun F2 H2 s2 e2 => ?_
  refine t_for (K := K) (ds := rng 0 n) s2 (w_rng1I (n := (n : Int)) (gs_one (g_var (v := .int n) rfl (.int _))) (by omega) (by omega)) (fun k σ' F' => ∃ z, σ' = [some (.int n), some (.int m), some v, z]) (fun F2 e2 => ⟨none, rfl⟩) (fun k d' hd σ' F' H' u hI s' e' hu N hN => ?_) (fun σ' F' H' hI s' e' => ?_)
  · obtain ⟨z, rfl⟩ := hI
    have hkn : k < n := by
      obtain ⟨hi, _⟩ := List.getElem?_eq_some_iff.mp hd
      rw [rng_len] at hi; exact hi
    rw [rng_get hkn] at hd
    obtain rfl := Option.some.inj hd
    have hkr : k < row.length := by omega
    have ix : atI (row.map PyData.int) (0 + (k : Int)) = some (.int row[k]) := by
      rw [Int.zero_add]; exact atI_nat (by rw [List.getElem?_map, List.getElem?_eq_getElem hkr]; rfl)
    obtain ⟨r0, r1⟩ := hk row[k] (List.getElem_mem hkr)
    have ok : isWhole (some 0) (some ((m : Int) - 1)) (.int row[k]) = true := by
      simp only [isWhole, loOk, hiOk, Bool.and_eq_true, decide_eq_true_eq]
      omega
    have ixv : ∀ {F' : Hp}, Ex F F' → ∀ {u : V}, Rp K F' u (.int (0 + (k : Int))) → EvG K none (tOp (rIx K) (tVar 2) (tVar 3)) [some (.int n), some (.int m), some v, some u] F' (Is (.int row[k])) := fun e2 _ hu => g_opI (g_var rfl (Rp.mono e2 _ _ hv)) (g_var rfl hu) (rv_ix sq ix)
    have whole : EtG none (tNot (tB (tCall (spWhole K) [] E0 (tCons (tOp (rIx K) (tVar 2) (tVar 3)) (tCons (tC (.int 0)) (tCons (tOp rSub (tVar 1) (tC (.int 1))) tNil)))))) [some (.int n), some (.int m), some v, some u] F' (· = false) :=
      (et_not (et_B (g_call (.int row[k], some 0, some ((m : Int) - 1)) (gs_three (ixv (e2.trans e') hu) g_int (g_opI (g_var (v := .int m) (d := .int m) rfl (.int _)) g_int rv_sub)) rfl trivial))).is (by show (!isWhole (some 0) (some ((m : Int) - 1)) (.int row[k])) = false; rw [ok]; rfl)
    exact t_if1 (b := false) s' whole (fun z => by cases z) (fun _ F3 H3 s3 e3 => hN _ F3 H3 ⟨_, rfl⟩ s3 e3)
  · obtain ⟨z, rfl⟩ := hI
    exact t_retI (K := K) s' (g_cbI (gs_one (g_var rfl (Rp.mono (e2.trans e') _ _ hv))) rc_tupT) q
/-- a list or a tuple of rows -/
abbrev RowsD (d : PyData) (rs : List (List Int)) : Prop := d = .list (rs.map dT) ∨ d = .tuple (rs.map dT)
abbrev spChk (K : PySem.W.Frag) : Sp := PSp K (fun i : Nat × Nat × PyData × List (List Int) => [.int i.1, .int i.2.1, i.2.2.1]) (fun i => i.1 ≤ 5 ∧ i.2.1 ≤ 5 ∧ RowsD i.2.2.1 i.2.2.2 ∧ i.2.2.2.length ≤ 300 ∧ ∀ r ∈ i.2.2.2, Row i.1 i.2.1 r) (fun i => dLT i.2.2.2)
theorem ok_chk {f fS fW fL : Addr} {fd fdS fdW fdL : FuncData} (Fn : Fun K "_checked_inputs" "_checked_inputs" s_checked_inputs f fd) (T : Tx mg)
    (F_is_sequence : Fun K "is_sequence" "is_sequence" s_is_sequence fS fdS) (b_is_sequence : Binds K fdS ["thing"] []) (g_is_sequence : mg "is_sequence" = some (.ref fS))
    (F_is_whole : FunW K fW fdW) (b_is_whole : Binds K fdW ["thing", "low", "high"] []) (g_is_whole : mg "is_whole" = some (.ref fW))
    (F_check_entry : Fun K "check_entry" "check_entry" s_check_entry fL fdL) (b_check_entry : Binds K fdL ["houses", "values", "entry"] []) (g_check_entry : mg "check_entry" = some (.ref fL)) :
    FnOk P w K mg base CX0 3 f fd ["houses", "values", "inputs"] (spChk K) := by
  have G_check_entry : FnOk P w K mg base CX0 2 fL fdL ["houses", "values", "entry"] (spEnt K) := ok_gentry F_check_entry T F_is_sequence b_is_sequence g_is_sequence F_is_whole b_is_whole g_is_whole
  refine Fn.ok sc_checked_inputs (PSp.len (fun _ => rfl)) (fun cdv A outer s H vs Q E hr h => ?_)
  obtain ⟨⟨n, m, src, ls⟩, F, ⟨hn, hm5, hsrc, hz, hls⟩, e, ha, q⟩ := h
  simp only at hn hm5 hsrc hz hls
  obtain ⟨v, x, y, rfl, hv, hx, hy⟩ := rpAll3 ha
  refine ⟨_, (pss_cons (ps_set (i := 3) sc_checked_inputs.nd rfl (by first | exact Or.inl rfl | exact Or.inr rfl) (pe_lst pa_nil))
    (pss_cons (ps_for PassesOwn.never rfl (pi_range1 (by rfl) T.range (pa_cons (pe_callB (c_len (K := K)) (by rfl) T.len (by decide +kernel) (pa_cons (pv 2) pa_nil)) pa_nil)) (pg_name (i := 4) sc_checked_inputs.nd rfl (by first | exact Or.inl rfl | exact Or.inr rfl)) (pss_cons (ps_try_thru0 (pss_one (ps_set (i := 5) sc_checked_inputs.nd rfl (by first | exact Or.inl rfl | exact Or.inr rfl) (pe_call G_check_entry (hr.mono (by decide)) (by rfl) g_check_entry F_check_entry.kp b_check_entry .nil pass0 (pa_cons (pv 0) (pa_cons (pv 1) (pa_cons (pe_ix (o_ix (K := K)) (pv 2) (pv 4) (fun _ _ => rfl)) pa_nil)))))))
    (pss_one (ps_expr (pe_bm PySem.F.plainAttrs_list PySem.F.slot_list_append PySem.F.type_list_append mt_append (pv 3) (pa_cons (pv 5) pa_nil))))))
    (pss_one (ps_ret (pv 3))))), ?_⟩
  have g0 : Good none F H := .nil
  refine t_newL (K := K) (Step.refl e .nil) (fun l h0 hl g => ?_) (fun _ h => h)
  refine t_forG (K := K) (ds := rng 0 (ls.length : Int).toNat) g0 h0 g (w_rng1I (n := (ls.length : Int)) (gs_one ((g_cbI (gs_one (g_var rfl hy)) (rc_lenS hsrc)).is (by simp))) (by omega) (by omega))
    (fun i σ' F' l' => (∃ z1 z2, σ' = [some v, some x, some y, some (.ref l), z1, z2]) ∧ l' = (ls.take i).map dT) (fun F2 e2 => ⟨⟨none, none, rfl⟩, by simp⟩) (fun i d hd σ' F' H' u l' hI g' e' hu N hN => ?_) (fun σ' F' H' l' hI g' e' => ?_)
  · obtain ⟨⟨z1, z2, rfl⟩, rfl⟩ := hI
    have hil : i < ls.length := by
      have := (List.getElem?_eq_some_iff.mp hd).1
      rw [rng_len] at this
      simpa using this
    have ed : d = .int (i : Int) := by
      rw [rng_get (by simpa using hil)] at hd
      have := Option.some.inj hd
      rw [← this]; simp
    subst ed
    have hm : ls[i] ∈ ls := List.getElem_mem hil
    obtain ⟨hm1, hm2⟩ := hls _ hm
    have hat : atI (ls.map dT) (i : Int) = some (dT ls[i]) := atI_nat (by rw [List.getElem?_map, List.getElem?_eq_getElem hil]; rfl)
    refine t_asg (K := K) (Step.refl g'.step.inn .nil) (g_call (n, m, ls[i]) (gs_three (g_var rfl (Rp.mono e' _ _ hv)) (g_var rfl (Rp.mono e' _ _ hx)) (g_opI (g_var (d := src) rfl (Rp.mono e' _ _ hy)) (g_var rfl hu) (rv_ix hsrc hat))) rfl ⟨hn, hm5, hm1, hm2⟩) fun d2 v2 F2 H2 hd2 s2 e2 hv2 => ?_
    subst hd2
    have g2 := g'.run g0 h0 s2
    refine t_app (K := K) g0 h0 g2 rfl (g_var rfl hv2) (by simp; omega) fun d4 F4 H4 hd4 g4 e4 => ?_
    subst hd4
    refine hN _ F4 H4 _ ⟨⟨_, _, rfl⟩, ?_⟩ g4 (e2.trans e4)
    rw [take_succA (List.getElem?_eq_getElem hil), List.map_append]
    rfl
  · obtain ⟨⟨z1, z2, rfl⟩, rfl⟩ := hI
    obtain ⟨F2, s2, e2, r2⟩ := g'.done g0 h0
    refine t_retI (K := K) s2 (g_var rfl r2) fun v3 F3 H3 s3 hv3 => q v3 F3 H3 s3 ?_
    rw [rng_len] at hv3
    simpa [dLT, Function.comp_def] using hv3
end
end KJ
/-! sets and sorts of rows; one's own instance read while it is made -/
namespace Fv
open PySem PySem.Spec PyProof.Rows L2 Evl StX
theorem code_inj : ∀ {a b : List Int}, a.length = b.length → TS.Bd 4 a → TS.Bd 4 b → TS.code 4 a = TS.code 4 b → a = b
  | [], [], _, _, _, _ => rfl
  | [], _ :: _, h, _, _, _ => by simp at h
  | _ :: _, [], h, _, _, _ => by simp at h
  | d :: r, e :: q, h, ha, hb, hc => by
    have hl : r.length = q.length := by simpa using h
    have h1 : ¬ d < e := fun z => by have := TS.code_lt (B := 4) (d := d) (e := e) hl ha.tail hb.tail z; omega
    have h2 : ¬ e < d := fun z => by have := TS.code_lt (B := 4) (d := e) (e := d) hl.symm hb.tail ha.tail z; omega
    have e1 : d = e := by omega
    subst e1
    rw [TS.code.eq_2, TS.code.eq_2, hl] at hc
    rw [code_inj hl ha.tail hb.tail (by omega)]
/-- ascending, each once -/
abbrev Asc (rs : List (List Int)) : Prop := rs.Pairwise fun a b => TS.code 4 a < TS.code 4 b
theorem Asc.nd {rs : List (List Int)} (h : Asc rs) : rs.Nodup := List.Pairwise.imp (fun h e => by rw [e] at h; omega) h
theorem asc_ext {a b : List (List Int)} (ha : Asc a) (hb : Asc b) (h : ∀ x, x ∈ a ↔ x ∈ b) : a = b :=
  ((List.perm_ext_iff_of_nodup ha.nd hb.nd).mpr h).eq_of_pairwise (fun x y _ _ h1 h2 => by omega) ha hb
theorem asc_of {n : Nat} {rs : List (List Int)} (hr : ∀ r ∈ rs, r.length = n ∧ TS.Bd 4 r) (hp : rs.Pairwise fun a b => TS.code 4 a ≤ TS.code 4 b) (nd : rs.Nodup) : Asc rs :=
  List.Pairwise.imp_of_mem (fun {x y} hx hy h => by
    obtain ⟨h1, h2⟩ := h
    rcases Int.lt_or_eq_of_le h1 with z | z
    · exact z
    · exact absurd (code_inj ((hr _ hx).1.trans (hr _ hy).1.symm) (hr _ hx).2 (hr _ hy).2 z) h2) (hp.and nd)
theorem c_setR {X : Cx} {K : PySem.W.Frag} {P : Program} {w : World} (hu : X.A.units + 65 < cLine) (hc : X.calm = true := by rfl) (h : X.K = K := by rfl) (hp : X.prog = P := by rfl) (hw : X.w = w := by rfl) : CallR X (.type "set") (rSetOfT K P w) := by
  subst h; subst hp; subst hw; exact cr_setOfT hc (by omega)
theorem c_sortSetR {X : Cx} {K : PySem.W.Frag} {P : Program} {w : World} (hc : X.calm = true := by rfl) (h : X.K = K := by rfl) (hp : X.prog = P := by rfl) (hw : X.w = w := by rfl) : CallR X (.builtin "sorted") (rSortedT K P w) := by
  subst h; subst hp; subst hw; exact cr_sortedT hc
theorem c_sortR {X : Cx} {K : PySem.W.Frag} (n : Nat) (hn : 1 ≤ n) (h : X.K = K := by rfl) : CallR X (.builtin "sorted") (rSortU K n 4) := by
  subst h; exact cr_sortT hn
section
variable {K : PySem.W.Frag} {P : Program} {w : World} {pt : Option Pt} {σ : L2.St} {F F' F0 H0 H : Hp} {te : TE} {n : Nat} {rs : List (List Int)}
theorem rows_of : ∀ {rs : List (List Int)} {xs : List V}, RpAll K F xs (rs.map dT) → ∃ ks : List (Addr × List Int), xs = ks.map (fun p => V.ref p.1) ∧ ks.map (·.2) = rs ∧ ∀ p ∈ ks, F p.1 = some (.tup (p.2.map V.int))
  | [], _, h => by cases h; exact ⟨[], rfl, rfl, by simp⟩
  | r :: rs, _, h => by
    cases h with
    | cons h1 h2 =>
      obtain ⟨ks, e1, e2, e3⟩ := rows_of h2
      obtain ⟨a, ys, rfl, hl, ha⟩ := rp_tup h1
      have e4 := rpAll_ints ha
      subst e4
      refine ⟨(a, r) :: ks, by rw [e1]; rfl, by rw [List.map_cons, e2], fun p hp => ?_⟩
      rcases List.mem_cons.mp hp with rfl | m
      · exact hl
      · exact e3 p m
theorem rows_back {ks : List (Addr × List Int)} (h : ∀ p ∈ ks, F p.1 = some (.tup (p.2.map V.int))) : RpAll K F (ks.map fun p => V.ref p.1) ((ks.map (·.2)).map dT) := by
  induction ks with
  | nil => exact .nil
  | cons p ks ih => exact .cons (.tup (h p (by simp)) (rpAll_of_ints p.2)) (ih fun q hq => h q (List.mem_cons_of_mem _ hq))
/-- sorted(set(rows)) -/
theorem g_sortSetR (h : EvG K pt te σ F (Is (dLT rs))) (hz : rs.length < 64) (hn : 1 ≤ n) (hr : ∀ r ∈ rs, r.length = n ∧ TS.Bd 4 r) :
    EvG K pt (tCB (rSortedT K P w) (tCons (tCB (rSetOfT K P w) (tCons te tNil)) tNil)) σ F (fun x => ∃ R, x = dLT R ∧ Asc R ∧ ∀ r, r ∈ R ↔ r ∈ rs) := fun H1 i g Q q =>
  h H1 i g _ fun d v F2 H2 hd s hv => by
    subst hd
    obtain ⟨a, xs, rfl, hl, ha⟩ := rp_lst hv
    obtain ⟨ks, rfl, hks, hF⟩ := rows_of ha
    refine ⟨a, ks, rfl, SqL.of (s.inn _ _ hl), fun p hp => SqT.of (s.inn _ _ (hF p hp)), by rw [← hks, List.length_map] at hz; exact hz, fun b L hb hL1 hL2 => ?_⟩
    have s3 : Step pt F2 H2 F2 (upd H2 b (SetTO P w b L)) := .litter s.inn s.good hb
    refine ⟨b, L, n, 4, rfl, upd_same, fun p hp => SqT.of (s3.inn _ _ (hF p (hL1 p hp))), hn, fun p hp => hr p.2 (by rw [← hks]; exact List.mem_map_of_mem (hL1 p hp)), fun L' p pL nd hlen pw hp => ?_⟩
    have hF' : ∀ q ∈ L', F2 q.1 = some (.tup (q.2.map V.int)) := fun q hq => hF q (hL1 q (pL.mem_iff.mp hq))
    have s4 : Step pt F2 (upd H2 b (SetTO P w b L)) (upd F2 p (.lst (L'.map fun q => V.ref q.1))) (upd (upd H2 b (SetTO P w b L)) p (.lst (L'.map fun q => V.ref q.1))) := .laid s3.inn s3.good hp
    refine q _ _ _ _ ⟨L'.map (·.2), rfl, asc_of (n := n) (fun r hr' => ?_) (List.pairwise_map.mpr pw) nd, fun r => ⟨fun h => ?_, fun h => ?_⟩⟩ ((s.trans s3).trans s4) (.lst upd_same (RpAll.mono s4.sub _ _ (rows_back hF')))
    · obtain ⟨q, hq, rfl⟩ := List.mem_map.mp hr'
      exact hr q.2 (by rw [← hks]; exact List.mem_map_of_mem (hL1 q (pL.mem_iff.mp hq)))
    · obtain ⟨q, hq, rfl⟩ := List.mem_map.mp h
      rw [← hks]; exact List.mem_map_of_mem (hL1 q (pL.mem_iff.mp hq))
    · rw [← hks] at h
      obtain ⟨q, hq, rfl⟩ := List.mem_map.mp h
      obtain ⟨q2, hq2, e⟩ := List.mem_map.mp (hL2 q hq)
      exact List.mem_map.mpr ⟨q2, pL.mem_iff.mpr hq2, e⟩
theorem perm_map {α β : Type} {f : α → β} {zs ys : List β} (h : zs.Perm ys) : ∀ ks : List α, zs = ks.map f → ∃ ks' : List α, ys = ks'.map f ∧ ks'.Perm ks := by
  induction h with
  | nil => intro ks e; exact ⟨[], rfl, by cases ks with
    | nil => exact .refl _
    | cons a r => simp at e⟩
  | cons a p ih =>
    intro ks e
    cases ks with
    | nil => simp at e
    | cons b r =>
      rw [List.map_cons] at e
      injection e with e1 e2
      obtain ⟨k2, h1, h2⟩ := ih r e2
      exact ⟨b :: k2, by rw [List.map_cons, ← e1, h1], h2.cons b⟩
  | swap a b l =>
    intro ks e
    match ks, e with
    | [], e => simp at e
    | [x], e => simp at e
    | x :: y :: r, e =>
      rw [List.map_cons, List.map_cons] at e
      injection e with e1 e2
      injection e2 with e2 e3
      exact ⟨y :: x :: r, by rw [List.map_cons, List.map_cons, ← e1, ← e2, ← e3], .swap x y r⟩
  | trans p1 p2 ih1 ih2 =>
    intro ks e
    obtain ⟨k2, h1, h2⟩ := ih1 ks e
    obtain ⟨k3, h3, h4⟩ := ih2 k2 h1
    exact ⟨k3, h3, h4.trans h2⟩
/-- sorted(rows) -/
theorem g_sortR (h : EvG K pt te σ F (Is (dLT rs))) (hz : rs.length < 64) (hr : ∀ r ∈ rs, r.length = n ∧ TS.Bd 4 r) :
    EvG K pt (tCB (rSortU K n 4) (tCons te tNil)) σ F (fun x => ∃ R : List (List Int), x = dLT R ∧ R.Perm rs ∧ R.Pairwise fun a b => TS.code 4 a ≤ TS.code 4 b) := fun H1 i g Q q =>
  h H1 i g _ fun d v F2 H2 hd s hv => by
    subst hd
    obtain ⟨a, xs, rfl, hl, ha⟩ := rp_lst hv
    obtain ⟨ks, rfl, hks, hF⟩ := rows_of ha
    refine ⟨a, _, rfl, SqL.of (s.inn _ _ hl), by rw [← hks, List.length_map] at hz; rw [List.length_map]; exact hz, fun x hx => ?_, fun ys p hy pw hp => ?_⟩
    · obtain ⟨p, hp, rfl⟩ := List.mem_map.mp hx
      obtain ⟨h1, h2⟩ := hr p.2 (by rw [← hks]; exact List.mem_map_of_mem hp)
      exact ⟨p.2, ⟨p.1, rfl, SqT.of (s.inn _ _ (hF p hp))⟩, h1, h2⟩
    · obtain ⟨ks', rfl, pk⟩ : ∃ ks' : List (Addr × List Int), ys = ks'.map (fun p => V.ref p.1) ∧ ks'.Perm ks := by
        exact perm_map hy.symm ks rfl
      have hF' : ∀ q ∈ ks', F2 q.1 = some (.tup (q.2.map V.int)) := fun q hq => hF q (pk.mem_iff.mp hq)
      have s4 : Step pt F2 H2 (upd F2 p (.lst (ks'.map fun q => V.ref q.1))) (upd H2 p (.lst (ks'.map fun q => V.ref q.1))) := .laid s.inn s.good hp
      refine q _ _ _ _ ⟨ks'.map (·.2), rfl, by rw [← hks]; exact pk.map _, List.pairwise_map.mpr (List.Pairwise.imp_of_mem (fun {x y} hx hy h => ?_) (List.pairwise_map.mp pw))⟩ (s.trans s4) (.lst upd_same (RpAll.mono s4.sub _ _ (rows_back hF')))
      exact h _ _ ⟨x.1, rfl, SqT.of (s.inn _ _ (hF' x hx))⟩ ⟨y.1, rfl, SqT.of (s.inn _ _ (hF' y hy))⟩
end
section
variable {K : PySem.W.Frag} {σ : L2.St} {F0 H0 F H : Hp} {te : TE} {D : Ends} {tz : TS} {x dx C : Addr} {fs : List (Str × V)} {i : Nat} {f : Str}
/-- self.f = e, where e reads what self has -/
theorem t_fldAt1 {Φ : V → Hp → Prop} (s : Step none F0 H0 F H) (h0 : H0 x = none) (hx : F x = none) (hi : σ[i]? = some (some (.ref x))) (ho : H x = some (.ins C dx fs)) (cl : Cls K C) (na : NoAttr K C f) (hz : fs.length < 1000)
    (h : ∀ Fp, Ex F Fp → Ex Fp H → Fp x = some (.ins C dx fs) → ∀ Q : VK, (∀ v F2 H2, Φ v F2 → Step none Fp H F2 H2 → Q v H2) → te σ H Q)
    (hΦ : ∀ v F2 F3, F2 x = some (.ins C dx fs) → (∀ a o, a ≠ x → F2 a = some o → F3 a = some o) → Φ v F2 → Φ v F3)
    (q : ∀ v F2 H2, Φ v F2 → Step none F0 H0 F2 H2 → Ex F F2 → F2 x = none → H2 x = some (.ins C dx (putF f v fs)) → D.nx σ H2) : sFld K (tVar i) te f D σ H := by
  have sp : Step none F0 H0 (upd F x (.ins C dx fs)) H := s.add hx ho h0
  refine h (upd F x (.ins C dx fs)) (Ex.new hx) sp.inn upd_same _ fun v F2 H2 hv s2 => ?_
  have st := sp.trans s2
  have f2 : F2 x = some (.ins C dx fs) := s2.sub _ _ upd_same
  have back : ∀ a o, a ≠ x → F2 a = some o → L2.del F2 x a = some o := fun a o z h => by rw [L2.del_ne z]; exact h
  have exF : Ex F (L2.del F2 x) := fun a o h => by
    have z : a ≠ x := fun z => by rw [z, hx] at h; cases h
    exact back a o z (s2.sub _ _ (by rw [upd_ne z]; exact h))
  have s3 : Step none F0 H0 (L2.del F2 x) H2 := ⟨s.sub.trans exF, fun a o h => by
    by_cases z : a = x
    · rw [z, L2.del_same] at h; cases h
    · rw [L2.del_ne z] at h; exact s2.inn _ _ h, st.keep, .nil, fun a h1 h2 => by
    by_cases z : a = x
    · rw [z, L2.del_same]
    · rw [L2.del_ne z]; exact st.new a h1 h2⟩
  exact ⟨.ref x, hi, x, C, dx, fs, rfl, s2.inn _ _ f2, cl, na, hz, q v (L2.del F2 x) _ (hΦ v F2 _ f2 back hv) (s3.put .nil h0 L2.del_same) exF L2.del_same upd_same⟩
end
end Fv
namespace KJ
open PySem PySem.Spec PyProof.Rows L2 L2H Fv Evl StX
abbrev s_Book___init__ : Stmt := inClass (topS 39) 0
theorem sc_Book___init__ : FnScope ["self", "houses", "values", "inputs", "entry"] ["self", "houses", "values", "inputs"] (defScope s_Book___init__) := ⟨rfl, rfl, rfl, by decide +kernel, rfl, by decide +kernel, by decide +kernel⟩
theorem nd_len {α : Type} [DecidableEq α] : ∀ {a b : List α}, a.Nodup → (∀ x ∈ a, x ∈ b) → a.length ≤ b.length
  | [], _, _, _ => Nat.zero_le _
  | x :: a, b, h, hs => by
    have hx : x ∈ b := hs x (by simp)
    obtain ⟨h1, h2⟩ := List.nodup_cons.mp h
    have := nd_len (a := a) (b := b.erase x) h2 fun y hy => (List.mem_erase_of_ne (fun z : y = x => h1 (z ▸ hy))).mpr (hs y (List.mem_cons_of_mem _ hy))
    rw [List.length_erase_of_mem hx] at this
    have := List.length_pos_of_mem hx
    rw [List.length_cons]; omega
/-- an instance of Book: n houses, m values, the rows -/
structure Bk (K : PySem.W.Frag) (C : Addr) (F : Hp) (x : Addr) (n m : Nat) (R : List (List Int)) : Prop where
  ex : ∃ dx it d, F x = some (.ins C dx [("n", .int n), ("m", .int m), ("inputs", it), ("_held", .ref d)]) ∧ F dx = some (.own x) ∧ Rp K F it (dTT R) ∧ F d = some (.dT (letD R))
theorem Bk.mono {K : PySem.W.Frag} {C : Addr} {F F' : Hp} {x : Addr} {n m : Nat} {R : List (List Int)} (h : Bk K C F x n m R) (e : Ex F F') : Bk K C F' x n m R := by
  obtain ⟨dx, it, d, h1, h2, h3, h4⟩ := h.ex
  exact ⟨dx, it, d, e _ _ h1, e _ _ h2, Rp.mono e _ _ h3, e _ _ h4⟩
structure BookC (K : PySem.W.Frag) (C : Addr) : Prop where
  cl : Cls K C
  nN : NoAttr K C "n"
  nM : NoAttr K C "m"
  nI : NoAttr K C "inputs"
  nH : NoAttr K C "_held"
section
variable {P : Program} {w : World} {K : PySem.W.Frag} {mg : Str → Option Value} {base : Heap}
def spBook (K : PySem.W.Frag) (C : Addr) : Sp := fun vs H Q _ => ∃ x dx n m src rs F v, vs = [.ref x, .int (n : Nat), .int (m : Nat), v] ∧ H x = some (.ins C dx []) ∧ H dx = some (.own x) ∧ dx ≠ x ∧ F x = none ∧ F dx = none ∧ Ex F H ∧ Rp K F v src ∧
  RowsD src rs ∧ (2 ≤ n ∧ n ≤ 5) ∧ (1 ≤ m ∧ m ≤ 4) ∧ rs.length < 64 ∧ (∀ r ∈ rs, Row n m r) ∧ ∀ F2 H2 R, Step none F (Fv.del (Fv.del H x) dx) F2 H2 → Asc R → (∀ r, r ∈ R ↔ r ∈ rs) → Bk K C F2 x n m R → Q .non H2
theorem Row.bd {n m : Nat} {r : List Int} (h : Row n m r) (hm : m ≤ 4) : r.length = n ∧ TS.Bd 4 r := ⟨h.1, fun k hk => by have := h.2 k hk; omega⟩
theorem ok_book {f fS fW fL fC C : Addr} {fd fdS fdW fdL fdC : FuncData} (Fn : Fun K "__init__" "Book.__init__" s_Book___init__ f fd) (T : Tx mg) (BC : BookC K C) {tM : Tok} (c_MOST_INPUTS : mg "MOST_INPUTS" = some (.int 256 tM))
    (F_is_sequence : Fun K "is_sequence" "is_sequence" s_is_sequence fS fdS) (b_is_sequence : Binds K fdS ["thing"] []) (g_is_sequence : mg "is_sequence" = some (.ref fS))
    (F_is_whole : FunW K fW fdW) (b_is_whole : Binds K fdW ["thing", "low", "high"] []) (g_is_whole : mg "is_whole" = some (.ref fW))
    (F_check_entry : Fun K "check_entry" "check_entry" s_check_entry fL fdL) (b_check_entry : Binds K fdL ["houses", "values", "entry"] []) (g_check_entry : mg "check_entry" = some (.ref fL))
    (F_checked_inputs : Fun K "_checked_inputs" "_checked_inputs" s_checked_inputs fC fdC) (b_checked_inputs : Binds K fdC ["houses", "values", "inputs"] []) (g_checked_inputs : mg "_checked_inputs" = some (.ref fC)) :
    FnOk P w K mg base CX0 4 f fd ["self", "houses", "values", "inputs"] (spBook K C) := by
  have G_is_sequence : FnOk P w K mg base CX0 1 fS fdS ["thing"] (spSeq K) := ok_seq F_is_sequence T
  have G_is_whole : FnOk P w K mg base CX0 1 fW fdW ["thing", "low", "high"] (spWhole K) := ok_whole F_is_whole T
  have G_checked_inputs : FnOk P w K mg base CX0 3 fC fdC ["houses", "values", "inputs"] (spChk K) := ok_chk F_checked_inputs T F_is_sequence b_is_sequence g_is_sequence F_is_whole b_is_whole g_is_whole F_check_entry b_check_entry g_check_entry
  refine Fn.ok sc_Book___init__ (fun vs H Q E ⟨_, _, _, _, _, _, _, _, h, _⟩ => by rw [h]; rfl) (fun cdv A outer s H vs Q E hr h => ?_)
  obtain ⟨x, dx, n, m, src, rs, F, v, rfl, hox, hodx, hne, fx, fdx, e, hv, hsrc, ⟨hn2, hn5⟩, ⟨hm1, hm4⟩, hfew, hrow, q⟩ := h
  refine ⟨_, (pss_cons (ps_if (pt_not (pt_val (pe_call G_is_whole (hr.mono (by decide)) (by rfl) g_is_whole F_is_whole.kp b_is_whole .nil pass0 (pa_cons (pv 1) (pa_cons pe_int (pa_cons pe_int pa_nil)))))) (pss_one ps_never) pss_nil)
    (pss_cons (ps_if (pt_not (pt_val (pe_call G_is_whole (hr.mono (by decide)) (by rfl) g_is_whole F_is_whole.kp b_is_whole .nil pass0 (pa_cons (pv 2) (pa_cons pe_int (pa_cons pe_int pa_nil)))))) (pss_one ps_never) pss_nil)
    (pss_cons (ps_if (PW.pt (pw_or (pt_not (pt_val (pe_call G_is_sequence (hr.mono (by decide)) (by rfl) g_is_sequence F_is_sequence.kp b_is_sequence .nil pass0 (pa_cons (pv 3) pa_nil)))) (pw_or1 (pt_cmpR op_gt (pe_callB (c_len (K := K)) (by rfl) T.len (by decide +kernel) (pa_cons (pv 3) pa_nil)) (pe_glob (v := .int 256) (by rfl) c_MOST_INPUTS ⟨_, rfl⟩) (nomark _))))) (pss_one ps_never) pss_nil)
    (pss_cons (ps_fld (pv 0) (pv 1) rfl)
    (pss_cons (ps_fld (pv 0) (pv 2) rfl)
    (pss_cons (ps_fld (pv 0) (pe_callTy (c_tup (K := K)) (by rfl) T.tuple (by decide +kernel) (pa_cons (pe_callB (c_sortSetR (K := K) (P := P) (w := w)) (by rfl) T.sorted (by decide +kernel) (pa_cons (pe_callTy (c_setR (K := K) (P := P) (w := w) (hu65 hr)) (by rfl) T.set (by decide +kernel) (pa_cons (pe_call G_checked_inputs (hr.mono (by decide)) (by rfl) g_checked_inputs F_checked_inputs.kp b_checked_inputs .nil pass0 (pa_cons (pv 1) (pa_cons (pv 2) (pa_cons (pv 3) pa_nil)))) pa_nil)) pa_nil)) pa_nil)) rfl)
    (pss_one (ps_fld (pv 0) (pe_dcT (own := [("entry", 4)]) (g := gName 4) rfl (hu_of hr) sc_Book___init__.nd (i_tup (K := K) (e_fld (K := K) (pv 0) rfl)) (blkOk_by (own := [("entry", 4)]) (N := ["self", "houses", "values", "inputs", "entry"]) (sc := (defScope s_Book___init__)) (by decide +kernel)) (fun _ _ _ _ _ => pg_name (i := 4) sc_Book___init__.nd rfl (by first | exact Or.inl rfl | exact Or.inr rfl)) (fun _ _ _ _ _ => pts_nil) (fun _ _ _ _ _ => (pv 4)) (fun _ _ _ _ _ => pe_bl)) rfl)))))))), ?_⟩
  have h0x : Fv.del (Fv.del H x) dx x = none := by rw [Fv.del_ne hne.symm, Fv.del_same]
  -- the first tests
  refine t_skip (Step.refl e .nil) ((et_not (b := true) ((et_B (g_call (.int n, some 2, some 5) (gs_three (g_var (v := .int n) rfl (.int _)) g_int g_int) rfl trivial)).is ?_)).is rfl) fun F1 H1 s1 e1 => ?_
  · simp only [isWhole, loOk, hiOk, Bool.and_eq_true, decide_eq_true_eq]; omega
  refine t_skip s1 ((et_not (b := true) ((et_B (g_call (.int m, some 1, some 4) (gs_three (g_var (v := .int m) rfl (.int _)) g_int g_int) rfl trivial)).is ?_)).is rfl) fun F2 H2 s2 e2 => ?_
  · simp only [isWhole, loOk, hiOk, Bool.and_eq_true, decide_eq_true_eq]; omega
  have e12 := e1.trans e2
  refine t_skip s2 ((et_or (a := false) (b := false) ((et_not (b := true) ((et_B (g_call src (gs_one (g_var rfl (Rp.mono e12 _ _ hv))) rfl trivial)).is ?_)).is rfl) fun _ => ((et_of (K := K) (g_op (g_cbI (gs_one (g_var rfl (Rp.mono e12 _ _ hv))) (rc_lenS hsrc)) g_int fun _ _ h1 h2 => by subst h1 h2; exact rv_bl (g := fun i j => decide (j < i)))).is ?_)).is rfl) fun F3 H3 s3 e3 => ?_
  · rcases hsrc with rfl | rfl <;> rfl
  · simp; omega
  -- what the instance has been through
  have f3x : F3 x = none := s3.new x fx (by rw [hox]; simp)
  have h3x : H3 x = some (.ins C dx []) := s3.keep.ex x _ hox
  have b0 : Fv.del H x x = none := Fv.del_same
  have e13 := e12.trans e3
  refine t_fld (K := K) ((Step.own1 e x).trans s3) b0 f3x rfl h3x BC.cl BC.nN (by decide) (EvG.toX (g_var (K := K) (d := .int n) (v := .int n) rfl (.int _))) fun v6 F6 H6 hv6 s6 e6 f6x h6x => ?_
  have hv6' := rp_int hv6
  subst hv6'
  refine t_fld (K := K) s6 b0 f6x rfl h6x BC.cl BC.nM (by show 1 < 1000; decide) (EvG.toX (g_var (K := K) (d := .int m) (v := .int m) rfl (.int _))) fun v7 F7 H7 hv7 s7 e7 f7x h7x => ?_
  have hv7' := rp_int hv7
  subst hv7'
  have hI : EvG K none (tCB (rTup K) (tCons (tCB (rSortedT K P w) (tCons (tCB (rSetOfT K P w) (tCons (tCall (spChk K) [] E0 (tCons (tVar 1) (tCons (tVar 2) (tCons (tVar 3) tNil)))) tNil)) tNil)) tNil)) (start ["self", "houses", "values", "inputs", "entry"] [.ref x, .int n, .int m, v]) F7 (fun d => ∃ R, d = dTT R ∧ Asc R ∧ ∀ r, r ∈ R ↔ r ∈ rs) :=
    g_cb (g_consR (g_sortSetR (n := n) (g_call (n, m, src, rs) (gs_three (g_var (v := .int n) rfl (.int _)) (g_var (v := .int m) rfl (.int _)) (g_var rfl (Rp.mono ((e13.trans e6).trans e7) _ _ hv))) rfl ⟨hn5, by simp only; omega, hsrc, by simp only; omega, hrow⟩) hfew (by omega) fun r hr' => (hrow r hr').bd hm4)) fun ds ⟨d, h1, R, h2, h3, h4⟩ => by
      subst h1; subst h2
      intro F H vs e hvs Q q
      exact rc_tupL F H vs e hvs Q fun z v F2 H2 hz s hv => q z v F2 H2 ⟨R, hz, h3, h4⟩ s hv
  refine t_fld (K := K) (Φ := fun v F2 => ∃ R, Rp K F2 v (dTT R) ∧ Asc R ∧ ∀ r, r ∈ R ↔ r ∈ rs) s7 b0 f7x rfl h7x BC.cl BC.nI (by show 2 < 1000; decide) (fun H' i' g' Q' q' => hI H' i' g' Q' fun d v F2 H2 ⟨R, h1, h2, h3⟩ s hv => q' v F2 H2 ⟨R, by rw [← h1]; exact hv, h2, h3⟩ s) fun v8 F8 H8 hv8 s8 e8 f8x h8x => ?_
  obtain ⟨R, hR, hasc, hmem⟩ := hv8
  have lenR : R.length ≤ 300 := by
    have : R.length ≤ rs.length := nd_len hasc.nd fun r hr => (hmem r).mp hr
    omega
  refine t_fldAt1 (K := K) (Φ := fun v F2 => ∃ D, v = .ref D ∧ F2 D = some (.dT (letD R))) s8 b0 f8x rfl h8x BC.cl BC.nH (by show 3 < 1000; decide) (fun Fp ep ip hp Q' q' => ?_) (fun v F2 F3 h1 h2 ⟨D, h3, h4⟩ => ⟨D, h3, h2 D _ (fun z => by rw [z, h1] at h4; cases h4) h4⟩) fun v9 F9 H9 hv9 s9 e9 f9x h9x => ?_
  · exact x_dcT (K := K) (w_tupI (g_fld (K := K) rfl hp BC.cl BC.nI rfl (Rp.mono ep _ _ hR))) lenR (fun _ => rfl) (fun l hl F' e' u hu => g_var rfl hu) (fun _ _ _ => g_bl) H8 ip .nil Q' q'
  obtain ⟨D, rfl, hD⟩ := hv9
  have hdx : (Fv.del H x) dx = some (.own x) := by rw [Fv.del_ne hne]; exact hodx
  have f9d : F9 dx = none := s9.new dx fdx (by rw [hdx]; simp)
  have h9d : H9 dx = some (.own x) := s9.keep.ex dx _ hdx
  have s10 : Step none F (Fv.del (Fv.del H x) dx) (upd F9 dx (.own x)) H9 := (s9.less Fv.del_ex).add f9d h9d Fv.del_same
  have f10x : upd F9 dx (.own x) x = none := by rw [upd_ne hne.symm]; exact f9x
  have s11 := s10.add (a := x) f10x h9x (by rw [Fv.del_ne hne.symm, Fv.del_same])
  have ee : Ex F9 (upd (upd F9 dx (.own x)) x (.ins C dx (putF "_held" (.ref D) (putF "inputs" v8 (putF "m" (.int m) (putF "n" (.int n) [])))))) := (Ex.new f9d).trans (Ex.new f10x)
  refine q _ H9 R s11 hasc hmem ⟨dx, v8, D, upd_same, ?_, Rp.mono (e9.trans ee) _ _ hR, ee _ _ hD⟩
  rw [upd_ne hne]; exact upd_same
end
end KJ
namespace KJ
open PySem PySem.Spec PyProof.Rows L2 L2H Fv Evl StX
abbrev s_NotInBook___init__ : Stmt := inClass (topS 8) 0
theorem sc_NotInBook___init__ : FnScope ["self", "entry"] ["self", "entry"] (defScope s_NotInBook___init__) := ⟨rfl, rfl, rfl, by decide +kernel, rfl, by decide +kernel, by decide +kernel⟩
/-- FirmError, at CF -/
structure FirmC (K : PySem.W.Frag) (mg : Str → Option Value) (CF : Addr) (mc : Value) : Prop where
  g : mg "FirmError" = some (.ref CF)
  r : ClX.CRead K CF mc
  v : PySem.W.findCls K (.ref CF) mc "__init__" = some (.val (.builtin "ValueError.__init__"))
/-- an error class nm of the text, at C, its maker at fI, with the fields fl -/
structure ErrC (K : PySem.W.Frag) (mg : Str → Option Value) (CF C fI : Addr) (nm : Str) (fl : List Str) : Prop where
  T : OexC K C
  iC : PySem.W.findIn K (.ref C) "__init__" = some (some (.ref fI))
  tI : PySem.W.typeIn K (.ref fI) = some (.type "function")
  no : ∀ f ∈ fl, PySem.W.findIn K (.ref C) f = some none
  g : mg nm = some (.ref C)
  xf : XfC K C
  self : PySem.W.exmOne K (.ref C) (.ref C) = some true
  up : PySem.W.kitOne K (.ref C) (.ref CF) = some true
  kv : PySem.W.kitOne K (.ref C) (.type "ValueError") = some true
section
variable {P : Program} {w : World} {K : PySem.W.Frag} {mg : Str → Option Value} {base : Heap} {CF C fI CB CO : Addr} {mc : Value}
variable {pt : Option Pt} {σ : L2.St} {F F' F0 H0 H : Hp} {te ta tb ty td : TE} {ts tr : TA} {D : Ends} {tz : TS}
def spIv (C : Addr) (f1 : Str) : Sp := fun vs H Q _ => ∃ (a : Addr) (v : V), vs = [.ref a, v] ∧ H a = some (exo a C none) ∧
  ∀ dx, H dx = none → dx ≠ a → Q .non (upd (upd H dx (exd dx [(f1, v)])) a (exo a C (some dx)))
theorem ok_outE {fd : FuncData} (Fn : Fun K "__init__" "NotInBook.__init__" s_NotInBook___init__ fI fd) (FC : FirmC K mg CF mc) (EC : ErrC K mg CF C fI "NotInBook" ["entry"]) : FnOk P w K mg base CX0 1 fI fd ["self", "entry"] (spIv C "entry") := by
  refine Fn.ok sc_NotInBook___init__ (fun vs H Q E ⟨_, _, h, _⟩ => by rw [h]; rfl) (fun cdv A outer s H vs Q E hr h => ?_)
  obtain ⟨a, x, rfl, ho, q⟩ := h
  refine ⟨_, (pss_cons (ps_expr (pe_fminit (by rfl) FC.g FC.r FC.v (pa_cons (pv 0) (pa_cons pe_str pa_nil)))) (pss_one (ps_ost (pv 0) (pv 1)))), ?_⟩
  exact ⟨_, rfl, ⟨a, C, _, rfl, by simp, EC.T, ho, _, rfl, _, rfl, a, C, rfl, EC.T, EC.no _ (by simp), .inl ⟨ho, fun dx h1 h2 => q dx h1 h2⟩⟩⟩
theorem r_mkv {f1 : Str} {d : PyData} {Q : XK} (e : Ex F H) (h : EvsG K none ts σ F (· = [d])) (q : ∀ F2 H2 dx, Step none F H F2 H2 → (∃ v, F2 dx = some (.xd [(f1, v)]) ∧ Rp K F2 v d) → Q (.ref C) (some dx) H2) :
    tMkO C (spIv C f1) [] ts σ H Q := h H e .nil _ fun ds vs F2 H2 hd st hv => by
  subst hd
  obtain ⟨v1, rfl, hd1⟩ := rpAll1 hv
  refine ⟨by simp, fun a ha => ⟨a, v1, rfl, upd_same, fun dx h1 h2 => ⟨rfl, dx, [(f1, v1)], upd_same, ?_, ?_, ?_⟩⟩⟩
  · rw [upd_ne h2]; exact upd_same
  · rw [upd_ne h2] at h1; exact h1
  · rw [upd_ne h2] at h1
    have eh : ∀ (y z : HO) (fs : List (Str × V)), upd (L2.del (upd (upd (upd H2 a y) dx z) a (exo a C (some dx))) a) dx (.xd fs) = upd H2 dx (.xd fs) := fun y z fs => by
      funext b
      by_cases zz : b = dx
      · rw [zz, upd_same, upd_same]
      · rw [upd_ne zz, upd_ne zz]
        by_cases yy : b = a
        · rw [yy, L2.del_same, ha]
        · rw [L2.del_ne yy, upd_ne yy, upd_ne zz, upd_ne yy]
    rw [eh]
    have s3 : Step none F2 H2 (upd F2 dx (.xd [(f1, v1)])) (upd H2 dx (.xd [(f1, v1)])) := .laid st.inn .nil h1
    exact q _ _ dx (st.trans s3) ⟨v1, upd_same, Rp.mono s3.sub _ _ hd1⟩
/-! what a view goes on to -/
end
end KJ
namespace KJ
open PySem PySem.Spec PyProof.Rows L2 Fv Evl StX
abbrev s_law_pot : Stmt := topS 42
theorem sc_law_pot : FnScope ["_law_script", "_law_salt", "_law_cell"] ["_law_script", "_law_salt"] (defScope s_law_pot) := ⟨rfl, rfl, rfl, by decide +kernel, rfl, by decide +kernel, by decide +kernel⟩
abbrev s_law_draw : Stmt := topS 43
theorem sc_law_draw : FnScope ["_law_pot_here", "_law_many_here", "_law_cell", "_law_digit"] ["_law_pot_here", "_law_many_here"] (defScope s_law_draw) := ⟨rfl, rfl, rfl, by decide +kernel, rfl, by decide +kernel, by decide +kernel⟩
section
variable {P : Program} {w : World} {K : PySem.W.Frag} {mg : Str → Option Value} {base : Heap}
abbrev spDraw (K : PySem.W.Frag) : Sp := spP K (fun m => 1 ≤ m ∧ m < 10000000000000000000000000000001) (fun m d => ∃ k : Int, d = .int k ∧ 0 ≤ k ∧ k < m)
theorem cm {i j : Int} (h0 : 0 ≤ i) (h1 : i < 2147483647) : CMul i j := .inl ⟨by omega, by omega⟩
theorem ok_draw {f : Addr} {fd : FuncData} (Fn : Fun K "_law_draw" "_law_draw" s_law_draw f fd) (T : Tx mg) : FnOk P w K mg base CX0 1 f fd ["_law_pot_here", "_law_many_here"] (spDraw K) := by
  refine Fn.ok sc_law_draw spP.len (fun cdv A outer s H vs Q E hr h => ?_)
  obtain ⟨q, m, F, rfl, ⟨m1, m2⟩, e, g, k0⟩ := h
  have k : ∀ k F2 H2, 0 ≤ k → k < m → Step (some q) F H F2 H2 → Q (.int k) H2 := fun k F2 H2 h1 h2 s => k0 _ _ F2 H2 ⟨k, rfl, h1, h2⟩ s (.int k)
  refine ⟨_, (pss_cons (ps_if (PW.pt (pw_and (pt_cmpR op_eq (pe_ix (o_ixL (K := K)) (pv 0) pe_int (fun _ _ => rfl)) pe_int (nomark _)) (pw_and1 (pt_cmpR op_lt (pe_ix (o_ixL (K := K)) (pv 0) pe_int (fun _ _ => rfl)) (pe_callB (c_len (K := K)) (by rfl) T.len (by decide +kernel) (pa_cons (pe_ix (o_ixL (K := K)) (pv 0) pe_int (fun _ _ => rfl)) pa_nil)) (nomark _))))) (pss_cons (ps_set (i := 2) sc_law_draw.nd rfl (by first | exact Or.inl rfl | exact Or.inr rfl) (pe_ix (o_ixL (K := K)) (pe_ix (o_ixL (K := K)) (pv 0) pe_int (fun _ _ => rfl)) (pe_ix (o_ixL (K := K)) (pv 0) pe_int (fun _ _ => rfl)) (fun _ _ => rfl)))
    (pss_cons (ps_asg (pe_op op_add (pe_ix (o_ixL (K := K)) (pv 0) pe_int (fun _ _ => rfl)) pe_int) (pg_sub (pv 0) pe_int set_list))
    (pss_one (ps_if (pt_cmpR op_ge (pv 2) pe_int (nomark _)) (pss_one (ps_asg (pv 2) (pg_sub (pv 0) pe_int set_list))) (pss_one (ps_asg (pe_op op_modN (pe_op op_add (pe_op op_add (pe_op op_mul (pe_ix (o_ixL (K := K)) (pv 0) pe_int (fun _ _ => rfl)) pe_int) (pe_op op_mul (pe_op op_modN (pe_callTy call_int1 (by rfl) T.int (by decide +kernel) (pa_cons (pv 2) pa_nil)) pe_int) pe_int)) pe_int) pe_int) (pg_sub (pv 0) pe_int set_list))))))) pss_nil)
    (pss_cons (ps_if (pt_cmpR op_gt (pe_ix (o_ixL (K := K)) (pv 0) pe_int (fun _ _ => rfl)) pe_int (nomark _)) (pss_cons (ps_set (i := 3) sc_law_draw.nd rfl (by first | exact Or.inl rfl | exact Or.inr rfl) (pe_op op_modN (pe_callTy call_int1 (by rfl) T.int (by decide +kernel) (pa_cons (pe_ix (o_ixL (K := K)) (pv 0) pe_int (fun _ _ => rfl)) pa_nil)) (pv 1)))
    (pss_cons (ps_asg (pe_op op_fdivW (pe_ix (o_ixL (K := K)) (pv 0) pe_int (fun _ _ => rfl)) (pv 1)) (pg_sub (pv 0) pe_int set_list))
    (pss_one (ps_ret (pv 3))))) pss_nil)
    (pss_cons (ps_asg (pe_op op_modN (pe_op op_add (pe_op op_mul (pe_ix (o_ixL (K := K)) (pv 0) pe_int (fun _ _ => rfl)) pe_int) pe_int) pe_int) (pg_sub (pv 0) pe_int set_list))
    (pss_one (ps_ret (pe_op op_modN (pe_op op_fdivN (pe_callTy call_int1 (by rfl) T.int (by decide +kernel) (pa_cons (pe_op op_modN (pe_op op_mul (pe_ix (o_ixL (K := K)) (pv 0) pe_int (fun _ _ => rfl)) pe_int) pe_int) pa_nil)) pe_int) (pv 1))))))), ?_⟩
  have get : ∀ {σ : L2.St} {H' : Hp} {a b c : Int}, σ[0]? = some (some (.ref q.p)) → Pot H' q a b c → ∀ {i : Int} {v : V}, atI [V.int a, .int b, .int c, .ref q.l] i = some v → EvC (tOp (rIxL K) (tVar 0) (tC (.int i))) σ H' v := fun h p _ _ hi => ec_ixL (ec_var h) ec_int p.at_ hi
  obtain ⟨a, b, c, p⟩ := Pot.of (g q rfl).2
  let J : L2.St → Hp → Prop := fun σ' H' => ∃ a b c x y, σ' = [some (.ref q.p), some (.int m), x, y] ∧ Pot H' q a b c ∧ Step (some q) F H F H'
  have mk : ∀ {H' : Hp} {a b c : Int}, Pot H' q a b c → Step (some q) F H F H' → ∀ {a' b' c' : Int}, 0 ≤ a' → 0 ≤ b' → b' < 2147483647 → 0 ≤ c' → c' ≤ q.ns.length → Pot (upd H' q.p (.lst [.int a', .int b', .int c', .ref q.l])) q a' b' c' ∧ Step (some q) F H F (upd H' q.p (.lst [.int a', .int b', .int c', .ref q.l])) := fun p s _ _ _ h1 h2 h3 h4 h5 => by
    have p' := p.put h1 h2 h3 h4 h5
    exact ⟨p', s.trans (Step.pot s.inn s.good p'.pot)⟩
  have s0 : Step (some q) F H F H := Step.refl e g
  refine ts_when J (b := decide (a = 0) && decide (c < (q.ns.map V.int).length)) (etc_and (etc_of (ec_eq (get rfl p rfl) ec_int)) fun _ => etc_of (ec_I0 (g := fun i j => .bl (decide (i < j))) (get rfl p rfl) (ec_len (get rfl p rfl) p.ls))) (fun hb N hN => ?_) (fun _ => ⟨a, b, c, none, none, rfl, p, s0⟩) (fun σ' H' hJ => ?_)
  · simp only [Bool.and_eq_true, decide_eq_true_eq, List.length_map] at hb
    obtain ⟨_, hc⟩ := hb
    have c0 := p.c0
    obtain ⟨j, rfl⟩ : ∃ j : Nat, c = (j : Int) := ⟨c.toNat, by omega⟩
    have hj : j < q.ns.length := by omega
    have hcell : atI (q.ns.map V.int) (j : Int) = some (.int q.ns[j]) := atI_nat (by rw [List.getElem?_map, List.getElem?_eq_getElem hj]; rfl)
    refine ts_asg (ec_ixL (get rfl p rfl) (get rfl p rfl) p.ls hcell) ?_
    -- pot[2] = pot[2] + 1
    obtain ⟨p1, s1⟩ := mk p s0 (a' := a) (b' := b) (c' := (j : Int) + 1) p.a0 p.b0 p.b1 (by omega) (by omega)
    refine ts_put (q := q) (j := 2) (ec_I0 (g := fun i j => .int (i + j)) (get rfl p rfl) ec_int) rfl p.at_ rfl ?_
    show tIfS _ _ _ _ _ (upd H q.p (.lst [.int a, .int b, .int ((j : Int) + 1), .ref q.l]))
    refine ts_if1 (etc_of (ec_I0 (g := fun i j => .bl (decide (j ≤ i))) (ec_var rfl) ec_int)) (fun hb2 => ?_) (fun hb2 => ?_)
    · simp only [decide_eq_true_eq] at hb2
      obtain ⟨p2, s2⟩ := mk p1 s1 (a' := q.ns[j]) (b' := b) (c' := (j : Int) + 1) (by omega) p.b0 p.b1 (by omega) (by omega)
      refine ts_put1 (q := q) (j := 0) (ec_var rfl) rfl p1.at_ rfl ?_
      exact hN _ _ ⟨_, _, _, _, _, rfl, p2, s2⟩
    · obtain ⟨z1, z2⟩ := fm0 (b * 48271 + (q.ns[j]).fmod 1000003 * 69621 + 77) (j := 2147483647) (by decide)
      obtain ⟨p2, s2⟩ := mk p1 s1 (a' := a) (c' := (j : Int) + 1) p.a0 z1 z2 (by omega) (by omega)
      have e1 : EvC _ _ _ _ := ec_I (C := CMul) (g := fun i j => .int (i * j)) (get (σ := [some (.ref q.p), some (.int m), some (.int q.ns[j]), none]) rfl p1 (i := 1) rfl) (ec_int (i := 48271)) (cm p.b0 p.b1)
      have e2 : EvC _ _ _ _ := ec_I (C := CMul) (g := fun i j => .int (i * j)) (ec_I (C := fun _ j => j ≠ 0) (g := fun i j => .int (i.fmod j)) (ec_int1 (ec_var (σ := [some (.ref q.p), some (.int m), some (.int q.ns[j]), none]) (i := 2) (H := upd H q.p (.lst [.int a, .int b, .int ((j : Int) + 1), .ref q.l])) rfl)) (ec_int (i := 1000003)) (by decide)) (ec_int (i := 69621)) (cm (fm0 _ (by decide)).1 (Int.lt_trans (fm0 _ (by decide)).2 (by decide)))
      refine ts_put1 (q := q) (j := 1) (ec_I (C := fun _ j => j ≠ 0) (g := fun i j => .int (i.fmod j)) (ec_I0 (g := fun i j => .int (i + j)) (ec_I0 (g := fun i j => .int (i + j)) e1 e2) ec_int) ec_int (show (2147483647 : Int) ≠ 0 by decide)) rfl p1.at_ rfl ?_
      exact hN _ _ ⟨_, _, _, _, _, rfl, p2, s2⟩
  · obtain ⟨a, b, c, x, y, rfl, p, s⟩ := hJ
    have m0 : m ≠ 0 := by omega
    refine ts_if (etc_of (ec_I0 (g := fun i j => .bl (decide (j < i))) (get rfl p rfl) ec_int)) (fun hb => ?_) (fun hb => ?_)
    · obtain ⟨z1, z2⟩ := fm0 a (j := m) (by omega)
      refine ts_asg (ec_I (C := fun _ j => j ≠ 0) (g := fun i j => .int (i.fmod j)) (ec_int1 (get rfl p rfl)) (ec_var rfl) m0) ?_
      obtain ⟨p1, s1⟩ := mk p s (a' := a / m) (b' := b) (c' := c) (Int.ediv_nonneg p.a0 (by omega)) p.b0 p.b1 p.c0 p.c1
      refine ts_put (q := q) (j := 0) (ec_I (C := CDivW) (g := fun i j => .int (i / j)) (get rfl p rfl) (ec_var rfl) ⟨by omega, by
        have h1 : m.natAbs < 2 ^ 110 := by
          have : (2 : Nat) ^ 110 = 1298074214633706907132624082305024 := by decide
          omega
        have := PySem.Flt.log2_lt_of (by decide) h1
        omega⟩) rfl p.at_ rfl ?_
      exact ts_ret (ec_var rfl) (k _ _ _ z1 z2 s1)
    · obtain ⟨z1, z2⟩ := fm0 (b * 48271 + 1013904223) (j := 2147483647) (by decide)
      obtain ⟨p1, s1⟩ := mk p s (a' := a) (c' := c) p.a0 z1 z2 p.c0 p.c1
      refine ts_put (q := q) (j := 1) (ec_I (C := fun _ j => j ≠ 0) (g := fun i j => .int (i.fmod j)) (ec_I0 (g := fun i j => .int (i + j)) (ec_I (C := CMul) (g := fun i j => .int (i * j)) (get rfl p rfl) ec_int (cm p.b0 p.b1)) ec_int) ec_int (show (2147483647 : Int) ≠ 0 by decide)) rfl p.at_ rfl ?_
      obtain ⟨y1, y2⟩ := fm0 ((((b * 48271 + 1013904223).fmod 2147483647 * 16807).fmod 2147483629).fdiv 5) (j := m) (by omega)
      refine ts_ret (ec_I (C := fun _ j => j ≠ 0) (g := fun i j => .int (i.fmod j)) (ec_I (C := CDivN) (g := fun i j => .int (i.fdiv j)) (ec_int1 (ec_I (C := fun _ j => j ≠ 0) (g := fun i j => .int (i.fmod j)) (ec_I (C := CMul) (g := fun i j => .int (i * j)) (get rfl p1 rfl) ec_int (cm p1.b0 p1.b1)) ec_int (show (2147483629 : Int) ≠ 0 by decide))) ec_int (show CDivN _ 5 from ⟨by decide, by decide⟩)) (ec_var rfl) m0) (k _ _ _ y1 y2 s1)
def spPot (K : PySem.W.Frag) : Sp := fun vs H Q _ => ∃ (a : Addr) (ns : List Int) (c : Int) (F : Hp), vs = [.ref a, .int c] ∧ SqL K F a (ns.map V.int) ∧ 0 ≤ c ∧ c < 2147483647 ∧ Ex F H ∧
  ∀ (q : Pt) F2 H2, Step none F H F2 H2 → Good (some q) F2 H2 → H q.p = none → Q (.ref q.p) H2
theorem ok_pot {f : Addr} {fd : FuncData} (Fn : Fun K "_law_pot" "_law_pot" s_law_pot f fd) (T : Tx mg) : FnOk P w K mg base CX0 1 f fd ["_law_script", "_law_salt"] (spPot K) := by
  refine Fn.ok sc_law_pot (fun vs H Q E ⟨_, _, _, _, h, _⟩ => by rw [h]; rfl) (fun cdv A outer s H vs Q E hr h => ?_)
  obtain ⟨a, ns, c, F, rfl, hl, c0, c1, e, k⟩ := h
  refine ⟨_, (pss_one (ps_ret (pe_lst (pa_cons pe_int (pa_cons (pv 1) (pa_cons pe_int (pa_cons (pe_lc (own := [("_law_cell", 2)]) (g := gName 2) rfl sc_law_pot.nd (i_list (K := K) (pe_slice (s_list (K := K)) (pv 0) (po_some pe_int) (po_some pe_int))) (blkOk_by (own := [("_law_cell", 2)]) (N := ["_law_script", "_law_salt", "_law_cell"]) (sc := (defScope s_law_pot)) (by decide +kernel)) (fun _ _ _ _ _ => pg_name (i := 2) sc_law_pot.nd rfl (by first | exact Or.inl rfl | exact Or.inr rfl)) (fun _ _ _ _ _ => pts_nil) (fun _ _ _ _ _ => (pe_callTy call_int1 (by rfl) T.int (by decide +kernel) (pa_cons (pv 2) pa_nil)))) pa_nil))))))), ?_⟩
  have hz : (ns.take 60).length ≤ 60 := by rw [List.length_take]; omega
  refine t_retLst (K := K) (Step.refl e .nil) (gs_consI (K := K) g_int (gs_consI (g_var (v := .int c) (d := .int c) rfl (.int c)) (gs_consI g_int (gs_one (g_lcEM PyData.int (ns.take 60) PyData.int (w_listI (g_slS (i := 0) rfl hl)) (by omega) (fun _ => rfl) fun i hi F' e' y hy => g_cbI (gs_one (g_var rfl hy)) rc_int1))))) fun vs F2 H2 s hv => ?_
  obtain ⟨v4, rfl, hv4⟩ : ∃ v4, vs = [.int 0, .int c, .int 0, v4] ∧ Rp K F2 v4 (.list ((ns.take 60).map .int)) := by
    cases hv with
    | cons a1 b1 =>
      cases b1 with
      | cons a2 b2 =>
        cases b2 with
        | cons a3 b3 =>
          cases b3 with
          | cons a4 b4 =>
            cases b4
            rw [rp_int a1, rp_int a2, rp_int a3]
            exact ⟨_, rfl, a4⟩
  obtain ⟨l, xs, rfl, hl4, hxs⟩ := rp_lst hv4
  have := rpAll_ints hxs
  subst this
  refine ⟨by show 4 ≤ _; decide, fun p hp => ?_⟩
  have hlp : l ≠ p := fun z => by rw [z] at hl4; have := s.inn _ _ hl4; rw [hp] at this; cases this
  have fp : F2 p = none := by
    cases z : F2 p with
    | none => rfl
    | some o => have := s.inn _ _ z; rw [hp] at this; cases this
  refine k ⟨p, l, ns.take 60⟩ F2 _ ?_ ?_ (s.back p hp)
  · exact ⟨s.sub, s.inn.trans (Ex.new hp), s.keep.trans (Keep.of (Ex.new hp)), .nil, s.new⟩
  · intro q hq
    obtain rfl := Option.some.inj hq
    refine ⟨fp, hlp, ?_, hz, 0, c, 0, upd_same, Int.le_refl _, c0, c1, Int.le_refl _, by omega⟩
    show upd H2 p _ l = _
    rw [upd_ne hlp]; exact s.inn _ _ hl4
end
end KJ
namespace KJ
open PySem PySem.Spec PyProof.Rows L2 L2H Fv Evl StX
abbrev s_check_lot : Stmt := topS 18
theorem sc_check_lot : FnScope ["houses", "lot", "house"] ["houses", "lot"] (defScope s_check_lot) := ⟨rfl, rfl, rfl, by decide +kernel, rfl, by decide +kernel, by decide +kernel⟩
abbrev s_lot_within : Stmt := topS 19
theorem sc_lot_within : FnScope ["one", "other", "house"] ["one", "other"] (defScope s_lot_within) := ⟨rfl, rfl, rfl, by decide +kernel, rfl, by decide +kernel, by decide +kernel⟩
abbrev s_lots_of_size : Stmt := topS 20
theorem sc_lots_of_size : FnScope ["houses", "size", "lots", "_", "lot", "house"] ["houses", "size"] (defScope s_lots_of_size) := ⟨rfl, rfl, rfl, by decide +kernel, rfl, by decide +kernel, by decide +kernel⟩
section
variable {P : Program} {w : World} {K : PySem.W.Frag} {mg : Str → Option Value} {base : Heap}
/-! lot_within -/
abbrev spWithin (K : PySem.W.Frag) : Sp := PSp K (fun i : List Int × List Int => [dT i.1, dT i.2]) (fun i => i.1.length ≤ 50000) (fun i => .bool (i.1.all fun x => decide (x ∈ i.2)))
theorem ok_within {f : Addr} {fd : FuncData} (Fn : Fun K "lot_within" "lot_within" s_lot_within f fd) (T : Tx mg) : FnOk P w K mg base CX0 1 f fd ["one", "other"] (spWithin K) := by
  refine Fn.ok sc_lot_within (PSp.len (fun _ => rfl)) (fun cdv A outer s H vs Q E hr h => ?_)
  obtain ⟨⟨a, b⟩, F, hz, e, ha, q⟩ := h
  obtain ⟨v, x, rfl, hv, hx⟩ := rpAll2 ha
  refine ⟨_, (pss_one (ps_ret (pe_callB (c_all (K := K)) (by rfl) T.all (by decide +kernel) (pa_cons (pe_lc (own := [("house", 2)]) (g := gName 2) rfl sc_lot_within.nd (i_tup (K := K) (pv 0)) (blkOk_by (own := [("house", 2)]) (N := ["one", "other", "house"]) (sc := (defScope s_lot_within)) (by decide +kernel)) (fun _ _ _ _ _ => pg_name (i := 2) sc_lot_within.nd rfl (by first | exact Or.inl rfl | exact Or.inr rfl)) (fun _ _ _ _ _ => pts_nil) (fun _ _ _ _ _ => (pe_cmpR (o_in (K := K)) (pv 2) (pv 1) (by rfl)))) pa_nil)))), ?_⟩
  exact t_retI (Step.refl e .nil) (g_cbI (gs_one (g_lcEM PyData.int a (fun i => .bool (decide (i ∈ b))) (w_tupI (g_var rfl hv)) hz (fun _ => rfl) fun i hi F' e' y hy =>
    g_op (g_var rfl hy) (g_var rfl (Rp.mono e' _ _ hx)) fun d1 d2 h1 h2 => h1 ▸ h2 ▸ rv_inT)) (rc_allM a _)) q
/-! check_lot -/
abbrev spLot (K : PySem.W.Frag) : Sp := PSp K (fun i : Nat × List Int => [.int i.1, dI i.2]) (fun i => i.2.length ≤ 60 ∧ ∀ k ∈ i.2, 0 ≤ k ∧ k < (i.1 : Int)) (fun i => dT (lotOf i.1 i.2))
theorem ok_lot {f fS fW : Addr} {fd fdS fdW : FuncData} (Fn : Fun K "check_lot" "check_lot" s_check_lot f fd) (T : Tx mg)
    (F_is_sequence : Fun K "is_sequence" "is_sequence" s_is_sequence fS fdS) (b_is_sequence : Binds K fdS ["thing"] []) (g_is_sequence : mg "is_sequence" = some (.ref fS))
    (F_is_whole : FunW K fW fdW) (b_is_whole : Binds K fdW ["thing", "low", "high"] []) (g_is_whole : mg "is_whole" = some (.ref fW)) :
    FnOk P w K mg base CX0 2 f fd ["houses", "lot"] (spLot K) := by
  have G_is_sequence : FnOk P w K mg base CX0 1 fS fdS ["thing"] (spSeq K) := ok_seq F_is_sequence T
  have G_is_whole : FnOk P w K mg base CX0 1 fW fdW ["thing", "low", "high"] (spWhole K) := ok_whole F_is_whole T
  refine Fn.ok sc_check_lot (PSp.len (fun _ => rfl)) (fun cdv A outer s H vs Q E hr h => ?_)
  obtain ⟨⟨n, ns⟩, F, ⟨hz, hb⟩, e, ha, q⟩ := h
  obtain ⟨v, x, rfl, hv, hx⟩ := rpAll2 ha
  refine ⟨_, (pss_cons (ps_if (PW.pt (pw_or (pt_not (pt_val (pe_call G_is_sequence (hr.mono (by decide)) (by rfl) g_is_sequence F_is_sequence.kp b_is_sequence .nil pass0 (pa_cons (pv 1) pa_nil)))) (pw_or1 (pt_not (pt_val (pe_callB (c_all (K := K)) (by rfl) T.all (by decide +kernel) (pa_cons (pe_lc (own := [("house", 2)]) (g := gName 2) rfl sc_check_lot.nd (i_list (K := K) (pv 1)) (blkOk_by (own := [("house", 2)]) (N := ["houses", "lot", "house"]) (sc := (defScope s_check_lot)) (by decide +kernel)) (fun _ _ _ _ _ => pg_name (i := 2) sc_check_lot.nd rfl (by first | exact Or.inl rfl | exact Or.inr rfl)) (fun _ _ _ _ _ => pts_nil) (fun _ _ _ _ _ => (pe_call G_is_whole (hr.mono (by decide)) (by rfl) g_is_whole F_is_whole.kp b_is_whole .nil pass0 (pa_cons (pv 2) (pa_cons pe_int (pa_cons (pe_op op_sub (pv 0) pe_int) pa_nil)))))) pa_nil))))))) (pss_one ps_never) pss_nil)
    (pss_one (ps_ret (pe_callTy (c_tup (K := K)) (by rfl) T.tuple (by decide +kernel) (pa_cons (pe_callB (c_sortedSet (w := w)) (by rfl) T.sorted (by decide +kernel) (pa_cons (pe_callTy (c_setL (K := K) (w := w)) (by rfl) T.set (by decide +kernel) (pa_cons (pv 1) pa_nil)) pa_nil)) pa_nil))))), ?_⟩
  have hall : (ns.all fun k => isWhole (some 0) (some ((n : Int) - 1)) (.int k)) = true := by
    rw [List.all_eq_true]
    intro k hk
    have := hb k hk
    simp only [isWhole, loOk, hiOk, Bool.and_eq_true, decide_eq_true_eq]
    simp only at this
    omega
  refine t_skip (Step.refl e .nil) ((et_or (a := false) (b := false) ((et_not (b := true) (et_B (g_call (dI ns) (gs_one (g_var rfl hx)) rfl trivial))).is rfl) fun _ => ?_).is rfl) (fun F2 H2 s2 e2 => ?_)
  · refine (et_not (b := true) ?_).is rfl
    refine (et_B (g_cbI (gs_one (g_lcEM PyData.int ns (fun k => .bool (isWhole (some 0) (some ((n : Int) - 1)) (.int k))) (w_listI (g_var rfl hx)) (Nat.le_trans hz (by decide)) (fun _ => rfl) fun k hk F' e' y hy => ?_)) (rc_allM ns _))).is hall
    exact g_call (PyData.int k, some 0, some ((n : Int) - 1)) (gs_three (g_var rfl hy) g_int (g_op (g_var rfl (Rp.mono e' _ _ hv)) g_int fun _ _ h1 h2 => h1 ▸ h2 ▸ rv_sub)) rfl trivial
  · refine t_retI s2 (g_cb (g_consR (g_sortedSetL (g_var rfl (Rp.mono e2 _ _ hx)) hz)) fun ds hds => ?_) q
    obtain ⟨d, rfl, ms, rfl, hp, hm⟩ := hds
    have := sorted_is hp hm hb
    subst this
    exact rc_tupL
end
end KJ
namespace KJ
open PySem PySem.Spec PyProof.Rows L2 Fv Evl
abbrev s_lots_by_size : Stmt := topS 21
theorem sc_lots_by_size : FnScope ["houses", "size", "lot"] ["houses"] (defScope s_lots_by_size) := ⟨rfl, rfl, rfl, by decide +kernel, rfl, by decide +kernel, by decide +kernel⟩
/-- the houses 0 .. n - 1 -/
def hs (n : Nat) : List Int := (List.range n).map Int.ofNat
theorem rng_hs (n : Nat) : rng 0 n = (hs n).map PyData.int := by
  unfold rng hs
  rw [List.map_map]
  refine List.map_congr_left fun k _ => ?_
  simp
def growLots (n : Nat) (lots : List (List Int)) : List (List Int) := lots.flatMap fun l => ((hs n).filter fun h => decide (maxOf (-1) l < h)).map fun h => l ++ [h]
def lotsOf (n : Nat) : Nat → List (List Int)
  | 0 => [[]]
  | k + 1 => growLots n (lotsOf n k)
theorem lots_few : ∀ n ∈ List.range 6, ∀ k ∈ List.range 6, (lotsOf n k).length ≤ 300 ∧ ∀ l ∈ lotsOf n k, l.length ≤ 60 := by decide +kernel
section
variable {P : Program} {w : World} {K : PySem.W.Frag} {mg : Str → Option Value} {base : Heap}
abbrev spSize (K : PySem.W.Frag) : Sp := PSp K (fun i : Nat × Nat => [.int i.1, .int i.2]) (fun i => i.1 ≤ 5 ∧ i.2 ≤ 5) (fun i => dTT (lotsOf i.1 i.2))
theorem ok_size {f : Addr} {fd : FuncData} (Fn : Fun K "lots_of_size" "lots_of_size" s_lots_of_size f fd) (T : Tx mg) : FnOk P w K mg base CX0 1 f fd ["houses", "size"] (spSize K) := by
  refine Fn.ok sc_lots_of_size (PSp.len (fun _ => rfl)) (fun cdv A outer s H vs Q E hr h => ?_)
  obtain ⟨⟨n, k⟩, F, ⟨hn, hk⟩, e, ha, q⟩ := h
  simp only at hn hk
  obtain ⟨v, x, rfl, hv, hx⟩ := rpAll2 ha
  refine ⟨_, (pss_cons (ps_set (i := 2) sc_lots_of_size.nd rfl (by first | exact Or.inl rfl | exact Or.inr rfl) (pe_lst (pa_cons (pe_tup pa_nil) pa_nil)))
    (pss_cons (ps_for PassesOwn.never rfl (pi_range1 (by rfl) T.range (pa_cons (pv 1) pa_nil)) (pg_name (i := 3) sc_lots_of_size.nd rfl (by first | exact Or.inl rfl | exact Or.inr rfl)) (pss_one (ps_setLc2 (i := 2) (own := [("lot", 4), ("house", 5)]) (vs1 := [5]) (g := gName 4) (g1 := gName 5) rfl sc_lots_of_size.nd rfl rfl (sw_true rfl rfl rfl (by decide +kernel)) (i_list (K := K) (pv 2)) (blkOk_by (own := [("lot", 4), ("house", 5)]) (N := ["houses", "size", "lots", "_", "lot", "house"]) (sc := (defScope s_lots_of_size)) (by decide +kernel)) (by decide) (fun _ _ _ _ _ => pg_name (i := 4) sc_lots_of_size.nd rfl (by first | exact Or.inl rfl | exact Or.inr rfl)) (fun _ _ _ _ _ => pts_nil) (fun _ _ _ _ _ => (pi_range1 (by rfl) T.range (pa_cons (pv 0) pa_nil))) (fun _ _ _ _ _ => pg_name (i := 5) sc_lots_of_size.nd rfl (by first | exact Or.inl rfl | exact Or.inr rfl)) (fun _ _ _ _ _ => (pts_one (pt_cmpR op_gt (pv 5) (pe_callBK (c_maxD (K := K) (hu3 hr)) (by rfl) T.max (by decide +kernel) (pa_cons (pv 4) pa_nil) (pk_cons (pe_un un_neg pe_int) pk_nil)) (nomark _)))) (fun _ _ _ _ _ => (pe_op (o_catA (K := K)) (pv 4) (pe_tup (pa_cons (pv 5) pa_nil)))))))
    (pss_one (ps_ret (pe_callTy (c_tup (K := K)) (by rfl) T.tuple (by decide +kernel) (pa_cons (pv 2) pa_nil)))))), ?_⟩
  refine t_asgI (K := K) (Step.refl e .nil) (g_lstI (gs_one (g_tupI gs_nil (by simp))) (by simp)) fun y F1 H1 s1 e1 hy => ?_
  refine t_for (K := K) s1 (w_rng1I (n := k) (gs_one (g_var rfl (Rp.mono e1 _ _ hx))) (by omega) (by omega)) (fun i σ' F' => ∃ y u, σ' = [some v, some x, some y, u, none, none] ∧ Rp K F' y (dLT (lotsOf n i)) ∧ i ≤ k) (fun F2 e2 => ⟨y, none, rfl, Rp.mono e2 _ _ hy, Nat.zero_le _⟩) (fun i d hd σ' F' H' z hI s' e' hz N hN => ?_) (fun σ' F' H' hI s' e' => ?_)
  · obtain ⟨y', u, rfl, hy', hi⟩ := hI
    have hik : i < k := by
      have := (List.getElem?_eq_some_iff.mp hd).1
      rw [rng_len] at this
      simpa using this
    have hf := lots_few n (by rw [List.mem_range]; omega) i (by rw [List.mem_range]; omega)
    have hv' : Rp K F' v (.int n) := Rp.mono (e1.trans e') _ _ hv
    refine t_asg1 (K := K) s' (g_lc2E dT PyData.int (lotsOf n i) (fun _ => hs n) (fun l h => decide (maxOf (-1) l < h)) (fun l h => dT (l ++ [h])) (w_listI (g_var rfl hy')) hf.1 (fun _ _ => by simp [hs]; omega) (fun _ => rfl) (fun _ _ => rfl) (fun l hl F2 e2 v1 hv1 => ?_) (fun l hl h hh F2 e2 v1 u1 hv1 hu1 => ?_) (fun l hl h hh hp F2 e2 v1 u1 hv1 hu1 => ?_)) fun d2 v2 F3 H3 hd2 s3 e3 hv3 => hN _ F3 H3 ⟨v2, some z, rfl, ?_, hik⟩ s3 e3
    · rw [← rng_hs]
      exact w_rng1I (n := n) (gs_one (g_var rfl (Rp.mono e2 _ _ hv'))) (by omega) (by omega)
    · exact et_of (g_op (g_var rfl hu1) (g_maxD (g_var rfl hv1) (g_un1 g_int)) fun _ _ h1 h2 => h1 ▸ h2 ▸ rv_bl (g := fun i j => decide (j < i)))
    · exact g_op (g_var rfl hv1) (g_tupI (gs_one (g_var rfl hu1)) (by simp)) fun _ _ h1 h2 => h1 ▸ h2 ▸ (by
        have := rv_catA (K := K) (ds := l.map PyData.int) (es := [.int h]) (by have := hf.2 l hl; simp; omega)
        simpa [dT] using this)
    · have : d2 = dLT (lotsOf n (i + 1)) := by
        rw [show d2 = _ from hd2]
        simp [dLT, lotsOf, growLots, List.map_flatMap, Function.comp_def]
      rw [← this]; exact hv3
  · obtain ⟨y', u, rfl, hy', hi⟩ := hI
    rw [rng_len] at hy'
    exact t_retI s' (g_cbI (gs_one (g_var rfl hy')) (rc_tupL (ds := (lotsOf n (k : Int).toNat).map dT))) (by simpa using q)
end
end KJ
namespace KJ
open PySem PySem.Spec PyProof.Rows L2 Fv Evl
abbrev s_checked_lots : Stmt := topS 22
theorem sc_checked_lots : FnScope ["houses", "lots", "checked", "index", "lot"] ["houses", "lots"] (defScope s_checked_lots) := ⟨rfl, rfl, rfl, by decide +kernel, rfl, by decide +kernel, by decide +kernel⟩
def allLots (n : Nat) : List (List Int) := (List.range (n + 1)).flatMap (lotsOf n)
theorem all_few : ∀ n ∈ List.range 6, (allLots n).length ≤ 300 ∧ ∀ l ∈ allLots n, l.length ≤ 60 := by decide +kernel
section
variable {P : Program} {w : World} {K : PySem.W.Frag} {mg : Str → Option Value} {base : Heap}
abbrev spAll (K : PySem.W.Frag) : Sp := PSp K (fun n : Nat => [.int n]) (fun n => n ≤ 5) (fun n => dLT (allLots n))
theorem ok_bySize {f fS : Addr} {fd fdS : FuncData} (Fn : Fun K "_lots_by_size" "_lots_by_size" s_lots_by_size f fd) (T : Tx mg)
    (F_lots_of_size : Fun K "lots_of_size" "lots_of_size" s_lots_of_size fS fdS) (b_lots_of_size : Binds K fdS ["houses", "size"] []) (g_lots_of_size : mg "lots_of_size" = some (.ref fS)) :
    FnOk P w K mg base CX0 2 f fd ["houses"] (spAll K) := by
  have G_lots_of_size : FnOk P w K mg base CX0 1 fS fdS ["houses", "size"] (spSize K) := ok_size F_lots_of_size T
  refine Fn.ok sc_lots_by_size (PSp.len (fun _ => rfl)) (fun cdv A outer s H vs Q E hr h => ?_)
  obtain ⟨n, F, hn, e, ha, q⟩ := h
  obtain ⟨v, rfl, hv⟩ := rpAll1 ha
  refine ⟨_, (pss_one (ps_ret (pe_lc2 (own := [("size", 1), ("lot", 2)]) (vs1 := [2]) (g := gName 1) (g1 := gName 2) rfl sc_lots_by_size.nd (pi_range1 (by rfl) T.range (pa_cons (pe_op op_add (pv 0) pe_int) pa_nil)) (blkOk_by (own := [("size", 1), ("lot", 2)]) (N := ["houses", "size", "lot"]) (sc := (defScope s_lots_by_size)) (by decide +kernel)) (by decide) (fun _ _ _ _ _ => pg_name (i := 1) sc_lots_by_size.nd rfl (by first | exact Or.inl rfl | exact Or.inr rfl)) (fun _ _ _ _ _ => pts_nil) (fun _ _ _ _ _ => (i_tup (K := K) (pe_call G_lots_of_size (hr.mono (by decide)) (by rfl) g_lots_of_size F_lots_of_size.kp b_lots_of_size .nil pass0 (pa_cons (pv 0) (pa_cons (pv 1) pa_nil))))) (fun _ _ _ _ _ => pg_name (i := 2) sc_lots_by_size.nd rfl (by first | exact Or.inl rfl | exact Or.inr rfl)) (fun _ _ _ _ _ => pts_nil) (fun _ _ _ _ _ => (pv 2))))), ?_⟩
  have hsz : ∀ k ∈ List.range (n + 1), k ≤ 5 := fun k hk => by rw [List.mem_range] at hk; omega
  have eR : rng 0 ((n : Int) + 1).toNat = (List.range (n + 1)).map fun k : Nat => PyData.int k := by
    unfold rng
    rw [show ((n : Int) + 1).toNat = n + 1 by omega]
    refine List.map_congr_left fun k _ => ?_
    simp
  refine t_retI (Step.refl e .nil) ((g_lc2E (fun k : Nat => PyData.int k) dT (List.range (n + 1)) (lotsOf n) (fun _ _ => true) (fun _ l => dT l) ?_ (by simp; omega) (fun k hk => (lots_few n (by rw [List.mem_range]; omega) k (by rw [List.mem_range]; have := hsz k hk; omega)).1) (fun _ => rfl) (fun _ _ => rfl) (fun k hk F2 e2 v1 hv1 => ?_) (fun _ _ _ _ _ _ _ _ _ _ => et_yes) (fun k hk l hl _ F2 e2 v1 u1 hv1 hu1 => g_var rfl hu1)).is ?_) q
  · rw [← eR]
    exact w_rng1I (n := (n : Int) + 1) (gs_one (g_op (g_var rfl hv) g_int fun _ _ h1 h2 => h1 ▸ h2 ▸ rv_add)) (by omega) (by omega)
  · exact w_tupI (g_call (n, k) (gs_two (g_var rfl (Rp.mono e2 _ _ hv)) (g_var rfl hv1)) rfl ⟨hn, hsz k hk⟩)
  · show PyData.list _ = PyData.list ((allLots n).map dT)
    unfold allLots
    rw [List.map_flatMap]
    refine congrArg PyData.list (congrArg (fun f => List.flatMap f (List.range (n + 1))) (funext fun k => ?_))
    show List.map _ (List.filter (fun _ => true) (lotsOf n k)) = _
    rw [show (lotsOf n k).filter (fun _ => true) = lotsOf n k from List.filter_eq_self.mpr (fun _ _ => rfl)]
/-- a list or a tuple of lots -/
inductive LotsD : PyData → List (List Int) → Prop
  | l (ls : List (List Int)) : LotsD (.list (ls.map dI)) ls
  | t (ls : List (List Int)) : LotsD (.tuple (ls.map dI)) ls
theorem LotsD.seq {d : PyData} {ls : List (List Int)} (h : LotsD d ls) : d = .list (ls.map dI) ∨ d = .tuple (ls.map dI) := by
  cases h
  · exact .inl rfl
  · exact .inr rfl
def GoodLots (n : Nat) (ls : List (List Int)) : Prop := ls.length ≤ 60 ∧ ∀ l ∈ ls, l.length ≤ 60 ∧ (∀ k ∈ l, 0 ≤ k ∧ k < (n : Int)) ∧ (lotOf n l).length ≠ n
abbrev spChecked (K : PySem.W.Frag) : Sp := PSp K (fun i : Nat × PyData × List (List Int) => [.int i.1, i.2.1]) (fun i => i.1 ≤ 5 ∧ LotsD i.2.1 i.2.2 ∧ GoodLots i.1 i.2.2) (fun i => dLT (i.2.2.map (lotOf i.1)))
theorem ok_checked {f fS fW fL : Addr} {fd fdS fdW fdL : FuncData} (Fn : Fun K "_checked_lots" "_checked_lots" s_checked_lots f fd) (T : Tx mg)
    (F_is_sequence : Fun K "is_sequence" "is_sequence" s_is_sequence fS fdS) (b_is_sequence : Binds K fdS ["thing"] []) (g_is_sequence : mg "is_sequence" = some (.ref fS))
    (F_is_whole : FunW K fW fdW) (b_is_whole : Binds K fdW ["thing", "low", "high"] []) (g_is_whole : mg "is_whole" = some (.ref fW))
    (F_check_lot : Fun K "check_lot" "check_lot" s_check_lot fL fdL) (b_check_lot : Binds K fdL ["houses", "lot"] []) (g_check_lot : mg "check_lot" = some (.ref fL)) :
    FnOk P w K mg base CX0 3 f fd ["houses", "lots"] (spChecked K) := by
  have G_check_lot : FnOk P w K mg base CX0 2 fL fdL ["houses", "lot"] (spLot K) := ok_lot F_check_lot T F_is_sequence b_is_sequence g_is_sequence F_is_whole b_is_whole g_is_whole
  refine Fn.ok sc_checked_lots (PSp.len (fun _ => rfl)) (fun cdv A outer s H vs Q E hr h => ?_)
  obtain ⟨⟨n, src, ls⟩, F, ⟨hn, hsrc, hz, hls⟩, e, ha, q⟩ := h
  simp only at hn hsrc hz hls
  obtain ⟨v, x, rfl, hv, hx⟩ := rpAll2 ha
  refine ⟨_, (pss_cons (ps_set (i := 2) sc_checked_lots.nd rfl (by first | exact Or.inl rfl | exact Or.inr rfl) (pe_lst pa_nil))
    (pss_cons (ps_for PassesOwn.never rfl (pi_range1 (by rfl) T.range (pa_cons (pe_callB (c_len (K := K)) (by rfl) T.len (by decide +kernel) (pa_cons (pv 1) pa_nil)) pa_nil)) (pg_name (i := 3) sc_checked_lots.nd rfl (by first | exact Or.inl rfl | exact Or.inr rfl)) (pss_cons (ps_try_thru0 (pss_one (ps_set (i := 4) sc_checked_lots.nd rfl (by first | exact Or.inl rfl | exact Or.inr rfl) (pe_call G_check_lot (hr.mono (by decide)) (by rfl) g_check_lot F_check_lot.kp b_check_lot .nil pass0 (pa_cons (pv 0) (pa_cons (pe_ix (o_ix (K := K)) (pv 1) (pv 3) (fun _ _ => rfl)) pa_nil))))))
    (pss_cons (ps_if (pt_cmpR op_eq (pe_callB (c_len (K := K)) (by rfl) T.len (by decide +kernel) (pa_cons (pv 4) pa_nil)) (pv 0) (nomark _)) (pss_one ps_never) pss_nil)
    (pss_one (ps_expr (pe_bm PySem.F.plainAttrs_list PySem.F.slot_list_append PySem.F.type_list_append mt_append (pv 2) (pa_cons (pv 4) pa_nil)))))))
    (pss_one (ps_ret (pv 2))))), ?_⟩
  have g0 : Good none F H := .nil
  refine t_newL (K := K) (Step.refl e .nil) (fun l h0 hl g => ?_) (fun _ h => h)
  have hx' : Rp K F x src := hx
  refine t_forG (K := K) (ds := rng 0 (ls.length : Int).toNat) g0 h0 g (w_rng1I (n := (ls.length : Int)) (gs_one ((g_cbI (gs_one (g_var rfl hx')) (rc_lenS hsrc.seq)).is (by simp))) (by omega) (by omega))
    (fun i σ' F' l' => (∃ y z, σ' = [some v, some x, some (.ref l), y, z]) ∧ l' = (ls.take i).map fun m => dT (lotOf n m)) (fun F2 e2 => ⟨⟨none, none, rfl⟩, by simp⟩) (fun i d hd σ' F' H' u l' hI g' e' hu N hN => ?_) (fun σ' F' H' l' hI g' e' => ?_)
  · obtain ⟨⟨y, z, rfl⟩, rfl⟩ := hI
    have hil : i < ls.length := by
      have := (List.getElem?_eq_some_iff.mp hd).1
      rw [rng_len] at this
      simpa using this
    have ed : d = .int (i : Int) := by
      rw [rng_get (by simpa using hil)] at hd
      have := Option.some.inj hd
      rw [← this]; simp
    subst ed
    have hm : ls[i] ∈ ls := List.getElem_mem hil
    obtain ⟨hm1, hm2, hm3⟩ := hls _ hm
    have hat : atI (ls.map dI) (i : Int) = some (dI ls[i]) := atI_nat (by rw [List.getElem?_map, List.getElem?_eq_getElem hil]; rfl)
    -- lot = check_lot(houses, lots[index])
    refine t_asg (K := K) (Step.refl g'.step.inn .nil) (g_call (n, ls[i]) (gs_two (g_var rfl (Rp.mono e' _ _ hv)) (g_op (g_var rfl (Rp.mono e' _ _ hx')) (g_var rfl hu) fun _ _ h1 h2 => h1 ▸ h2 ▸ rv_ix hsrc.seq hat)) rfl ⟨hm1, hm2⟩) fun d2 v2 F2 H2 hd2 s2 e2 hv2 => ?_
    subst hd2
    have g2 := g'.run g0 h0 s2
    -- if len(lot) == houses
    refine t_skip (Step.refl g2.step.inn .nil) ((et_of (K := K) (b := decide ((((lotOf n ls[i]).map PyData.int).length : Int) = (n : Int))) (g_op (g_cbI (gs_one (g_var rfl hv2)) rc_lenT) (g_var rfl (Rp.mono (e'.trans e2) _ _ hv)) fun _ _ h1 h2 => by subst h1 h2; exact rv_eqI)).is ?_) fun F3 H3 s3 e3 => ?_
    · simp only [List.length_map, decide_eq_false_iff_not]
      intro z
      exact hm3 (by omega)
    · refine t_app (K := K) g0 h0 (g2.run g0 h0 s3) rfl (g_var rfl (Rp.mono e3 _ _ hv2)) (by simp; omega) fun d4 F4 H4 hd4 g4 e4 => ?_
      subst hd4
      refine hN _ F4 H4 _ ⟨⟨_, _, rfl⟩, ?_⟩ g4 ((e2.trans e3).trans e4)
      rw [take_succA (List.getElem?_eq_getElem hil), List.map_append]
      rfl
  · obtain ⟨⟨y, z, rfl⟩, rfl⟩ := hI
    obtain ⟨F2, s2, e2, r2⟩ := g'.done g0 h0
    refine t_retI (K := K) s2 (g_var rfl r2) fun v3 F3 H3 s3 hv3 => q v3 F3 H3 s3 ?_
    rw [rng_len] at hv3
    simpa [dLT, Function.comp_def] using hv3
end
end KJ
namespace KJ
open PySem PySem.Spec PyProof.Rows L2 Fv Evl StX
abbrev s_Falls___init__ : Stmt := inClass (topS 23) 0
theorem sc_Falls___init__ : FnScope ["self", "houses", "lots", "given", "let", "lot", "other", "greatest"] ["self", "houses", "lots"] (defScope s_Falls___init__) := ⟨rfl, rfl, rfl, by decide +kernel, rfl, by decide +kernel, by decide +kernel⟩
/-- the lots that a family lets, its greatest ones -/
def within (a b : List Int) : Bool := a.all fun x => decide (x ∈ b)
def letOf (n : Nat) (ls : List (List Int)) : List (List Int) := (allLots n).filter fun l => ([] :: ls.map (lotOf n)).any fun o => within l o
def greatOf (n : Nat) (ls : List (List Int)) : List (List Int) := (letOf n ls).filter fun l => !((letOf n ls).any fun o => (!decide (l = o)) && within l o)
theorem all_once : ∀ n ∈ List.range 6, (allLots n).Nodup ∧ [] ∈ allLots n := by decide +kernel
theorem let_few {n : Nat} (hn : n ≤ 5) (ls : List (List Int)) : (letOf n ls).length ≤ 300 ∧ ∀ l ∈ letOf n ls, l.length ≤ 60 := by
  have h := all_few n (by rw [List.mem_range]; omega)
  exact ⟨Nat.le_trans (List.length_filter_le _ _) h.1, fun l hl => h.2 l (List.mem_filter.mp hl).1⟩
theorem great_few {n : Nat} (hn : n ≤ 5) (ls : List (List Int)) : (greatOf n ls).length ≤ 300 := Nat.le_trans (List.length_filter_le _ _) (let_few hn ls).1
theorem let_nil {n : Nat} (hn : n ≤ 5) (ls : List (List Int)) : [] ∈ letOf n ls := List.mem_filter.mpr ⟨(all_once n (by rw [List.mem_range]; omega)).2, by simp [within]⟩
theorem great_kinds {n : Nat} (hn : n ≤ 5) (ls : List (List Int)) : (∀ l ∈ greatOf n ls, l ≠ []) ∨ greatOf n ls = [[]] := by
  by_cases h : [] ∈ greatOf n ls
  · right
    have nd : (letOf n ls).Nodup := (all_once n (by rw [List.mem_range]; omega)).1.filter _
    have h1 := (List.mem_filter.mp h).2
    have only : ∀ o ∈ letOf n ls, o = [] := fun o ho => by
      simp only [Bool.not_eq_true', List.any_eq_false, Bool.and_eq_true, not_and] at h1
      have := h1 o ho
      by_cases z : o = []
      · exact z
      · exact absurd (by simp [within] : within [] o = true) (this (by simp; exact fun w => z w))
    have e1 : letOf n ls = [[]] := by
      cases e : letOf n ls with
      | nil => have := let_nil hn ls; rw [e] at this; simp at this
      | cons a r =>
        rw [e] at only nd
        have ha := only a (by simp)
        subst ha
        cases r with
        | nil => rfl
        | cons b r2 =>
          have hb := only b (by simp)
          subst hb
          simp at nd
    unfold greatOf
    rw [e1]
    simp [within]
  · left
    intro l hl z
    exact h (z ▸ hl)
/-- an instance of Falls for the lots ls over n houses -/
structure Fam (K : PySem.W.Frag) (C : Addr) (F : Hp) (x : Addr) (n : Nat) (ls : List (List Int)) : Prop where
  ex : ∃ dx lt d, F x = some (.ins C dx [("n", .int n), ("lots", lt), ("_let", .ref d)]) ∧ F dx = some (.own x) ∧ Rp K F lt (dTT (sortL (greatOf n ls))) ∧ F d = some (.dT (letD (letOf n ls)))
theorem Fam.mono {K : PySem.W.Frag} {C : Addr} {F F' : Hp} {x : Addr} {n : Nat} {ls : List (List Int)} (h : Fam K C F x n ls) (e : Ex F F') : Fam K C F' x n ls := by
  obtain ⟨dx, lt, d, h1, h2, h3, h4⟩ := h.ex
  exact ⟨dx, lt, d, e _ _ h1, e _ _ h2, Rp.mono e _ _ h3, e _ _ h4⟩
/-- the class as the text has it -/
structure FallsC (K : PySem.W.Frag) (C : Addr) : Prop where
  cl : Cls K C
  nN : NoAttr K C "n"
  nL : NoAttr K C "lots"
  nF : NoAttr K C "_let"
section
variable {P : Program} {w : World} {K : PySem.W.Frag} {mg : Str → Option Value} {base : Heap}
def spInit (K : PySem.W.Frag) (C : Addr) : Sp := fun vs H Q _ => ∃ x dx n src ls F v, vs = [.ref x, .int (n : Nat), v] ∧ H x = some (.ins C dx []) ∧ H dx = some (.own x) ∧ dx ≠ x ∧ F x = none ∧ F dx = none ∧ Ex F H ∧ Rp K F v src ∧
  LotsD src ls ∧ (2 ≤ n ∧ n ≤ 5) ∧ GoodLots n ls ∧ ls.length ≤ 32 ∧ ∀ F2 H2, Step none F (Fv.del (Fv.del H x) dx) F2 H2 → Fam K C F2 x n ls → Q .non H2
theorem ok_init {f fS fW fL fC fI fB fZ C : Addr} {fd fdS fdW fdL fdC fdI fdB fdZ : FuncData} (Fn : Fun K "__init__" "Falls.__init__" s_Falls___init__ f fd) (T : Tx mg) (FC : FallsC K C) {tM : Tok} (c_MOST_LOTS : mg "MOST_LOTS" = some (.int 32 tM))
    (F_is_sequence : Fun K "is_sequence" "is_sequence" s_is_sequence fS fdS) (b_is_sequence : Binds K fdS ["thing"] []) (g_is_sequence : mg "is_sequence" = some (.ref fS))
    (F_is_whole : FunW K fW fdW) (b_is_whole : Binds K fdW ["thing", "low", "high"] []) (g_is_whole : mg "is_whole" = some (.ref fW))
    (F_check_lot : Fun K "check_lot" "check_lot" s_check_lot fL fdL) (b_check_lot : Binds K fdL ["houses", "lot"] []) (g_check_lot : mg "check_lot" = some (.ref fL))
    (F_checked_lots : Fun K "_checked_lots" "_checked_lots" s_checked_lots fC fdC) (b_checked_lots : Binds K fdC ["houses", "lots"] []) (g_checked_lots : mg "_checked_lots" = some (.ref fC))
    (F_lot_within : Fun K "lot_within" "lot_within" s_lot_within fI fdI) (b_lot_within : Binds K fdI ["one", "other"] []) (g_lot_within : mg "lot_within" = some (.ref fI))
    (F_lots_of_size : Fun K "lots_of_size" "lots_of_size" s_lots_of_size fZ fdZ) (b_lots_of_size : Binds K fdZ ["houses", "size"] []) (g_lots_of_size : mg "lots_of_size" = some (.ref fZ))
    (F_lots_by_size : Fun K "_lots_by_size" "_lots_by_size" s_lots_by_size fB fdB) (b_lots_by_size : Binds K fdB ["houses"] []) (g_lots_by_size : mg "_lots_by_size" = some (.ref fB)) :
    FnOk P w K mg base CX0 4 f fd ["self", "houses", "lots"] (spInit K C) := by
  have G_is_sequence : FnOk P w K mg base CX0 1 fS fdS ["thing"] (spSeq K) := ok_seq F_is_sequence T
  have G_is_whole : FnOk P w K mg base CX0 1 fW fdW ["thing", "low", "high"] (spWhole K) := ok_whole F_is_whole T
  have G_checked_lots : FnOk P w K mg base CX0 3 fC fdC ["houses", "lots"] (spChecked K) := ok_checked F_checked_lots T F_is_sequence b_is_sequence g_is_sequence F_is_whole b_is_whole g_is_whole F_check_lot b_check_lot g_check_lot
  have G_lot_within : FnOk P w K mg base CX0 1 fI fdI ["one", "other"] (spWithin K) := ok_within F_lot_within T
  have G_lots_by_size : FnOk P w K mg base CX0 2 fB fdB ["houses"] (spAll K) := ok_bySize F_lots_by_size T F_lots_of_size b_lots_of_size g_lots_of_size
  refine Fn.ok sc_Falls___init__ (fun vs H Q E ⟨_, _, _, _, _, _, _, h, _⟩ => by rw [h]; rfl) (fun cdv A outer s H vs Q E hr h => ?_)
  obtain ⟨x, dx, n, src, ls, F, v, rfl, hox, hodx, hne, fx, fdx, e, hv, hsrc, ⟨hn2, hn5⟩, hgood, hfew, q⟩ := h
  refine ⟨_, (pss_cons (ps_if (pt_not (pt_val (pe_call G_is_whole (hr.mono (by decide)) (by rfl) g_is_whole F_is_whole.kp b_is_whole .nil pass0 (pa_cons (pv 1) (pa_cons pe_int (pa_cons pe_int pa_nil)))))) (pss_one ps_never) pss_nil)
    (pss_cons (ps_if (PW.pt (pw_or (pt_not (pt_val (pe_call G_is_sequence (hr.mono (by decide)) (by rfl) g_is_sequence F_is_sequence.kp b_is_sequence .nil pass0 (pa_cons (pv 2) pa_nil)))) (pw_or1 (pt_cmpR op_gt (pe_callB (c_len (K := K)) (by rfl) T.len (by decide +kernel) (pa_cons (pv 2) pa_nil)) (pe_glob (v := .int 32) (by rfl) c_MOST_LOTS ⟨_, rfl⟩) (nomark _))))) (pss_one ps_never) pss_nil)
    (pss_cons (ps_set (i := 3) sc_Falls___init__.nd rfl (by first | exact Or.inl rfl | exact Or.inr rfl) (pe_lst (pa_cons (pe_tup pa_nil) (a_star (K := K) (pe_call G_checked_lots (hr.mono (by decide)) (by rfl) g_checked_lots F_checked_lots.kp b_checked_lots .nil pass0 (pa_cons (pv 1) (pa_cons (pv 2) pa_nil))) pa_nil))))
    (pss_cons (ps_set (i := 4) sc_Falls___init__.nd rfl (by first | exact Or.inl rfl | exact Or.inr rfl) (pe_lc (own := [("lot", 5)]) (g := gName 5) rfl sc_Falls___init__.nd (i_list (K := K) (pe_call G_lots_by_size (hr.mono (by decide)) (by rfl) g_lots_by_size F_lots_by_size.kp b_lots_by_size .nil pass0 (pa_cons (pv 1) pa_nil))) (blkOk_by (own := [("lot", 5)]) (N := ["self", "houses", "lots", "given", "let", "lot", "other", "greatest"]) (sc := (defScope s_Falls___init__)) (by decide +kernel)) (fun _ _ _ _ _ => pg_name (i := 5) sc_Falls___init__.nd rfl (by first | exact Or.inl rfl | exact Or.inr rfl)) (fun _ _ _ _ _ => (pts_one (pt_val (pe_callB (c_any (K := K)) (by rfl) T.any (by decide +kernel) (pa_cons (pe_lc (own := [("other", 6)]) (g := gName 6) rfl sc_Falls___init__.nd (i_list (K := K) (pv 3)) (blkOk_by (own := [("other", 6)]) (N := ["self", "houses", "lots", "given", "let", "lot", "other", "greatest"]) (by rfl)) (fun _ _ _ _ _ => pg_name (i := 6) sc_Falls___init__.nd rfl (by first | exact Or.inl rfl | exact Or.inr rfl)) (fun _ _ _ _ _ => pts_nil) (fun _ _ _ _ _ => (pe_call G_lot_within (hr.mono (by decide)) (by rfl) g_lot_within F_lot_within.kp b_lot_within .nil pass0 (pa_cons (pv 5) (pa_cons (pv 6) pa_nil))))) pa_nil))))) (fun _ _ _ _ _ => (pv 5))))
    (pss_cons (ps_setLc (i := 7) (own := [("lot", 5)]) (g := gName 5) rfl sc_Falls___init__.nd rfl rfl (sw_true rfl rfl rfl (by decide +kernel)) (i_list (K := K) (pv 4)) (blkOk_by (own := [("lot", 5)]) (N := ["self", "houses", "lots", "given", "let", "lot", "other", "greatest"]) (sc := (defScope s_Falls___init__)) (by decide +kernel)) (fun _ _ _ _ _ => pg_name (i := 5) sc_Falls___init__.nd rfl (by first | exact Or.inl rfl | exact Or.inr rfl)) (fun _ _ _ _ _ => (pts_one (pt_not (pt_val (pe_callB (c_any (K := K)) (by rfl) T.any (by decide +kernel) (pa_cons (pe_lc (own := [("other", 6)]) (g := gName 6) rfl sc_Falls___init__.nd (i_list (K := K) (pv 4)) (blkOk_by (own := [("other", 6)]) (N := ["self", "houses", "lots", "given", "let", "lot", "other", "greatest"]) (by rfl)) (fun _ _ _ _ _ => pg_name (i := 6) sc_Falls___init__.nd rfl (by first | exact Or.inl rfl | exact Or.inr rfl)) (fun _ _ _ _ _ => pts_nil) (fun _ _ _ _ _ => (pe_and (pe_cmpR (o_neD (K := K) hr.units) (pv 5) (pv 6) (nomark _)) (pe_one (pe_call G_lot_within (hr.mono (by decide)) (by rfl) g_lot_within F_lot_within.kp b_lot_within .nil pass0 (pa_cons (pv 5) (pa_cons (pv 6) pa_nil))))))) pa_nil)))))) (fun _ _ _ _ _ => (pv 5)))
    (pss_cons (ps_fld (pv 0) (pv 1) rfl)
    (pss_cons (ps_fld (pv 0) (pe_callTy (c_tup (K := K)) (by rfl) T.tuple (by decide +kernel) (pa_cons (pe_callB (c_sortLL (K := K) (hu65 hr)) (by rfl) T.sorted (by decide +kernel) (pa_cons (pv 7) pa_nil)) pa_nil)) rfl)
    (pss_one (ps_fld (pv 0) (pe_dcT (own := [("lot", 5)]) (g := gName 5) rfl (hu_of hr) sc_Falls___init__.nd (i_list (K := K) (pv 4)) (blkOk_by (own := [("lot", 5)]) (N := ["self", "houses", "lots", "given", "let", "lot", "other", "greatest"]) (sc := (defScope s_Falls___init__)) (by decide +kernel)) (fun _ _ _ _ _ => pg_name (i := 5) sc_Falls___init__.nd rfl (by first | exact Or.inl rfl | exact Or.inr rfl)) (fun _ _ _ _ _ => pts_nil) (fun _ _ _ _ _ => (pv 5)) (fun _ _ _ _ _ => pe_bl)) rfl))))))))), ?_⟩
  have h0x : Fv.del (Fv.del H x) dx x = none := by rw [Fv.del_ne hne.symm, Fv.del_same]
  have h0d : Fv.del (Fv.del H x) dx dx = none := Fv.del_same
  have hz : (ls.map dI).length ≤ 32 := by rw [List.length_map]; exact hfew
  -- the first tests
  refine t_skip (Step.refl e .nil) ((et_not (b := true) ((et_B (g_call (.int n, some 2, some 5) (gs_three (g_var (v := .int n) rfl (.int _)) g_int g_int) rfl trivial)).is ?_)).is rfl) fun F1 H1 s1 e1 => ?_
  · simp only [isWhole, loOk, hiOk, Bool.and_eq_true, decide_eq_true_eq]; omega
  refine t_skip s1 ((et_or (a := false) (b := false) ((et_not (b := true) ((et_B (g_call src (gs_one (g_var rfl (Rp.mono e1 _ _ hv))) rfl trivial)).is ?_)).is rfl) fun _ => ((et_of (K := K) (g_op (g_cbI (gs_one (g_var rfl (Rp.mono e1 _ _ hv))) (rc_lenS hsrc.seq)) g_int fun _ _ h1 h2 => by subst h1 h2; exact rv_bl (g := fun i j => decide (j < i)))).is ?_)).is rfl) fun F2 H2 s2 e2 => ?_
  · cases hsrc <;> rfl
  · simp only [decide_eq_false_iff_not]; omega
  -- given
  have e12 := e1.trans e2
  refine t_asgI (K := K) s2 (g_lstI (gs_consI (g_tupI gs_nil (by simp)) (gs_star (.inl rfl) (g_call (n, src, ls) (gs_two (g_var (v := .int n) rfl (.int _)) (g_var rfl (Rp.mono e12 _ _ hv))) rfl ⟨hn5, hsrc, hgood⟩) gs_nil)) (by simp; omega)) fun gv F3 H3 s3 e3 hg => ?_
  have hg' : Rp K F3 gv (dLT ([] :: ls.map (lotOf n))) := by simpa [dLT, dT] using hg
  have few := all_few n (by rw [List.mem_range]; omega)
  have lf := let_few hn5 ls
  -- let
  refine t_asgI (K := K) s3 (g_lcE dT (allLots n) (fun l => ([] :: ls.map (lotOf n)).any fun o => within l o) dT (w_listI (g_call n (gs_one (g_var (v := .int n) rfl (.int _))) rfl hn5)) (by omega) (fun _ => rfl) (fun l hl F' e' u hu => ?_) (fun l hl _ F' e' u hu => g_var rfl hu)) fun lv F4 H4 s4 e4 hlv => ?_
  · exact et_B (g_cbI (gs_one (g_lcEM dT ([] :: ls.map (lotOf n)) (fun o => .bool (within l o)) (w_listI (g_var rfl (Rp.mono e' _ _ hg'))) (by simp; omega) (fun _ => rfl) fun o ho F'' e'' y hy =>
      g_call (l, o) (gs_two (g_var rfl (Rp.mono e'' _ _ hu)) (g_var rfl hy)) rfl (by have := few.2 l hl; simp only; omega))) (rc_anyM _ (within l)))
  have hlv' : Rp K F4 lv (dLT (letOf n ls)) := hlv
  -- greatest
  refine t_asgI (K := K) s4 (g_lcE dT (letOf n ls) (fun l => !((letOf n ls).any fun o => (!decide (l = o)) && within l o)) dT (w_listI (g_var rfl hlv')) (by omega) (fun _ => rfl) (fun l hl F' e' u hu => ?_) (fun l hl _ F' e' u hu => g_var rfl hu)) fun mv F5 H5 s5 e5 hmv => ?_
  · exact et_not (et_B (g_cbI (gs_one (g_lcEM dT (letOf n ls) (fun o => .bool ((!decide (l = o)) && within l o)) (w_listI (g_var rfl (Rp.mono e' _ _ hlv'))) (by omega) (fun _ => rfl) fun o ho F'' e'' y hy =>
      g_andV (g_op (g_var rfl (Rp.mono e'' _ _ hu)) (g_var rfl hy) fun _ _ h1 h2 => by subst h1 h2; exact rv_neT) fun _ => g_call (l, o) (gs_two (g_var rfl (Rp.mono e'' _ _ hu)) (g_var rfl hy)) rfl (by have := lf.2 l hl; simp only; omega))) (rc_anyM _ fun o => (!decide (l = o)) && within l o)))
  have hmv' : Rp K F5 mv (dLT (greatOf n ls)) := hmv
  -- what the instance has been through
  have f5x : F5 x = none := s5.new x fx (by rw [hox]; simp)
  have h5x : H5 x = some (.ins C dx []) := s5.keep.ex x _ hox
  have b0 : Fv.del H x x = none := Fv.del_same
  refine t_fld (K := K) ((Step.own1 e x).trans s5) b0 f5x rfl h5x FC.cl FC.nN (by decide) (EvG.toX (g_var (K := K) (d := .int n) (v := .int n) rfl (.int _))) fun v6 F6 H6 hv6 s6 e6 f6x h6x => ?_
  have hv6' := rp_int hv6
  subst hv6'
  refine t_fld (K := K) s6 b0 f6x rfl h6x FC.cl FC.nL (by show 1 < 1000; decide) (EvG.toX (g_cbI (gs_one (g_sortLL (g_var rfl (Rp.mono e6 _ _ hmv')) (great_kinds hn5 ls))) rc_tupL)) fun v7 F7 H7 hv7 s7 e7 f7x h7x => ?_
  refine t_fld1 (K := K) s7 b0 f7x rfl h7x FC.cl FC.nF (by show 2 < 1000; decide) (x_dcT (K := K) (w_listI (g_var rfl (Rp.mono ((e5.trans e6).trans e7) _ _ hlv'))) lf.1 (fun _ => rfl) (fun l hl F' e' u hu => g_var rfl hu) (fun _ _ _ => g_bl)) fun v8 F8 H8 hv8 s8 e8 f8x h8x => ?_
  obtain ⟨D, rfl, hD⟩ := hv8
  have hdx : (Fv.del H x) dx = some (.own x) := by rw [Fv.del_ne hne]; exact hodx
  have f8d : F8 dx = none := s8.new dx fdx (by rw [hdx]; simp)
  have h8d : H8 dx = some (.own x) := s8.keep.ex dx _ hdx
  have s9 : Step none F (Fv.del (Fv.del H x) dx) (upd F8 dx (.own x)) H8 := (s8.less Fv.del_ex).add f8d h8d Fv.del_same
  have f9x : upd F8 dx (.own x) x = none := by rw [upd_ne hne.symm]; exact f8x
  have s10 := s9.add (a := x) f9x h8x (by rw [Fv.del_ne hne.symm, Fv.del_same])
  have ee : Ex F8 (upd (upd F8 dx (.own x)) x (.ins C dx (putF "_let" (.ref D) (putF "lots" v7 (putF "n" (.int n) []))))) := (Ex.new f8d).trans (Ex.new f9x)
  refine q _ H8 s10 ⟨dx, v7, D, upd_same, ?_, Rp.mono (e8.trans ee) _ _ hv7, ee _ _ hD⟩
  rw [upd_ne hne]; exact upd_same
end
end KJ
namespace KJ
open PySem PySem.Spec PyProof.Rows L2 Fv Evl StX
theorem hs_mem {n : Nat} {k : Int} : k ∈ hs n ↔ 0 ≤ k ∧ k < (n : Int) := by
  unfold hs
  rw [List.mem_map]
  constructor
  · rintro ⟨j, hj, rfl⟩
    rw [List.mem_range] at hj
    simp only [Int.ofNat_eq_natCast]; omega
  · rintro ⟨h1, h2⟩
    exact ⟨k.toNat, by rw [List.mem_range]; omega, by simp only [Int.ofNat_eq_natCast]; omega⟩
theorem hs_len (n : Nat) : (hs n).length = n := by simp [hs]
def coN (n : Nat) (lot : List Int) : List Int := (hs n).filter fun h => !decide (h ∈ lot)
def famLots (n : Nat) (ls : List (List Int)) : List (List Int) := sortL (greatOf n ls)
def coverAt (n : Nat) (L : List (List Int)) (i : Nat) : Option (List Int × List Int) := ((L.drop (i + 1)).find? fun o => within (hs n) (L.getD i [] ++ o)).map fun o => (L.getD i [], o)
def coverOf (n : Nat) (L : List (List Int)) : Option (List Int × List Int) := (List.range L.length).findSome? (coverAt n L)
def coverD : Option (List Int × List Int) → PyData
  | none => .none
  | some (a, b) => .tuple [dT a, dT b]
theorem famLots_few {n : Nat} (hn : n ≤ 5) (ls : List (List Int)) : (famLots n ls).length ≤ 300 ∧ ∀ l ∈ famLots n ls, l.length ≤ 60 := by
  have p := sortL_perm (greatOf n ls)
  refine ⟨by unfold famLots; rw [p.length_eq]; exact great_few hn ls, fun l hl => ?_⟩
  have : l ∈ greatOf n ls := p.mem_iff.mp hl
  exact (let_few hn ls).2 l (List.mem_filter.mp this).1
section
variable {P : Program} {w : World} {K : PySem.W.Frag} {mg : Str → Option Value} {base : Heap}
theorem x_make {pt : Option Pt} {σ : L2.St} {F : Hp} {ts : TA} {C : Addr} {E : XK} {n : Nat} {src : PyData} {ls : List (List Int)} (h : EvsG K pt ts σ F (· = [.int (n : Int), src])) (h1 : LotsD src ls) (h2 : 2 ≤ n ∧ n ≤ 5) (h3 : GoodLots n ls) (h4 : ls.length ≤ 32) :
    EvX pt (tMake C (spInit K C) [] E ts) σ F (fun v F2 => ∃ x, v = .ref x ∧ Fam K C F2 x n ls) := fun H1 i g Q q =>
  h H1 i g _ fun ds vs F2 H2 hd s hv => by
    subst hd
    obtain ⟨a, v, rfl, ha, hv⟩ := rpAll2 hv
    rw [rp_int ha]
    intro x dx hx hdx hne
    have fr : ∀ {a : Addr}, H2 a = none → F2 a = none := fun {a} h => by
      cases w : F2 a with
      | none => rfl
      | some o => rw [s.inn _ _ w] at h; cases h
    have n1 : (upd H2 dx (.own x)) x = none := by rw [upd_ne hne.symm]; exact hx
    have e1 : Ex H2 (upd (upd H2 dx (.own x)) x (.ins C dx [])) := (Ex.new hdx).trans (Ex.new n1)
    refine ⟨x, dx, n, src, ls, F2, v, rfl, upd_same, by rw [upd_ne hne]; exact upd_same, hne, fr hx, fr hdx, s.inn.trans e1, hv, h1, h2, h3, h4, fun F3 H3 s3 fam => ⟨rfl, ?_⟩⟩
    have back : Fv.del (Fv.del (upd (upd H2 dx (.own x)) x (.ins C dx [])) x) dx = H2 := by
      funext b
      by_cases z : b = dx
      · rw [z, Fv.del_same, hdx]
      · rw [Fv.del_ne z]
        by_cases y : b = x
        · rw [y, Fv.del_same, hx]
        · rw [Fv.del_ne y, upd_ne y, upd_ne z]
    rw [back] at s3
    exact q _ F3 H3 ⟨x, rfl, fam⟩ (s.trans (s3.lift s.good))
/-- a promise about an instance -/
def spFam {ι : Type} (K : PySem.W.Frag) (C : Addr) (A : ι → List PyData) (f : Nat → List (List Int) → ι → PyData) (P : Nat → ι → Prop) : Sp := fun vs H Q _ => ∃ x n ls i F as, vs = .ref x :: as ∧ n ≤ 5 ∧ P n i ∧ Ex F H ∧ Fam K C F x n ls ∧ RpAll K F as (A i) ∧
  ∀ v F2 H2, Step none F H F2 H2 → Rp K F2 v (f n ls i) → Q v H2
end
end KJ
namespace KJ
open PySem PySem.Spec PyProof.Rows L2 Fv Evl StX
abbrev s_Falls_covering : Stmt := inClass (topS 23) 3
theorem sc_Falls_covering : FnScope ["self", "houses", "at", "other"] ["self"] (defScope s_Falls_covering) := ⟨rfl, rfl, rfl, by decide +kernel, rfl, by decide +kernel, by decide +kernel⟩
section
variable {P : Program} {w : World} {K : PySem.W.Frag} {mg : Str → Option Value} {base : Heap}
abbrev spCover (K : PySem.W.Frag) (C : Addr) : Sp := spFam K C (fun _ : Unit => []) (fun n ls _ => coverD (coverOf n (famLots n ls))) (fun _ _ => True)
theorem ok_cover {f C fI : Addr} {fd fdI : FuncData} (Fn : Fun K "covering" "Falls.covering" s_Falls_covering f fd) (T : Tx mg) (FC : FallsC K C)
    (F_lot_within : Fun K "lot_within" "lot_within" s_lot_within fI fdI) (b_lot_within : Binds K fdI ["one", "other"] []) (g_lot_within : mg "lot_within" = some (.ref fI)) : FnOk P w K mg base CX0 2 f fd ["self"] (spCover K C) := by
  have G_lot_within : FnOk P w K mg base CX0 1 fI fdI ["one", "other"] (spWithin K) := ok_within F_lot_within T
  refine Fn.ok sc_Falls_covering (fun vs H Q E ⟨_, _, _, _, _, _, h, _, _, _, _, r, _⟩ => by rw [h, List.length_cons, r.length]; rfl) (fun cdv A outer s H vs Q E hr h => ?_)
  obtain ⟨x, n, ls, _, F, as, rfl, hn, _, e, fam, ha, q⟩ := h
  cases ha
  obtain ⟨dx, lt, d, o1, o2, o3, o4⟩ := fam.ex
  refine ⟨_, (pss_cons (ps_set (i := 1) sc_Falls_covering.nd rfl (by first | exact Or.inl rfl | exact Or.inr rfl) (pe_tupRg rfl (by rfl) T.tuple (prg_1 (by rfl) T.range (e_fld (K := K) (pv 0) rfl))))
    (pss_cons (ps_for PassesOwn.never rfl (pi_range1 (by rfl) T.range (pa_cons (pe_callB (c_len (K := K)) (by rfl) T.len (by decide +kernel) (pa_cons (e_fld (K := K) (pv 0) rfl) pa_nil)) pa_nil)) (pg_name (i := 2) sc_Falls_covering.nd rfl (by first | exact Or.inl rfl | exact Or.inr rfl)) (pss_one (ps_for PassesOwn.never rfl (i_tup (K := K) (pe_slice (s_tup (K := K)) (e_fld (K := K) (pv 0) rfl) (po_some (pe_op op_add (pv 2) pe_int)) po_none)) (pg_name (i := 3) sc_Falls_covering.nd rfl (by first | exact Or.inl rfl | exact Or.inr rfl)) (pss_one (ps_if (pt_val (pe_call G_lot_within (hr.mono (by decide)) (by rfl) g_lot_within F_lot_within.kp b_lot_within .nil pass0 (pa_cons (pv 1) (pa_cons (pe_op (o_catA (K := K)) (pe_ix (o_ixT (K := K)) (e_fld (K := K) (pv 0) rfl) (pv 2) (fun _ _ => rfl)) (pv 3)) pa_nil)))) (pss_one (ps_ret (pe_tup (pa_cons (pe_ix (o_ixT (K := K)) (e_fld (K := K) (pv 0) rfl) (pv 2) (fun _ _ => rfl)) (pa_cons (pv 3) pa_nil))))) pss_nil)))))
    (pss_one (ps_ret pe_non)))), ?_⟩
  have few := famLots_few hn ls
  generalize hL : famLots n ls = L at few q
  have o3' : Rp K F lt (dTT L) := by rw [← hL]; exact o3
  -- houses
  refine t_asgI (K := K) (Step.refl e .nil) (g_tupR1 (n := (n : Int)) (g_fld rfl o1 FC.cl FC.nN rfl (.int _)) (by omega) (by omega)) fun hv F1 H1 s1 e1 hhv => ?_
  have hhv' : Rp K F1 hv (dT (hs n)) := by
    rw [show (n : Int).toNat = n by omega, rng_hs] at hhv
    exact hhv
  have lots : ∀ F', Ex F1 F' → ∀ σ : L2.St, σ[0]? = some (some (.ref x)) → EvG K none (tFld K (tVar 0) "lots") σ F' (Is (dTT L)) := fun F' e' σ hσ => g_fld hσ ((e1.trans e') _ _ o1) FC.cl FC.nL rfl (Rp.mono (e1.trans e') _ _ o3')
  refine t_for (K := K) (ds := rng 0 ((L.map dT).length : Int).toNat) s1 (w_rng1I (n := ((L.map dT).length : Int)) (gs_one (g_cbI (gs_one (lots F1 (Ex.refl _) _ rfl)) rc_lenT)) (by omega) (by rw [List.length_map]; omega))
    (fun i σ' F' => (∃ a b, σ' = [some (.ref x), some hv, a, b]) ∧ ∀ k, k < i → coverAt n L k = none) (fun F2 e2 => ⟨⟨none, none, rfl⟩, fun k hk => absurd hk (Nat.not_lt_zero _)⟩) (fun i d hd σ' F' H' u hI s' e' hu N hN => ?_) (fun σ' F' H' hI s' e' => ?_)
  · obtain ⟨⟨a, b, rfl⟩, hpre⟩ := hI
    have hil : i < L.length := by
      have := (List.getElem?_eq_some_iff.mp hd).1
      rw [rng_len] at this
      simpa using this
    have ed : d = .int (i : Int) := by
      rw [rng_get (by simpa using hil)] at hd
      have := Option.some.inj hd
      rw [← this]; simp
    subst ed
    have hget : L.getD i [] = L[i] := by rw [List.getD_eq_getElem?_getD, List.getElem?_eq_getElem hil]; rfl
    have hlen : L[i].length ≤ 60 := few.2 _ (List.getElem_mem hil)
    have hat : atI (L.map dT) (i : Int) = some (dT L[i]) := atI_nat (by rw [List.getElem?_map, List.getElem?_eq_getElem hil]; rfl)
    have one : ∀ F', Ex F1 F' → ∀ σ : L2.St, σ[0]? = some (some (.ref x)) → ∀ v, σ[2]? = some (some v) → Rp K F' v (.int (i : Int)) → EvG K none (tOp (rIxT K) (tFld K (tVar 0) "lots") (tVar 2)) σ F' (Is (dT L[i])) :=
      fun F' e' σ h0 v h2 hv2 => g_op (lots F' e' σ h0) (g_var h2 hv2) fun _ _ h1 h2 => by subst h1 h2; exact rv_ixT hat
    -- for other in self.lots[at + 1:]
    refine t_for1 (K := K) (ds := (L.drop (i + 1)).map dT) s' (w_tupI ((g_slA (i := i + 1) (lots F' e' _ rfl) ((g_op (g_var rfl hu) g_int fun _ _ h1 h2 => by subst h1 h2; exact rv_add).is (by simp))).is (by rw [List.map_drop])))
      (fun k σ'' F'' => (∃ b, σ'' = [some (.ref x), some hv, some u, b]) ∧ ∀ o ∈ (L.drop (i + 1)).take k, within (hs n) (L[i] ++ o) = false) (fun F2 e2 => ⟨⟨_, rfl⟩, by simp⟩) (fun k d hd σ'' F'' H'' y hJ s'' e'' hy N' hN' => ?_) (fun σ'' F'' H'' hJ s'' e'' => ?_)
    · obtain ⟨⟨b', rfl⟩, hno⟩ := hJ
      obtain ⟨o, ho, rfl⟩ := get_map hd
      have hom : o ∈ L := List.mem_of_mem_drop (List.mem_of_getElem? ho)
      have hol := few.2 o hom
      have hu' : Rp K F'' u (.int (i : Int)) := Rp.mono e'' _ _ hu
      refine t_if1 (b := within (hs n) (L[i] ++ o)) s'' (et_B (g_call (hs n, L[i] ++ o) (gs_two (g_var rfl (Rp.mono (e'.trans e'') _ _ hhv')) ((g_op (one F'' (e'.trans e'') _ rfl u rfl hu') (g_var rfl hy) fun _ _ h1 h2 => by subst h1 h2; exact rv_catA (by simp; omega)).is (congrArg PyData.tuple (by rw [List.map_append])))) rfl (by simp only [hs_len]; omega))) (fun hb F2 H2 s2 e2 => ?_) (fun hb F2 H2 s2 e2 => ?_)
      · -- found
        refine t_retI (K := K) s2 (g_tupI (gs_two (one F2 ((e'.trans e'').trans e2) _ rfl u rfl (Rp.mono e2 _ _ hu')) (g_var rfl (Rp.mono e2 _ _ hy))) (by simp)) fun v3 F3 H3 s3 hv3 => q v3 F3 H3 s3 ?_
        show Rp K F3 v3 (coverD (coverOf n (famLots n ls)))
        rw [hL]
        have c1 : coverAt n L i = some (L[i], o) := by
          unfold coverAt
          rw [hget]
          have : (L.drop (i + 1)).find? (fun o => within (hs n) (L[i] ++ o)) = some o := by
            rw [List.find?_eq_some_iff_append]
            refine ⟨hb, (L.drop (i + 1)).take k, (L.drop (i + 1)).drop (k + 1), ?_, fun z hz => by simp [hno z hz]⟩
            have hk := (List.getElem?_eq_some_iff.mp ho)
            obtain ⟨hk1, hk2⟩ := hk
            conv => lhs; rw [← List.take_append_drop k (L.drop (i + 1))]
            rw [List.drop_eq_getElem_cons hk1, hk2]
          rw [this]; rfl
        have c2 : coverOf n L = some (L[i], o) := by
          unfold coverOf
          rw [List.findSome?_eq_some_iff]
          refine ⟨List.range i, i, (List.range L.length).drop (i + 1), ?_, c1, fun z hz => hpre z (List.mem_range.mp hz)⟩
          have : List.range L.length = (List.range L.length).take i ++ (List.range L.length).drop i := (List.take_append_drop i _).symm
          have h1 : (List.range L.length).take i = List.range i := by rw [List.take_range, Nat.min_eq_left (Nat.le_of_lt hil)]
          have h2 : (List.range L.length).drop i = i :: (List.range L.length).drop (i + 1) := by
            rw [List.drop_eq_getElem_cons (by simpa using hil)]
            simp
          rw [h1, h2] at this
          exact this
        rw [c2]; exact hv3
      · refine hN' _ F2 H2 ⟨⟨_, rfl⟩, fun z hz => ?_⟩ s2 e2
        rw [take_succA ho] at hz
        rcases List.mem_append.mp hz with m | m
        · exact hno z m
        · rw [List.mem_singleton.mp m]; exact hb
    · obtain ⟨⟨b', rfl⟩, hno⟩ := hJ
      refine hN _ F'' H'' ⟨⟨_, _, rfl⟩, fun k hk => ?_⟩ s'' e''
      by_cases z : k < i
      · exact hpre k z
      · have : k = i := by omega
        subst this
        unfold coverAt
        rw [hget]
        rw [List.length_map, List.take_length] at hno
        have : (L.drop (k + 1)).find? (fun o => within (hs n) (L[k] ++ o)) = none := by
          rw [List.find?_eq_none]
          intro o ho
          rw [hno o ho]; simp
        rw [this]; rfl
  · obtain ⟨⟨a, b, rfl⟩, hpre⟩ := hI
    rw [rng_len] at hpre
    refine t_retI (K := K) s' g_non fun v3 F3 H3 s3 hv3 => q v3 F3 H3 s3 ?_
    show Rp K F3 v3 (coverD (coverOf n (famLots n ls)))
    rw [hL]
    have : coverOf n L = none := by
      unfold coverOf
      rw [List.findSome?_eq_none_iff]
      intro k hk
      exact hpre k (by simpa using hk)
    rw [this]; exact hv3
end
end KJ
namespace Fv
open PySem PySem.Spec PyProof.Rows L2 Evl StX
end Fv
namespace KJ
open PySem PySem.Spec PyProof.Rows L2 Fv Evl StX
abbrev s_law_lot : Stmt := topS 46
theorem sc_law_lot : FnScope ["_law_pot_here", "_law_n", "_law_bits", "_law_house"] ["_law_pot_here", "_law_n"] (defScope s_law_lot) := ⟨rfl, rfl, rfl, by decide +kernel, rfl, by decide +kernel, by decide +kernel⟩
abbrev s_law_lots : Stmt := topS 47
theorem sc_law_lots : FnScope ["_law_pot_here", "_law_n", "_law_word", "_law_singles", "_law_house", "_law_k", "_law_sure", "_law_rows", "_law_lot_here", "_law_cut"] ["_law_pot_here", "_law_n"] (defScope s_law_lots) := ⟨rfl, rfl, rfl, by decide +kernel, rfl, by decide +kernel, by decide +kernel⟩
def OneGood (n : Nat) (l : List Int) : Prop := l.length ≤ 60 ∧ (∀ k ∈ l, 0 ≤ k ∧ k < (n : Int)) ∧ (lotOf n l).length ≠ n
theorem not_all {n : Nat} {l : List Int} {k : Int} (h0 : 0 ≤ k) (h1 : k < n) (h : k ∉ l) : (lotOf n l).length ≠ n := by
  have hl : ((List.range n).map Int.ofNat).length = n := by simp
  intro e
  rw [← hl] at e
  unfold lotOf at e
  rw [hl] at e
  have e2 : (((List.range n).map Int.ofNat).filter fun k => decide (k ∈ l)).length = ((List.range n).map Int.ofNat).length := by rw [hl]; exact e
  rw [List.length_filter_eq_length_iff] at e2
  have := e2 k (by rw [List.mem_map]; exact ⟨k.toNat, by rw [List.mem_range]; omega, by simp only [Int.ofNat_eq_natCast]; omega⟩)
  simp at this; exact h this
def bitLot (n : Nat) (bits : Int) : List Int := (hs n).filter fun h => (Builtin.bitAnd (bits / 2 ^ h.toNat) 1 != 0)
theorem bits_good : ∀ n ∈ List.range 6, ∀ b ∈ List.range (2 ^ n - 1), (bitLot n b).length ≤ 60 ∧ (∀ k ∈ bitLot n b, 0 ≤ k ∧ k < (n : Int)) ∧ (lotOf n (bitLot n b)).length ≠ n := by decide +kernel
section
variable {P : Program} {w : World} {K : PySem.W.Frag} {mg : Str → Option Value} {base : Heap}
/-- n as the law has it -/
abbrev NOk (m : Int) : Prop := 2 ≤ m ∧ m ≤ 5
abbrev RO (n : Nat) : PD := fun d => ∃ l, d = dT l ∧ OneGood n l
abbrev RL (n c : Nat) : PD := fun d => ∃ ls, d = dLT ls ∧ (∀ l ∈ ls, OneGood n l) ∧ ls.length ≤ c
abbrev spLawLot (K : PySem.W.Frag) : Sp := spP K NOk (fun m => RO m.toNat)
theorem ok_law_lot {f fD : Addr} {fd fdD : FuncData} (Fn : Fun K "_law_lot" "_law_lot" s_law_lot f fd) (T : Tx mg)
    (F_law_draw : Fun K "_law_draw" "_law_draw" s_law_draw fD fdD) (b_law_draw : Binds K fdD ["_law_pot_here", "_law_many_here"] []) (g_law_draw : mg "_law_draw" = some (.ref fD)) : FnOk P w K mg base CX0 2 f fd ["_law_pot_here", "_law_n"] (spLawLot K) := by
  have G_law_draw : FnOk P w K mg base CX0 1 fD fdD ["_law_pot_here", "_law_many_here"] (spDraw K) := ok_draw F_law_draw T
  refine Fn.ok sc_law_lot spP.len (fun cdv A outer s H vs Q E hr h => ?_)
  obtain ⟨q, m, F, rfl, ⟨m1, m2⟩, e, g, k⟩ := h
  obtain ⟨n, rfl⟩ : ∃ n : Nat, m = (n : Int) := ⟨m.toNat, by omega⟩
  refine ⟨_, (pss_cons (ps_set (i := 2) sc_law_lot.nd rfl (by first | exact Or.inl rfl | exact Or.inr rfl) (pe_call G_law_draw (hr.mono (by decide)) (by rfl) g_law_draw F_law_draw.kp b_law_draw .nil pass0 (pa_cons (pv 0) (pa_cons (pe_op op_sub (pe_op op_shl pe_int (pv 1)) pe_int) pa_nil))))
    (pss_one (ps_ret (pe_callTy (c_tup (K := K)) (by rfl) T.tuple (by decide +kernel) (pa_cons (pe_lc (own := [("_law_house", 3)]) (g := gName 3) rfl sc_law_lot.nd (pi_range1 (by rfl) T.range (pa_cons (pv 1) pa_nil)) (blkOk_by (own := [("_law_house", 3)]) (N := ["_law_pot_here", "_law_n", "_law_bits", "_law_house"]) (sc := (defScope s_law_lot)) (by decide +kernel)) (fun _ _ _ _ _ => pg_name (i := 3) sc_law_lot.nd rfl (by first | exact Or.inl rfl | exact Or.inr rfl)) (fun _ _ _ _ _ => (pts_one (e_truth (K := K) (pe_op op_and (pe_op op_shr (pv 2) (pv 3)) pe_int)))) (fun _ _ _ _ _ => (pv 3))) pa_nil))))), ?_⟩
  have p1 : (1 : Int) ≤ 2 ^ n - 1 ∧ (2 : Int) ^ n - 1 < 10000000000000000000000000000001 := by
    have : n = 2 ∨ n = 3 ∨ n = 4 ∨ n = 5 := by omega
    rcases this with rfl | rfl | rfl | rfl <;> decide
  refine t_asg (K := K) (Step.refl e g) (g_callP (m := 2 ^ n - 1) rfl (g_op (g_op g_int (g_var (v := .int n) (d := .int n) rfl (.int _)) fun _ _ h1 h2 => by subst h1 h2; exact rv_shl (by omega)) g_int fun _ _ h1 h2 => by subst h1 h2; exact rv_sub) p1) fun d v F1 H1 hd s1 e1 hv => ?_
  obtain ⟨b, rfl, b0, b1⟩ := hd
  obtain ⟨b, rfl⟩ : ∃ b' : Nat, b = (b' : Int) := ⟨b.toNat, by omega⟩
  refine t_retI (K := K) s1 (g_cbI (gs_one (g_lcE PyData.int (hs n) (fun h => (Builtin.bitAnd ((b : Int) / 2 ^ h.toNat) 1 != 0)) PyData.int ?_ (by rw [hs_len]; omega) (fun _ => rfl) (fun h hh F' e' u hu => ?_) (fun h _ _ F' e' u hu => g_var rfl hu))) rc_tupL) fun v F2 H2 s2 hv => k _ v F2 H2 ⟨bitLot n b, rfl, ?_⟩ s2 hv
  · have := w_rng1I (K := K) (pt := some q) (σ := [some (.ref q.p), some (.int n), some v, none]) (F := F1) (n := (n : Int)) (gs_one (g_var (v := .int n) (i := 1) rfl (.int _))) (by omega) (by omega)
    rw [show (n : Int).toNat = n by omega, rng_hs] at this
    exact this
  · exact et_truI (g_op (g_op (g_var rfl (Rp.mono e' _ _ hv)) (g_var rfl hu) fun _ _ h1 h2 => by subst h1 h2; exact rv_shr (hs_mem.mp hh).1) g_int fun _ _ h1 h2 => by subst h1 h2; exact rv_and)
  · have hb : b < 2 ^ n - 1 := by
      have : ((2 ^ n : Nat) : Int) = 2 ^ n := by simp
      omega
    rw [show (n : Int).toNat = n by omega]
    exact bits_good n (by rw [List.mem_range]; omega) b (List.mem_range.mpr hb)
/-! lists of good lots -/
variable {pt : Option Pt} {σ : L2.St} {F : Hp} {te ta tb : TE} {ts tr : TA} {n a b : Nat}
theorem OneGood.to (h : EvG K pt te σ F (RO n)) : True := trivial
abbrev RLs (n c : Nat) : List PyData → Prop := fun ds => ∃ ls : List (List Int), ds = ls.map dT ∧ (∀ l ∈ ls, OneGood n l) ∧ ls.length ≤ c
theorem gs_nilR : EvsG K pt tNil σ F (RLs n 0) := fun H1 i g Q q => gs_nil (K := K) H1 i g Q fun ds vs F2 H2 hd s hv => q ds vs F2 H2 ⟨[], by rw [hd]; rfl, by simp, by simp⟩ s hv
theorem gs_consRO (h : EvG K pt te σ F (RO n)) (h2 : EvsG K pt ts σ F (RLs n a)) : EvsG K pt (tCons te ts) σ F (RLs n (a + 1)) := fun H1 i g Q q => gs_cons h h2 H1 i g Q fun ds vs F2 H2 hd s hv => by
  obtain ⟨d, ds', rfl, ⟨l, rfl, hl⟩, ls, rfl, hls, hz⟩ := hd
  refine q _ vs F2 H2 ⟨l :: ls, rfl, fun x hx => ?_, by simp; omega⟩ s hv
  rcases List.mem_cons.mp hx with rfl | m
  · exact hl
  · exact hls x m
theorem g_lstRL (h : EvsG K pt ts σ F (RLs n a)) (hz : a ≤ 100) : EvG K pt (tLst ts) σ F (RL n a) := (g_lst h fun ds ⟨ls, e, _, hl⟩ => by rw [e, List.length_map]; omega).imp fun d ⟨ds, e, ls, e2, hg, hl⟩ => ⟨ls, by rw [e, e2], hg, hl⟩
theorem g_catRL (ha : EvG K pt ta σ F (RL n a)) (hb : EvG K pt tb σ F (RL n b)) (hz : a + b ≤ 100) : EvG K pt (tOp rCat ta tb) σ F (RL n (a + b)) := g_op ha hb fun d e ⟨ls, e1, g1, l1⟩ ⟨ms, e2, g2, l2⟩ => by
  subst e1 e2
  intro F H x y i hx hy Q q
  refine rv_cat (by simp; omega) F H x y i hx hy Q fun z v F2 H2 hz' s hv => q z v F2 H2 ⟨ls ++ ms, by rw [show z = _ from hz']; exact congrArg PyData.list List.map_append.symm, fun l hl => ?_, by simp; omega⟩ s hv
  rcases List.mem_append.mp hl with m | m
  · exact g1 l m
  · exact g2 l m
theorem roI {l : List Int} (h : EvG K pt te σ F (Is (dT l))) (hg : OneGood n l) : EvG K pt te σ F (RO n) := h.imp fun d e => ⟨l, e, hg⟩
theorem rlI {ls : List (List Int)} (h : EvG K pt te σ F (Is (dLT ls))) (hg : ∀ l ∈ ls, OneGood n l) (hz : ls.length ≤ a) : EvG K pt te σ F (RL n a) := h.imp fun d e => ⟨ls, e, hg, hz⟩
theorem w_hs {i : Nat} (h : σ[i]? = some (some (.int (n : Int)))) (hn : NOk (n : Int)) : WiG K pt (iRng1 (tCons (tVar i) tNil)) σ F (· = (hs n).map .int) := by
  have := w_rng1I (K := K) (pt := pt) (σ := σ) (F := F) (n := (n : Int)) (gs_one (g_var (v := .int n) (i := i) h (.int _))) (by omega) (by omega)
  rw [show (n : Int).toNat = n by omega, rng_hs] at this
  exact this
theorem w_rngD {c : Int} (hc : c ≤ 100) (h : EvG K pt te σ F (fun d => ∃ k : Int, d = .int k ∧ 0 ≤ k ∧ k < c)) : WiG K pt (iRng1 (tCons (tOp (rI0 fun i j => .int (i + j)) (tC (.int 1)) te) tNil)) σ F (fun l => l.length ≤ c.toNat) := fun H1 i g RR q =>
  w_rng1 (R0 := fun ds => ∃ k : Int, ds = [.int (1 + k)] ∧ 0 ≤ k ∧ k < c) (fun H1 i g Q q => g_consR (R := fun d => ∃ k : Int, d = .int (1 + k) ∧ 0 ≤ k ∧ k < c) (g_op g_int h fun d e hd ⟨k, he, k0, k1⟩ => by
      subst hd he
      intro F H x y i hx hy Q q
      exact rv_add F H x y i hx hy Q fun z v F2 H2 hz s hv => q z v F2 H2 ⟨k, hz, k0, k1⟩ s hv) H1 i g Q fun ds vs F2 H2 ⟨d, hd, k, hk, k0, k1⟩ s hv => q ds vs F2 H2 ⟨k, by rw [hd, hk], k0, k1⟩ s hv)
    (fun ds ⟨k, e, k0, k1⟩ => ⟨_, e, by omega, by omega⟩) H1 i g RR fun ds J F2 H2 ⟨n, ⟨k, e, k0, k1⟩, hl⟩ => q ds J F2 H2 (by
      show ds.length ≤ c.toNat
      rw [hl, rng_len]
      have : n = 1 + k := by simpa using e
      omega)
def singles (n : Nat) : List (List Int) := (hs n).map fun h => [h]
theorem singles_good (h : 2 ≤ n) : (∀ l ∈ singles n, OneGood n l) ∧ (singles n).length ≤ n := by
  refine ⟨fun l hl => ?_, by simp [singles, hs_len]⟩
  obtain ⟨k, hk, rfl⟩ := List.mem_map.mp hl
  have := hs_mem.mp hk
  refine ⟨by simp, by simp; omega, ?_⟩
  by_cases z : k = 0
  · exact not_all (k := 1) (by omega) (by omega) (by simp [z])
  · exact not_all (k := 0) (by omega) (by omega) (by simpa using fun e => z e.symm)
abbrev spLawLots (K : PySem.W.Frag) : Sp := spP K NOk (fun m => RL m.toNat 20)
theorem ok_law_lots {f fD fL : Addr} {fd fdD fdL : FuncData} (Fn : Fun K "_law_lots" "_law_lots" s_law_lots f fd) (T : Tx mg)
    (F_law_draw : Fun K "_law_draw" "_law_draw" s_law_draw fD fdD) (b_law_draw : Binds K fdD ["_law_pot_here", "_law_many_here"] []) (g_law_draw : mg "_law_draw" = some (.ref fD))
    (F_law_lot : Fun K "_law_lot" "_law_lot" s_law_lot fL fdL) (b_law_lot : Binds K fdL ["_law_pot_here", "_law_n"] []) (g_law_lot : mg "_law_lot" = some (.ref fL)) : FnOk P w K mg base CX0 3 f fd ["_law_pot_here", "_law_n"] (spLawLots K) := by
  have G_law_draw : FnOk P w K mg base CX0 1 fD fdD ["_law_pot_here", "_law_many_here"] (spDraw K) := ok_draw F_law_draw T
  have G_law_lot : FnOk P w K mg base CX0 2 fL fdL ["_law_pot_here", "_law_n"] (spLawLot K) := ok_law_lot F_law_lot T F_law_draw b_law_draw g_law_draw
  refine Fn.ok sc_law_lots spP.len (fun cdv A outer s H vs Q E hr h => ?_)
  obtain ⟨q, m, F, rfl, ⟨m1, m2⟩, e, g, k0⟩ := h
  obtain ⟨n, rfl⟩ : ∃ n : Nat, m = (n : Int) := ⟨m.toNat, by omega⟩
  have k : ∀ d v F2 H2, RL n 20 d → Step (some q) F H F2 H2 → Rp K F2 v d → Q v H2 := k0
  have hn : NOk (n : Int) := ⟨m1, m2⟩
  have toN : (n : Int).toNat = n := by omega
  refine ⟨_, (pss_cons (ps_set (i := 2) sc_law_lots.nd rfl (by first | exact Or.inl rfl | exact Or.inr rfl) (pe_call G_law_draw (hr.mono (by decide)) (by rfl) g_law_draw F_law_draw.kp b_law_draw .nil pass0 (pa_cons (pv 0) (pa_cons pe_int pa_nil))))
    (pss_cons (ps_setLc (i := 3) (own := [("_law_house", 4)]) (g := gName 4) rfl sc_law_lots.nd rfl rfl (sw_true rfl rfl rfl (by decide +kernel)) (pi_range1 (by rfl) T.range (pa_cons (pv 1) pa_nil)) (blkOk_by (own := [("_law_house", 4)]) (N := ["_law_pot_here", "_law_n", "_law_word", "_law_singles", "_law_house", "_law_k", "_law_sure", "_law_rows", "_law_lot_here", "_law_cut"]) (sc := (defScope s_law_lots)) (by decide +kernel)) (fun _ _ _ _ _ => pg_name (i := 4) sc_law_lots.nd rfl (by first | exact Or.inl rfl | exact Or.inr rfl)) (fun _ _ _ _ _ => pts_nil) (fun _ _ _ _ _ => (pe_tup (pa_cons (pv 4) pa_nil))))
    (pss_cons (ps_if (pt_cmpR op_lt (pv 2) pe_int (nomark _)) (pss_one (ps_ret (pv 3))) pss_nil)
    (pss_cons (ps_if (pt_cmpR op_eq (pv 2) pe_int (nomark _)) (pss_one (ps_ret (pe_lc (own := [("_law_k", 5)]) (g := gName 5) rfl sc_law_lots.nd (pi_range1 (by rfl) T.range (pa_cons (pe_op op_add pe_int (pe_call G_law_draw (hr.mono (by decide)) (by rfl) g_law_draw F_law_draw.kp b_law_draw .nil pass0 (pa_cons (pv 0) (pa_cons pe_int pa_nil)))) pa_nil)) (blkOk_by (own := [("_law_k", 5)]) (N := ["_law_pot_here", "_law_n", "_law_word", "_law_singles", "_law_house", "_law_k", "_law_sure", "_law_rows", "_law_lot_here", "_law_cut"]) (sc := (defScope s_law_lots)) (by decide +kernel)) (fun _ _ _ _ _ => pg_name (i := 5) sc_law_lots.nd rfl (by first | exact Or.inl rfl | exact Or.inr rfl)) (fun _ _ _ _ _ => pts_nil) (fun _ _ _ _ _ => (pe_call G_law_lot (hr.mono (by decide)) (by rfl) g_law_lot F_law_lot.kp b_law_lot .nil pass0 (pa_cons (pv 0) (pa_cons (pv 1) pa_nil))))))) pss_nil)
    (pss_cons (ps_if (pt_cmpR op_eq (pv 2) pe_int (nomark _)) (pss_one (ps_ret (pe_op op_cat (pv 3) (pe_lc (own := [("_law_k", 5)]) (g := gName 5) rfl sc_law_lots.nd (pi_range1 (by rfl) T.range (pa_cons (pe_op op_add pe_int (pe_call G_law_draw (hr.mono (by decide)) (by rfl) g_law_draw F_law_draw.kp b_law_draw .nil pass0 (pa_cons (pv 0) (pa_cons pe_int pa_nil)))) pa_nil)) (blkOk_by (own := [("_law_k", 5)]) (N := ["_law_pot_here", "_law_n", "_law_word", "_law_singles", "_law_house", "_law_k", "_law_sure", "_law_rows", "_law_lot_here", "_law_cut"]) (sc := (defScope s_law_lots)) (by decide +kernel)) (fun _ _ _ _ _ => pg_name (i := 5) sc_law_lots.nd rfl (by first | exact Or.inl rfl | exact Or.inr rfl)) (fun _ _ _ _ _ => pts_nil) (fun _ _ _ _ _ => (pe_call G_law_lot (hr.mono (by decide)) (by rfl) g_law_lot F_law_lot.kp b_law_lot .nil pass0 (pa_cons (pv 0) (pa_cons (pv 1) pa_nil)))))))) pss_nil)
    (pss_cons (ps_if (pt_cmpR op_eq (pv 2) pe_int (nomark _)) (pss_cons (ps_set (i := 6) sc_law_lots.nd rfl (by first | exact Or.inl rfl | exact Or.inr rfl) (pe_call G_law_draw (hr.mono (by decide)) (by rfl) g_law_draw F_law_draw.kp b_law_draw .nil pass0 (pa_cons (pv 0) (pa_cons (pv 1) pa_nil))))
    (pss_cons (ps_set (i := 7) sc_law_lots.nd rfl (by first | exact Or.inl rfl | exact Or.inr rfl) (pe_op op_cat (pv 3) (pe_lst (pa_cons (pe_call G_law_lot (hr.mono (by decide)) (by rfl) g_law_lot F_law_lot.kp b_law_lot .nil pass0 (pa_cons (pv 0) (pa_cons (pv 1) pa_nil))) (pa_cons (pe_call G_law_lot (hr.mono (by decide)) (by rfl) g_law_lot F_law_lot.kp b_law_lot .nil pass0 (pa_cons (pv 0) (pa_cons (pv 1) pa_nil))) pa_nil)))))
    (pss_one (ps_ret (pe_lc (own := [("_law_lot_here", 8)]) (g := gName 8) rfl sc_law_lots.nd (i_list (K := K) (pv 7)) (blkOk_by (own := [("_law_lot_here", 8)]) (N := ["_law_pot_here", "_law_n", "_law_word", "_law_singles", "_law_house", "_law_k", "_law_sure", "_law_rows", "_law_lot_here", "_law_cut"]) (sc := (defScope s_law_lots)) (by decide +kernel)) (fun _ _ _ _ _ => pg_name (i := 8) sc_law_lots.nd rfl (by first | exact Or.inl rfl | exact Or.inr rfl)) (fun _ _ _ _ _ => pts_nil) (fun _ _ _ _ _ => (pe_callTy (c_tup (K := K)) (by rfl) T.tuple (by decide +kernel) (pa_cons (pe_lc (own := [("_law_house", 4)]) (g := gName 4) rfl sc_law_lots.nd (i_tup (K := K) (pv 8)) (blkOk_by (own := [("_law_house", 4)]) (N := ["_law_pot_here", "_law_n", "_law_word", "_law_singles", "_law_house", "_law_k", "_law_sure", "_law_rows", "_law_lot_here", "_law_cut"]) (by rfl)) (fun _ _ _ _ _ => pg_name (i := 4) sc_law_lots.nd rfl (by first | exact Or.inl rfl | exact Or.inr rfl)) (fun _ _ _ _ _ => (pts_one (pt_cmpR op_ne (pv 4) (pv 6) (nomark _)))) (fun _ _ _ _ _ => (pv 4))) pa_nil)))))))) pss_nil)
    (pss_cons (ps_set (i := 9) sc_law_lots.nd rfl (by first | exact Or.inl rfl | exact Or.inr rfl) (pe_op op_add (pe_call G_law_draw (hr.mono (by decide)) (by rfl) g_law_draw F_law_draw.kp b_law_draw .nil pass0 (pa_cons (pv 0) (pa_cons (pe_op op_sub (pv 1) pe_int) pa_nil))) pe_int))
    (pss_one (ps_ret (pe_op op_cat (pv 3) (pe_lst (pa_cons (pe_tupRg rfl (by rfl) T.tuple (prg_1 (by rfl) T.range (pv 9))) (pa_cons (pe_tupRg rfl (by rfl) T.tuple (prg_2 (by rfl) T.range (pv 9) (pv 1))) (pa_cons (pe_call G_law_lot (hr.mono (by decide)) (by rfl) g_law_lot F_law_lot.kp b_law_lot .nil pass0 (pa_cons (pv 0) (pa_cons (pv 1) pa_nil))) pa_nil)))))))))))))), ?_⟩
  have lot : ∀ {F' : Hp} {σ' : L2.St} {E' : XK}, σ'[0]? = some (some (.ref q.p)) → σ'[1]? = some (some (.int n)) → EvG K (some q) (tCall (spLawLot K) [] E' (tCons (tVar 0) (tCons (tVar 1) tNil))) σ' F' (RO n) := fun {F' σ' E'} h0 h1 =>
    (g_callP (E := E') (F := F') (P := NOk) (R := fun m => RO m.toNat) (m := n) h0 (g_var (v := .int n) (d := .int n) h1 (.int _)) hn).imp fun d hd => by
      obtain ⟨l, h1, h2⟩ := hd
      exact ⟨l, h1, by rw [toN] at h2; exact h2⟩
  -- the word
  refine t_asg (K := K) (Step.refl e g) (g_callP (m := 6) rfl g_int (by decide)) fun d v F1 H1 hd s1 e1 hv => ?_
  obtain ⟨b, rfl, b0, b1⟩ := hd
  -- singles
  refine t_asgI (K := K) s1 (g_lcEM PyData.int (hs n) (fun h => dT [h]) (w_hs rfl hn) (by rw [hs_len]; omega) (fun _ => rfl) fun h hh F' e' u hu => g_tupI (gs_one (g_var rfl hu)) (by simp)) fun sv F2 H2 s2 e2 hsv => ?_
  obtain rfl := rp_int hv
  have hsv' : Rp K F2 sv (dLT (singles n)) := by unfold singles dLT; rw [List.map_map]; exact hsv
  obtain ⟨sg, sl⟩ := singles_good (n := n) (by omega)
  have lots : ∀ {F' : Hp} {σ' : L2.St} {j c : Nat} {te : TE} {te' : TE} {vs : List Nat}, (c : Int) ≤ 100 → EvG K (some q) te' σ' F' (fun d => ∃ k : Int, d = .int k ∧ 0 ≤ k ∧ k < (c : Int)) → (∀ x, wipe ((wipe σ' vs).set j (some x)) vs = wipe σ' vs) → (∀ F'' v, EvG K (some q) te ((wipe σ' vs).set j (some v)) F'' (RO n)) →
      EvG K (some q) (tLc (iRng1 (tCons (tOp (rI0 fun i j => .int (i + j)) (tC (.int 1)) te') tNil)) (gName j) tYes te vs) σ' F' (RL n c) := fun {F' σ' j c te te' vs} hc h hw he =>
    (g_lcR (α := Unit) dT (OneGood n) (w_rngD hc h) (fun ds hd => by omega) hw fun F'' _ v => he F'' v).imp fun d ⟨ds, ys, hds, hd, hl, hg⟩ => ⟨ys, hd, hg, by have : ds.length ≤ (c : Int).toNat := hds; omega⟩
  -- word < 2
  refine t_when s2 (et_of (K := K) (g_op (g_var rfl (.int b)) g_int fun _ _ h1 h2 => by subst h1 h2; exact rv_bl (g := fun i j => decide (i < j)))) (fun _ F3 H3 s3 e3 => ?_) (fun _ F3 H3 s3 e3 => ?_)
  · exact t_ret s3 (rlI (g_var rfl (Rp.mono e3 _ _ hsv')) sg (a := 20) (by omega)) fun d v F4 H4 hd s4 hv => k d v F4 H4 hd s4 hv
  -- word == 2
  refine t_when s3 (et_of (K := K) (g_op (g_var rfl (.int b)) g_int fun _ _ h1 h2 => by subst h1 h2; exact rv_eqI)) (fun _ F4 H4 s4 e4 => ?_) (fun _ F4 H4 s4 e4 => ?_)
  · exact t_ret s4 (lots (c := 4) (by decide) (g_callP (m := 4) rfl g_int (by decide)) (fun _ => rfl) fun F'' v => lot rfl rfl) fun d v F5 H5 ⟨ls, h1, h2, h3⟩ s5 hv => k d v F5 H5 ⟨ls, h1, h2, by omega⟩ s5 hv
  -- word == 3
  refine t_when s4 (et_of (K := K) (g_op (g_var rfl (.int b)) g_int fun _ _ h1 h2 => by subst h1 h2; exact rv_eqI)) (fun _ F5 H5 s5 e5 => ?_) (fun _ F5 H5 s5 e5 => ?_)
  · exact t_ret s5 (g_catRL (a := n) (b := 3) (rlI (g_var rfl (Rp.mono ((e3.trans e4).trans e5) _ _ hsv')) sg sl) (lots (c := 3) (by decide) (g_callP (m := 3) rfl g_int (by decide)) (fun _ => rfl) fun F'' v => lot rfl rfl) (by omega)) fun d v F6 H6 ⟨ls, h1, h2, h3⟩ s6 hv => k d v F6 H6 ⟨ls, h1, h2, by omega⟩ s6 hv
  -- word == 4
  refine t_when s5 (et_of (K := K) (g_op (g_var rfl (.int b)) g_int fun _ _ h1 h2 => by subst h1 h2; exact rv_eqI)) (fun _ F6 H6 s6 e6 => ?_) (fun _ F6 H6 s6 e6 => ?_)
  · -- the sure house
    refine t_asg (K := K) s6 (g_callP (m := n) rfl (g_var (v := .int n) (d := .int n) rfl (.int _)) ⟨by omega, by omega⟩) fun d v F7 H7 hd s7 e7 hv => ?_
    obtain ⟨c, rfl, c0, c1⟩ := hd
    obtain rfl := rp_int hv
    refine t_asg (K := K) s7 (g_catRL (a := n) (b := 2) (rlI (g_var rfl (Rp.mono (((e3.trans e4).trans e5).trans (e6.trans e7)) _ _ hsv')) sg sl) (g_lstRL (gs_consRO (lot rfl rfl) (gs_consRO (lot rfl rfl) gs_nilR)) (by decide)) (by omega)) fun d v F8 H8 hd s8 e8 hv => ?_
    obtain ⟨ls, rfl, hg, hl⟩ := hd
    refine t_retI (K := K) s8 (g_lcEM dT ls (fun l => dT (l.filter fun h => !decide (h = c))) (w_listI (g_var rfl hv)) (by omega) (fun _ => rfl) fun l hl F' e' y hy => g_cbI (gs_one (g_lcE PyData.int l (fun h => !decide (h = c)) PyData.int (w_tupI (g_var rfl hy)) (by have := (hg l hl).1; omega) (fun _ => rfl) (fun h hh F'' e'' u hu => ?_) (fun h _ _ F'' e'' u hu => g_var rfl hu))) rc_tupL) fun v F9 H9 s9 hv9 => k _ v F9 H9 ⟨ls.map fun l => l.filter fun h => !decide (h = c), ?_, ?_, ?_⟩ s9 hv9
    · exact et_of (g_op (g_var rfl hu) (g_var (v := .int c) (d := .int c) rfl (.int c)) fun _ _ h1 h2 => by subst h1 h2; exact rv_neI)
    · unfold dLT; rw [List.map_map]; rfl
    · intro l hl
      obtain ⟨l0, hl0, rfl⟩ := List.mem_map.mp hl
      obtain ⟨g1, g2, g3⟩ := hg l0 hl0
      exact ⟨Nat.le_trans (List.length_filter_le _ _) g1, fun x hx => g2 x (List.mem_filter.mp hx).1, not_all c0 c1 (by simp)⟩
    · rw [List.length_map]; omega
  · -- a cut
    refine t_asg (K := K) (R := fun d => ∃ c : Int, d = .int (c + 1) ∧ 0 ≤ c ∧ c < n - 1) s6 (g_op (g_callP (m := n - 1) rfl (g_op (g_var (v := .int n) (d := .int n) rfl (.int _)) g_int fun _ _ h1 h2 => by subst h1 h2; exact rv_sub) ⟨by omega, by omega⟩) g_int fun d e hd he => ?_) fun d v F7 H7 hd s7 e7 hv => ?_
    · obtain ⟨c, rfl, c0, c1⟩ := hd
      subst he
      intro F H x y i hx hy Q q
      exact rv_add F H x y i hx hy Q fun z v F2 H2 hz s hv => q z v F2 H2 ⟨c, hz, c0, c1⟩ s hv
    obtain ⟨c, rfl, c0, c1⟩ := hd
    obtain rfl := rp_int hv
    obtain ⟨j, rfl⟩ : ∃ j : Nat, c = (j : Int) := ⟨c.toNat, by omega⟩
    refine t_ret s7 (g_catRL (a := n) (b := 3) (rlI (g_var rfl (Rp.mono (((e3.trans e4).trans e5).trans (e6.trans e7)) _ _ hsv')) sg sl) (g_lstRL (gs_consRO (roI (l := hs (j + 1)) ((g_tupR1 (g_var (v := .int ((j : Int) + 1)) (d := .int ((j : Int) + 1)) rfl (.int _)) (by omega) (by omega)).is ?_) ?_) (gs_consRO (roI (l := (List.range (n - (j + 1))).map fun i : Nat => ((j + 1 : Nat) : Int) + (i : Int)) ((g_tupR2 (g_var (v := .int ((j : Int) + 1)) (d := .int ((j : Int) + 1)) rfl (.int _)) (g_var (v := .int n) (d := .int n) rfl (.int _)) (by omega) (by omega) (by omega) (by omega)).is ?_) ?_) (gs_consRO (lot rfl rfl) gs_nilR))) (by decide)) (by omega)) fun d v F8 H8 ⟨ls, h1, h2, h3⟩ s8 hv => k d v F8 H8 ⟨ls, h1, h2, by omega⟩ s8 hv
    · rw [show ((j : Int) + 1).toNat = j + 1 by omega, rng_hs]
    · refine ⟨by rw [hs_len]; omega, fun x hx => ?_, not_all (k := (n : Int) - 1) (by omega) (by omega) fun hx => ?_⟩
      · have := hs_mem.mp hx; omega
      · have := hs_mem.mp hx; omega
    · rw [show ((n : Int) - ((j : Int) + 1)).toNat = n - (j + 1) by omega]
      unfold rng dT
      rw [List.map_map]
      rfl
    · refine ⟨by simp; omega, fun x hx => ?_, not_all (k := 0) (by omega) (by omega) fun hx => ?_⟩
      · obtain ⟨i, hi, rfl⟩ := List.mem_map.mp hx
        have := List.mem_range.mp hi; omega
      · obtain ⟨i, hi, e⟩ := List.mem_map.mp hx
        omega
end
end KJ
namespace KJ
open PySem PySem.Spec PyProof.Rows L2 Fv Evl StX
abbrev s_law_lets : Stmt := topS 54
theorem sc_law_lets : FnScope ["_law_lots_here", "_law_lot_here", "_law_other", "_law_house"] ["_law_lots_here", "_law_lot_here"] (defScope s_law_lets) := ⟨rfl, rfl, rfl, by decide +kernel, rfl, by decide +kernel, by decide +kernel⟩
abbrev s_law_covers : Stmt := topS 53
theorem sc_law_covers : FnScope ["_law_n", "_law_lots_here", "_law_one", "_law_other", "_law_house"] ["_law_n", "_law_lots_here"] (defScope s_law_covers) := ⟨rfl, rfl, rfl, by decide +kernel, rfl, by decide +kernel, by decide +kernel⟩
def inLot (l o : List Int) : Bool := (l.filter fun h => !decide (h ∈ o)).isEmpty
def lets (ls : List (List Int)) (l : List Int) : Bool := l.isEmpty || ls.any fun o => inLot l o
def both (n : Nat) (a b : List Int) : Bool := ((hs n).filter fun h => !decide (h ∈ a) && !decide (h ∈ b)).isEmpty
def coversOf (n : Nat) (ls : List (List Int)) : Bool := ls.any fun a => ls.any fun b => both n a b
section
variable {P : Program} {w : World} {K : PySem.W.Frag} {mg : Str → Option Value} {base : Heap}
abbrev spLets (K : PySem.W.Frag) : Sp := PSp K (fun i : List (List Int) × List Int => [dLT i.1, dT i.2]) (fun i => i.2.length ≤ 50000) (fun i => .bool (lets i.1 i.2))
theorem ok_lets {f : Addr} {fd : FuncData} (Fn : Fun K "_law_lets" "_law_lets" s_law_lets f fd) (T : Tx mg) : FnOk P w K mg base CX0 1 f fd ["_law_lots_here", "_law_lot_here"] (spLets K) := by
  refine Fn.ok sc_law_lets (PSp.len (fun _ => rfl)) (fun cdv A outer s H vs Q E hr h => ?_)
  obtain ⟨⟨ls, l⟩, F, hz, e, ha, q⟩ := h
  simp only at hz
  obtain ⟨v, x, rfl, hv, hx⟩ := rpAll2 ha
  refine ⟨_, (pss_cons (ps_if (pt_not (e_truth (K := K) (pv 1))) (pss_one (ps_ret pe_bl)) pss_nil)
    (pss_cons (ps_for PassesOwn.never rfl (i_list (K := K) (pv 0)) (pg_name (i := 2) sc_law_lets.nd rfl (by first | exact Or.inl rfl | exact Or.inr rfl)) (pss_one (ps_if (pt_not (e_truth (K := K) (pe_lc (own := [("_law_house", 3)]) (g := gName 3) rfl sc_law_lets.nd (i_tup (K := K) (pv 1)) (blkOk_by (own := [("_law_house", 3)]) (N := ["_law_lots_here", "_law_lot_here", "_law_other", "_law_house"]) (sc := (defScope s_law_lets)) (by decide +kernel)) (fun _ _ _ _ _ => pg_name (i := 3) sc_law_lets.nd rfl (by first | exact Or.inl rfl | exact Or.inr rfl)) (fun _ _ _ _ _ => (pts_one (pt_cmpR (o_notIn (K := K)) (pv 3) (pv 2) (by rfl)))) (fun _ _ _ _ _ => (pv 3))))) (pss_one (ps_ret pe_bl)) pss_nil)))
    (pss_one (ps_ret pe_bl)))), ?_⟩
  refine t_when (b := !(!(l.map PyData.int).isEmpty)) (Step.refl e .nil) (et_not (et_truT (g_var rfl hx))) (fun hb F1 H1 s1 e1 => ?_) (fun hb F1 H1 s1 e1 => ?_)
  · refine t_retI (K := K) s1 g_bl fun v F2 H2 s2 hv => q v F2 H2 s2 ?_
    have : lets ls l = true := by
      unfold lets
      have : l.isEmpty = true := by simpa using hb
      rw [this]; rfl
    show Rp K F2 v (.bool (lets ls l))
    rw [this]; exact hv
  · have he : l.isEmpty = false := by simpa using hb
    refine t_for (K := K) (ds := ls.map dT) s1 (w_listI (g_var rfl (Rp.mono e1 _ _ hv))) (fun i σ' F' => (∃ a b, σ' = [some v, some x, a, b]) ∧ ∀ o ∈ ls.take i, inLot l o = false) (fun F2 e2 => ⟨⟨none, none, rfl⟩, by simp⟩) (fun i d hd σ' F' H' u hI s' e' hu N hN => ?_) (fun σ' F' H' hI s' e' => ?_)
    · obtain ⟨⟨a, b, rfl⟩, hno⟩ := hI
      obtain ⟨o, ho, rfl⟩ := get_map hd
      refine t_if1 (b := !(!((l.filter fun h => !decide (h ∈ o)).map PyData.int).isEmpty)) s' (et_not (et_truL (g_lcE PyData.int l (fun h => !decide (h ∈ o)) PyData.int (w_tupI (g_var rfl (Rp.mono (e1.trans e') _ _ hx))) hz (fun _ => rfl) (fun h hh F'' e'' u2 hu2 => ?_) (fun h _ _ F'' e'' u2 hu2 => g_var rfl hu2)))) (fun hb F2 H2 s2 e2 => ?_) (fun hb F2 H2 s2 e2 => ?_)
      · exact et_of (g_op (g_var rfl hu2) (g_var rfl (Rp.mono e'' _ _ hu)) fun _ _ h1 h2 => by subst h1 h2; exact rv_ninT)
      · refine t_retI (K := K) s2 g_bl fun v F3 H3 s3 hv => q v F3 H3 s3 ?_
        have : lets ls l = true := by
          unfold lets
          rw [he, Bool.false_or, List.any_eq_true]
          exact ⟨o, List.mem_of_getElem? ho, by unfold inLot; simpa using hb⟩
        show Rp K F3 v (.bool (lets ls l))
        rw [this]; exact hv
      · refine hN _ F2 H2 ⟨⟨_, _, rfl⟩, fun z hz => ?_⟩ s2 e2
        rw [take_succA ho] at hz
        rcases List.mem_append.mp hz with m | m
        · exact hno z m
        · rw [List.mem_singleton.mp m]; unfold inLot; simpa using hb
    · obtain ⟨⟨a, b, rfl⟩, hno⟩ := hI
      refine t_retI (K := K) s' g_bl fun v F3 H3 s3 hv => q v F3 H3 s3 ?_
      have : lets ls l = false := by
        unfold lets
        rw [he, Bool.false_or, List.any_eq_false]
        intro o ho
        rw [List.length_map, List.take_length] at hno
        rw [hno o ho]; simp
      show Rp K F3 v (.bool (lets ls l))
      rw [this]; exact hv
abbrev spCovers (K : PySem.W.Frag) : Sp := PSp K (fun i : Nat × List (List Int) => [.int i.1, dLT i.2]) (fun i => i.1 ≤ 5) (fun i => .bool (coversOf i.1 i.2))
theorem ok_covers {f : Addr} {fd : FuncData} (Fn : Fun K "_law_covers" "_law_covers" s_law_covers f fd) (T : Tx mg) : FnOk P w K mg base CX0 1 f fd ["_law_n", "_law_lots_here"] (spCovers K) := by
  refine Fn.ok sc_law_covers (PSp.len (fun _ => rfl)) (fun cdv A outer s H vs Q E hr h => ?_)
  obtain ⟨⟨n, ls⟩, F, hn, e, ha, q⟩ := h
  simp only at hn
  obtain ⟨v, x, rfl, hv, hx⟩ := rpAll2 ha
  refine ⟨_, (pss_cons (ps_for PassesOwn.never rfl (i_list (K := K) (pv 1)) (pg_name (i := 2) sc_law_covers.nd rfl (by first | exact Or.inl rfl | exact Or.inr rfl)) (pss_one (ps_for PassesOwn.never rfl (i_list (K := K) (pv 1)) (pg_name (i := 3) sc_law_covers.nd rfl (by first | exact Or.inl rfl | exact Or.inr rfl)) (pss_one (ps_if (pt_not (e_truth (K := K) (pe_lc (own := [("_law_house", 4)]) (g := gName 4) rfl sc_law_covers.nd (pi_range1 (by rfl) T.range (pa_cons (pv 0) pa_nil)) (blkOk_by (own := [("_law_house", 4)]) (N := ["_law_n", "_law_lots_here", "_law_one", "_law_other", "_law_house"]) (sc := (defScope s_law_covers)) (by decide +kernel)) (fun _ _ _ _ _ => pg_name (i := 4) sc_law_covers.nd rfl (by first | exact Or.inl rfl | exact Or.inr rfl)) (fun _ _ _ _ _ => (pts_one (PW.pt (pw_and (pt_cmpR (o_notIn (K := K)) (pv 4) (pv 2) (by rfl)) (pw_and1 (pt_cmpR (o_notIn (K := K)) (pv 4) (pv 3) (by rfl))))))) (fun _ _ _ _ _ => (pv 4))))) (pss_one (ps_ret pe_bl)) pss_nil)))))
    (pss_one (ps_ret pe_bl))), ?_⟩
  refine t_for (K := K) (ds := ls.map dT) (Step.refl e .nil) (w_listI (g_var rfl hx)) (fun i σ' F' => (∃ a b c, σ' = [some v, some x, a, b, c]) ∧ ∀ o ∈ ls.take i, (ls.any fun b => both n o b) = false) (fun F2 e2 => ⟨⟨none, none, none, rfl⟩, by simp⟩) (fun i d hd σ' F' H' u hI s' e' hu N hN => ?_) (fun σ' F' H' hI s' e' => ?_)
  · obtain ⟨⟨a, b, c, rfl⟩, hno⟩ := hI
    obtain ⟨o, ho, rfl⟩ := get_map hd
    refine t_for1 (K := K) (ds := ls.map dT) s' (w_listI (g_var rfl (Rp.mono e' _ _ hx))) (fun j σ'' F'' => (∃ b c, σ'' = [some v, some x, some u, b, c]) ∧ ∀ z ∈ ls.take j, both n o z = false) (fun F2 e2 => ⟨⟨_, _, rfl⟩, by simp⟩) (fun j d hd2 σ'' F'' H'' y hJ s'' e'' hy N' hN' => ?_) (fun σ'' F'' H'' hJ s'' e'' => ?_)
    · obtain ⟨⟨b', c', rfl⟩, hno2⟩ := hJ
      obtain ⟨z, hz, rfl⟩ := get_map hd2
      refine t_if1 (b := !(!((((hs n).filter fun h => !decide (h ∈ o) && !decide (h ∈ z))).map PyData.int).isEmpty)) s'' (et_not (et_truL (g_lcE PyData.int (hs n) (fun h => !decide (h ∈ o) && !decide (h ∈ z)) PyData.int ?_ (by rw [hs_len]; omega) (fun _ => rfl) (fun h hh F2 e2 u2 hu2 => ?_) (fun h _ _ F2 e2 u2 hu2 => g_var rfl hu2)))) (fun hb F2 H2 s2 e2 => ?_) (fun hb F2 H2 s2 e2 => ?_)
      · have := w_rng1I (K := K) (pt := none) (σ := [some v, some x, some u, some y, c']) (F := F'') (n := (n : Int)) (gs_one (g_var (i := 0) rfl (Rp.mono (e'.trans e'') _ _ hv))) (by omega) (by omega)
        rw [show (n : Int).toNat = n by omega, rng_hs] at this
        exact this
      · exact et_and (et_of (g_op (g_var rfl hu2) (g_var rfl (Rp.mono (e''.trans e2) _ _ hu)) fun _ _ h1 h2 => by subst h1 h2; exact rv_ninT)) fun _ => et_of (g_op (g_var rfl hu2) (g_var rfl (Rp.mono e2 _ _ hy)) fun _ _ h1 h2 => by subst h1 h2; exact rv_ninT)
      · refine t_retI (K := K) s2 g_bl fun v F3 H3 s3 hv => q v F3 H3 s3 ?_
        have : coversOf n ls = true := by
          unfold coversOf
          rw [List.any_eq_true]
          refine ⟨o, List.mem_of_getElem? ho, ?_⟩
          rw [List.any_eq_true]
          exact ⟨z, List.mem_of_getElem? hz, by unfold both; simpa using hb⟩
        show Rp K F3 v (.bool (coversOf n ls))
        rw [this]; exact hv
      · refine hN' _ F2 H2 ⟨⟨_, _, rfl⟩, fun t ht => ?_⟩ s2 e2
        rw [take_succA hz] at ht
        rcases List.mem_append.mp ht with m | m
        · exact hno2 t m
        · rw [List.mem_singleton.mp m]; unfold both; simpa using hb
    · obtain ⟨⟨b', c', rfl⟩, hno2⟩ := hJ
      refine hN _ F'' H'' ⟨⟨_, _, _, rfl⟩, fun t ht => ?_⟩ s'' e''
      rw [take_succA ho] at ht
      rcases List.mem_append.mp ht with m | m
      · exact hno t m
      · rw [List.mem_singleton.mp m, List.any_eq_false]
        intro z hz
        rw [List.length_map, List.take_length] at hno2
        rw [hno2 z hz]; simp
  · obtain ⟨⟨a, b, c, rfl⟩, hno⟩ := hI
    refine t_retI (K := K) s' g_bl fun v F3 H3 s3 hv => q v F3 H3 s3 ?_
    have : coversOf n ls = false := by
      unfold coversOf
      rw [List.any_eq_false]
      intro o ho
      rw [List.length_map, List.take_length] at hno
      rw [hno o ho]; simp
    show Rp K F3 v (.bool (coversOf n ls))
    rw [this]; exact hv
end
end KJ
namespace KJ
open PySem PySem.Spec PyProof.Rows L2 Fv Evl StX
abbrev s_check_manner : Stmt := topS 26
theorem sc_check_manner : FnScope ["manner"] ["manner"] (defScope s_check_manner) := ⟨rfl, rfl, rfl, by decide +kernel, rfl, by decide +kernel, by decide +kernel⟩
def mans : List Str := ["sure", "cells", "letters"]
abbrev manD : List PyData := mans.map PyData.str
theorem man_facts : ∀ m ∈ mans, SeqAt.shaped (.str m) = true ∧ (manD.any fun z => PyData.eqv z (.str m)) = true := by decide +kernel
theorem man_shaped : SeqAt.shaped (.tuple manD) = true := by decide +kernel
structure ManT (K : PySem.W.Frag) (tM : Addr) : Prop where
  sq : ∀ H, SqT K H tM (mans.map V.str)
  ty : ∃ o, K.lookup tM = some o ∧ o.cls = .type "tuple"
section
variable {P : Program} {w : World} {K : PySem.W.Frag} {mg : Str → Option Value} {base : Heap}
variable {pt : Option Pt} {σ : L2.St} {F : Hp} {te : TE} {tM CF CB fI : Addr} {mc : Value}
theorem dp_strs (H : Hp) : ∀ xs : List Str, DpAll K H (xs.map V.str) (xs.map PyData.str)
  | [] => .nil
  | x :: xs => .cons (.str x) (dp_strs H xs)
theorem et_man {d : PyData} (hM : ManT K tM) (hs : SeqAt.shaped d = true) (h : EvG K pt te σ F (Is d)) : EtG pt (tTest (tOp (rInU K true) te (tC (.ref tM)))) σ F (· = !(manD.any fun z => PyData.eqv z d)) := fun H1 i g Q q =>
  h H1 i g _ fun d' v F2 H2 hd s hv => by
    subst hd
    exact ⟨d', manD, Rp.dp _ _ (Rp.mono s.inn _ _ hv), .tup (hM.sq H2) (dp_strs H2 mans), hs, man_shaped, _, rfl, q _ F2 H2 rfl s⟩
abbrev spMan (K : PySem.W.Frag) : Sp := PSp K (fun m : Str => [.str m]) (fun m => m ∈ mans) (fun m => .str m)
theorem ok_man {f : Addr} {fd : FuncData} (Fn : Fun K "check_manner" "check_manner" s_check_manner f fd) (hM : ManT K tM) (c_MANNERS : mg "MANNERS" = some (.ref tM)) : FnOk P w K mg base CX0 1 f fd ["manner"] (spMan K) := by
  refine Fn.ok sc_check_manner (PSp.len (fun _ => rfl)) (fun cdv A outer s H vs Q E hr h => ?_)
  obtain ⟨m, F, hm, e, ha, q⟩ := h
  obtain ⟨v, rfl, hv⟩ := rpAll1 ha
  obtain ⟨s1, s2⟩ := man_facts m hm
  refine ⟨_, (pss_cons (ps_if (pt_cmpR (o_ninU (K := K) (hu65 hr)) (pv 0) (pe_glob (v := .ref tM) (by rfl) c_MANNERS rfl) (by rfl)) (pss_one ps_never) pss_nil)
    (pss_one (ps_ret (pv 0)))), ?_⟩
  exact t_skip (Step.refl e .nil) ((et_man hM s1 (g_var rfl hv)).is (by rw [s2]; rfl)) fun F2 H2 s2 e2 => t_retI s2 (g_var rfl (Rp.mono e2 _ _ hv)) q
/-! ### BadManner(manner) -/
end
end KJ
/-! `in` and `not in` by a class's own __contains__ -/
namespace L2
open PySem PySem.Spec PyProof.Rows Evl
section
variable {X : Cx} {k : Nat} {CX : CXT} {C f : Addr} {fd : FuncData} {ps : List Str} {sp : Sp} {E : XK}
/-- x in o: the class's own word is asked -/
def rInI (C : Addr) (sp : Sp) (E : XK) (neg : Bool) : R2 := fun x y H Q => ∃ a dx fs, y = .ref a ∧ H a = some (.ins C dx fs) ∧ sp [.ref a, x] H (fun v H' => ∃ b : Bool, v = .bl b ∧ Q (.bl (neg != b)) H') E
theorem truthy_bl {M : Model} {A : Around} {b : Bool} {Q : Bool → Shared → Prop} {Ex : Value → Shared → Prop} {s : Shared} (h : Q b s) : wpAny M A (truthy (.bool b)) Q Ex s := by
  unfold truthy
  exact wpAny_pure h
theorem inI_call (F : FnOk X.prog X.w X.K X.mg X.base CX k f fd ps sp) (hr : Room k X.A) (hb : Binds X.K fd ps []) (hx : Passes CX X E) {pins : List (Addr × Obj)} {s : Shared} {σ : St} {H : Hp} {a : Addr} {x : V} {v : Value} {Q : VK}
    (I : Inv X pins σ H s) (rx : RelV x v) (h : sp [.ref a, x] H Q E) : wpAny (model X.prog X.w) X.A (call (.ref f) [.ref a, v]) (EP X pins σ Q) X.xe s := by
  have e0 := I.env0
  have hl := F.len _ _ _ _ h
  have r2 : Vals [V.ref a, x] [Value.ref a, v] := .cons rfl (.cons rx .nil)
  refine wpAny_call (codeAny_mono (F.run X.A X.stack s H ⟨[.ref a, v], []⟩ [.ref a, v] [.ref a, x] _ E hr e0 (by
    have := hb s [.ref a, v] I.kIn (by simpa using hl)
    simpa using this) r2 h) fun r s' hq => ?_)
  cases r with
  | error e => exact hx pins σ H s e s' I hq
  | ok fl =>
    cases fl with
    | ret w =>
      obtain ⟨z, H', I', rz, q⟩ := I.after hq
      exact ⟨z, H', I', rz, q⟩
    | next => exact False.elim hq
    | brk => exact False.elim hq
    | cont => exact False.elim hq
theorem op_notInI (F : FnOk X.prog X.w X.K X.mg X.base CX k f fd ps sp) (hr : Room k X.A) (hb : Binds X.K fd ps []) (hx : Passes CX X E) (hs : PySem.W.findIn X.K (.ref C) "__contains__" = some (some (.ref f))) (hf : PySem.W.isFn X.K (.ref f) = true) :
    OpR X (compareOp .NotIn) (rInI C sp E true) := by
  intro pins s σ H x y v u Q I rx ry hq
  obtain ⟨a, dx, fs, rfl, ha, h⟩ := hq
  cases ry
  obtain ⟨mA, J, _⟩ := ins_get I.hok ha
  obtain ⟨od, J, _⟩ := J.look
  obtain ⟨m, hF⟩ := I.fr
  refine PySem.W.notIn_K hF I.ok.mod.kin J hs hf (wpAny_mono (inI_call F hr hb hx I rx h) (fun r s' z => ?_) fun _ _ x => x)
  obtain ⟨_, H', I', rz, b, rfl, q⟩ := z
  cases rz
  exact truthy_bl ⟨.bl (!b), H', I', rfl, by simpa using q⟩
end
end L2
/-! sorted of a list of data -/
namespace Fv
open PySem PySem.Spec PyProof.Rows L2 Evl StX
/-- data in Python's order -/
def sortD (ds : List PyData) : List PyData := ds.mergeSort (PySem.W.dataLe false id)
/-- what can be sorted -/
structure CanSort (ds : List PyData) : Prop where
  al : PySem.W.AllAlike ds
  so : PySem.W.Sortable ds
  dp : ∀ d ∈ ds, d.depth ≤ 10
def rSortG (K : PySem.W.Frag) : List V → Hp → VK → Prop := fun xs H Q => ∃ (l : Addr) (ps : List (V × PyData)), xs = [.ref l] ∧ H l = some (.lst (ps.map (·.1))) ∧ (∀ p ∈ ps, Rp K H p.1 p.2) ∧
  CanSort (ps.map (·.2)) ∧ ∀ (qs : List (V × PyData)) p, qs.Perm ps → qs.map (·.2) = sortD (ps.map (·.2)) → H p = none → Q (.ref p) (upd H p (.lst (qs.map (·.1))))
theorem c_sortG {X : Cx} {K : PySem.W.Frag} (hu : X.A.units + 65 < cLine) (h : X.K = K := by rfl) : CallR X (.builtin "sorted") (rSortG K) := by
  subst h
  intro pins s σ H xs us Q I r q
  obtain ⟨l, ps, rfl, hl, hp, hk, q⟩ := q
  rw [Vals.ref1 r]
  obtain ⟨its, rv, pl, hz⟩ := I.list (SqL.of hl)
  have ea : PySem.W.EachIs (fun u b => RelV b.1 u) its ps := each_of_vals rv
  have rd : ∀ u (b : V × PyData), b ∈ ps → RelV b.1 u → ∃ as, Reads s.heap u b.2 as := fun u b hb ru => Dp.reads I b.2 b.1 u (Rp.dp _ _ (hp b hb)) ru
  let hS : Heap := PySem.W.sortingHeap (PySem.W.copyHeap s.heap its) (s.heap.objs.size + 1) its
  have er0 : PySem.W.EachIs (fun u (b : V × PyData) => ∃ as, Reads hS u b.2 as) its ps := (PySem.W.each_mem ea).mono fun u b ⟨ru, hb⟩ => by
    obtain ⟨as, x⟩ := rd u b hb ru
    exact ⟨as, PyProof.Rows.Reads.keeps (fun _ _ => PySem.W.sorting_copy_old) x⟩
  have er1 : PySem.W.EachIs (fun u d => ∃ as, Reads hS u d as) its (ps.map fun b => b.2) := PySem.W.each_map (R := fun u d => ∃ as, Reads hS u d as) (fun b : V × PyData => b.2) er0
  have al : PySem.W.AllAlike (ps.map fun b => b.2) := hk.al
  have S : PySem.W.SortsAt X.prog X.w X.A.in1.in1 { s with heap := hS } (PySem.W.dataKind hS (ps.map fun b => b.2)) its := by
    refine PySem.W.SortsAt.data (s := { s with heap := hS }) er1 al hk.so fun d hd => ?_
    have := hk.dp d hd
    show X.A.units + 1 + 1 + _ < _
    omega
  have out := PySem.W.sortVals_data (h' := hS) (enc := fun b : V × PyData => b.2) false ea er0 al
  refine PySem.W.sorted_vals pl.isList S (by rw [← rv.length]; exact hz) ?_
  generalize PySem.W.sortVals (PySem.W.dataKind hS (ps.map fun b => b.2)) false its its = ou at out
  generalize eq : ps.mergeSort (PySem.W.dataLe false fun b : V × PyData => b.2) = qs at out
  have pq : qs.Perm ps := eq ▸ List.mergeSort_perm _ _
  have snd : qs.map (·.2) = sortD (ps.map (·.2)) := by
    rw [← eq]
    exact PySem.W.sort_maps (s := PySem.W.dataLe false id) (fun x : V × PyData => x.2) fun _ _ _ _ => rfl
  have vo : Vals (qs.map (·.1)) ou := vals_of_each out
  obtain ⟨c, hc⟩ := PyProof.Rows.sortedAll_at s.heap its ou.toArray
  have fr : H (s.heap.objs.size + 1) = none := I.hok.fresh (Nat.le_succ _)
  have len : (qs.map (·.1)).length ≤ sizeLine := by
    rw [List.length_map, pq.length_eq, ← List.length_map (f := (·.1))]; exact hz
  exact ⟨.ref (s.heap.objs.size + 1), upd H (s.heap.objs.size + 1) (.lst (qs.map (·.1))), I.laid (t' := s.toks) (fun _ _ => PyProof.Rows.sortedAll_old) (Nat.le_succ _) ⟨len, ou, c, vo, hc⟩, rfl, q qs _ pq snd fr⟩
section
variable {K : PySem.W.Frag} {w : World} {pt : Option Pt} {σ : L2.St} {F F' H : Hp} {te : TE}
theorem rp_pairs : ∀ {xs : List V} {ds : List PyData}, RpAll K F xs ds → (xs.zip ds).map (·.1) = xs ∧ (xs.zip ds).map (·.2) = ds ∧ ∀ p ∈ xs.zip ds, Rp K F p.1 p.2
  | _, [], h => by cases h; simp
  | _, d :: ds, h => by
    cases h with
    | cons h1 h2 =>
      obtain ⟨e1, e2, e3⟩ := rp_pairs h2
      refine ⟨by simp [e1], by simp [e2], fun p hp => ?_⟩
      rw [List.zip_cons_cons] at hp
      rcases List.mem_cons.mp hp with rfl | m
      · exact h1
      · exact e3 p m
theorem pairs_rp : ∀ {ps : List (V × PyData)}, (∀ p ∈ ps, Rp K F p.1 p.2) → RpAll K F (ps.map (·.1)) (ps.map (·.2))
  | [], _ => .nil
  | p :: ps, h => .cons (h p (by simp)) (pairs_rp fun q m => h q (List.mem_cons_of_mem _ m))
theorem g_sortG {ds : List PyData} (h : EvG K pt te σ F (Is (.list ds))) (hk : CanSort ds) : EvG K pt (tCB (rSortG K) (tCons te tNil)) σ F (Is (.list (sortD ds))) := fun H1 i g Q q =>
  h H1 i g _ fun d v F2 H2 hd s hv => by
    subst hd
    obtain ⟨a, xs, rfl, hl, ha⟩ := rp_lst hv
    obtain ⟨e1, e2, e3⟩ := rp_pairs ha
    refine ⟨a, xs.zip ds, rfl, by rw [e1]; exact s.inn _ _ hl, fun p hp => Rp.mono s.inn _ _ (e3 p hp), by rw [e2]; exact hk, fun qs p pq es hp => ?_⟩
    have s3 : Step pt F2 H2 (upd F2 p (.lst (qs.map (·.1)))) (upd H2 p (.lst (qs.map (·.1)))) := .laid s.inn s.good hp
    refine q _ _ _ _ rfl (s.trans s3) (.lst upd_same ?_)
    rw [e2] at es
    rw [← es]
    exact pairs_rp fun r hr => Rp.mono s3.sub _ _ (e3 r (pq.mem_iff.mp hr))
theorem alikeAll_rows : ∀ (a b : List (List Int)), PySem.W.alikeAll (a.map dT) (b.map dT) = true
  | [], _ => by rw [List.map_nil, PySem.W.alikeAll]
  | _ :: _, [] => by rw [List.map_nil, List.map_cons, PySem.W.alikeAll]
  | x :: a, y :: b => by
    have h : PySem.W.alike (dT x) (dT y) = true := by
      show PySem.W.alike (.tuple _) (.tuple _) = true
      rw [PySem.W.alike]; exact PySem.W.alike_ints x y
    rw [List.map_cons, List.map_cons, PySem.W.alikeAll, h, alikeAll_rows a b]; rfl
end
end Fv
/-! two lists of one's own, one of them from a def that makes it anew -/
namespace Fv
open PySem PySem.Spec PyProof.Rows L2 Evl StX
section
variable {K : PySem.W.Frag} {pt : Option Pt} {σ : L2.St} {F F' F0 H0 H F2 H2 : Hp} {te ti ta tb : TE} {ts tr : TA} {t : TT} {R : PD} {d : PyData} {D : Ends} {tz tu tw : TS} {wi : TI} {l m a : Addr} {ls ms : List PyData}
/-- the second list, read for a while as if it were fixed -/
theorem Two.fix (g0 : Good pt F0 H0) (w : Two K pt F0 H0 l m F H ls ms) : ∃ Fp, Ex F Fp ∧ Ex Fp H ∧ Good pt Fp H ∧ Rp K Fp (.ref m) (.list ms) ∧ ∀ F2 H2, Step pt Fp H F2 H2 → ∃ F3, Two K pt F0 H0 l m F3 H2 ls ms ∧ Ex F F3 := by
  obtain ⟨ys, b1, b2⟩ := w.e2
  obtain ⟨xs, a1, a2⟩ := w.e1
  have e1 : Ex F (upd F m (.lst ys)) := Ex.new w.o2
  have sp : Step pt F0 H0 (upd F m (.lst ys)) H := by
    refine ⟨w.step.sub.trans e1, fun b u hb => ?_, w.step.keep, fun q hq => ⟨?_, (w.step.good q hq).2⟩, fun b h1 h2 => ?_⟩
    · by_cases z : b = m
      · rw [z, upd_same] at hb; rw [z, b1]; exact hb
      · rw [upd_ne z] at hb; exact w.step.inn b u hb
    · rw [upd_ne (off_pot g0 w.h2 q hq).1.symm]; exact (w.step.good q hq).1
    · have z : b ≠ m := loose_ne h2 w.h2
      rw [upd_ne z]; exact w.step.new b h1 h2
  refine ⟨_, e1, sp.inn, sp.good, .lst upd_same (RpAll.mono e1 _ _ b2), fun F2 H2 s => ?_⟩
  have st := sp.trans s
  obtain ⟨f2l, h2l⟩ := Step.beside g0 w.h1 (by rw [upd_ne w.ne]; exact w.o1) a1 s
  have hm2 : F2 m = some (.lst ys) := s.sub _ _ upd_same
  have keepF : Ex F (L2.del F2 m) := fun b o h => by
    have z : b ≠ m := fun z => by rw [z, w.o2] at h; cases h
    rw [L2.del_ne z]; exact s.sub _ _ (e1 _ _ h)
  refine ⟨L2.del F2 m, ⟨⟨w.step.sub.trans keepF, fun b o h => ?_, st.keep, fun q hq => ⟨?_, (st.good q hq).2⟩, fun b h1 h2 => ?_⟩, w.ne, w.h1, w.h2, by rw [L2.del_ne w.ne]; exact f2l, L2.del_same, ⟨xs, h2l, RpAll.mono keepF _ _ a2⟩, ⟨ys, s.inn _ _ hm2, RpAll.mono keepF _ _ b2⟩⟩, keepF⟩
  · by_cases z : b = m
    · rw [z, L2.del_same] at h; cases h
    · rw [L2.del_ne z] at h; exact s.inn _ _ h
  · by_cases z : q.p = m
    · rw [z, L2.del_same]
    · rw [L2.del_ne z]; exact (st.good q hq).1
  · by_cases z : b = m
    · rw [z, L2.del_same]
    · rw [L2.del_ne z]; exact st.new b h1 h2
end
end Fv
/-! sorted(xs, key=f), f a def of the text -/
namespace PySem.W
open PySem PySem.Calls PyProof.Rows
end PySem.W
namespace Fv
open PySem PySem.Spec PyProof.Rows L2 Evl StX
end Fv
/-! an error of one's own whose context is told; comprehensions and calls while an error is handled -/
namespace Fv
open PySem PySem.Spec PyProof.Rows L2 L2H Evl StX
end Fv
/-! d.setdefault(row, e) where rows are the keys; two values at once into two names -/
namespace Fv
open PySem PySem.Spec PyProof.Rows L2 Evl StX
end Fv
namespace KJ
open PySem PySem.Spec PyProof.Rows L2 L2H Fv Evl StX
abbrev s_shown_view : Stmt := topS 15
theorem sc_shown_view : FnScope ["entry", "lot", "house"] ["entry", "lot"] (defScope s_shown_view) := ⟨rfl, rfl, rfl, by decide +kernel, rfl, by decide +kernel, by decide +kernel⟩
/-- what a lot shows of an input -/
def shownV (r l : List Int) : List (Option Int) := (List.range r.length).map fun k : Nat => if (k : Int) ∈ l then some (r.getD k 0) else none
section
variable {P : Program} {w : World} {K : PySem.W.Frag} {mg : Str → Option Value} {base : Heap} {CB CO CE fE CF C fI CM fM : Addr} {mc : Value} {d e : PyData}
variable {pt : Option Pt} {σ : L2.St} {F F' F0 H0 H F2 H2 : Hp} {te ta tb ty td : TE} {ts tr : TA} {t : TT} {D : Ends} {tz tu tw : TS}
/-! views -/
theorem g_ifX {d : PyData} {b : Bool} {tt : TT} (h : EtG pt tt σ F (· = b)) (ha : b = true → EvG K pt ta σ F (Is d)) (hb : b = false → EvG K pt tb σ F (Is d)) : EvG K pt (tIf tt ta tb) σ F (Is d) := fun H1 i g Q q => h H1 i g _ fun c F2 H2 hc s => by
  subst hc
  cases c with
  | true => exact (ha rfl).mono s.sub H2 s.inn s.good Q fun d v F3 H3 hd s3 hv => q d v F3 H3 hd (s.trans s3) hv
  | false => exact (hb rfl).mono s.sub H2 s.inn s.good Q fun d v F3 H3 hd s3 hv => q d v F3 H3 hd (s.trans s3) hv
abbrev ORow := List (Option Int)
theorem rv_inLs {i : Int} {ns : List Int} : RvG K (rIn K false) (.int i) (.list (ns.map PyData.int)) (Is (.bool (decide (i ∈ ns)))) := rv_val fun F H x y e hx hy => by
  obtain ⟨a, xs, rfl, hl, ha⟩ := rp_lst hy
  have e1 := rpAll_ints ha
  subst e1
  rw [rp_int hx]
  exact ⟨_, fun Q q => ⟨a, _, rfl, .inl (sq_of (e _ _ hl)), rfl, flat_ints ns, q⟩, by rw [inV_ints]; exact .bl _⟩
abbrev spShown (K : PySem.W.Frag) : Sp := PSp K (fun i : List Int × List Int => [dT i.1, dI i.2]) (fun i => i.1.length ≤ 100) (fun i => dO (shownV i.1 i.2))
theorem ok_shown {f : Addr} {fd : FuncData} (Fn : Fun K "shown_view" "shown_view" s_shown_view f fd) (T : Tx mg) : FnOk P w K mg base CX0 1 f fd ["entry", "lot"] (spShown K) := by
  refine Fn.ok sc_shown_view (PSp.len (fun _ => rfl)) (fun cdv A outer s H vs Q E hr h => ?_)
  obtain ⟨⟨r, l⟩, F, hz, e, ha, q⟩ := h
  replace hz : r.length ≤ 100 := hz
  obtain ⟨v, x, rfl, hv, hx⟩ := rpAll2 ha
  refine ⟨_, (pss_one (ps_ret (pe_callTy (c_tup (K := K)) (by rfl) T.tuple (by decide +kernel) (pa_cons (pe_lc (own := [("house", 2)]) (g := gName 2) rfl sc_shown_view.nd (pi_range1 (by rfl) T.range (pa_cons (pe_callB (c_len (K := K)) (by rfl) T.len (by decide +kernel) (pa_cons (pv 0) pa_nil)) pa_nil)) (blkOk_by (own := [("house", 2)]) (N := ["entry", "lot", "house"]) (sc := (defScope s_shown_view)) (by decide +kernel)) (fun _ _ _ _ _ => pg_name (i := 2) sc_shown_view.nd rfl (by first | exact Or.inl rfl | exact Or.inr rfl)) (fun _ _ _ _ _ => pts_nil) (fun _ _ _ _ _ => (pe_ifExp (pt_cmpR (o_in (K := K)) (pv 2) (pv 1) (by rfl)) (pe_ix (o_ixT (K := K)) (pv 0) (pv 2) (fun _ _ => rfl)) pe_non))) pa_nil)))), ?_⟩
  refine t_retI (K := K) (Step.refl e .nil) ((g_cbI (gs_one (g_lcEM natD (List.range r.length) (fun k => optD (if (k : Int) ∈ l then some (r.getD k 0) else none)) (w_len (g_var rfl hv) (by simp) (by omega)) (by simp; omega) (fun _ => rfl) fun k hk F' e' y hy => ?_)) rc_tupL).is ?_) q
  · have hk' : k < r.length := List.mem_range.mp hk
    refine g_ifX (b := decide ((k : Int) ∈ l)) (et_of (g_opI (g_var rfl hy) (g_var rfl (Rp.mono e' _ _ hx)) rv_inLs)) (fun hb => ?_) fun hb => ?_
    · rw [if_pos (of_decide_eq_true hb)]
      exact g_opI (g_var rfl (Rp.mono e' _ _ hv)) (g_var rfl hy) (rv_ixT (d := optD (some (r.getD k 0))) (atI_nat (by rw [List.getElem?_map, List.getElem?_eq_getElem hk', List.getD_eq_getElem?_getD, List.getElem?_eq_getElem hk']; rfl)))
    · rw [if_neg (of_decide_eq_false hb)]
      exact g_non
  · show PyData.tuple _ = PyData.tuple ((shownV r l).map optD)
    unfold shownV
    rw [List.map_map]; rfl
/-! ranks -/
end
end KJ
/-! sorted(d), d a dict of rows -/
namespace PySem.W
open PySem PySem.Calls PyProof.Rows
section
variable {prog : Program} {w : World} {A : Around} {E : Value → Shared → Prop} {s : Shared} {T : String} {r d : Addr} {n : Nat} {P : Nat → Value → Prop} {OK : Heap → Prop} {Q : Value → Shared → Prop}
/-- sorted(r), r what has items: list.sort of a new list of them -/
theorem kdz_sorted (K : KdlSrc prog w T r d n P OK) (hh : A.handled = none) (hok : OK s.heap) (hn : n ≤ sizeLine)
    (h : ∀ (h' : Heap) (tk : Nat) (vs : List Value), (∀ b o, s.heap.get? b = some o → h'.get? b = some o) → vs.length = n → (∀ (j : Nat) (v : Value), vs[j]? = some v → P j v) →
      ∀ E' : Value → Shared → Prop, wpAny (model prog w) A.in1.in1 (Builtin.«list.sort» ⟨[.ref h'.objs.size], []⟩) (fun f s' => f = .done (.ret .none) ∧ Q (.ref h'.objs.size) s') E' { s with heap := h'.push (seqObj "list" vs.toArray 0), toks := tk }) :
    wpAny (model prog w) A (call (.builtin "sorted") [.ref r]) Q E s := by
  refine call_function_entry kind_sorted plain_sorted entry_sorted (args_sorted1 _) ?_
  unfold Builtin.«sorted»
  refine wpAny_bind (m := checkCount "sorted" 1 1 _) (wpAny_pure ?_)
  refine wpAny_bind (kdu_collect (A := A.in1) K hh hok hn fun h' tk acc hk hacc => ?_)
  have hl : acc.toList.length = n := by rw [Array.length_toList]; exact hacc.1
  refine wpAny_bind (wpAny_newList ?_ (by rw [hl]; exact hn))
  have hat : (h'.push (seqObj "list" acc.toList.toArray 0)).get? h'.objs.size = some (seqObj "list" acc.toList.toArray 0) := Heap.get?_push_size _ rfl
  refine wpAny_bind (wpAny_holding (wpAny_call_entry_kw slot_list_sort ⟨_, hat, rfl⟩ entry_list_sort ?body (args_list_sort _)))
  case body =>
    refine wpAny_mono (h h' tk acc.toList hk hl (fun j v e => hacc.2 j v (by rw [← Array.getElem?_toList]; exact e)) _) (fun f s' hf => ?_) fun _ _ e => e
    obtain ⟨rfl, hq⟩ := hf
    exact ⟨_, rfl, wpAny_pure ⟨_, rfl, hq⟩⟩
end
end PySem.W
namespace Fv
open PySem PySem.Spec PyProof.Rows L2 Evl StX
def rSortDT (K : PySem.W.Frag) : List V → Hp → VK → Prop := fun xs H Q => ∃ (d : Addr) (kvs : List (List Key × V)) (R : List (List Int)), xs = [.ref d] ∧ H d = some (.dT kvs) ∧ kvs.map (·.1) = R.map key ∧ CanSort (R.map dT) ∧
  ∀ (bs : List (Addr × List Int)) p, (bs.map (·.2)).Perm R → bs.map (·.2) = sortL R → (∀ b ∈ bs, H b.1 = some (.tup (b.2.map V.int))) → H p = none → Q (.ref p) (upd H p (.lst (bs.map fun b => V.ref b.1)))
theorem c_sortDT {X : Cx} {K : PySem.W.Frag} (hc : X.calm = true) (hu : X.A.units + 65 < cLine) (h : X.K = K := by rfl) : CallR X (.builtin "sorted") (rSortDT K) := by
  subst h
  intro pins s σ H xs us Q I r q
  obtain ⟨d, kvs, R, rfl, hd, hk, cs, q⟩ := q
  rw [Vals.ref1 r]
  obtain ⟨z, hs, ks, pr, o, es, ep, ho, hx, hdt, he, hn⟩ := (show ObjOk X.prog X.w H s.heap d (.dT kvs) from I.hok d _ hd)
  have l1 : es.size = ks.length := size_of_entries he
  have l2 : kvs.length = ks.length := Paired.length pr
  have l3 : kvs.length = R.length := by have := congrArg List.length hk; simpa using this
  refine PySem.W.kdz_sorted (kdl_raw hs hx hdt) (I.ok.hd hc) ho (by omega) fun h' tk vs kp hl hv E' => ?_
  -- the key's tuples
  let ps : List (Addr × List Int) := (ks.map fun x => x.2.1).zip R
  have pl : ps.length = R.length := by simp [ps]; omega
  have p2 : ps.map (·.2) = R := by
    show ((ks.map fun x => x.2.1).zip R).map Prod.snd = R
    exact List.map_snd_zip (by rw [List.length_map]; omega)
  have pg : ∀ (j : Nat) (b : Addr × List Int), ps[j]? = some b → H b.1 = some (.tup (b.2.map V.int)) ∧ vs[j]? = some (Value.ref b.1) := fun j b hb => by
    have hb' : ((ks.map fun x => x.2.1).zip R)[j]? = some b := hb
    rw [List.getElem?_zip_eq_some] at hb'
    obtain ⟨h1, h2⟩ := hb'
    rw [List.getElem?_map] at h1
    obtain ⟨x, hx1, hx2⟩ := Option.map_eq_some_iff.mp h1
    have hjv : j < vs.length := by have := (List.getElem?_eq_some_iff.mp hx1).1; omega
    have hjk : j < kvs.length := by have := (List.getElem?_eq_some_iff.mp hx1).1; omega
    obtain ⟨x', hx3, e1, e2, _⟩ := paired_get pr (List.getElem?_eq_getElem hjk)
    rw [hx1] at hx3
    cases hx3
    have ek : kvs[j].1 = key b.2 := by
      have a1 : (kvs.map (·.1))[j]? = some kvs[j].1 := by rw [List.getElem?_map, List.getElem?_eq_getElem hjk]; rfl
      rw [hk, List.getElem?_map, h2] at a1
      exact (Option.some.inj a1).symm
    refine ⟨?_, ?_⟩
    · rw [← hx2, e2, ek, key_kV]
    · obtain ⟨en, hen, hv2⟩ := hv j vs[j] (List.getElem?_eq_getElem hjv)
      have qe := entry_at he j
      rw [hen, hx1] at qe
      have e3 : en = entryOfKey (tupleKind (mixKind X.prog X.w)) x := Option.some.inj qe
      rw [List.getElem?_eq_getElem hjv, hv2, e3, ← hx2]; rfl
  have vl : vs.length = ps.length := by omega
  have ev : vs = ps.map fun b => Value.ref b.1 := by
    refine List.ext_getElem? fun j => ?_
    rw [List.getElem?_map]
    cases hb : ps[j]? with
    | none => rw [List.getElem?_eq_none_iff.mpr (by rw [vl]; exact List.getElem?_eq_none_iff.mp hb)]; rfl
    | some b => rw [(pg j b hb).2]; rfl
  have hps : ∀ b ∈ ps, H b.1 = some (.tup (b.2.map V.int)) := fun b hb => by
    obtain ⟨j, hj⟩ := List.getElem?_of_mem hb
    exact (pg j b hj).1
  have rv : Vals (ps.map fun b => V.ref b.1) vs := by
    have g : ∀ l : List (Addr × List Int), Vals (l.map fun b => V.ref b.1) (l.map fun b => Value.ref b.1) := fun l => by
      induction l with
      | nil => exact .nil
      | cons a r ih => exact .cons rfl ih
    rw [ev]; exact g ps
  have ea : PySem.W.EachIs (fun u (b : Addr × List Int) => RelV (V.ref b.1) u) vs ps := each_of_vals rv
  have I1 : Inv X pins σ H { s with heap := h', toks := tk } := I.kept (t' := tk) kp
  have rd : ∀ u (b : Addr × List Int), b ∈ ps → RelV (V.ref b.1) u → ∃ as, Reads h' u (dT b.2) as := fun u b hb ru => Dp.reads I1 (dT b.2) (V.ref b.1) u (Rp.dp _ _ (.tup (hps b hb) (rpAll_of_ints b.2))) ru
  let h1 : Heap := h'.push (seqObj "list" vs.toArray 0)
  have hat : h1.get? h'.objs.size = some (seqObj "list" vs.toArray 0) := Heap.get?_push_size _ rfl
  let hS : Heap := PySem.W.sortingHeap h1 h'.objs.size vs
  have kS : ∀ b o, h'.get? b = some o → hS.get? b = some o := fun b o e => PySem.W.sortingHeap_old (Nat.ne_of_lt (Heap.lt_size e)) (Heap.get?_push_of_some _ e)
  have er0 : PySem.W.EachIs (fun u (b : Addr × List Int) => ∃ as, Reads hS u (dT b.2) as) vs ps := (PySem.W.each_mem ea).mono fun u b ⟨ru, hb⟩ => by
    obtain ⟨as, x⟩ := rd u b hb ru
    exact ⟨as, PyProof.Rows.Reads.keeps (fun _ _ => kS _ _) x⟩
  have em : ps.map (fun b => dT b.2) = R.map dT := by
    have : ps.map (fun b => dT b.2) = (ps.map (·.2)).map dT := by rw [List.map_map]; rfl
    rw [this, p2]
  have er1 : PySem.W.EachIs (fun u d => ∃ as, Reads hS u d as) vs (ps.map fun b => dT b.2) := PySem.W.each_map (R := fun u d => ∃ as, Reads hS u d as) (fun b : Addr × List Int => dT b.2) er0
  have al : PySem.W.AllAlike (ps.map fun b => dT b.2) := by rw [em]; exact cs.al
  have S : PySem.W.SortsAt X.prog X.w X.A.in1.in1 { s with heap := hS, toks := tk } (PySem.W.dataKind hS (ps.map fun b => dT b.2)) vs := by
    refine PySem.W.SortsAt.data (s := { s with heap := hS, toks := tk }) er1 al (by rw [em]; exact cs.so) fun d hd => ?_
    have := cs.dp d (by rw [← em]; exact hd)
    show X.A.units + 1 + 1 + _ < _
    omega
  have out := PySem.W.sortVals_data (h' := hS) (enc := fun b : Addr × List Int => dT b.2) false ea er0 al
  refine PySem.W.list_sort_vals (s := { s with heap := h1, toks := tk }) hat S (by omega) ?_
  generalize PySem.W.sortVals (PySem.W.dataKind hS (ps.map fun b => dT b.2)) false vs vs = ou at out
  generalize eq : ps.mergeSort (PySem.W.dataLe false fun b : Addr × List Int => dT b.2) = qs at out
  have pq : qs.Perm ps := eq ▸ List.mergeSort_perm _ _
  have vo : Vals (qs.map fun b => V.ref b.1) ou := vals_of_each out
  obtain ⟨c, hc2⟩ := PyProof.Rows.sortedHeap_at (h := h1) (a := h'.objs.size) (vs := vs) (out := ou.toArray) hat
  have fr : H h'.objs.size = none := I1.hok.fresh (Nat.le_refl _)
  have len : (qs.map fun b => V.ref b.1).length ≤ sizeLine := by
    rw [List.length_map, pq.length_eq]; omega
  refine ⟨rfl, .ref h'.objs.size, upd H h'.objs.size (.lst (qs.map fun b => V.ref b.1)), I1.laid (t' := tk) (fun b u e => ?_) (Nat.le_refl _) ⟨len, ou, c, vo, hc2⟩, rfl, q qs _ ?_ ?_ (fun b hb => hps b (pq.mem_iff.mp hb)) fr⟩
  · have hl' := Heap.lt_size e
    exact (PyProof.Rows.sortedHeap_old (Nat.ne_of_lt hl') (by rw [size_push']; exact Nat.lt_succ_of_lt hl')).trans (Heap.get?_push_of_some _ e)
  · have := pq.map (·.2)
    rw [p2] at this; exact this
  · rw [← eq, ← p2]
    exact PySem.W.sort_maps (s := PySem.W.dataLe false dT) (fun x : Addr × List Int => x.2) fun _ _ _ _ => rfl
theorem canSort_rowsT {R : List (List Int)} (h : ∀ r ∈ R, r ≠ []) : CanSort (R.map dT) := by
  refine ⟨PySem.W.AllAlike.of fun b b' => ?_, .inl fun d hd => ?_, fun d hd => ?_⟩
  · show PySem.W.alike (.tuple _) (.tuple _) = true
    rw [PySem.W.alike]; exact PySem.W.alike_ints b b'
  · obtain ⟨g, hg, rfl⟩ := List.mem_map.mp hd
    cases g with
    | nil => exact absurd rfl (h _ hg)
    | cons a r => exact ⟨.int a, r.map PyData.int, rfl⟩
  · obtain ⟨g, _, rfl⟩ := List.mem_map.mp hd
    have := depth_dT g
    omega
section
variable {K : PySem.W.Frag} {pt : Option Pt} {σ : L2.St} {F F' H : Hp} {td : TE}
theorem rpAll_rows : ∀ {bs : List (Addr × List Int)}, (∀ b ∈ bs, F b.1 = some (.tup (b.2.map V.int))) → RpAll K F (bs.map fun b => V.ref b.1) ((bs.map (·.2)).map dT)
  | [], _ => .nil
  | b :: bs, h => .cons (.tup (h b (by simp)) (rpAll_of_ints b.2)) (rpAll_rows fun c hc => h c (List.mem_cons_of_mem _ hc))
theorem g_sortDT {R : List (List Int)} (hd : EvX pt td σ F (fun v F2 => ∃ (D : Addr) (kvs : List (List Key × V)), v = .ref D ∧ F2 D = some (.dT kvs) ∧ kvs.map (·.1) = R.map key)) (cs : CanSort (R.map dT)) :
    EvG K pt (tCB (rSortDT K) (tCons td tNil)) σ F (fun d => ∃ M : List (List Int), d = dLT M ∧ M.Perm R ∧ M = sortL R) := fun H1 i g Q q =>
  hd H1 i g _ fun v F2 H2 ⟨D, kvs, e, hD, hk⟩ s => by
    subst e
    refine ⟨D, kvs, R, rfl, s.inn _ _ hD, hk, cs, fun bs p hp hso hb hn => ?_⟩
    let G : Hp := fun a => if a ∈ bs.map (·.1) then H2 a else none
    have s3 : Step pt F2 H2 (join F2 G) H2 := Step.tups s.inn s.good fun a o h => by
      by_cases z : a ∈ bs.map (·.1)
      · have h' : H2 a = some o := by rw [← h]; exact (if_pos z).symm
        obtain ⟨b, hbm, rfl⟩ := List.mem_map.mp z
        rw [hb b hbm] at h'
        exact ⟨by rw [hb b hbm]; exact h', _, (Option.some.inj h').symm⟩
      · have : G a = none := if_neg z
        rw [this] at h; cases h
    have s4 : Step pt (join F2 G) H2 (upd (join F2 G) p (.lst (bs.map fun b => V.ref b.1))) (upd H2 p (.lst (bs.map fun b => V.ref b.1))) := .laid s3.inn s3.good hn
    have gi : Ex G H2 := fun a o h => by
      by_cases z : a ∈ bs.map (·.1)
      · rw [← h]; exact (if_pos z).symm
      · have : G a = none := if_neg z
        rw [this] at h; cases h
    refine q _ _ _ _ ⟨bs.map (·.2), rfl, hp, hso⟩ ((s.trans s3).trans s4) (.lst upd_same (rpAll_rows fun b hbm => s4.sub _ _ (join_r s.inn gi _ _ ?_)))
    have z : b.1 ∈ bs.map (·.1) := List.mem_map.mpr ⟨b, hbm, rfl⟩
    exact (if_pos z).trans (hb b hbm)
end
end Fv
/-! dicts whose keys are data: numbers, texts, None and tuples of such. The dict's one object is known (rawO); what it holds is told of that object (DNo); where the keys' tuples stand is told too -/
namespace Fv
open PySem PySem.Spec PyProof.Rows L2 Evl StX
abbrev NK := NestedKey
mutual
/-- data as a key -/
def nk : PyData → NK
  | .int i => .num i
  | .str x => .text x
  | .tuple ds => .tup (nkL ds)
  | _ => .none
def nkL : List PyData → List NK
  | [] => []
  | d :: ds => nk d :: nkL ds
end
mutual
/-- what may be a key -/
def kb : PyData → Bool
  | .none => true
  | .int _ => true
  | .str _ => true
  | .tuple ds => kbL ds
  | _ => false
def kbL : List PyData → Bool
  | [] => true
  | d :: ds => kb d && kbL ds
end
mutual
theorem nk_inj : ∀ {d e : PyData}, kb d = true → kb e = true → nk d = nk e → d = e
  | .none, .none, _, _, _ => rfl
  | .int a, .int b, _, _, h => by simp only [nk, NestedKey.num.injEq] at h; rw [h]
  | .str a, .str b, _, _, h => by simp only [nk, NestedKey.text.injEq] at h; rw [h]
  | .tuple a, .tuple b, ha, hb, h => by
    simp only [nk, NestedKey.tup.injEq] at h
    simp only [kb] at ha hb
    rw [nkL_inj ha hb h]
  | .none, .int _, _, _, h => by simp [nk] at h
  | .none, .str _, _, _, h => by simp [nk] at h
  | .none, .tuple _, _, _, h => by simp [nk] at h
  | .int _, .none, _, _, h => by simp [nk] at h
  | .int _, .str _, _, _, h => by simp [nk] at h
  | .int _, .tuple _, _, _, h => by simp [nk] at h
  | .str _, .none, _, _, h => by simp [nk] at h
  | .str _, .int _, _, _, h => by simp [nk] at h
  | .str _, .tuple _, _, _, h => by simp [nk] at h
  | .tuple _, .none, _, _, h => by simp [nk] at h
  | .tuple _, .int _, _, _, h => by simp [nk] at h
  | .tuple _, .str _, _, _, h => by simp [nk] at h
  | .bool _, _, h, _, _ => by simp [kb] at h
  | .list _, _, h, _, _ => by simp [kb] at h
  | .dict _, _, h, _, _ => by simp [kb] at h
  | _, .bool _, _, h, _ => by simp [kb] at h
  | _, .list _, _, h, _ => by simp [kb] at h
  | _, .dict _, _, h, _ => by simp [kb] at h
theorem nkL_inj : ∀ {a b : List PyData}, kbL a = true → kbL b = true → nkL a = nkL b → a = b
  | [], [], _, _, _ => rfl
  | [], _ :: _, _, _, h => by simp [nkL] at h
  | _ :: _, [], _, _, h => by simp [nkL] at h
  | d :: a, e :: b, ha, hb, h => by
    simp only [nkL, List.cons.injEq] at h
    simp only [kbL, Bool.and_eq_true] at ha hb
    rw [nk_inj ha.1 hb.1 h.1, nkL_inj ha.2 hb.2 h.2]
end
section
variable {X : Cx} {pins : List (Addr × Obj)} {σ : L2.St} {H : Hp} {s : Shared} {K : PySem.W.Frag}
mutual
/-- what represents such data is such a key -/
theorem rp_nested (I : Inv X pins σ H s) : ∀ (d : PyData) (v : V) (u : Value), kb d = true → Rp K H v d → RelV v u → NestedIs s.heap (nk d) u
  | .none, v, u, _, h, r => by cases h; cases r; exact .none
  | .int i, v, u, _, h, r => by cases h; obtain ⟨t, rfl⟩ := r; exact .int i t
  | .str x, v, u, _, h, r => by cases h; obtain ⟨t, rfl⟩ := r; exact .text x t
  | .tuple ds, v, u, hk, h, r => by
    obtain ⟨a, xs, rfl, ht, ha⟩ := rp_tup h
    cases (show u = Value.ref a from r)
    obtain ⟨_, its, rv, o, h1, h2, n, h3⟩ := (show ObjOk X.prog X.w H s.heap a (.tup xs) from I.hok a _ ht)
    simp only [kb] at hk
    exact .tup h1 h2 h3 (by simpa using rpL_nested I ds xs its hk ha rv)
  | .bool _, _, _, hk, _, _ => by simp [kb] at hk
  | .list _, _, _, hk, _, _ => by simp [kb] at hk
  | .dict _, _, _, hk, _, _ => by simp [kb] at hk
theorem rpL_nested (I : Inv X pins σ H s) : ∀ (ds : List PyData) (vs : List V) (us : List Value), kbL ds = true → RpAll K H vs ds → Vals vs us → NestedAll s.heap (nkL ds) us
  | [], vs, us, _, h, r => by cases h; cases r; exact .nil
  | d :: ds, vs, us, hk, h, r => by
    simp only [kbL, Bool.and_eq_true] at hk
    cases h with
    | cons h1 h2 =>
      cases r with
      | cons r1 r2 => exact .cons (rp_nested I d _ _ hk.1 h1 r1) (rpL_nested I ds _ _ hk.2 h2 r2)
end
end
/-- the one object at a -/
def rawO (a : Addr) (o : Obj) : HO := .ext fun h => h.get? a = some o
/-- an entry: the key, its tuple, the value -/
abbrev NEnt := NK × Addr × V
abbrev NPair : List NEnt → List (NK × Addr × Value) → Prop := Paired fun p q => p.1 = q.1 ∧ p.2.1 = q.2.1 ∧ RelV p.2.2 q.2.2
/-- the object o is a dict with the entries xs -/
def DNo (P : Program) (w : World) (o : Obj) (xs : List NEnt) : Prop := o.ExactDict ∧ (xs.map (·.1)).Nodup ∧ xs.length ≤ sizeLine ∧ ∃ es ep ys, o.data = .dict es ep ∧ es.toList = ys.map (entryOfKey (nestedKind P w)) ∧ NPair xs ys
def atN (xs : List NEnt) (k : NK) : Option (Addr × V) := (xs.find? fun x => decide (x.1 = k)).map (·.2)
def putAtN (k : NK) (v : V) (x : NEnt) : NEnt := if x.1 = k then (x.1, x.2.1, v) else x
def putN (xs : List NEnt) (k : NK) (a : Addr) (v : V) : List NEnt := if (atN xs k).isSome then xs.map (putAtN k v) else xs ++ [(k, a, v)]
theorem NPair.names {xs : List NEnt} {ys : List (NK × Addr × Value)} (h : NPair xs ys) : ys.map (·.1) = xs.map (·.1) := by
  induction h with
  | nil => rfl
  | cons a _ ih => rw [List.map_cons, List.map_cons, ih, a.1]
theorem NPair.at_ {xs : List NEnt} {ys : List (NK × Addr × Value)} (h : NPair xs ys) (k : NK) : match atN xs k, atKey ys k with
    | some p, some q => p.1 = q.1 ∧ RelV p.2 q.2
    | none, none => True
    | _, _ => False := by
  unfold atN atKey
  induction h with
  | nil => trivial
  | @cons p q ps qs a _ ih =>
    by_cases z : p.1 = k
    · rw [List.find?_cons_of_pos (by simpa using z), List.find?_cons_of_pos (by rw [← a.1]; simpa using z)]
      exact ⟨a.2.1, a.2.2⟩
    · rw [List.find?_cons_of_neg (by simpa using z), List.find?_cons_of_neg (by rw [← a.1]; simpa using z)]
      exact ih
theorem NPair.some_ {xs : List NEnt} {ys : List (NK × Addr × Value)} (h : NPair xs ys) {k : NK} {p : Addr × V} (e : atN xs k = some p) : ∃ q, atKey ys k = some q ∧ p.1 = q.1 ∧ RelV p.2 q.2 := by
  have := h.at_ k
  rw [e] at this
  cases w : atKey ys k with
  | none => rw [w] at this; exact this.elim
  | some q => rw [w] at this; exact ⟨q, rfl, this⟩
theorem NPair.none_ {xs : List NEnt} {ys : List (NK × Addr × Value)} (h : NPair xs ys) {k : NK} (e : atN xs k = none) : atKey ys k = none := by
  have := h.at_ k
  rw [e] at this
  cases w : atKey ys k with
  | none => rfl
  | some q => rw [w] at this; exact this.elim
theorem NPair.put {xs : List NEnt} {ys : List (NK × Addr × Value)} (h : NPair xs ys) (k : NK) (a : Addr) {v : V} {u : Value} (r : RelV v u) : NPair (putN xs k a v) (storedH ys k a u) := by
  unfold putN storedH
  cases w : atN xs k with
  | some p =>
    obtain ⟨q, hq, _⟩ := h.some_ w
    rw [hq]
    simp only [Option.isSome_some, if_true]
    clear w hq
    induction h with
    | nil => exact .nil
    | @cons p q ps qs b _ ih =>
      refine .cons ?_ ih
      unfold putAtN putAt
      by_cases z : p.1 = k
      · rw [if_pos z, if_pos (by rw [← b.1]; exact z)]; exact ⟨b.1, b.2.1, r⟩
      · rw [if_neg z, if_neg (by rw [← b.1]; exact z)]; exact b
  | none =>
    rw [h.none_ w]
    simp only [Option.isSome_none, Bool.false_eq_true, if_false]
    exact Paired.snoc h ⟨rfl, rfl, r⟩
theorem putN_len (xs : List NEnt) (k : NK) (a : Addr) (v : V) : (putN xs k a v).length ≤ xs.length + 1 := by
  unfold putN
  split
  · rw [List.length_map]; omega
  · simp
theorem NPair.length {xs : List NEnt} {ys : List (NK × Addr × Value)} (h : NPair xs ys) : xs.length = ys.length := Paired.length h
/-- the tuple of a key -/
def KeyOk (K : PySem.W.Frag) (H : Hp) (k : NK) (b : Addr) : Prop := ∃ d, Rp K H (.ref b) d ∧ kb d = true ∧ nk d = k ∧ k.depth ≤ 8
theorem KeyOk.mono {K : PySem.W.Frag} {H H' : Hp} {k : NK} {b : Addr} (e : Ex H H') (h : KeyOk K H k b) : KeyOk K H' k b := by
  obtain ⟨d, h1, h2⟩ := h
  exact ⟨d, Rp.mono e _ _ h1, h2⟩
/-- at a stands a dict with the entries xs -/
structure ND (P : Program) (w : World) (K : PySem.W.Frag) (H : Hp) (a : Addr) (xs : List NEnt) : Prop where
  low : (a == sysModules) = false
  ex : ∃ o, H a = some (rawO a o) ∧ DNo P w o xs
  keys : ∀ x ∈ xs, KeyOk K H x.1 x.2.1
theorem ND.mono {P : Program} {w : World} {K : PySem.W.Frag} {H H' : Hp} {a : Addr} {xs : List NEnt} (e : Ex H H') (h : ND P w K H a xs) : ND P w K H' a xs := by
  obtain ⟨o, h1, h2⟩ := h.ex
  exact ⟨h.low, ⟨o, e _ _ h1, h2⟩, fun x hx => (h.keys x hx).mono e⟩
section
variable {X : Cx} {pins : List (Addr × Obj)} {σ : L2.St} {H : Hp} {s : Shared} {K : PySem.W.Frag} {P : Program} {w : World}
theorem KeyOk.is (I : Inv X pins σ H s) {k : NK} {b : Addr} (h : KeyOk K H k b) : (nestedKind P w).is s.heap k b := by
  obtain ⟨d, h1, h2, h3, h4⟩ := h
  exact ⟨h3 ▸ rp_nested I d _ _ h2 h1 rfl, h4⟩
theorem ND.dict (I : Inv X pins σ H s) {a : Addr} {xs : List NEnt} (h : ND X.prog X.w K H a xs) : ∃ ys, NPair xs ys ∧ s.heap.DictOfH (nestedKind X.prog X.w) a ys ∧ ys.length ≤ sizeLine := by
  obtain ⟨o, h1, h2, h3, h4, es, ep, ys, h5, h6, h7⟩ := h.ex
  have ho : s.heap.get? a = some o := (show ObjOk X.prog X.w H s.heap a (rawO a o) from I.hok a _ h1).1
  refine ⟨ys, h7, ⟨o, es, ep, ho, h2, h5, h6, ?_, by rw [h7.names]; exact h3⟩, by rw [← h7.length]; exact h4⟩
  have all : ∀ {l : List NEnt} {m : List (NK × Addr × Value)}, NPair l m → (∀ x ∈ l, KeyOk K H x.1 x.2.1) → ∀ y ∈ m, (nestedKind X.prog X.w).is s.heap y.1 y.2.1 := by
    intro l m q
    induction q with
    | nil => intro _ y hy; exact nomatch hy
    | @cons p q ps qs a _ ih =>
      intro hk y hy
      rcases List.mem_cons.mp hy with e | hy
      · rw [e, ← a.1, ← a.2.1]; exact (hk p (by simp)).is I
      · exact ih (fun x hx => hk x (List.mem_cons_of_mem _ hx)) y hy
  exact all h7 h.keys
theorem raw_ok {h : Heap} {a : Addr} {o : Obj} (e : h.get? a = some o) : ObjOk P w H h a (rawO a o) := ⟨e, ⟨o, e⟩, fun _ _ h1 k => k _ h1⟩
theorem dno_of {h' : Heap} {a : Addr} {xs : List NEnt} {ys : List (NK × Addr × Value)} (hp : NPair xs ys) (hl : xs.length ≤ sizeLine) (hm : h'.DictOfH (nestedKind P w) a ys) : ∃ o, h'.get? a = some o ∧ DNo P w o xs := by
  obtain ⟨o, es, ep, h1, h2, h3, h4, _, h5⟩ := hm
  exact ⟨o, h1, h2, by rw [← hp.names]; exact h5, hl, es, ep, ys, h3, h4, hp⟩
end
/-! ### the rules -/
/-- {} -/
def tDNewN (P : Program) (w : World) : TE := fun _ H Q => ∀ a o, H a = none → (a == sysModules) = false → DNo P w o [] → Q (.ref a) (upd H a (rawO a o))
theorem pe_dnewN {X : Cx} {pos : Pos} {P : Program} {w : World} (hp : X.prog = P := by rfl) (hw : X.w = w := by rfl) : PE X (.Dict [] [] pos) (tDNewN P w) := ⟨fun pins s σ H Q I h => by
  subst hp; subst hw
  have low : (s.heap.objs.size == sysModules) = false := beq_eq_false_iff_ne.mpr (Ne.symm (Nat.ne_of_lt I.big))
  have at0 : (s.heap.push { cls := .type "dict", data := .dict #[] }).get? s.heap.objs.size = some { cls := .type "dict", data := .dict #[] } := Heap.get?_push_size _ rfl
  obtain ⟨o, h1, h2⟩ := dno_of (P := X.prog) (w := X.w) (xs := []) (ys := []) .nil (Nat.zero_le _) (Heap.DictOfH.new (knd := nestedKind X.prog X.w) s.heap)
  exact wpAny_Dict_empty ⟨.ref s.heap.objs.size, _, I.laid (a := s.heap.objs.size) (o := rawO s.heap.objs.size o) (t' := s.toks) (fun _ _ q => Heap.get?_push_of_some _ q) (Nat.le_refl _) (raw_ok h1), rfl, h _ o (I.hok.fresh (Nat.le_refl _)) low h2⟩⟩
section
variable {X : Cx} {P : Program} {w : World} {K : PySem.W.Frag}
theorem roomN (hu : X.A.units + 65 < cLine) : (nestedKind X.prog X.w).room X.A.in1 := by
  show X.A.units + 1 + 8 < cLine
  omega
/-- d[k] -/
def rIxN (P : Program) (w : World) (K : PySem.W.Frag) : R2 := fun x y H Q => ∃ a xs k b p, x = .ref a ∧ y = .ref b ∧ ND P w K H a xs ∧ KeyOk K H k b ∧ atN xs k = some p ∧ Q p.2 H
theorem pe_dgetN {o i : Expr} {td ty : TE} {pos : Pos} (hu : X.A.units + 65 < cLine) (ho : PE X o td) (hi : PE X i ty) (hs : NoSl i) (hp : X.prog = P := by rfl) (hw : X.w = w := by rfl) : PE X (.Subscript o i pos) (tOp (rIxN P w K) td ty) := by
  subst hp; subst hw
  refine ⟨fun pins s σ H Q I h => ?_⟩
  refine subD_of PySem.F.slot_dict_getitem.lookup hs (thn (ho.run pins s σ H _ I h) fun u s1 ⟨x, H1, I1, rx, q1⟩ => thn (hi.run pins s1 σ H1 _ I1 q1) fun iv s2 ⟨y, H2, I2, ry, q2⟩ => ?_)
  obtain ⟨a, xs, k, b, p, rfl, rfl, nd, ko, hat, q⟩ := q2
  obtain rfl : u = Value.ref a := rx
  obtain rfl : iv = Value.ref b := ry
  obtain ⟨ys, hp, hm, hl⟩ := nd.dict I2
  obtain ⟨p', h1, h2, h3⟩ := hp.some_ hat
  exact ⟨hm.typeIs, wpAny_getItem_heap (roomN hu) (ko.is I2) hm h1 ⟨p.2, H2, I2.tok _, h3, q⟩⟩
/-- k in d, k not in d -/
def rInN (P : Program) (w : World) (K : PySem.W.Frag) (neg : Bool) : R2 := fun x y H Q => ∃ a xs k b, x = .ref b ∧ y = .ref a ∧ ND P w K H a xs ∧ KeyOk K H k b ∧ Q (.bl (if neg then !(atN xs k).isSome else (atN xs k).isSome)) H
theorem atN_some {xs : List NEnt} {ys : List (NK × Addr × Value)} (h : NPair xs ys) (k : NK) : (atKey ys k).isSome = (atN xs k).isSome := by
  cases w : atN xs k with
  | none => rw [h.none_ w]; rfl
  | some p => obtain ⟨q, h1, _⟩ := h.some_ w; rw [h1]; rfl
theorem o_ninN (hu : X.A.units + 65 < cLine) (hp : X.prog = P := by rfl) (hw : X.w = w := by rfl) : OpR X (compareOp .NotIn) (rInN P w K true) := by
  subst hp; subst hw
  intro pins s σ H x y v u Q I rx ry q
  obtain ⟨a, xs, k, b, rfl, rfl, nd, ko, q⟩ := q
  cases (show u = Value.ref a from ry)
  cases (show v = Value.ref b from rx)
  obtain ⟨ys, hp, hm, hl⟩ := nd.dict I
  refine notIn_keyed (roomN hu) (ko.is I) nd.low ⟨ys, hm, rfl⟩ ?_
  rw [valueAt_pairsH, Option.isSome_map, atN_some hp]
  exact ⟨.bl _, H, I.tok _, rfl, q⟩
/-- d[k] = v -/
def rSetN (P : Program) (w : World) (K : PySem.W.Frag) : TSet := fun x y v H Q => ∃ a xs k b, x = .ref a ∧ y = .ref b ∧ ND P w K H a xs ∧ KeyOk K H k b ∧ xs.length < sizeLine ∧ ∀ o, DNo P w o (putN xs k b v) → Q (upd H a (rawO a o))
theorem set_N (hu : X.A.units + 65 < cLine) (hp : X.prog = P := by rfl) (hw : X.w = w := by rfl) : PSet X (rSetN P w K) := by
  subst hp; subst hw
  intro pins s σ H x y v ov iv u Q I rx ry rv q
  obtain ⟨a, xs, k, b, rfl, rfl, nd, ko, hz, q⟩ := q
  cases (show ov = Value.ref a from rx)
  cases (show iv = Value.ref b from ry)
  obtain ⟨ys, hp, hm, hl⟩ := nd.dict I
  refine wpAny_setItem_heap (hsz := hl) (roomN hu) (ko.is I) hm fun h' hm' hs => ?_
  obtain ⟨o, h1, h2⟩ := dno_of (hp.put k b rv) (by have := putN_len xs k b v; omega) hm'
  obtain ⟨o0, e0, _⟩ := nd.ex
  exact ⟨_, d_write I (by rw [e0]; exact True.intro) hs ⟨o, h1⟩ (raw_ok h1), q o h2⟩
/-- d.setdefault(k, v) -/
def rSdN (P : Program) (w : World) (K : PySem.W.Frag) : V → List V → Hp → VK → Prop := fun x vs H Q => ∃ a xs k b z, x = .ref a ∧ vs = [.ref b, z] ∧ ND P w K H a xs ∧ KeyOk K H k b ∧ xs.length < sizeLine ∧
  (∀ p, atN xs k = some p → Q p.2 H) ∧ (atN xs k = none → ∀ o, DNo P w o (putN xs k b z) → Q z (upd H a (rawO a o)))
theorem mt_sdN (hu : X.A.units + 65 < cLine) (hp : X.prog = P := by rfl) (hw : X.w = w := by rfl) : MtR X "dict.setdefault" (rSdN P w K) := by
  subst hp; subst hw
  intro pins s σ H x vs v us Q I r rv h
  obtain ⟨a, xs, k, b, z, rfl, rfl, nd, ko, hz, h1, h2⟩ := h
  obtain rfl : v = Value.ref a := r
  obtain ⟨u1, r1, rfl, ru, rz⟩ : ∃ u1 r1, us = [u1, r1] ∧ RelV (.ref b) u1 ∧ RelV z r1 := by
    cases rv with
    | cons r1 r2 => cases r2 with
      | cons r3 r4 => cases r4; exact ⟨_, _, rfl, r1, r3⟩
  obtain rfl : u1 = Value.ref b := ru
  obtain ⟨ys, hp, hm, hl⟩ := nd.dict I
  refine call_setdefault_heap (roomN hu) (ko.is I) nd.low hm (fun p hq => ?_) (fun hn h' hm' hs => ?_) hl
  · cases e : atN xs k with
    | none => rw [hp.none_ e] at hq; cases hq
    | some p' =>
      obtain ⟨p2, e1, e2, e3⟩ := hp.some_ e
      rw [hq] at e1
      cases e1
      exact ⟨p'.2, H, I.tok _, e3, h1 p' e⟩
  · have hn' : atN xs k = none := by
      cases e : atN xs k with
      | none => rfl
      | some p' => obtain ⟨p2, e1, _⟩ := hp.some_ e; rw [hn] at e1; cases e1
    obtain ⟨o, h3, h4⟩ := dno_of (hp.put k b rz) (by have := putN_len xs k b z; omega) hm'
    obtain ⟨o0, e0, _⟩ := nd.ex
    exact ⟨z, _, d_write I (by rw [e0]; exact True.intro) hs ⟨o, h3⟩ (raw_ok h3), rz, h2 hn' o h4⟩
/-- len(d) -/
def rLenN (P : Program) (w : World) (K : PySem.W.Frag) : List V → Hp → VK → Prop := fun vs H Q => ∃ a xs, vs = [.ref a] ∧ ND P w K H a xs ∧ Q (.int ((xs.length : Nat) : Int)) H
theorem c_lenN (hp : X.prog = P := by rfl) (hw : X.w = w := by rfl) : CallR X (.builtin "len") (rLenN P w K) := by
  subst hp; subst hw
  intro pins s σ H vs us Q I r h
  obtain ⟨a, xs, rfl, nd, q⟩ := h
  obtain ⟨u, rfl, rx⟩ := vals1 r
  obtain rfl : u = .ref a := rx
  obtain ⟨ys, hp, hm, hl⟩ := nd.dict I
  refine call_len_dictH nd.low hm (by rw [sizeLine_eq] at hl; omega) ?_
  rw [← hp.length]
  exact ⟨.int ((xs.length : Nat) : Int), H, I.tok _, ⟨_, rfl⟩, q⟩
/-- the call of a method of such a dict -/
def tyN (x : V) (H : Hp) : Prop := ∃ p o, x = .ref p ∧ H p = some (rawO p o) ∧ o.ExactDict
theorem tyN_is {pins : List (Addr × Obj)} {σ : L2.St} {H : Hp} {s : Shared} {x : V} {v : Value} (I : Inv X pins σ H s) (r : RelV x v) (ty : tyN x H) : s.TypeIs v "dict" ∧ ∀ a, v = .ref a → ∃ ob, s.heap.get? a = some ob ∧ ob.dict = none := by
  obtain ⟨p, o, rfl, h, ex⟩ := ty
  obtain rfl : v = Value.ref p := r
  have ho : s.heap.get? p = some o := (show ObjOk X.prog X.w H s.heap p (rawO p o) from I.hok p _ h).1
  exact ⟨⟨o, ho, ex.1⟩, fun a e => by cases e; exact ⟨o, ho, ex.2.1⟩⟩
theorem ND.ty {H : Hp} {a : Addr} {xs : List NEnt} (h : ND P w K H a xs) : tyN (.ref a) H := by
  obtain ⟨o, h1, h2, _⟩ := h.ex
  exact ⟨a, o, rfl, h1, h2⟩
def tBMN (r : V → List V → Hp → VK → Prop) (to : TE) (t : TA) : TE := fun σ H Q => to σ H fun x H1 => tyN x H1 ∧ t σ H1 fun xs H2 => r x xs H2 Q
theorem pe_bmN {o e : Expr} {es : List Expr} {to : TE} {t : TA} {name : Str} {apos cpos : Pos} {id : String} {r : V → List V → Hp → VK → Prop} (pa : PlainAttrs "dict") (slot : Slot "dict" name id) (hty : typeOf (.builtin id) = pure (.type "method_descriptor")) (hm : MtR X id r) (ho : PE X o to) (ha : PA X (e :: es) t)
    (hbase : attributeBase o name X.env (eval o X.env) = eval o X.env := by rfl)
    (hfew : ((backTo cpos (starEach (e :: es) X.env)).all (fun x => !x.1) && (backToKw cpos (keywordEach [] X.env)).all (fun x => x.1.isSome)
      && decide ((e :: es).length + ([] : List Keyword).length + (if ([] : List Keyword).isEmpty then 0 else 1) < 30)) = true := by rfl)
    (hline : (apos.endLine == cpos.line) = true := by rfl) (hs : starEach (e :: es) X.env = (false, eval e X.env) :: starEach es X.env := by rfl) (hplain : (backTo cpos (starEach es X.env)).any (·.1) = false := by rfl) :
    PE X (.Call (.Attribute o name apos) (e :: es) [] cpos) (tBMN r to t) := by
  refine ⟨fun pins s σ H Q I h => ?_⟩
  refine wpAny_Call_method_late hbase hfew hline rfl (thn (ho.run pins s σ H _ I h) fun v s1 ⟨x, H1, I1, r1, ty, q1⟩ => ?_)
  obtain ⟨h1, h2⟩ := tyN_is I1 r1 ty
  refine ⟨"dict", id, pa, slot, hty, h1, h2, ?_⟩
  have hA := ha.run cpos pins s1 σ H1 _ I1 q1
  rw [hs] at hA ⊢
  refine Calls.callWith_builtin (by show (false || (backTo cpos (starEach es X.env)).any (·.1)) = false; rw [hplain] <;> rfl) (Calls.evalArgs_plain ?_)
  exact thn hA fun us s2 ⟨vs, H2, I2, r2, q2⟩ => hm pins s2 σ H2 x vs v us Q I2 r1 r2 q2
theorem DNo.entries {o : Obj} {xs : List NEnt} (h : DNo P w o xs) : ∃ es ep, o.data = .dict es ep ∧ es.size = xs.length ∧ ∀ (i : Nat) (e : NEnt), xs[i]? = some e → ∃ en : DictEntry, es[i]? = some en ∧ en.key = .ref e.2.1 := by
  obtain ⟨_, _, _, es, ep, ys, h1, h2, h3⟩ := h
  refine ⟨es, ep, h1, ?_, fun i e he => ?_⟩
  · have := size_of_entries h2
    rw [this, h3.length]
  · obtain ⟨y, hy, e1⟩ := paired_get h3 he
    have q := entry_at h2 i
    rw [hy] at q
    exact ⟨_, q, by rw [e1.2.1]; rfl⟩
end
end Fv
/-! dicts whose keys are data, as part of what stays, or one's own; dicts of rows with any values, by comprehension -/
namespace Fv
open PySem PySem.Spec PyProof.Rows L2 L2H Evl StX
/-- what one has made is taken among what stays -/
theorem Step.freeze {pt : Option Pt} {F0 H0 F H : Hp} {a : Addr} {o : HO} (s : Step pt F0 H0 F H) (g : Good pt F0 H0) (h0 : H0 a = none) (f : F a = none) (h : H a = some o) : Step pt F0 H0 (upd F a o) H := by
  refine ⟨s.sub.trans (Ex.new f), fun b u hb => ?_, s.keep, fun q hq => ⟨?_, (s.good q hq).2⟩, fun b h1 h2 => ?_⟩
  · by_cases z : b = a
    · rw [z, upd_same] at hb; rw [z, h]; exact hb
    · rw [upd_ne z] at hb; exact s.inn b u hb
  · rw [upd_ne (off_pot g h0 q hq).1.symm]; exact (s.good q hq).1
  · rw [upd_ne (loose_ne h2 h0)]; exact s.new b h1 h2
theorem kbL_opt : ∀ l : List (Option Int), kbL (l.map optD) = true
  | [] => rfl
  | o :: l => by
    rw [List.map_cons, kbL, kbL_opt l]
    cases o <;> rfl
theorem kb_dO (vw : List (Option Int)) : kb (dO vw) = true := by rw [kb]; exact kbL_opt vw
theorem nk_opt (o : Option Int) : (nk (optD o)).depth = 0 := by cases o <;> rfl
theorem nkL_depth : ∀ l : List (Option Int), NestedKey.depthAll (nkL (l.map optD)) = 0
  | [] => rfl
  | o :: l => by
    rw [List.map_cons, nkL, NestedKey.depthAll, nk_opt, nkL_depth l]; rfl
theorem depth_dO (vw : List (Option Int)) : (nk (dO vw)).depth ≤ 8 := by
  rw [nk, NestedKey.depth, nkL_depth]; decide
theorem optD_inj {a b : Option Int} (h : optD a = optD b) : a = b := by
  cases a <;> cases b <;> simp [optD] at h
  · rfl
  · rw [h]
theorem dO_inj {a b : List (Option Int)} (h : dO a = dO b) : a = b := by
  injection h with h
  exact (List.map_inj_right (fun x y h => optD_inj h)).mp h
theorem nkO_inj {a b : List (Option Int)} (h : nk (dO a) = nk (dO b)) : a = b := dO_inj (nk_inj (kb_dO a) (kb_dO b) h)
section
variable {K : PySem.W.Frag} {P : Program} {w : World} {pt : Option Pt} {σ : L2.St} {F F' F0 H0 H F2 H2 : Hp} {te ta tb td ty tv : TE} {ts : TA} {t : TT} {D : Ends} {tz : TS} {l a : Addr} {xs : List NEnt} {wi : TI}
theorem keyO {vw : List (Option Int)} (h : Rp K F (.ref a) (dO vw)) : KeyOk K F (nk (dO vw)) a := ⟨_, h, kb_dO vw, rfl, depth_dO vw⟩
/-! a dict that stays -/
/-! a dict of one's own -/
structure Nst (P : Program) (w : World) (K : PySem.W.Frag) (pt : Option Pt) (F0 H0 : Hp) (D : Addr) (F H : Hp) (xs : List NEnt) : Prop where
  step : Step pt F0 H0 F H
  off : F D = none
  low : (D == sysModules) = false
  ex : ∃ o, H D = some (rawO D o) ∧ DNo P w o xs
  keys : ∀ x ∈ xs, KeyOk K F x.1 x.2.1
theorem Nst.nd (g : Nst P w K pt F0 H0 l F H xs) : ND P w K H l xs := ⟨g.low, g.ex, fun x hx => (g.keys x hx).mono g.step.inn⟩
theorem Nst.run (g0 : Good pt F0 H0) (h0 : H0 l = none) (g : Nst P w K pt F0 H0 l F H xs) (s : Step pt F H F2 H2) : Nst P w K pt F0 H0 l F2 H2 xs := by
  obtain ⟨o, h1, h2⟩ := g.ex
  exact ⟨g.step.trans s, s.new l g.off ⟨_, h1, fun ys z => nomatch z⟩, g.low, ⟨o, s.keep l _ (fun q hq => (off_pot g0 h0 q hq).1) h1, h2⟩, fun x hx => (g.keys x hx).mono s.sub⟩
theorem Nst.done (g0 : Good pt F0 H0) (h0 : H0 l = none) (g : Nst P w K pt F0 H0 l F H xs) : ∃ F2, Step pt F0 H0 F2 H ∧ Ex F F2 ∧ ND P w K F2 l xs := by
  obtain ⟨o, h1, h2⟩ := g.ex
  have e1 : Ex F (upd F l (rawO l o)) := Ex.new g.off
  exact ⟨_, g.step.freeze g0 h0 g.off h1, e1, g.low, ⟨o, upd_same, h2⟩, fun x hx => (g.keys x hx).mono e1⟩
theorem t_newN {i : Nat} (s : Step pt F0 H0 F H) (q : ∀ l H2, H l = none → H0 l = none → Nst P w K pt F0 H0 l F H2 [] → tz D (σ.set i (some (.ref l))) H2) : tSeq (tAsg (tDNewN P w) (gName i)) tz D σ H := fun l o hl low hd =>
  q l _ hl (s.back l hl) ⟨s.trans (.litter s.inn s.good hl), (by
    cases w : F l with
    | none => rfl
    | some o => rw [s.inn _ _ w] at hl; cases hl), low, ⟨o, upd_same, hd⟩, fun x hx => by cases hx⟩
/-! dicts of rows with any values -/
abbrev DV (K : PySem.W.Frag) (F : Hp) : List (List Key × V) → List (List Int × PyData) → Prop := Paired fun kv pd => kv.1 = key pd.1 ∧ Rp K F kv.2 pd.2
theorem DV.mono {kvs : List (List Key × V)} {ps : List (List Int × PyData)} (e : Ex F F') (h : DV K F kvs ps) : DV K F' kvs ps := Paired.mapP h fun _ _ z => ⟨z.1, Rp.mono e _ _ z.2⟩
theorem DV.keys {kvs : List (List Key × V)} {ps : List (List Int × PyData)} (h : DV K F kvs ps) : kvs.map (·.1) = (ps.map (·.1)).map key := by
  induction h with
  | nil => rfl
  | cons a _ ih => rw [List.map_cons, List.map_cons, List.map_cons, ih, a.1]
theorem DV.none_ {kvs : List (List Key × V)} {ps : List (List Int × PyData)} (h : DV K F kvs ps) {r : List Int} (hr : r ∉ ps.map (·.1)) : valV kvs (key r) = none := by
  cases w : valV kvs (key r) with
  | none => rfl
  | some v =>
    have h1 := valV_any (key r) kvs
    have e1 : (kvs.any fun kv => decide (kv.1 = key r)) = ((kvs.map (·.1)).any fun k => decide (k = key r)) := by rw [List.any_map]; rfl
    rw [w, e1, h.keys, List.any_map, Option.isSome_some, List.any_eq_true] at h1
    obtain ⟨x, hx, e⟩ := h1
    have : key x = key r := by simpa using e
    rw [key_inj this] at hx
    exact absurd hx hr
theorem DV.get {kvs : List (List Key × V)} {ps : List (List Int × PyData)} (h : DV K F kvs ps) : (ps.map (·.1)).Nodup → ∀ {r : List Int} {d : PyData}, (r, d) ∈ ps → ∃ v, valV kvs (key r) = some v ∧ Rp K F v d := by
  induction h with
  | nil => intro _ r d hm; cases hm
  | @cons kv pd kvs ps a _ ih =>
    intro nd r d hm
    rw [List.map_cons, List.nodup_cons] at nd
    rcases List.mem_cons.mp hm with e | m
    · subst e
      exact ⟨kv.2, valV_pos a.1, a.2⟩
    · obtain ⟨v, h1, h2⟩ := ih nd.2 m
      refine ⟨v, ?_, h2⟩
      have ne : ¬ kv.1 = key r := by
        rw [a.1]
        intro z
        exact nd.1 (by rw [key_inj z]; exact List.mem_map.mpr ⟨_, m, rfl⟩)
      rw [valV_neg ne]; exact h1
theorem x_dcV {α : Type} {j : Nat} {vs : List Nat} (enc : α → PyData) (ys : List α) (p : α → Bool) (row : α → List Int) (val : α → PyData) (hw : WiG K pt wi σ F (· = ys.map enc)) (hz : ys.length ≤ 20000) (nd : ((ys.filter p).map row).Nodup) (hwp : ∀ x, wipe ((wipe σ vs).set j (some x)) vs = wipe σ vs)
    (ht : ∀ y ∈ ys, ∀ F', Ex F F' → ∀ v, Rp K F' v (enc y) → EtG pt t ((wipe σ vs).set j (some v)) F' (· = p y))
    (hk : ∀ y ∈ ys, p y = true → ∀ F', Ex F F' → ∀ v, Rp K F' v (enc y) → EvG K pt te ((wipe σ vs).set j (some v)) F' (Is (dT (row y)))) (hv : ∀ y ∈ ys, p y = true → ∀ F', Ex F F' → ∀ v, Rp K F' v (enc y) → EvG K pt tv ((wipe σ vs).set j (some v)) F' (Is (val y))) :
    EvX pt (tDcT wi (gName j) t te tv vs) σ F (fun v F2 => ∃ D kvs, v = .ref D ∧ F2 D = some (.dT kvs) ∧ DV K F2 kvs ((ys.filter p).map fun y => (row y, val y))) := fun H0 i0 g0 Q q =>
  hw H0 i0 g0 _ fun ds J F1 H1 hds s1 Y => fun D hD => by
    subst hds
    have gi := s1.inn
    have gg := s1.good
    have f1 : F1 D = none := by
      cases w : F1 D with
      | none => rfl
      | some o => rw [gi _ _ w] at hD; cases hD
    have hlen : (ys.map enc).length = ys.length := by simp
    refine ⟨fun i m H => m = ys.length - i ∧ i ≤ ys.length ∧ ∃ F' kvs, Step pt F1 H1 F' H ∧ F' D = none ∧ H D = some (.dT kvs) ∧ DV K F' kvs (((ys.take i).filter p).map fun y => (row y, val y)), ⟨ys.length, by simp, Nat.zero_le _, F1, [], .litter gi gg hD, f1, upd_same, .nil⟩, ?_⟩
    rintro i m H ⟨rfl, hi, F', kvs, s, f, e, dv⟩
    have eH : Ex F1 H := s.sub.trans s.inn
    by_cases hlt : i < ys.length
    · refine .inr ⟨Y.go i H eH (by rw [hlen]; exact hlt), fun H => ∃ F' kvs, Step pt F1 H1 F' H ∧ F' D = none ∧ H D = some (.dT kvs) ∧ DV K F' kvs (((ys.take (i + 1)).filter p).map fun y => (row y, val y)), fun H' p' => ⟨ys.length - (i + 1), by omega, rfl, hlt, p'⟩, fun v H' y => ?_⟩
      obtain ⟨rfl, d, hd, hx⟩ := Y.yld i H v H' eH (by rw [hlen]; exact hlt) y
      obtain ⟨y0, hy0, rfl⟩ := get_map hd
      have hm : y0 ∈ ys := List.mem_of_getElem? hy0
      refine ⟨hwp v, ?_⟩
      have off : ∀ q, pt = some q → D ≠ q.p := fun q hq => (off_pot gg hD q hq).1
      refine ht y0 hm F' (s1.sub.trans s.sub) v (Rp.mono s.sub _ _ hx) H' s.inn s.good _ fun b F1' H1' hb s1' => ?_
      have fA := s1'.new D f (by rw [e]; simp)
      have eA := s1'.keep D _ off e
      have sA := s.trans s1'
      rw [take_succA hy0, List.filter_append]
      cases hpy : p y0 with
      | false =>
        rw [hpy] at hb
        subst hb
        rw [if_neg (by simp)]
        refine ⟨F1', kvs, sA, fA, eA, ?_⟩
        rw [show [y0].filter p = [] by simp [hpy], List.append_nil]
        exact dv.mono s1'.sub
      | true =>
        rw [hpy] at hb
        subst hb
        rw [if_pos rfl]
        refine hk y0 hm hpy F1' (s1.sub.trans sA.sub) v (Rp.mono sA.sub _ _ hx) H1' sA.inn sA.good _ fun d2 y2 F2 H2 hd2 s2 hy2 => ?_
        have f2 := s2.new D fA (by rw [eA]; simp)
        have e2 := s2.keep D _ off eA
        refine hv y0 hm hpy F2 ((s1.sub.trans sA.sub).trans s2.sub) v (Rp.mono (sA.sub.trans s2.sub) _ _ hx) H2 s2.inn s2.good _ fun d3 y3 F3 H3 hd3 s3 hy3 => ?_
        have f3 := s3.new D f2 (by rw [e2]; simp)
        have e3 := s3.keep D _ off e2
        subst hd2; subst hd3
        obtain ⟨q2, zs, rfl, hq2, ha⟩ := rp_tup hy2
        have e1 := rpAll_ints ha
        subst e1
        have dv3 := dv.mono ((s1'.sub.trans s2.sub).trans s3.sub)
        have hnew : row y0 ∉ (((ys.take i).filter p).map fun y => (row y, val y)).map (·.1) := by
          have nd2 : (((ys.take (i + 1)).filter p).map row).Nodup := List.Nodup.sublist (((List.take_sublist (i + 1) ys).filter p).map row) nd
          rw [take_succA hy0, List.filter_append, show [y0].filter p = [y0] by simp [hpy], List.map_append, List.nodup_append] at nd2
          intro hmem
          rw [List.map_map] at hmem
          exact nd2.2.2 (row y0) hmem (row y0) (by simp) rfl
        have pn : putK kvs (key (row y0)) y3 = kvs ++ [(key (row y0), y3)] := putK_new y3 (dv3.none_ hnew)
        refine ⟨_, key (row y0), q2, rfl, by rw [key_kV]; exact s3.inn _ _ (s3.sub _ _ hq2), e3, sz_lt ?_, F3, kvs ++ [(key (row y0), y3)], ?_, f3, ?_, ?_⟩
        · have h1 : kvs.length = _ := Paired.length dv
          have h2 := List.length_filter_le p (ys.take i)
          rw [List.length_map] at h1
          rw [List.length_take] at h2
          omega
        · exact ((sA.trans s2).trans s3).put gg hD f3
        · rw [pn]; exact upd_same
        · rw [show [y0].filter p = [y0] by simp [hpy], List.map_append]
          exact Paired.snoc dv3 ⟨rfl, hy3⟩
    · have hE : i = ys.length := Nat.le_antisymm hi (Nat.le_of_not_lt hlt)
      subst hE
      rw [List.take_length] at dv
      have e1 : Ex F' (upd F' D (.dT kvs)) := Ex.new f
      exact .inl ⟨by have := Y.stop H eH; rw [hlen] at this; exact this, q _ (upd F' D (.dT kvs)) H ⟨D, kvs, rfl, upd_same, dv.mono e1⟩ (s1.trans (s.freeze gg hD f e))⟩
end
end Fv
namespace KJ
open PySem PySem.Spec PyProof.Rows L2 L2H Fv Evl StX
/-! inputs by view -/
abbrev BE := ORow × List (List Int) × Addr × Addr
def entB (e : BE) : NEnt := (nk (dO e.1), e.2.2.1, .ref e.2.2.2)
def pureB (e : BE) : ORow × List (List Int) := (e.1, e.2.1)
def addB (gs : List (ORow × List (List Int))) (vw : ORow) (r : List Int) : List (ORow × List (List Int)) := if (gs.any fun g => decide (g.1 = vw)) = true then gs.map (fun g => if g.1 = vw then (g.1, g.2 ++ [r]) else g) else gs ++ [(vw, [r])]
def byV (ps : List (ORow × List Int)) : List (ORow × List (List Int)) := ps.foldl (fun gs p => addB gs p.1 p.2) []
theorem addB_len (gs : List (ORow × List (List Int))) (vw : ORow) (r : List Int) : (addB gs vw r).length ≤ gs.length + 1 := by
  unfold addB
  split
  · rw [List.length_map]; omega
  · simp
theorem byV_len (ps : List (ORow × List Int)) : (byV ps).length ≤ ps.length := by
  unfold byV
  have : ∀ (ps : List (ORow × List Int)) gs, (ps.foldl (fun gs p => addB gs p.1 p.2) gs).length ≤ gs.length + ps.length := by
    intro ps
    induction ps with
    | nil => intro gs; simp
    | cons p ps ih =>
      intro gs
      have h1 := ih (addB gs p.1 p.2)
      have h2 := addB_len gs p.1 p.2
      rw [List.foldl_cons, List.length_cons]; omega
  simpa using this ps []
theorem nodup_inj {α β : Type} {f : α → β} : ∀ {l : List α}, (l.map f).Nodup → ∀ {a b : α}, a ∈ l → b ∈ l → f a = f b → a = b
  | [], _, _, _, h, _, _ => by cases h
  | x :: l, nd, a, b, ha, hb, e => by
    rw [List.map_cons, List.nodup_cons] at nd
    rcases List.mem_cons.mp ha with ea | ma <;> rcases List.mem_cons.mp hb with eb | mb
    · rw [ea, eb]
    · exact absurd (List.mem_map.mpr ⟨b, mb, by rw [← e, ea]⟩) nd.1
    · exact absurd (List.mem_map.mpr ⟨a, ma, by rw [e, eb]⟩) nd.1
    · exact nodup_inj nd.2 ma mb e
theorem nodup_of_map {α β : Type} {f : α → β} : ∀ {l : List α}, (l.map f).Nodup → l.Nodup
  | [], _ => List.nodup_nil
  | x :: l, h => by
    rw [List.map_cons, List.nodup_cons] at h
    exact List.nodup_cons.mpr ⟨fun m => h.1 (List.mem_map.mpr ⟨x, m, rfl⟩), nodup_of_map h.2⟩
section
variable {P : Program} {w : World} {K : PySem.W.Frag} {mg : Str → Option Value} {base : Heap} {CB CO CL CE fE CF C fI : Addr} {mc : Value}
variable {pt : Option Pt} {σ : L2.St} {F F' F0 H0 H F2 H2 : Hp} {te ta tb ty td : TE} {ts tr : TA} {t : TT} {D : Ends} {tz tu tw : TS} {l : Addr} {es : List BE}
/-- the dict of lists, one's own -/
structure Bkt (P : Program) (w : World) (K : PySem.W.Frag) (pt : Option Pt) (F0 H0 : Hp) (D : Addr) (F H : Hp) (es : List BE) : Prop where
  step : Step pt F0 H0 F H
  off : F D = none
  low : (D == sysModules) = false
  ex : ∃ o, H D = some (rawO D o) ∧ DNo P w o (es.map entB)
  ks : ∀ e ∈ es, Rp K F (.ref e.2.2.1) (dO e.1)
  ls : ∀ e ∈ es, F e.2.2.2 = none ∧ H0 e.2.2.2 = none ∧ ∃ acc, H e.2.2.2 = some (.lst acc) ∧ RpAll K F acc (e.2.1.map dT)
  ap : (es.map fun e => e.2.2.2).Nodup
theorem Bkt.run (g0 : Good pt F0 H0) (h0 : H0 l = none) (g : Bkt P w K pt F0 H0 l F H es) (s : Step pt F H F2 H2) : Bkt P w K pt F0 H0 l F2 H2 es := by
  obtain ⟨o, h1, h2⟩ := g.ex
  refine ⟨g.step.trans s, s.new l g.off ⟨_, h1, fun ys z => nomatch z⟩, g.low, ⟨o, s.keep l _ (fun q hq => (off_pot g0 h0 q hq).1) h1, h2⟩, fun e he => Rp.mono s.sub _ _ (g.ks e he), fun e he => ?_, g.ap⟩
  obtain ⟨a1, a2, acc, a3, a4⟩ := g.ls e he
  exact ⟨s.new _ a1 ⟨_, a3, fun ys z => nomatch z⟩, a2, acc, s.keep _ _ (fun q hq => (off_pot g0 a2 q hq).1) a3, RpAll.mono s.sub _ _ a4⟩
theorem Bkt.nd (g : Bkt P w K pt F0 H0 l F H es) : ND P w K H l (es.map entB) := ⟨g.low, g.ex, fun x hx => by
  obtain ⟨e, he, rfl⟩ := List.mem_map.mp hx
  exact (keyO (g.ks e he)).mono g.step.inn⟩
theorem Bkt.vn (g : Bkt P w K pt F0 H0 l F H es) : (es.map (·.1)).Nodup := by
  obtain ⟨o, _, _, h, _⟩ := g.ex
  rw [List.map_map] at h
  have e1 : es.map ((·.1) ∘ entB) = (es.map (·.1)).map fun v => nk (dO v) := by rw [List.map_map]; rfl
  rw [e1] at h
  exact nodup_of_map h
theorem at_ent (es : List BE) (vw : ORow) : atN (es.map entB) (nk (dO vw)) = (es.find? fun e => decide (e.1 = vw)).map fun e => (e.2.2.1, V.ref e.2.2.2) := by
  unfold atN
  induction es with
  | nil => rfl
  | cons e es ih =>
    rw [List.map_cons]
    by_cases z : e.1 = vw
    · rw [List.find?_cons_of_pos (by simp [entB, z]), List.find?_cons_of_pos (by simpa using z)]; rfl
    · have hne : ¬ ((fun x : NEnt => decide (x.1 = nk (dO vw))) (entB e) = true) := fun y => z (nkO_inj (of_decide_eq_true y))
      rw [List.find?_cons_of_neg (p := fun x : NEnt => decide (x.1 = nk (dO vw))) hne, List.find?_cons_of_neg (by simpa using z)]
      exact ih
/-- d.setdefault(view, []).append(row) -/
theorem t_bkt {i j : Nat} {vw : ORow} {r : List Int} {u : V} (g0 : Good pt F0 H0) (h0 : H0 l = none) (g : Bkt P w K pt F0 H0 l F H es) (hi : σ[i]? = some (some (.ref l))) (hj : σ[j]? = some (some u)) (hu : Rp K F u (dT r)) (hz : es.length < 50000) (hr : ∀ e ∈ es, e.2.1.length < 50000) (he : EvG K pt te σ F (Is (dO vw)))
    (q : ∀ F2 H2 es', es'.map pureB = addB (es.map pureB) vw r → Bkt P w K pt F0 H0 l F2 H2 es' → Ex F F2 → D.nx σ H2) :
    tDrop (tBM K "list" rAppend (tBMN (rSdN P w K) (tVar i) (tCons te (tCons (tLst tNil) tNil))) (tCons (tVar j) tNil)) D σ H := by
  refine ⟨_, hi, g.nd.ty, he H g.step.inn g.step.good _ fun d v F2 H2 hd s hv => ⟨Nat.zero_le _, fun ln hln => ?_⟩⟩
  subst hd
  obtain ⟨b, ys, rfl, hl, ha⟩ := rp_tup hv
  have g2 := g.run g0 h0 s
  have sl : Step pt F2 H2 F2 (upd H2 ln (.lst [])) := .litter s.inn s.good hln
  have g3 := g2.run g0 h0 sl
  have lne : ln ≠ l := fun z => by
    obtain ⟨o, h1, _⟩ := g2.ex
    rw [z, h1] at hln; cases hln
  have fln : F2 ln = none := by
    cases w : F2 ln with
    | none => rfl
    | some o => rw [s.inn _ _ w] at hln; cases hln
  have hu2 : Rp K F2 u (dT r) := Rp.mono s.sub _ _ hu
  refine ⟨l, es.map entB, nk (dO vw), b, .ref ln, rfl, rfl, g3.nd, (keyO hv).mono sl.inn, by rw [List.length_map]; exact Nat.lt_of_lt_of_le hz (by decide), fun p hp => ?_, fun hn o ho => ?_⟩
  · rw [at_ent] at hp
    obtain ⟨e0, hf, rfl⟩ := Option.map_eq_some_iff.mp hp
    have hm0 := List.mem_of_find?_eq_some hf
    have hv0 : e0.1 = vw := by simpa using List.find?_some hf
    obtain ⟨a1, a2, acc, a3, a4⟩ := g3.ls e0 hm0
    refine ⟨.inl ⟨rfl, acc, SqL.of a3⟩, _, hj, e0.2.2.2, acc, u, rfl, rfl, a3, sz_lt (by rw [a4.length, List.length_map]; exact Nat.lt_of_lt_of_le (hr e0 hm0) (by decide)), ?_⟩
    refine q F2 _ (es.map fun e => if e.1 = vw then (e.1, e.2.1 ++ [r], e.2.2.1, e.2.2.2) else e) ?_ ?_ s.sub
    · unfold addB
      rw [if_pos, List.map_map, List.map_map]
      · refine List.map_congr_left fun e _ => ?_
        show pureB (if e.1 = vw then _ else e) = if (pureB e).1 = vw then _ else pureB e
        by_cases z : e.1 = vw
        · rw [if_pos z, if_pos (show (pureB e).1 = vw from z)]; rfl
        · rw [if_neg z, if_neg (show ¬ (pureB e).1 = vw from z)]
      · rw [List.any_map, List.any_eq_true]
        exact ⟨e0, hm0, decide_eq_true hv0⟩
    · have em : (es.map fun e => if e.1 = vw then (e.1, e.2.1 ++ [r], e.2.2.1, e.2.2.2) else e).map entB = es.map entB := by
        rw [List.map_map]
        refine List.map_congr_left fun e _ => ?_
        show entB (if e.1 = vw then _ else e) = entB e
        by_cases z : e.1 = vw
        · rw [if_pos z]; rfl
        · rw [if_neg z]
      have ea : (es.map fun e => if e.1 = vw then (e.1, e.2.1 ++ [r], e.2.2.1, e.2.2.2) else e).map (fun e => e.2.2.2) = es.map fun e => e.2.2.2 := by
        rw [List.map_map]
        refine List.map_congr_left fun e _ => ?_
        show (if e.1 = vw then _ else e).2.2.2 = e.2.2.2
        by_cases z : e.1 = vw
        · rw [if_pos z]
        · rw [if_neg z]
      obtain ⟨o, h1, h2⟩ := g3.ex
      have ne0 : l ≠ e0.2.2.2 := fun z => by rw [← z, h1] at a3; cases a3
      refine ⟨g3.step.put g0 a2 a1, g3.off, g3.low, ⟨o, by rw [upd_ne ne0]; exact h1, by rw [em]; exact h2⟩, fun e he => ?_, fun e he => ?_, by rw [ea]; exact g3.ap⟩
      · obtain ⟨e1, he1, rfl⟩ := List.mem_map.mp he
        have := g3.ks e1 he1
        by_cases z : e1.1 = vw
        · rw [if_pos z]; exact this
        · rw [if_neg z]; exact this
      · obtain ⟨e1, he1, rfl⟩ := List.mem_map.mp he
        obtain ⟨b1, b2, acc1, b3, b4⟩ := g3.ls e1 he1
        by_cases z : e1.1 = vw
        · rw [if_pos z]
          have : e1 = e0 := nodup_inj g3.vn he1 hm0 (z.trans hv0.symm)
          subst this
          exact ⟨b1, b2, _, upd_same, by rw [List.map_append]; exact a4.append (RpAll.one hu2)⟩
        · rw [if_neg z]
          have ne : e1.2.2.2 ≠ e0.2.2.2 := fun y => z (by rw [nodup_inj (f := fun e : BE => e.2.2.2) g3.ap he1 hm0 y]; exact hv0)
          exact ⟨b1, b2, acc1, by rw [upd_ne ne]; exact b3, b4⟩
  · rw [at_ent] at hn
    have hn' : ∀ e ∈ es, e.1 ≠ vw := fun e he z => by
      have := List.find?_eq_none.mp (Option.map_eq_none_iff.mp hn) e he
      simp [z] at this
    have hl4 : upd (upd H2 ln (.lst [])) l (rawO l o) ln = some (.lst []) := by rw [upd_ne lne]; exact upd_same
    have h0ln : H0 ln = none := (g.step.trans s).back ln hln
    refine ⟨.inl ⟨rfl, [], SqL.of hl4⟩, _, hj, ln, [], u, rfl, rfl, hl4, by decide, ?_⟩
    refine q F2 _ (es ++ [(vw, [r], b, ln)]) ?_ ?_ s.sub
    · unfold addB
      rw [if_neg, List.map_append]
      · rfl
      · rw [List.any_map, List.any_eq_true]
        rintro ⟨e, he, z⟩
        exact hn' e he (of_decide_eq_true z)
    · have pn : putN (es.map entB) (nk (dO vw)) b (.ref ln) = (es ++ [(vw, [r], b, ln)]).map entB := by
        unfold putN
        rw [at_ent, Option.map_eq_none_iff.mp hn, List.map_append]; rfl
      rw [pn] at ho
      refine ⟨(g3.step.put g0 h0 g3.off).put g0 h0ln fln, g3.off, g3.low, ⟨o, by rw [upd_ne lne.symm]; exact upd_same, ho⟩, fun e he => ?_, fun e he => ?_, ?_⟩
      · rcases List.mem_append.mp he with m | m
        · exact g3.ks e m
        · rw [List.mem_singleton.mp m]; exact hv
      · rcases List.mem_append.mp he with m | m
        · obtain ⟨b1, b2, acc1, b3, b4⟩ := g2.ls e m
          have n1 : e.2.2.2 ≠ ln := fun z => by rw [z, hln] at b3; cases b3
          have n2 : e.2.2.2 ≠ l := fun z => by
            obtain ⟨o1, h1, _⟩ := g2.ex
            rw [z, h1] at b3; cases b3
          exact ⟨b1, b2, acc1, by rw [upd_ne n1, upd_ne n2, upd_ne n1]; exact b3, b4⟩
        · rw [List.mem_singleton.mp m]
          exact ⟨fln, h0ln, [u], upd_same, .one hu2⟩
      · rw [List.map_append, List.nodup_append]
        refine ⟨g3.ap, by simp, fun x hx y hy z => ?_⟩
        obtain ⟨e, he, rfl⟩ := List.mem_map.mp hx
        rw [List.mem_singleton.mp hy] at z
        obtain ⟨_, _, acc1, b3, _⟩ := g2.ls e he
        have z' : e.2.2.2 = ln := z
        rw [z', hln] at b3; cases b3
end
end KJ
namespace KJ
open PySem PySem.Spec PyProof.Rows L2 L2H Fv Evl StX
/-- at D stands the dict with these lists -/
def Byv (P : Program) (w : World) (K : PySem.W.Frag) (F : Hp) (D : Addr) (gs : List (ORow × List (List Int))) : Prop := ∃ es : List BE, es.map pureB = gs ∧ ND P w K F D (es.map entB) ∧ ∀ e ∈ es, Rp K F (.ref e.2.2.1) (dO e.1) ∧ Rp K F (.ref e.2.2.2) (dLT e.2.1)
theorem Byv.mono {P : Program} {w : World} {K : PySem.W.Frag} {F F' : Hp} {D : Addr} {gs : List (ORow × List (List Int))} (e : Ex F F') (h : Byv P w K F D gs) : Byv P w K F' D gs := by
  obtain ⟨es, h1, h2, h3⟩ := h
  exact ⟨es, h1, h2.mono e, fun x hx => ⟨Rp.mono e _ _ (h3 x hx).1, Rp.mono e _ _ (h3 x hx).2⟩⟩
section
variable {P : Program} {w : World} {K : PySem.W.Frag} {mg : Str → Option Value} {base : Heap} {CB CO CL CE fE CF C fI : Addr} {mc : Value}
variable {pt : Option Pt} {σ : L2.St} {F F' F0 H0 H F2 H2 : Hp} {te ta tb ty td : TE} {ts tr : TA} {t : TT} {D : Ends} {tz tu tw : TS} {l : Addr} {es : List BE}
theorem Bkt.done (g0 : Good pt F0 H0) (h0 : H0 l = none) (g : Bkt P w K pt F0 H0 l F H es) : ∃ F2, Step pt F0 H0 F2 H ∧ Ex F F2 ∧ Byv P w K F2 l (es.map pureB) := by
  -- the lists, one by one
  have lists : ∀ es1 : List BE, (∀ e ∈ es1, e ∈ es) → (es1.map fun e => e.2.2.2).Nodup → ∃ F2, Step pt F0 H0 F2 H ∧ Ex F F2 ∧ F2 l = none ∧ (∀ a, F2 a ≠ none → F a = none → ∃ e ∈ es1, a = e.2.2.2) ∧ ∀ e ∈ es1, Rp K F2 (.ref e.2.2.2) (dLT e.2.1) := by
    intro es1
    induction es1 with
    | nil => intro _ _; exact ⟨F, g.step, Ex.refl F, g.off, fun a h1 h2 => absurd h2 h1, fun e he => by cases he⟩
    | cons e es1 ih =>
      intro hs nd
      rw [List.map_cons, List.nodup_cons] at nd
      obtain ⟨F2, s2, e2, f2, only, r2⟩ := ih (fun x hx => hs x (List.mem_cons_of_mem _ hx)) nd.2
      obtain ⟨a1, a2, acc, a3, a4⟩ := g.ls e (hs e (by simp))
      have fe : F2 e.2.2.2 = none := by
        cases w : F2 e.2.2.2 with
        | none => rfl
        | some o =>
          obtain ⟨x, hx, ex⟩ := only e.2.2.2 (by rw [w]; simp) a1
          exact absurd (List.mem_map.mpr ⟨x, hx, ex.symm⟩) nd.1
      have e3 : Ex F2 (upd F2 e.2.2.2 (.lst acc)) := Ex.new fe
      have ne : l ≠ e.2.2.2 := fun z => by
        obtain ⟨o, h1, _⟩ := g.ex
        rw [← z, h1] at a3; cases a3
      refine ⟨upd F2 e.2.2.2 (.lst acc), s2.freeze g0 a2 fe a3, e2.trans e3, by rw [upd_ne ne]; exact f2, fun a h1 h2 => ?_, fun x hx => ?_⟩
      · by_cases z : a = e.2.2.2
        · exact ⟨e, by simp, z⟩
        · rw [upd_ne z] at h1
          obtain ⟨x, hx, ex⟩ := only a h1 h2
          exact ⟨x, List.mem_cons_of_mem _ hx, ex⟩
      · rcases List.mem_cons.mp hx with ex | m
        · subst ex
          exact .lst upd_same (RpAll.mono (e2.trans e3) _ _ a4)
        · exact Rp.mono e3 _ _ (r2 x m)
  obtain ⟨F2, s2, e2, f2, _, r2⟩ := lists es (fun _ h => h) g.ap
  obtain ⟨o, h1, h2⟩ := g.ex
  have e3 : Ex F2 (upd F2 l (rawO l o)) := Ex.new f2
  exact ⟨_, s2.freeze g0 h0 f2 h1, e2.trans e3, es, rfl, ⟨g.low, ⟨o, upd_same, h2⟩, fun x hx => by
    obtain ⟨e, he, rfl⟩ := List.mem_map.mp hx
    exact keyO (Rp.mono (e2.trans e3) _ _ (g.ks e he))⟩, fun e he => ⟨Rp.mono (e2.trans e3) _ _ (g.ks e he), Rp.mono e3 _ _ (r2 e he)⟩⟩
/-- a loop beside such a dict -/
theorem t_forB {j : Nat} {wi : TI} {ds : List PyData} (g0 : Good pt F0 H0) (h0 : H0 l = none) (g : Bkt P w K pt F0 H0 l F H es) (hw : WiG K pt wi σ F (· = ds)) (I : Nat → L2.St → List BE → Prop) (hi : I 0 σ es)
    (hs : ∀ i d, ds[i]? = some d → ∀ σ' F' H' x k', I i σ' k' → Bkt P w K pt F0 H0 l F' H' k' → Ex F F' → Rp K F' x d →
      ∀ N : L2.St → Hp → Prop, (∀ σ2 F2 H2 k2, I (i + 1) σ2 k2 → Bkt P w K pt F0 H0 l F2 H2 k2 → Ex F' F2 → N σ2 H2) → tu { D with nx := N, ct := N, bk := tz D } (σ'.set j (some x)) H')
    (hd : ∀ σ' F' H' k', I ds.length σ' k' → Bkt P w K pt F0 H0 l F' H' k' → Ex F F' → tz D σ' H') : tSeq (tFor wi (gName j) tu) tz D σ H :=
  hw H g.step.inn g.step.good _ fun ds' J F1 H1 e s1 Y => by
    subst e
    refine ⟨fun i m σ' H' => m = ds'.length - i ∧ i ≤ ds'.length ∧ ∃ F' k', Bkt P w K pt F0 H0 l F' H' k' ∧ Ex F1 F' ∧ I i σ' k', ⟨ds'.length, by simp, Nat.zero_le _, F1, es, g.run g0 h0 s1, Ex.refl _, hi⟩, ?_⟩
    rintro i m σ' H' ⟨rfl, hil, F', k', g', e', p⟩
    have eH : Ex F1 H' := e'.trans g'.step.inn
    by_cases hlt : i < ds'.length
    · refine .inr ⟨Y.go i H' eH hlt, fun σ2 H2 => ∃ F2 k2, Bkt P w K pt F0 H0 l F2 H2 k2 ∧ Ex F1 F2 ∧ I (i + 1) σ2 k2, fun σ2 H2 ⟨F2, k2, a, b, c⟩ => ⟨ds'.length - (i + 1), by omega, rfl, hlt, F2, k2, a, b, c⟩, fun x H2 y => ?_⟩
      obtain ⟨rfl, d, hdd, hx⟩ := Y.yld i H' x H2 eH hlt y
      exact hs i d hdd σ' F' _ x k' p g' (s1.sub.trans e') (Rp.mono e' _ _ hx) _ fun σ2 F2 H2 k2 a b c => ⟨F2, k2, b, e'.trans c, a⟩
    · have hE : i = ds'.length := Nat.le_antisymm hil (Nat.le_of_not_lt hlt)
      subst hE
      exact .inl ⟨Y.stop H' eH, hd σ' F' H' k' p g' (s1.sub.trans e')⟩
theorem rows_le (ps : List (ORow × List Int)) : ∀ g ∈ byV ps, g.2.length ≤ ps.length := by
  have key : ∀ (ps : List (ORow × List Int)) gs k, (∀ g ∈ gs, g.2.length ≤ k) → ∀ g ∈ ps.foldl (fun gs p => addB gs p.1 p.2) gs, g.2.length ≤ k + ps.length := by
    intro ps
    induction ps with
    | nil => intro gs k h; exact h
    | cons p ps ih =>
      intro gs k h g hg
      rw [List.foldl_cons] at hg
      have := ih (addB gs p.1 p.2) (k + 1) (fun x hx => ?_) g hg
      · rw [List.length_cons]; omega
      · unfold addB at hx
        split at hx
        · obtain ⟨y, hy, rfl⟩ := List.mem_map.mp hx
          have := h y hy
          split
          · show (y.2 ++ [p.2]).length ≤ k + 1
            rw [List.length_append]; simp; omega
          · omega
        · rcases List.mem_append.mp hx with m | m
          · have := h x m; omega
          · rw [List.mem_singleton.mp m]; simp
  intro g hg
  have := key ps [] 0 (by simp) g hg
  omega
theorem byV_snoc (ps : List (ORow × List Int)) (p : ORow × List Int) : byV (ps ++ [p]) = addB (byV ps) p.1 p.2 := by
  unfold byV
  rw [List.foldl_append]; rfl
end
end KJ
namespace KJ
open PySem PySem.Spec PyProof.Rows L2 L2H Fv Evl StX
def rowsAt (gs : List (ORow × List (List Int))) (vw : ORow) : List (List Int) := ((gs.find? fun g => decide (g.1 = vw)).map (·.2)).getD []
theorem byV_keys (ps : List (ORow × List Int)) : ∀ g ∈ byV ps, ∃ p ∈ ps, p.1 = g.1 := by
  have key : ∀ (ps : List (ORow × List Int)) gs, ∀ g ∈ ps.foldl (fun gs p => addB gs p.1 p.2) gs, (∃ p ∈ ps, p.1 = g.1) ∨ ∃ h ∈ gs, h.1 = g.1 := by
    intro ps
    induction ps with
    | nil => intro gs g hg; exact .inr ⟨g, hg, rfl⟩
    | cons p ps ih =>
      intro gs g hg
      rw [List.foldl_cons] at hg
      rcases ih _ g hg with ⟨q, hq, e⟩ | ⟨h, hh, e⟩
      · exact .inl ⟨q, List.mem_cons_of_mem _ hq, e⟩
      · unfold addB at hh
        split at hh
        · obtain ⟨y, hy, ey⟩ := List.mem_map.mp hh
          refine .inr ⟨y, hy, ?_⟩
          rw [← e, ← ey]
          split <;> rfl
        · rcases List.mem_append.mp hh with m | m
          · exact .inr ⟨h, m, e⟩
          · rw [List.mem_singleton.mp m] at e
            exact .inl ⟨p, by simp, e⟩
  intro g hg
  rcases key ps [] g hg with h | ⟨h, hh, _⟩
  · exact h
  · cases hh
end KJ
namespace KJ
open PySem Fv L2
/-! ### the mathematics -/
/-! rows in order -/
/-! lots and views -/
/-! the lists by view -/
theorem rowsAt_add (gs : List (ORow × List (List Int))) (v vw : ORow) (r : List Int) : rowsAt (addB gs v r) vw = if v = vw then rowsAt gs vw ++ [r] else rowsAt gs vw := by
  unfold addB
  by_cases ha : (gs.any fun g => decide (g.1 = v)) = true
  · rw [if_pos ha]
    unfold rowsAt
    by_cases z : v = vw
    · subst z
      rw [if_pos rfl]
      induction gs with
      | nil => simp at ha
      | cons g gs ih =>
        rw [List.map_cons]
        by_cases y : g.1 = v
        · rw [List.find?_cons_of_pos (by simp [y]), List.find?_cons_of_pos (by simpa using y), if_pos y]; rfl
        · rw [List.find?_cons_of_neg (by simp [y]), List.find?_cons_of_neg (by simpa using y)]
          rw [List.any_cons, decide_eq_false y, Bool.false_or] at ha
          exact ih ha
    · rw [if_neg z]
      clear ha
      induction gs with
      | nil => rfl
      | cons g gs ih =>
        rw [List.map_cons]
        by_cases y : g.1 = vw
        · have ne : g.1 ≠ v := fun w => z (w.symm.trans y)
          rw [List.find?_cons_of_pos (by rw [if_neg ne]; simpa using y), List.find?_cons_of_pos (by simpa using y), if_neg ne]
        · have : ¬ decide ((if g.1 = v then (g.1, g.2 ++ [r]) else g).1 = vw) = true := by
            by_cases x : g.1 = v
            · rw [if_pos x]; simpa using y
            · rw [if_neg x]; simpa using y
          rw [List.find?_cons_of_neg (p := fun g : ORow × List (List Int) => decide (g.1 = vw)) this, List.find?_cons_of_neg (p := fun g : ORow × List (List Int) => decide (g.1 = vw)) (by simpa using y)]
          exact ih
  · rw [if_neg ha]
    unfold rowsAt
    rw [List.find?_append]
    by_cases z : v = vw
    · subst z
      rw [if_pos rfl]
      have : gs.find? (fun g => decide (g.1 = v)) = none := by
        rw [List.find?_eq_none]
        intro x hx y
        exact ha (List.any_eq_true.mpr ⟨x, hx, y⟩)
      rw [this]
      simp
    · rw [if_neg z]
      have : [(v, [r])].find? (fun g : ORow × List (List Int) => decide (g.1 = vw)) = none := by simp [z]
      rw [this, Option.or_none]
theorem rowsAt_byV (ps : List (ORow × List Int)) (vw : ORow) : rowsAt (byV ps) vw = (ps.filter fun p => decide (p.1 = vw)).map (·.2) := by
  have key : ∀ (ps : List (ORow × List Int)) gs, rowsAt (ps.foldl (fun gs p => addB gs p.1 p.2) gs) vw = rowsAt gs vw ++ (ps.filter fun p => decide (p.1 = vw)).map (·.2) := by
    intro ps
    induction ps with
    | nil => intro gs; simp
    | cons p ps ih =>
      intro gs
      rw [List.foldl_cons, ih, rowsAt_add]
      by_cases z : p.1 = vw
      · rw [if_pos z, List.filter_cons_of_pos (by simpa using z), List.map_cons, List.append_assoc]; rfl
      · rw [if_neg z, List.filter_cons_of_neg (by simpa using z)]
  have := key ps []
  exact this
theorem keys_byV (ps : List (ORow × List Int)) (vw : ORow) : vw ∈ (byV ps).map (·.1) ↔ ∃ p ∈ ps, p.1 = vw := by
  constructor
  · intro h
    obtain ⟨g, hg, rfl⟩ := List.mem_map.mp h
    exact byV_keys ps g hg
  · rintro ⟨p, hp, rfl⟩
    have h1 : rowsAt (byV ps) p.1 ≠ [] := by
      rw [rowsAt_byV]
      have : p.2 ∈ (ps.filter fun q => decide (q.1 = p.1)).map (·.2) := List.mem_map.mpr ⟨p, List.mem_filter.mpr ⟨hp, by simp⟩, rfl⟩
      intro z
      rw [z] at this; cases this
    unfold rowsAt at h1
    cases w : (byV ps).find? (fun g => decide (g.1 = p.1)) with
    | none => rw [w] at h1; exact absurd rfl h1
    | some g =>
      have := List.find?_some w
      exact List.mem_map.mpr ⟨g, List.mem_of_find?_eq_some w, by simpa using this⟩
/-! all views, in order -/
end KJ
/-! the values of a dict whose keys are data, walked -/
namespace Fv
open PySem PySem.Spec PyProof.Rows L2 L2H Evl StX
theorem DNo.vals {P : Program} {w : World} {o : Obj} {xs : List NEnt} (h : DNo P w o xs) : ∃ es ep, o.data = .dict es ep ∧ es.size = xs.length ∧ ∀ (i : Nat) (e : NEnt), xs[i]? = some e → ∃ en : DictEntry, es[i]? = some en ∧ RelV e.2.2 en.val := by
  obtain ⟨_, _, _, es, ep, ys, h1, h2, h3⟩ := h
  refine ⟨es, ep, h1, ?_, fun i e he => ?_⟩
  · have := size_of_entries h2
    rw [this, h3.length]
  · obtain ⟨y, hy, e1⟩ := paired_get h3 he
    have q := entry_at h2 i
    rw [hy] at q
    exact ⟨_, q, e1.2.2⟩
/-- the values, in order -/
def Itvn (P : Program) (w : World) (d : Addr) (o : Obj) (xs : List NEnt) : It :=
  ⟨fun i H => H d = some (rawO d o) ∧ i < xs.length, fun i H x H' => H' = H ∧ ∃ e, xs[i]? = some e ∧ x = e.2.2, fun i H => H d = some (rawO d o) ∧ xs.length ≤ i⟩
theorem turn_valsN {P : Program} {w : World} {K : PySem.W.Frag} {tg : Expr} {d : Addr} {o : Obj} {xs : List NEnt} {es : Array DictEntry} {ep : Nat} (dn : DNo P w o xs) (it : Addr) (hod : o.data = .dict es ep) : Turn P w K tg (Itvn P w d o xs) [it] it (fun i h => h.IsValIter it d i xs.length ep) where
  mem := by simp
  obj := fun i h st b hb => by
    have e : b = it := by simpa using hb
    subst e
    obtain ⟨oi, e, c, dd⟩ := st
    exact ⟨oi, e, fun v z => by rw [dd] at z; cases z⟩
  keep := fun i h h' st k => st.at fun oi e => k it (by simp) oi e
  item := by
    intro X hP hw hK hc i pins s σ H E I hf st hg
    subst hP hw hK
    obtain ⟨hd, hi⟩ := hg
    obtain ⟨f0, f1, f2, f3, f4, f5⟩ := hf it (by simp)
    obtain ⟨es', ep', hdt, hsz, ent⟩ := dn.vals
    obtain ⟨rfl, rfl⟩ := dict_ep hod hdt
    have hgd : s.heap.get? d = some o := (show ObjOk X.prog X.w H s.heap d (rawO d o) from I.hok d _ hd).1
    obtain ⟨e0, he0⟩ : ∃ p, xs[i]? = some p := ⟨xs[i], List.getElem?_eq_getElem hi⟩
    obtain ⟨en, hen, hval⟩ := ent i e0 he0
    have hlt : i < es'.size := by rw [hsz]; exact hi
    have hen2 : es'[i] = en := by
      rw [Array.getElem?_eq_getElem hlt] at hen
      exact Option.some.inj hen
    rw [← hsz] at st
    refine wpAny_pyNext_values_item_raw st ⟨o, hgd, dn.1, hdt⟩ hlt fun h' st' sb => ?_
    have I1 : Inv X pins σ H { s with heap := h' } := I.turned (t' := s.toks) (fun b ob hb e => (sb.2 b hb).trans e) f0 f1 f3 f4 f5
    obtain ⟨oi, e, c, dd⟩ := id st'
    refine ⟨es'[i].val, rfl, go_of (s := { s with heap := h' }) e c dd (by decide) ⟨e0.2.2, H, I1, by rw [hen2]; exact hval, ⟨rfl, e0, he0, rfl⟩, ?_, fun b hb => (hf b hb).1⟩⟩
    show h'.IsValIter it d (i + 1) xs.length _
    rw [← hsz]; exact st'
  done := by
    intro X hP hw hK hc i pins s σ H E I hf st hg
    subst hP hw hK
    obtain ⟨hd, hi⟩ := hg
    obtain ⟨f0, f1, f2, f3, f4, f5⟩ := hf it (by simp)
    obtain ⟨es', ep', hdt, hsz, ent⟩ := dn.vals
    obtain ⟨rfl, rfl⟩ := dict_ep hod hdt
    have hgd : s.heap.get? d = some o := (show ObjOk X.prog X.w H s.heap d (rawO d o) from I.hok d _ hd).1
    rw [← hsz] at st
    exact wpAny_pyNext_values_end_raw (I.ok.hd hc) st ⟨o, hgd, dn.1, hdt⟩ (by rw [hsz]; exact hi) fun h' eb => ⟨rfl, I.turned (t' := s.toks) (fun b ob hb e => eb b ob hb e) f0 f1 f3 f4 f5⟩
  self := fun A i s Q E st h => wpAny_pyIter_valiter st h
def iValsN (P : Program) (w : World) (td : TE) : TI := fun σ H R => td σ H fun x H1 => ∃ d o xs, x = .ref d ∧ (d == sysModules) = false ∧ H1 d = some (rawO d o) ∧ DNo P w o xs ∧ R (Itvn P w d o xs) H1
section
variable {X : Cx} {P : Program} {w : World}
theorem pi_valsN {tg e : Expr} {td : TE} {apos cpos : Pos} (he : PE X e td) (hp : X.prog = P := by rfl) (hw : X.w = w := by rfl) (hbase : attributeBase e "values" X.env (eval e X.env) = eval e X.env := by rfl) (hline : (apos.endLine == cpos.line) = true := by rfl) : PI X tg (.Call (.Attribute e "values" apos) [] [] cpos) (iValsN P w td) := by
  subst hp; subst hw
  refine ⟨fun pins s σ H R I h => ?_⟩
  refine wpAny_Call_method (T := "dict") (id := "dict.values") hbase rfl hline F.plainAttrs_dict F.slot_dict_values F.type_dict_values (thn (he.run pins s σ H _ I h) fun u s1 ⟨x, H1, I1, rx, d, o, xs, ex, low, hd, dn, q⟩ => ?_)
  subst ex
  obtain rfl : u = Value.ref d := rx
  have hgd : s1.heap.get? d = some o := (show ObjOk X.prog X.w H1 s1.heap d (rawO d o) from I1.hok d _ hd).1
  obtain ⟨es, ep, hdt, hsz, ent⟩ := dn.vals
  have hm : s1.heap.DictRaw d es ep := ⟨o, hgd, dn.1, hdt⟩
  refine ⟨hm.typeIs, fun a z => (by cases z; exact ⟨o, hgd, dn.1.2.1⟩), ?_⟩
  have I2 : Inv X pins σ H1 { s1 with heap := s1.heap.push { cls := .type "dict_values", data := .fields #[.ref d] } } := I1.kept (t' := s1.toks) fun b ob q => Heap.get?_push_of_some _ q
  have fin : wpAny (model X.prog X.w) X.A (pyIter (.ref s1.heap.objs.size)) (PIE X pins σ tg R) X.xe { s1 with heap := s1.heap.push { cls := .type "dict_values", data := .fields #[.ref d] } } := by
    refine wpAny_pyIter_values_raw (d := d) ⟨_, Heap.get?_push_size _ rfl, rfl, rfl⟩ (hm.at fun o e => Heap.get?_push_of_some _ e) (pi_one (tk := s1.toks) I2 _ (turn_valsN dn _ hdt) ⟨_, Heap.get?_push_size _ rfl, rfl, ?_⟩ q)
    rw [← hsz] <;> rfl
  show wpAny _ _ (callWith cpos (.builtin "dict.values") [.ref d] [] []) _ X.xe s1
  exact method_meetsIn F.slot_dict_values F.entry_dict_values rfl (PySem.evalArgs_none ⟨rfl, hm.typeIs, F.args_dict_values_1 _, _, meets_dict_values_raw d low, ⟨es, ep, hm⟩, fin⟩)
end
section
variable {K : PySem.W.Frag} {P : Program} {w : World} {pt : Option Pt} {σ : L2.St} {F : Hp} {td : TE}
/-- the values, lists of data -/
theorem w_valsN {ds : List PyData} (h : EvX pt td σ F (fun v F2 => ∃ D xs, v = .ref D ∧ ND P w K F2 D xs ∧ RpAll K F2 (xs.map (·.2.2)) ds)) : WiG K pt (iValsN P w td) σ F (· = ds) := fun H1 e g RR q =>
  h H1 e g _ fun v F2 H2 ⟨D, xs, hv, nd, hk⟩ s => by
    obtain ⟨o, h1, h2⟩ := nd.ex
    have hl : xs.length = ds.length := by have := hk.length; rwa [List.length_map] at this
    refine ⟨D, o, xs, hv, nd.low, s.inn _ _ h1, h2, q ds _ F2 H2 rfl s ⟨fun i H e hi => ⟨e _ _ h1, by omega⟩, fun H e => ⟨e _ _ h1, by omega⟩, fun i H x H' e hi y => ⟨y.1, ?_⟩⟩⟩
    obtain ⟨en, he, hx⟩ := y.2
    rw [hx]
    exact hk.get (by rw [List.getElem?_map, he]; rfl)
end
end Fv
/-! dicts whose keys are data: what is popped out of them -/
namespace Fv
open PySem PySem.Spec PyProof.Rows L2 L2H Evl StX
section
variable {X : Cx} {P : Program} {w : World} {K : PySem.W.Frag} {pt : Option Pt} {σ : L2.St} {F H F0 H0 F2 H2 : Hp} {l : Addr} {xs : List NEnt} {te tm ty : TE} {D : Ends} {tz : TS}
def delN (xs : List NEnt) (k : NK) : List NEnt := xs.filter fun x => decide (x.1 ≠ k)
theorem NPair.del {xs : List NEnt} {ys : List (NK × Addr × Value)} (h : NPair xs ys) (k : NK) : NPair (delN xs k) (withoutH ys k) := by
  induction h with
  | nil => exact .nil
  | cons h1 h2 ih =>
    unfold delN withoutH
    rw [List.filter_cons, List.filter_cons, h1.1]
    split
    · exact .cons h1 ih
    · exact ih
end
end Fv
/-! walking a list or a tuple, not known which; len(set(row)) -/
namespace Fv
open PySem PySem.Spec PyProof.Rows L2 L2H Evl StX
def iSeq (K : PySem.W.Frag) (tl : TE) : TI := fun σ H R => tl σ H fun x H1 => ∃ a, x = .ref a ∧ ((∃ xs, SqL K H1 a xs) ∧ R (Itl K a) H1 ∨ (∃ xs, SqT K H1 a xs) ∧ R (Itt K a) H1)
theorem pi_seq {X : Cx} {K : PySem.W.Frag} {tg l : Expr} {tl : TE} (hl : PE X l tl) (h : X.K = K := by rfl) : PI X tg l (iSeq K tl) := by
  subst h
  constructor
  intro pins s σ H R I ht
  refine thn (hl.run pins s σ H _ I ht) ?_
  rintro v s1 ⟨x, H1, I1, r1, a, rfl, z⟩
  cases r1
  have one : ∀ b ∈ [s1.heap.objs.size], FpOk X pins H1 b := fun b hb => by
    obtain rfl := List.mem_singleton.mp hb
    exact I1.fpOk (Nat.le_refl _) (I1.hok.fresh (Nat.le_refl _))
  rcases z with ⟨⟨xs, hq⟩, q⟩ | ⟨⟨xs, hq⟩, q⟩
  · obtain ⟨its, rv, p, hz⟩ := I1.list hq
    exact wpAny_pyIter_list p.isList ⟨_, [s1.heap.objs.size], _, _, H1, rfl, I1.kept (t' := s1.toks) fun b o e => Heap.get?_push_of_some _ e, turn_list a _, ⟨_, Heap.get?_push_size _ rfl, rfl, rfl⟩, one, q⟩
  · obtain ⟨its, rv, p, hz⟩ := I1.tuple hq
    exact wpAny_pyIter_tuple (show s1.heap.IsTuple a its.toArray from p) ⟨_, [s1.heap.objs.size], _, _, H1, rfl, I1.kept (t' := s1.toks) fun b o e => Heap.get?_push_of_some _ e, turn_tuple a _, ⟨_, Heap.get?_push_size _ rfl, rfl, rfl⟩, one, q⟩
section
variable {K : PySem.W.Frag} {w : World} {pt : Option Pt} {σ : L2.St} {F F' : Hp} {te : TE}
theorem w_seqI {d : PyData} {ds : List PyData} (hd : d = .list ds ∨ d = .tuple ds) (h : EvG K pt te σ F (Is d)) : WiG K pt (iSeq K te) σ F (· = ds) := fun H1 i g RR q =>
  h H1 i g _ fun d' v F2 H2 hd' s hv => by
    subst hd'
    rcases hd with rfl | rfl
    · obtain ⟨a, xs, rfl, hl, ha⟩ := rp_lst hv
      refine ⟨a, rfl, .inl ⟨⟨xs, sq_of (s.inn _ _ hl)⟩, q ds _ F2 H2 rfl s ⟨fun i H e hi => ?_, fun H e => ⟨xs, sq_of (e _ _ hl), Nat.le_of_eq ha.length⟩, fun i H x H' e hi y => ⟨y.1, ha.get (y.2 xs (sq_of (e _ _ hl)))⟩⟩⟩⟩
      have hi' : i < xs.length := by rw [ha.length]; exact hi
      exact ⟨xs, xs[i], sq_of (e _ _ hl), List.getElem?_eq_getElem hi'⟩
    · obtain ⟨a, xs, rfl, hl, ha⟩ := rp_tup hv
      refine ⟨a, rfl, .inr ⟨⟨xs, tx s.inn hl⟩, q ds _ F2 H2 rfl s ⟨fun i H e hi => ?_, fun H e => ⟨xs, tx e hl, Nat.le_of_eq ha.length⟩, fun i H x H' e hi y => ⟨y.1, ha.get (y.2 xs (tx e hl))⟩⟩⟩⟩
      have hi' : i < xs.length := by rw [ha.length]; exact hi
      exact ⟨xs, xs[i], tx e hl, List.getElem?_eq_getElem hi'⟩
end
end Fv
namespace KJ
open PySem PySem.Spec PyProof.Rows L2 L2H Fv Evl StX
abbrev s_check_meeting : Stmt := topS 28
theorem sc_check_meeting : FnScope ["book", "falls"] ["book", "falls"] (defScope s_check_meeting) := ⟨rfl, rfl, rfl, by decide +kernel, rfl, by decide +kernel, by decide +kernel⟩
abbrev s_is_split : Stmt := topS 29
theorem sc_is_split : FnScope ["falls", "manner"] ["falls", "manner"] (defScope s_is_split) := ⟨rfl, rfl, rfl, by decide +kernel, rfl, by decide +kernel, by decide +kernel⟩
abbrev s_inputs_by_view : Stmt := topS 30
theorem sc_inputs_by_view : FnScope ["book", "lot", "shown", "house", "found", "entry"] ["book", "lot"] (defScope s_inputs_by_view) := ⟨rfl, rfl, rfl, by decide +kernel, rfl, by decide +kernel, by decide +kernel⟩
abbrev s_circles : Stmt := topS 32
theorem sc_circles : FnScope ["book", "falls", "manner", "lot", "inputs"] ["book", "falls", "manner"] (defScope s_circles) := ⟨rfl, rfl, rfl, by decide +kernel, rfl, by decide +kernel, by decide +kernel⟩
/-- the couples of a book: each input at its view -/
def couplesAt (n : Nat) (lot : List Int) (R : List (List Int)) : List (ORow × List Int) := R.map fun r => (shownV r (coN n lot), r)
/-- the circles of one lot -/
def circleAt (n : Nat) (R : List (List Int)) (lot : List Int) : List (List (List Int)) := (byV (couplesAt n lot R)).map (·.2)
def circlesOf (n : Nat) (L R : List (List Int)) : List (List (List Int)) := L.flatMap (circleAt n R)
def splitOf (mn : Str) (n : Nat) (ls : List (List Int)) : Bool := decide (mn = ("letters" : Str)) && (coverOf n (famLots n ls)).isSome
def circD (sp : Bool) (R : List (List Int)) (cs : List (List (List Int))) : PyData := .list (if sp = true then [dTT R] else cs.map dLT)
section
variable {P : Program} {w : World} {K : PySem.W.Frag} {mg : Str → Option Value} {base : Heap} {CB CL tM : Addr}
variable {pt : Option Pt} {σ : L2.St} {F F' F0 H0 H F2 H2 : Hp} {te ta tb ty td : TE} {ts tr : TA} {t : TT} {D : Ends} {tz tu tw : TS} {l : Addr} {es : List BE}
theorem rv_eqS {x y : Str} : RvG K rEq (.str x) (.str y) (Is (.bool (decide (x = y)))) := rv_val fun F H a b _ ha hb => by
  rw [rp_str ha, rp_str hb]
  refine ⟨.bl (decide (V.str x = V.str y)), fun Q q => ⟨rfl, q⟩, ?_⟩
  have : decide (V.str x = V.str y) = decide (x = y) := by by_cases h : x = y <;> simp [h]
  rw [this]; exact .bl _
theorem isNone_cover (o : Option (List Int × List Int)) : isNone (coverD o) = o.isNone := by cases o <;> rfl
def spMeet (K : PySem.W.Frag) (CB CL : Addr) : Sp := fun vs H Q _ => ∃ (x z : Addr) (n m : Nat) (R ls : List (List Int)) (F : Hp), vs = [.ref x, .ref z] ∧ Ex F H ∧ Bk K CB F x n m R ∧ Fam K CL F z n ls ∧ ∀ F2 H2, Step none F H F2 H2 → Q .non H2
theorem ok_meet {f : Addr} {fd : FuncData} (Fn : Fun K "check_meeting" "check_meeting" s_check_meeting f fd) (BC : BookC K CB) (LC : FallsC K CL) : FnOk P w K mg base CX0 1 f fd ["book", "falls"] (spMeet K CB CL) := by
  refine Fn.ok sc_check_meeting (fun vs H Q E ⟨_, _, _, _, _, _, _, h, _⟩ => by rw [h]; rfl) (fun cdv A outer s H vs Q E hr h => ?_)
  obtain ⟨x, z, n, m, R, ls, F, rfl, e, bk, fam, q⟩ := h
  obtain ⟨dx, it, dl, o1, o2, o3, o4⟩ := bk.ex
  obtain ⟨dz, lt, dd, p1, p2, p3, p4⟩ := fam.ex
  refine ⟨_, (pss_one (ps_if (pt_cmpR op_ne (e_fld (K := K) (pv 0) rfl) (e_fld (K := K) (pv 1) rfl) (nomark _)) (pss_one ps_never) pss_nil)), ?_⟩
  exact t_if1 (b := false) (Step.refl e .nil) ((et_of (K := K) (g_opI (g_fld (K := K) rfl o1 BC.cl BC.nN rfl (.int _)) (g_fld (K := K) rfl p1 LC.cl LC.nN rfl (.int _)) rv_neI)).is (by simp)) (fun z => by cases z) fun _ F2 H2 s2 e2 => q F2 H2 s2
def spSplit (K : PySem.W.Frag) (CL : Addr) : Sp := fun vs H Q _ => ∃ (z : Addr) (n : Nat) (mn : Str) (ls : List (List Int)) (F : Hp), vs = [.ref z, .str mn] ∧ (n ≤ 5 ∧ mn ∈ mans) ∧ Ex F H ∧ Fam K CL F z n ls ∧ ∀ v F2 H2, Step none F H F2 H2 → Rp K F2 v (.bool (splitOf mn n ls)) → Q v H2
theorem ok_split {f fM fC pC : Addr} {fd fdM fdC : FuncData} (Fn : Fun K "is_split" "is_split" s_is_split f fd) (T : Tx mg) (LC : FallsC K CL)
    (F_check_manner : Fun K "check_manner" "check_manner" s_check_manner fM fdM) (b_check_manner : Binds K fdM ["manner"] []) (g_check_manner : mg "check_manner" = some (.ref fM)) (G_check_manner : FnOk P w K mg base CX0 1 fM fdM ["manner"] (spMan K))
    (p_covering : PropOf K CL "covering" pC fC) (b_covering : Binds K fdC ["self"] []) (G_covering : FnOk P w K mg base CX0 2 fC fdC ["self"] (spCover K CL)) : FnOk P w K mg base CX0 4 f fd ["falls", "manner"] (spSplit K CL) := by
  refine Fn.ok sc_is_split (fun vs H Q E ⟨_, _, _, _, _, h, _⟩ => by rw [h]; rfl) (fun cdv A outer s H vs Q E hr h => ?_)
  obtain ⟨z, n, mn, ls, F, rfl, ⟨n5, hm⟩, e, fam, q⟩ := h
  obtain ⟨dz, lt, dd, p1, p2, p3, p4⟩ := id fam.ex
  refine ⟨_, (pss_cons (ps_expr (pe_call G_check_manner (hr.mono (by decide)) (by rfl) g_check_manner F_check_manner.kp b_check_manner .nil pass0 (pa_cons (pv 1) pa_nil)))
    (pss_one (ps_ret (pe_and (pe_cmpR op_eq (pv 1) pe_str (nomark _)) (pe_one (pe_cmpR op_notN (pe_prop (pv 0) LC.cl p_covering G_covering (hr.mono (by decide)) b_covering .nil pass0 rfl) pe_non (nomark _))))))), ?_⟩
  refine g_call mn (gs_one (g_var (v := .str mn) (σ := [some (.ref z), some (.str mn)]) (i := 1) rfl (.str _))) rfl hm H e .nil _ fun d u F1 H1 hd s1 hu => ?_
  have e1 := s1.sub
  dsimp only
  refine t_retI (K := K) s1 ((g_andV (a := decide (mn = "letters")) (b := (coverOf n (famLots n ls)).isSome) (g_opI (g_var (v := .str mn) (i := 1) rfl (.str _)) g_str rv_eqS) fun _ => (g_opI (g_propD (i := 0) rfl (e1 _ _ p1) fun F2 H2 e2 i2 Q' q' => ⟨z, n, ls, (), F2, [], rfl, n5, trivial, i2, fam.mono (e1.trans e2), .nil, q'⟩) g_non rv_notN).is (by rw [isNone_cover]; cases coverOf n (famLots n ls) <;> rfl))) q
def spBy (P : Program) (w : World) (K : PySem.W.Frag) (CB : Addr) : Sp := fun vs H Q _ => ∃ (x : Addr) (n m : Nat) (R : List (List Int)) (lot : List Int) (F : Hp) (v : V), vs = [.ref x, v] ∧ (n ≤ 5 ∧ R.length ≤ 300 ∧ ∀ r ∈ R, r.length = n) ∧ Ex F H ∧ Bk K CB F x n m R ∧ Rp K F v (dT lot) ∧
  ∀ D F2 H2, Step none F H F2 H2 → Byv P w K F2 D (byV (couplesAt n lot R)) → Q (.ref D) H2
theorem ok_by {f fS : Addr} {fd fdS : FuncData} (Fn : Fun K "inputs_by_view" "inputs_by_view" s_inputs_by_view f fd) (T : Tx mg) (BC : BookC K CB)
    (F_shown_view : Fun K "shown_view" "shown_view" s_shown_view fS fdS) (b_shown_view : Binds K fdS ["entry", "lot"] []) (g_shown_view : mg "shown_view" = some (.ref fS)) :
    FnOk P w K mg base CX0 2 f fd ["book", "lot"] (spBy P w K CB) := by
  have G_shown_view : FnOk P w K mg base CX0 1 fS fdS ["entry", "lot"] (spShown K) := ok_shown F_shown_view T
  refine Fn.ok sc_inputs_by_view (fun vs H Q E ⟨_, _, _, _, _, _, _, h, _⟩ => by rw [h]; rfl) (fun cdv A outer s H vs Q E hr h => ?_)
  obtain ⟨x, n, m, R, lot, F, v, rfl, ⟨n5, hR, hlen⟩, e, bk, hv, q⟩ := h
  obtain ⟨dx, it, dd, o1, o2, o3, o4⟩ := bk.ex
  refine ⟨_, (pss_cons (ps_setLc (i := 2) (own := [("house", 3)]) (g := gName 3) rfl sc_inputs_by_view.nd rfl rfl (sw_true rfl rfl rfl (by decide +kernel)) (pi_range1 (by rfl) T.range (pa_cons (e_fld (K := K) (pv 0) rfl) pa_nil)) (blkOk_by (own := [("house", 3)]) (N := ["book", "lot", "shown", "house", "found", "entry"]) (sc := (defScope s_inputs_by_view)) (by decide +kernel)) (fun _ _ _ _ _ => pg_name (i := 3) sc_inputs_by_view.nd rfl (by first | exact Or.inl rfl | exact Or.inr rfl)) (fun _ _ _ _ _ => (pts_one (pt_cmpR (o_notIn (K := K)) (pv 3) (pv 1) (by rfl)))) (fun _ _ _ _ _ => (pv 3)))
    (pss_cons (ps_set (i := 4) sc_inputs_by_view.nd rfl (by first | exact Or.inl rfl | exact Or.inr rfl) (pe_dnewN (P := P) (w := w)))
    (pss_cons (ps_for PassesOwn.never rfl (i_tup (K := K) (e_fld (K := K) (pv 0) rfl)) (pg_name (i := 5) sc_inputs_by_view.nd rfl (by first | exact Or.inl rfl | exact Or.inr rfl)) (pss_one (ps_expr (pe_bm PySem.F.plainAttrs_list PySem.F.slot_list_append PySem.F.type_list_append mt_append (pe_bmN PySem.F.plainAttrs_dict PySem.F.slot_dict_setdefault PySem.F.type_dict_setdefault (mt_sdN (K := K) (P := P) (w := w) (hu65 hr)) (pv 4) (pa_cons (pe_call G_shown_view (hr.mono (by decide)) (by rfl) g_shown_view F_shown_view.kp b_shown_view .nil pass0 (pa_cons (pv 5) (pa_cons (pv 2) pa_nil))) (pa_cons (pe_lst pa_nil) pa_nil))) (pa_cons (pv 5) pa_nil)))))
    (pss_one (ps_ret (pv 4)))))), ?_⟩
  have g0 : Good none F H := .nil
  refine t_asgI (K := K) (d := dI (coN n lot)) (Step.refl e .nil) (g_lcE PyData.int (hs n) (fun h => !decide (h ∈ lot)) PyData.int ?_ (by rw [hs_len]; omega) (fun _ => rfl) (fun h _ F' e' u hu => et_of (K := K) (g_opI (g_var rfl hu) (g_var (i := 1) rfl (Rp.mono e' _ _ hv)) rv_ninT)) (fun h _ _ F' e' u hu => g_var rfl hu)) fun lv F1 H1 s1 e1 hlv => ?_
  · have := w_rng1I (K := K) (pt := none) (F := F) (n := (n : Int)) (gs_one (g_fld (σ := start ["book", "lot", "shown", "house", "found", "entry"] [.ref x, v]) (i := 0) rfl o1 BC.cl BC.nN rfl (.int _))) (by omega) (by omega)
    rw [show (n : Int).toNat = n by omega, rng_hs] at this
    exact this
  refine t_newN (K := K) s1 fun l H2 hl hl0 gN => ?_
  have gB : Bkt P w K none F H l F1 H2 [] := ⟨gN.step, gN.off, gN.low, gN.ex, (fun e he => by cases he), (fun e he => by cases he), List.nodup_nil⟩
  refine t_forB (K := K) (ds := R.map dT) g0 hl0 gB (w_tupI (g_fld (K := K) rfl (e1 _ _ o1) BC.cl BC.nI rfl (Rp.mono e1 _ _ o3))) (fun i σ' k' => (∃ a b, σ' = [some (.ref x), some v, some lv, a, some (.ref l), b]) ∧ k'.map pureB = byV (couplesAt n lot (R.take i))) ⟨⟨_, _, rfl⟩, rfl⟩ (fun i d hd σ' F' H' u k' hI g' e' hu N hN => ?_) (fun σ' F' H' k' hI g' e' => ?_)
  · obtain ⟨⟨a, b, rfl⟩, hk⟩ := hI
    obtain ⟨r, hr2, rfl⟩ := get_map hd
    have hil : i < R.length := (List.getElem?_eq_some_iff.mp hr2).1
    have hrl := hlen r (List.mem_of_getElem? hr2)
    have tot : (couplesAt n lot (R.take i)).length ≤ 300 := by unfold couplesAt; rw [List.length_map, List.length_take]; omega
    have kl : k'.length ≤ 300 := by
      have h1 := congrArg List.length hk
      have h2 := byV_len (couplesAt n lot (R.take i))
      rw [List.length_map] at h1; omega
    refine t_bkt (K := K) (vw := shownV r (coN n lot)) (r := r) g0 hl0 g' rfl rfl hu (by omega) (fun e he => ?_) (g_call (r, coN n lot) (gs_two (g_var rfl hu) (g_var (i := 2) rfl (Rp.mono e' _ _ hlv))) rfl (by show r.length ≤ 100; omega)) fun F3 H3 k3 hk3 g3 e3 => hN _ F3 H3 k3 ⟨⟨_, _, rfl⟩, ?_⟩ g3 e3
    · have h1 : pureB e ∈ byV (couplesAt n lot (R.take i)) := by rw [← hk]; exact List.mem_map.mpr ⟨e, he, rfl⟩
      have h2 := rows_le _ _ h1
      show e.2.1.length < 50000
      have h3 : (pureB e).2.length = e.2.1.length := rfl
      omega
    · rw [hk3, hk, take_succA hr2]
      unfold couplesAt
      rw [List.map_append]
      exact (byV_snoc _ (shownV r (coN n lot), r)).symm
  · obtain ⟨⟨a, b, rfl⟩, hk⟩ := hI
    rw [List.length_map, List.take_length] at hk
    obtain ⟨F2, s2, e2, bv⟩ := g'.done g0 hl0
    rw [hk] at bv
    exact ⟨_, rfl, q l F2 H' s2 bv⟩
/-- the values of such a dict -/
theorem Byv.vals {D : Addr} {gs : List (ORow × List (List Int))} (h : Byv P w K F D gs) : ∃ xs, ND P w K F D xs ∧ RpAll K F (xs.map (·.2.2)) ((gs.map (·.2)).map dLT) := by
  obtain ⟨es, h1, h2, h3⟩ := h
  refine ⟨_, h2, ?_⟩
  rw [← h1]
  clear h1 h2
  induction es with
  | nil => exact .nil
  | cons e es ih => exact .cons (h3 e (by simp)).2 (ih fun x hx => h3 x (List.mem_cons_of_mem _ hx))
def spCirc (P : Program) (w : World) (K : PySem.W.Frag) (CB CL : Addr) : Sp := fun vs H Q _ => ∃ (x z : Addr) (n m : Nat) (mn : Str) (R ls : List (List Int)) (F : Hp), vs = [.ref x, .ref z, .str mn] ∧ (n ≤ 5 ∧ mn ∈ mans ∧ R.length ≤ 300 ∧ ∀ r ∈ R, r.length = n) ∧ Ex F H ∧ Bk K CB F x n m R ∧ Fam K CL F z n ls ∧
  ∀ v F2 H2, Step none F H F2 H2 → Rp K F2 v (circD (splitOf mn n ls) R (circlesOf n (famLots n ls) R)) → Q v H2
theorem ok_circ {f fS fB : Addr} {fd fdS fdB : FuncData} (Fn : Fun K "_circles" "_circles" s_circles f fd) (T : Tx mg) (BC : BookC K CB) (LC : FallsC K CL)
    (F_is_split : Fun K "is_split" "is_split" s_is_split fS fdS) (b_is_split : Binds K fdS ["falls", "manner"] []) (g_is_split : mg "is_split" = some (.ref fS)) (G_is_split : FnOk P w K mg base CX0 4 fS fdS ["falls", "manner"] (spSplit K CL))
    (F_inputs_by_view : Fun K "inputs_by_view" "inputs_by_view" s_inputs_by_view fB fdB) (b_inputs_by_view : Binds K fdB ["book", "lot"] []) (g_inputs_by_view : mg "inputs_by_view" = some (.ref fB)) (G_inputs_by_view : FnOk P w K mg base CX0 2 fB fdB ["book", "lot"] (spBy P w K CB)) :
    FnOk P w K mg base CX0 5 f fd ["book", "falls", "manner"] (spCirc P w K CB CL) := by
  refine Fn.ok sc_circles (fun vs H Q E ⟨_, _, _, _, _, _, _, _, h, _⟩ => by rw [h]; rfl) (fun cdv A outer s H vs Q E hr h => ?_)
  obtain ⟨x, z, n, m, mn, R, ls, F, rfl, ⟨n5, hm, hR, hlen⟩, e, bk, fam, q⟩ := h
  obtain ⟨dx, it, dl, o1, o2, o3, o4⟩ := id bk.ex
  obtain ⟨dz, lt, dd, p1, p2, p3, p4⟩ := id fam.ex
  refine ⟨_, (pss_cons (ps_if (pt_val (pe_call G_is_split (hr.mono (by decide)) (by rfl) g_is_split F_is_split.kp b_is_split .nil pass0 (pa_cons (pv 1) (pa_cons (pv 2) pa_nil)))) (pss_one (ps_ret (pe_lst (pa_cons (e_fld (K := K) (pv 0) rfl) pa_nil)))) pss_nil)
    (pss_one (ps_ret (pe_lc2 (own := [("lot", 3), ("inputs", 4)]) (vs1 := [4]) (g := gName 3) (g1 := gName 4) rfl sc_circles.nd (i_tup (K := K) (e_fld (K := K) (pv 1) rfl)) (blkOk_by (own := [("lot", 3), ("inputs", 4)]) (N := ["book", "falls", "manner", "lot", "inputs"]) (sc := (defScope s_circles)) (by decide +kernel)) (by decide) (fun _ _ _ _ _ => pg_name (i := 3) sc_circles.nd rfl (by first | exact Or.inl rfl | exact Or.inr rfl)) (fun _ _ _ _ _ => pts_nil) (fun _ _ _ _ _ => (pi_valsN (P := P) (w := w) (pe_call G_inputs_by_view (hr.mono (by decide)) (by rfl) g_inputs_by_view F_inputs_by_view.kp b_inputs_by_view .nil pass0 (pa_cons (pv 0) (pa_cons (pv 3) pa_nil))))) (fun _ _ _ _ _ => pg_name (i := 4) sc_circles.nd rfl (by first | exact Or.inl rfl | exact Or.inr rfl)) (fun _ _ _ _ _ => pts_nil) (fun _ _ _ _ _ => (pv 4)))))), ?_⟩
  refine t_when (b := splitOf mn n ls) (Step.refl e .nil) (et_B (K := K) fun H1 i g Q1 q1 => ⟨_, rfl, _, rfl, z, n, mn, ls, F, rfl, ⟨n5, hm⟩, i, fam, fun v F2 H2 s hv => q1 _ v F2 H2 rfl (s.lift g) hv⟩) (fun hb F2 H2 s2 e2 => ?_) fun hb F2 H2 s2 e2 => ?_
  · unfold circD at q
    rw [hb, if_pos rfl] at q
    exact t_retI (K := K) s2 (g_lstI (gs_one (g_fld (K := K) (i := 0) rfl (e2 _ _ o1) BC.cl BC.nI rfl (Rp.mono e2 _ _ o3))) (by show 1 ≤ 100000; decide)) q
  · unfold circD at q
    rw [hb, if_neg (by decide)] at q
    have few := famLots_few n5 ls
    have clen : ∀ lot, (circleAt n R lot).length ≤ 300 := fun lot => by
      unfold circleAt
      have := byV_len (couplesAt n lot R)
      rw [List.length_map]
      unfold couplesAt at this ⊢
      rw [List.length_map] at this; omega
    refine t_retI (K := K) (d := .list ((circlesOf n (famLots n ls) R).map dLT)) s2 ((g_lc2E dT dLT (famLots n ls) (circleAt n R) (fun _ _ => true) (fun _ c => dLT c) (w_tupI (g_fld (K := K) (i := 1) rfl (e2 _ _ p1) LC.cl LC.nL rfl (Rp.mono e2 _ _ p3))) few.1 (fun lot _ => clen lot) (fun _ => rfl) (fun _ _ => rfl) (fun lot _ F' e' v hv => ?_) (fun _ _ c _ F' e' v u _ _ => et_yes) (fun _ _ c _ _ F' e' v u _ hu => g_var rfl hu)).is ?_) q
    · refine w_valsN (K := K) (P := P) (w := w) fun H1 i1 g1 Q1 q1 => ?_
      refine ⟨_, rfl, _, rfl, x, n, m, R, lot, F', v, rfl, ⟨n5, hR, hlen⟩, i1, bk.mono (e2.trans e'), hv, fun D F3 H3 s3 bv => ?_⟩
      obtain ⟨xs, h1, h2⟩ := bv.vals
      exact q1 _ F3 H3 ⟨D, xs, rfl, h1, h2⟩ (s3.lift g1)
    · show PyData.list _ = PyData.list ((circlesOf n (famLots n ls) R).map dLT)
      unfold circlesOf
      rw [List.map_flatMap]
      refine congrArg PyData.list (congrArg (fun f => List.flatMap f (famLots n ls)) (funext fun lot => ?_))
      rw [List.filter_eq_self.mpr fun _ _ => rfl]
end
end KJ
/-! whether a dict of views holds something -/
namespace PySem
open PySem PySem.Spec PyProof.Rows
end PySem
namespace Fv
open PySem PySem.Spec PyProof.Rows L2 L2H Evl StX
end Fv
/-! two promises of one def -/
namespace Fv
open PySem PySem.Spec PyProof.Rows L2 Evl StX
theorem FnOk.or {P : Program} {w : World} {K : PySem.W.Frag} {mg : Str → Option Value} {base : Heap} {CX : CXT} {k : Nat} {f : Addr} {fd : FuncData} {ps : List Str} {s1 s2 : Sp} (h1 : FnOk P w K mg base CX k f fd ps s1) (h2 : FnOk P w K mg base CX k f fd ps s2) : FnOk P w K mg base CX k f fd ps (fun vs H Q E => s1 vs H Q E ∨ s2 vs H Q E) :=
  ⟨fun vs H Q E h => h.elim (h1.len vs H Q E) (h2.len vs H Q E), fun A out s H as us vs Q E r e0 b rv h => h.elim (h1.run A out s H as us vs Q E r e0 b rv) (h2.run A out s H as us vs Q E r e0 b rv)⟩
end Fv
/-! sorted of a tuple of whole numbers -/
namespace Fv
open PySem PySem.Spec PyProof.Rows L2 Evl StX
end Fv
/-! == by a class's own __eq__; loops over what is known only here; picks out of a list whose items have something in common -/
namespace L2
open PySem PySem.Spec PyProof.Rows Evl
end L2
namespace Fv
open PySem PySem.Spec PyProof.Rows L2 Evl StX
end Fv
/-! dicts whose keys are data: made by a comprehension, written down with one entry, sorted, get with another value -/
namespace Fv
open PySem PySem.Spec PyProof.Rows L2 Evl StX
/-- the store of one entry, the key a tuple that stands -/
theorem putNs {Y : Cx} {pins : List (Addr × Obj)} {τ : L2.St} {G : Hp} {s : Shared} {E : Value → Shared → Prop} {D b : Addr} {xs : List NEnt} {k : NK} {v : V} {u r : Value} {Q : Unit → Shared → Prop}
    (hu : Y.A.units + 65 < cLine) (I : Inv Y pins τ G s) (nd : ND Y.prog Y.w Y.K G D xs) (ko : KeyOk Y.K G k b) (hz : xs.length < sizeLine) (ru : RelV (.ref b) u) (rr : RelV v r)
    (fin : ∀ s' o, DNo Y.prog Y.w o (putN xs k b v) → Inv Y pins τ (upd G D (rawO D o)) s' → Q () s') : wpAny (model Y.prog Y.w) Y.A (dictSet D u r) Q E s := by
  cases (show u = Value.ref b from ru)
  obtain ⟨ys, hp, hm, hl⟩ := nd.dict I
  refine wpAny_dictSet_heap (hsz := hl) (show (nestedKind Y.prog Y.w).room Y.A by show Y.A.units + 8 < cLine; omega) (ko.is I) hm fun h' hm' hs => ?_
  obtain ⟨o, h1, h2⟩ := dno_of (hp.put k b rr) (by have := putN_len xs k b v; omega) hm'
  obtain ⟨o0, e0, _⟩ := nd.ex
  exact fin _ o h2 (d_write I (by rw [e0]; exact True.intro) hs ⟨o, h1⟩ (raw_ok h1))
section
variable {X : Cx} {P : Program} {w : World} {K : PySem.W.Frag} {kx vx tg iter : Expr} {ifs : List Expr} {scope : Scope} {own : List (Str × Nat)} {pos : Pos} {wi : TI} {g : TG} {tt : TT} {tk tv : TE}
/-- {k: v} -/
def tDPairN (P : Program) (w : World) (K : PySem.W.Frag) (tk tv : TE) : TE := fun σ H Q => ∀ D o, H D = none → (D == sysModules) = false → DNo P w o [] →
  tk σ (upd H D (rawO D o)) fun y H1 => tv σ H1 fun z H2 => ∃ k b, y = .ref b ∧ ND P w K H2 D [] ∧ KeyOk K H2 k b ∧ ∀ o', DNo P w o' (putN [] k b z) → Q (.ref D) (upd H2 D (rawO D o'))
theorem pe_dpairN (hu : X.A.units + 65 < cLine) (hk : PE X kx tk) (hv : PE X vx tv) (hp : X.prog = P := by rfl) (hw : X.w = w := by rfl) (hKK : X.K = K := by rfl) :
    PE X (.Dict [some kx] [vx] pos) (tDPairN P w K tk tv) := by
  subst hp; subst hw; subst hKK
  refine ⟨fun pins s σ H Q I h => ?_⟩
  have low : (s.heap.objs.size == sysModules) = false := beq_eq_false_iff_ne.mpr (Ne.symm (Nat.ne_of_lt I.big))
  obtain ⟨o, h1, h2⟩ := dno_of (P := X.prog) (w := X.w) (xs := []) (ys := []) .nil (Nat.zero_le _) (Heap.DictOfH.new (knd := nestedKind X.prog X.w) s.heap)
  have I1 : Inv X pins σ (upd H s.heap.objs.size (rawO s.heap.objs.size o)) { s with heap := s.heap.push { cls := .type "dict", data := .dict #[] } } := I.laid (a := s.heap.objs.size) (o := rawO s.heap.objs.size o) (t' := s.toks) (fun _ _ q => Heap.get?_push_of_some _ q) (Nat.le_refl _) (raw_ok h1)
  have q := h _ o (I.hok.fresh (Nat.le_refl _)) low h2
  have shape : (evalEachOpt [some kx] X.env).zip ((evalEach [vx] X.env).map fun v => (do let x ← v; standAt pos; pure x : Sem Value)) = [(eval kx X.env, (do let x ← eval vx X.env; standAt pos; pure x : Sem Value))].map fun p => (some p.1, p.2) := rfl
  rw [arm_eval_Dict]
  refine wpAny_bind (wpAny_standAt ?_)
  rw [shape, dictDisplay_pairs _ (by simp) (by simp)]
  refine wpAny_bind ?_
  unfold subDict
  refine wpAny_bind (wpAny_alloc ?_)
  refine wpAny_bind (wpAny_holding ?_)
  rw [if_pos (by simp)]
  refine wpAny_bind (evalPairs_cons (thn (hk.run pins _ σ _ _ I1 q) fun kv s2 ⟨y, H2, I2, r2, q2⟩ => wpAny_bind (thn (hv.run pins s2 σ H2 _ I2 q2) fun vv s3 ⟨z, H3, I3, r3, k, b, ey, nd, ko, fin⟩ => wpAny_bind (wpAny_standAt (wpAny_pure (evalPairs_nil ?_))))))
  subst ey
  refine wpAny_holding ?_
  rw [List.forIn_cons]
  refine wpAny_bind (wpAny_bind ?_)
  show wpAny (model X.prog X.w) X.A (dictSet s.heap.objs.size kv vv >>= fun _ => pure (ForInStep.yield PUnit.unit)) _ _ _
  refine wpAny_bind (putNs (Q := fun _ s' => wpAny (model X.prog X.w) X.A (pure (ForInStep.yield PUnit.unit)) _ _ s') hu I3 nd ko (Nat.lt_of_lt_of_le (Nat.zero_lt_succ 0) (by decide)) r2 r3 fun s4 o' ho' I4 => wpAny_pure ?_)
  show wpAny _ _ (forIn [] PUnit.unit _) _ _ _
  rw [List.forIn_nil]
  exact wpAny_pure (wpAny_pure (wpAny_pure (wpAny_pure ⟨.ref s.heap.objs.size, _, I4, rfl, fin o' ho'⟩)))
end
end Fv
/-! dicts whose keys are data: what they hold, told as data; sorted; a comprehension over triples -/
namespace Fv
open PySem PySem.Spec PyProof.Rows L2 Evl StX
/-- the entries, told as data -/
abbrev NV (K : PySem.W.Frag) (F : Hp) : List NEnt → List (PyData × PyData) → Prop := Paired fun x p => x.1 = nk p.1 ∧ Rp K F (.ref x.2.1) p.1 ∧ Rp K F x.2.2 p.2
section
variable {P : Program} {w : World} {K : PySem.W.Frag} {F F' : Hp} {xs : List NEnt} {ps : List (PyData × PyData)}
theorem NV.mono (e : Ex F F') (h : NV K F xs ps) : NV K F' xs ps := Paired.mapP h fun _ _ z => ⟨z.1, Rp.mono e _ _ z.2.1, Rp.mono e _ _ z.2.2⟩
theorem NV.len (h : NV K F xs ps) : xs.length = ps.length := Paired.length h
theorem NV.keys (h : NV K F xs ps) : RpAll K F (xs.map fun x => V.ref x.2.1) (ps.map (·.1)) := by
  induction h with
  | nil => exact .nil
  | cons a _ ih => exact .cons a.2.1 ih
theorem NV.none_ {k : PyData} (h : NV K F xs ps) (hk : kb k = true) (hb : ∀ p ∈ ps, kb p.1 = true) (hn : k ∉ ps.map (·.1)) : atN xs (nk k) = none := by
  unfold atN
  rw [Option.map_eq_none_iff]
  induction h with
  | nil => rfl
  | @cons x p xs ps a _ ih =>
    have ne : ¬ x.1 = nk k := fun z => by
      rw [a.1] at z
      have := nk_inj (hb p (by simp)) hk z
      exact hn (by rw [← this]; simp)
    rw [List.find?_cons_of_neg (by simpa using ne)]
    exact ih (fun q hq => hb q (List.mem_cons_of_mem _ hq)) fun z => hn (List.mem_cons_of_mem _ z)
theorem NV.get (h : NV K F xs ps) (hb : ∀ p ∈ ps, kb p.1 = true) : (ps.map (·.1)).Nodup → ∀ {k d : PyData}, (k, d) ∈ ps → ∃ p, atN xs (nk k) = some p ∧ Rp K F p.2 d := by
  induction h with
  | nil => intro _ _ _ hm; cases hm
  | @cons x p xs ps a _ ih =>
    intro nd k d hm
    rw [List.map_cons, List.nodup_cons] at nd
    rcases List.mem_cons.mp hm with e | m
    · subst e
      refine ⟨x.2, ?_, a.2.2⟩
      unfold atN
      rw [List.find?_cons_of_pos (by simpa using a.1)]; rfl
    · obtain ⟨q, h1, h2⟩ := ih (fun q hq => hb q (List.mem_cons_of_mem _ hq)) nd.2 m
      refine ⟨q, ?_, h2⟩
      have ne : ¬ x.1 = nk k := fun z => by
        rw [a.1] at z
        have := nk_inj (hb p (by simp)) (hb (k, d) (List.mem_cons_of_mem _ m)) z
        exact nd.1 (by rw [this]; exact List.mem_map.mpr ⟨_, m, rfl⟩)
      unfold atN
      rw [List.find?_cons_of_neg (by simpa using ne)]
      exact h1
theorem NV.put {k d : PyData} {b : Addr} {v : V} (h : NV K F xs ps) (hk : kb k = true) (hb : ∀ p ∈ ps, kb p.1 = true) (hn : k ∉ ps.map (·.1)) (h1 : Rp K F (.ref b) k) (h2 : Rp K F v d) : NV K F (putN xs (nk k) b v) (ps ++ [(k, d)]) := by
  unfold putN
  rw [h.none_ hk hb hn]
  exact Paired.snoc h ⟨rfl, h1, h2⟩
end
/-- sorted(d) -/
def rSortN (P : Program) (w : World) (K : PySem.W.Frag) : List V → Hp → VK → Prop := fun vs H Q => ∃ (d : Addr) (xs : List NEnt) (ps : List (V × PyData)), vs = [.ref d] ∧ ND P w K H d xs ∧ ps.map (·.1) = (xs.map fun x => V.ref x.2.1) ∧ (∀ b ∈ ps, Rp K H b.1 b.2) ∧ CanSort (ps.map (·.2)) ∧
  ∀ (qs : List (V × PyData)) p, qs.Perm ps → qs.map (·.2) = sortD (ps.map (·.2)) → H p = none → Q (.ref p) (upd H p (.lst (qs.map (·.1))))
theorem c_sortN {X : Cx} {P : Program} {w : World} {K : PySem.W.Frag} (hc : X.calm = true) (hu : X.A.units + 65 < cLine) (h : X.K = K := by rfl) (hp : X.prog = P := by rfl) (hw : X.w = w := by rfl) : CallR X (.builtin "sorted") (rSortN P w K) := by
  subst h; subst hp; subst hw
  intro pins s σ H xs us Q I r q
  obtain ⟨d, ks, ps, rfl, nd, e1, e3, cs, q⟩ := q
  rw [Vals.ref1 r]
  obtain ⟨o, hd, dn⟩ := nd.ex
  have ho : s.heap.get? d = some o := (show ObjOk X.prog X.w H s.heap d (rawO d o) from I.hok d _ hd).1
  obtain ⟨es, ep, hdt, hsz, ent⟩ := dn.entries
  have hz : ks.length ≤ sizeLine := dn.2.2.1
  refine PySem.W.kdz_sorted (kdl_raw nd.low dn.1 hdt) (I.ok.hd hc) ho (by omega) fun h' tk vs kp hl hv E' => ?_
  have ev : vs = ks.map fun x => Value.ref x.2.1 := by
    refine List.ext_getElem? fun j => ?_
    rw [List.getElem?_map]
    cases hb : ks[j]? with
    | none => rw [List.getElem?_eq_none_iff.mpr (by rw [hl, hsz]; exact List.getElem?_eq_none_iff.mp hb)]; rfl
    | some b =>
      obtain ⟨en, h1, h2⟩ := ent j b hb
      have hjv : j < vs.length := by have := (List.getElem?_eq_some_iff.mp hb).1; omega
      obtain ⟨en2, h3, h4⟩ := hv j vs[j] (List.getElem?_eq_getElem hjv)
      rw [h1] at h3
      cases h3
      rw [List.getElem?_eq_getElem hjv, h4, h2]; rfl
  have rv : Vals (ps.map (·.1)) vs := by
    rw [e1, ev]
    have g : ∀ l : List NEnt, Vals (l.map fun x => V.ref x.2.1) (l.map fun x => Value.ref x.2.1) := fun l => by
      induction l with
      | nil => exact .nil
      | cons a r ih => exact .cons rfl ih
    exact g ks
  have ea : PySem.W.EachIs (fun u (b : V × PyData) => RelV b.1 u) vs ps := each_of_vals rv
  have I1 : Inv X pins σ H { s with heap := h', toks := tk } := I.kept (t' := tk) kp
  have rd : ∀ u (b : V × PyData), b ∈ ps → RelV b.1 u → ∃ as, Reads h' u b.2 as := fun u b hb ru => Dp.reads I1 b.2 b.1 u (Rp.dp _ _ (e3 b hb)) ru
  let h1 : Heap := h'.push (seqObj "list" vs.toArray 0)
  have hat : h1.get? h'.objs.size = some (seqObj "list" vs.toArray 0) := Heap.get?_push_size _ rfl
  let hS : Heap := PySem.W.sortingHeap h1 h'.objs.size vs
  have kS : ∀ b o, h'.get? b = some o → hS.get? b = some o := fun b o e => PySem.W.sortingHeap_old (Nat.ne_of_lt (Heap.lt_size e)) (Heap.get?_push_of_some _ e)
  have er0 : PySem.W.EachIs (fun u (b : V × PyData) => ∃ as, Reads hS u b.2 as) vs ps := (PySem.W.each_mem ea).mono fun u b ⟨ru, hb⟩ => by
    obtain ⟨as, x⟩ := rd u b hb ru
    exact ⟨as, PyProof.Rows.Reads.keeps (fun _ _ => kS _ _) x⟩
  have er1 : PySem.W.EachIs (fun u d => ∃ as, Reads hS u d as) vs (ps.map fun b => b.2) := PySem.W.each_map (R := fun u d => ∃ as, Reads hS u d as) (fun b : V × PyData => b.2) er0
  have al : PySem.W.AllAlike (ps.map fun b => b.2) := cs.al
  have S : PySem.W.SortsAt X.prog X.w X.A.in1.in1 { s with heap := hS, toks := tk } (PySem.W.dataKind hS (ps.map fun b => b.2)) vs := by
    refine PySem.W.SortsAt.data (s := { s with heap := hS, toks := tk }) er1 al cs.so fun d hd => ?_
    have := cs.dp d hd
    show X.A.units + 1 + 1 + _ < _
    omega
  have out := PySem.W.sortVals_data (h' := hS) (enc := fun b : V × PyData => b.2) false ea er0 al
  refine PySem.W.list_sort_vals (s := { s with heap := h1, toks := tk }) hat S (by omega) ?_
  generalize PySem.W.sortVals (PySem.W.dataKind hS (ps.map fun b => b.2)) false vs vs = ou at out
  generalize eq : ps.mergeSort (PySem.W.dataLe false fun b : V × PyData => b.2) = qs at out
  have pq : qs.Perm ps := eq ▸ List.mergeSort_perm _ _
  have snd : qs.map (·.2) = sortD (ps.map (·.2)) := by
    rw [← eq]
    exact PySem.W.sort_maps (s := PySem.W.dataLe false id) (fun x : V × PyData => x.2) fun _ _ _ _ => rfl
  have vo : Vals (qs.map (·.1)) ou := vals_of_each out
  obtain ⟨c, hc2⟩ := PyProof.Rows.sortedHeap_at (h := h1) (a := h'.objs.size) (vs := vs) (out := ou.toArray) hat
  have fr : H h'.objs.size = none := I1.hok.fresh (Nat.le_refl _)
  have len : (qs.map (·.1)).length ≤ sizeLine := by
    rw [List.length_map, pq.length_eq, ← List.length_map (f := (·.1)), e1, List.length_map]; exact hz
  refine ⟨rfl, .ref h'.objs.size, upd H h'.objs.size (.lst (qs.map (·.1))), I1.laid (t' := tk) (fun b u e => ?_) (Nat.le_refl _) ⟨len, ou, c, vo, hc2⟩, rfl, q qs _ pq snd fr⟩
  have hl' := Heap.lt_size e
  exact (PyProof.Rows.sortedHeap_old (Nat.ne_of_lt hl') (by rw [size_push']; exact Nat.lt_succ_of_lt hl')).trans (Heap.get?_push_of_some _ e)
section
variable {P : Program} {w : World} {K : PySem.W.Frag} {pt : Option Pt} {σ : L2.St} {F F' F0 H0 H F2 H2 : Hp} {l : Addr} {xs : List NEnt} {te tv td ty : TE} {ts : TA} {t : TT} {wi : TI} {D : Ends} {tz : TS} {ps : List (PyData × PyData)}
/-- sorted(d), d at slot i -/
theorem g_sortN {i : Nat} {ds : List PyData} (h0 : σ[i]? = some (some (.ref l))) (nd : ND P w K F l xs) (hk : RpAll K F (xs.map fun x => V.ref x.2.1) ds) (cs : CanSort ds) : EvG K pt (tCB (rSortN P w K) (tCons (tVar i) tNil)) σ F (Is (.list (sortD ds))) := fun H1 e g Q q => by
  obtain ⟨e1, e2, e3⟩ := rp_pairs hk
  refine ⟨_, h0, l, xs, _, rfl, nd.mono e, e1, fun b hb => Rp.mono e _ _ (e3 b hb), by rw [e2]; exact cs, fun qs p pq es hp => ?_⟩
  have s3 : Step pt F H1 (upd F p (.lst (qs.map (·.1)))) (upd H1 p (.lst (qs.map (·.1)))) := .laid e g hp
  refine q _ _ _ _ rfl s3 (.lst upd_same ?_)
  rw [e2] at es
  rw [← es]
  exact pairs_rp fun r hr => Rp.mono s3.sub _ _ (e3 r (pq.mem_iff.mp hr))
/-- d[k], k data -/
theorem g_dgetN {i : Nat} {k z : PyData} {p : Addr × V} (h0 : σ[i]? = some (some (.ref l))) (nd : ND P w K F l xs) (h : EvG K pt ty σ F (Is k)) (hk : ∀ b F', Rp K F' b k → ∃ a, b = .ref a) (hb : kb k = true) (hd : (nk k).depth ≤ 8) (hp : atN xs (nk k) = some p) (hz : Rp K F p.2 z) : EvG K pt (tOp (rIxN P w K) (tVar i) ty) σ F (Is z) := fun H1 e g Q q =>
  ⟨_, h0, h H1 e g _ fun d v F2 H2 hd' s hv => by
    rw [show d = k from hd'] at hv
    obtain ⟨b, rfl⟩ := hk v F2 hv
    exact ⟨l, xs, nk k, b, p, rfl, rfl, (nd.mono s.sub).mono s.inn, KeyOk.mono s.inn ⟨k, hv, hb, rfl, hd⟩, hp, q z _ F2 H2 rfl s (Rp.mono s.sub _ _ hz)⟩⟩
/-- a tuple is an object -/
theorem tup_ref {ds : List PyData} {b : V} {F' : Hp} (h : Rp K F' b (.tuple ds)) : ∃ a, b = .ref a := by
  obtain ⟨a, _, e, _⟩ := rp_tup h
  exact ⟨a, e⟩
end
end Fv
/-! rows of things that are no data: lists made by a comprehension, tuples of them, what is read of them -/
namespace Fv
open PySem PySem.Spec PyProof.Rows L2 Evl StX
section
variable {P : Program} {w : World} {K : PySem.W.Frag} {pt : Option Pt} {σ : L2.St} {F F' F0 H0 H F2 H2 : Hp} {te ti ta tv : TE} {ts : TA} {t : TT} {wi : TI} {D : Ends} {tz : TS} {l C : Addr}
/-- the tuple at v holds things of which Φ speaks -/
def TupX {α : Type} (Φ : α → V → Hp → Prop) (F : Hp) (v : V) (ys : List α) : Prop := ∃ a xs, v = .ref a ∧ F a = some (.tup xs) ∧ Paired (fun x y => Φ y x F) xs ys
theorem TupX.mono {α : Type} {Φ : α → V → Hp → Prop} {v : V} {ys : List α} (hm : ∀ y v F F', Ex F F' → Φ y v F → Φ y v F') (e : Ex F F') (h : TupX Φ F v ys) : TupX Φ F' v ys := by
  obtain ⟨a, xs, rfl, h1, h2⟩ := h
  exact ⟨a, xs, rfl, e _ _ h1, Paired.mapP h2 fun _ _ z => hm _ _ _ _ e z⟩
end
end Fv
/-! a list of one's own whose items are no data -/
namespace Fv
open PySem PySem.Spec PyProof.Rows L2 Evl StX
structure Xst {α : Type} (K : PySem.W.Frag) (Φ : α → V → Hp → Prop) (pt : Option Pt) (F0 H0 : Hp) (l : Addr) (F H : Hp) (ys : List α) : Prop where
  step : Step pt F0 H0 F H
  off : F l = none
  ex : ∃ acc, H l = some (.lst acc) ∧ Paired (fun x y => Φ y x F) acc ys
/-- a list, or a tuple, of such things, that stays -/
def LstX {α : Type} (Φ : α → V → Hp → Prop) (F : Hp) (v : V) (ys : List α) : Prop := ∃ a xs, v = .ref a ∧ F a = some (.lst xs) ∧ Paired (fun x y => Φ y x F) xs ys
section
variable {α : Type} {K : PySem.W.Frag} {Φ : α → V → Hp → Prop} {pt : Option Pt} {σ : L2.St} {F0 H0 F H F' F2 H2 : Hp} {te ta tb : TE} {ts tr : TA} {t u : TT} {wi : TI} {D : Ends} {tu tw tz : TS} {l : Addr} {ys : List α}
theorem LstX.mono {v : V} (hm : ∀ y v F F', Ex F F' → Φ y v F → Φ y v F') (e : Ex F F') (h : LstX Φ F v ys) : LstX Φ F' v ys := by
  obtain ⟨a, xs, rfl, h1, h2⟩ := h
  exact ⟨a, xs, rfl, e _ _ h1, Paired.mapP h2 fun _ _ z => hm _ _ _ _ e z⟩
theorem Xst.of (g : Gst K pt F0 H0 l F H []) : Xst K Φ pt F0 H0 l F H [] := ⟨g.step, g.off, by
  obtain ⟨acc, e, r⟩ := g.ex
  cases r
  exact ⟨[], e, .nil⟩⟩
theorem Xst.run (hm : ∀ y v F F', Ex F F' → Φ y v F → Φ y v F') (g0 : Good pt F0 H0) (h0 : H0 l = none) (g : Xst K Φ pt F0 H0 l F H ys) (s : Step pt F H F2 H2) : Xst K Φ pt F0 H0 l F2 H2 ys := by
  obtain ⟨acc, e, r⟩ := g.ex
  obtain ⟨f2, e2⟩ := Step.beside g0 h0 g.off e s
  exact ⟨g.step.trans s, f2, acc, e2, Paired.mapP r fun _ _ z => hm _ _ _ _ s.sub z⟩
theorem Xst.done (hm : ∀ y v F F', Ex F F' → Φ y v F → Φ y v F') (g0 : Good pt F0 H0) (h0 : H0 l = none) (g : Xst K Φ pt F0 H0 l F H ys) : ∃ F2, Step pt F0 H0 F2 H ∧ Ex F F2 ∧ LstX Φ F2 (.ref l) ys := by
  obtain ⟨acc, e, r⟩ := g.ex
  have e1 : Ex F (upd F l (.lst acc)) := Ex.new g.off
  exact ⟨_, g.step.freeze g0 h0 g.off e, e1, l, acc, rfl, upd_same, Paired.mapP r fun _ _ z => hm _ _ _ _ e1 z⟩
end
end Fv
/-! min of a list or a tuple of whole numbers -/
namespace Fv
open PySem PySem.Spec PyProof.Rows L2 Evl StX
end Fv
/-! t * 1 is t -/
namespace L2
open PySem PySem.Spec PyProof.Rows
end L2
namespace Fv
open PySem PySem.Spec PyProof.Rows L2 Evl StX
end Fv
/-! int(a test), max(i, j) -/
namespace Fv
open PySem PySem.Spec PyProof.Rows L2 Evl StX
end Fv
/-! a dict that is told by an expression: t[1][k] -/
namespace Fv
open PySem PySem.Spec PyProof.Rows L2 Evl StX
end Fv
/-! several objects of one's own at once; a loop over a list of no data; break; while -/
namespace Fv
open PySem PySem.Spec PyProof.Rows L2 Evl StX
abbrev Own1 := Addr × HO
def putAll : List Own1 → Hp → Hp
  | [], F => F
  | p :: L, F => upd (putAll L F) p.1 p.2
def delAll : List Own1 → Hp → Hp
  | [], F => F
  | p :: L, F => del (delAll L F) p.1
theorem putAll_off {F : Hp} {a : Addr} : ∀ {L : List Own1}, (∀ p ∈ L, p.1 ≠ a) → putAll L F a = F a
  | [], _ => rfl
  | p :: L, h => by
    rw [putAll, upd_ne (h p (by simp)).symm]
    exact putAll_off fun q hq => h q (List.mem_cons_of_mem _ hq)
theorem putAll_at {F : Hp} : ∀ {L : List Own1} {p : Own1}, (L.map (·.1)).Nodup → p ∈ L → putAll L F p.1 = some p.2
  | q :: L, p, nd, h => by
    rw [List.map_cons, List.nodup_cons] at nd
    rcases List.mem_cons.mp h with rfl | h
    · exact upd_same
    · have ne : p.1 ≠ q.1 := fun z => nd.1 (z ▸ List.mem_map_of_mem h)
      rw [putAll, upd_ne ne]
      exact putAll_at nd.2 h
theorem putAll_in {F : Hp} {a : Addr} {o : HO} : ∀ {L : List Own1}, putAll L F a = some o → (∃ p ∈ L, p.1 = a ∧ p.2 = o) ∨ F a = some o
  | [], h => .inr h
  | p :: L, h => by
    by_cases z : a = p.1
    · subst z
      rw [putAll, upd_same] at h
      exact .inl ⟨p, by simp, rfl, Option.some.inj h⟩
    · rw [putAll, upd_ne z] at h
      rcases putAll_in h with ⟨q, hq, e⟩ | h
      · exact .inl ⟨q, List.mem_cons_of_mem _ hq, e⟩
      · exact .inr h
theorem delAll_off {F : Hp} {a : Addr} : ∀ {L : List Own1}, (∀ p ∈ L, p.1 ≠ a) → delAll L F a = F a
  | [], _ => rfl
  | p :: L, h => by
    rw [delAll, del_ne (h p (by simp)).symm]
    exact delAll_off fun q hq => h q (List.mem_cons_of_mem _ hq)
theorem delAll_at {F : Hp} : ∀ {L : List Own1} {p : Own1}, p ∈ L → delAll L F p.1 = none
  | q :: L, p, h => by
    by_cases z : p.1 = q.1
    · rw [delAll, z, del_same]
    · rw [delAll, del_ne z]
      rcases List.mem_cons.mp h with e | h
      · exact absurd (by rw [e]) z
      · exact delAll_at h
theorem delAll_ex {F : Hp} : ∀ {L : List Own1}, Ex (delAll L F) F
  | [] => Ex.refl F
  | p :: L => del_ex.trans delAll_ex
theorem delAll_none {F : Hp} {L : List Own1} {a : Addr} (h : F a = none) : delAll L F a = none := by
  cases e : delAll L F a with
  | none => rfl
  | some o => rw [delAll_ex _ _ e] at h; cases h
/-! data without lists stays whatever becomes of what is no tuple -/
mutual
def nl : PyData → Bool
  | .tuple ds => nlL ds
  | .list _ => false
  | .dict _ => false
  | _ => true
def nlL : List PyData → Bool
  | [] => true
  | d :: ds => nl d && nlL ds
end
section
variable {K : PySem.W.Frag} {F F' : Hp}
mutual
theorem rp_tups (h : ∀ a ys, F a = some (.tup ys) → F' a = some (.tup ys)) : ∀ (d : PyData) (v : V), nl d = true → Rp K F v d → Rp K F' v d
  | .none, _, _, x => by cases x; exact .non
  | .bool b, _, _, x => by cases x; exact .bl b
  | .int i, _, _, x => by cases x; exact .int i
  | .str y, _, _, x => by cases x; exact .str y
  | .tuple ds, v, hn, x => by
    obtain ⟨p, ys, rfl, hl, ha⟩ := rp_tup x
    rw [nl] at hn
    exact .tup (h _ _ hl) (rpAll_tups h ds ys hn ha)
  | .list ds, v, hn, x => by rw [nl] at hn; cases hn
  | .dict _, _, _, x => by cases x
theorem rpAll_tups (h : ∀ a ys, F a = some (.tup ys) → F' a = some (.tup ys)) : ∀ (ds : List PyData) (vs : List V), nlL ds = true → RpAll K F vs ds → RpAll K F' vs ds
  | [], _, _, x => by cases x; exact .nil
  | d :: ds, _, hn, x => by
    rw [nlL, Bool.and_eq_true] at hn
    cases x with
    | cons x1 x2 => exact .cons (rp_tups h d _ hn.1 x1) (rpAll_tups h ds _ hn.2 x2)
end
end
/-- what is one's own: each stands in the heap as told, and nothing that is shared knows of it -/
structure Own (pt : Option Pt) (F0 H0 F H : Hp) (L : List Own1) : Prop where
  step : Step pt F0 H0 F H
  nd : (L.map (·.1)).Nodup
  off : ∀ p ∈ L, F p.1 = none ∧ H0 p.1 = none ∧ H p.1 = some p.2 ∧ ∀ ys, p.2 ≠ .tup ys
section
variable {K : PySem.W.Frag} {pt : Option Pt} {σ : L2.St} {F0 H0 F H F' F2 H2 : Hp} {te ta tb : TE} {t : TT} {R : PD} {D : Ends} {tz tu tw : TS} {wi : TI} {L L' : List Own1} {a : Addr} {o o' : HO} {Φ : V → Hp → Prop}
theorem Own.nil (s : Step pt F0 H0 F H) : Own pt F0 H0 F H [] := ⟨s, List.nodup_nil, fun _ h => by cases h⟩
theorem Own.run (g0 : Good pt F0 H0) (w : Own pt F0 H0 F H L) (s : Step pt F H F2 H2) : Own pt F0 H0 F2 H2 L := ⟨w.step.trans s, w.nd, fun p hp => by
  obtain ⟨f, h0, h, tn⟩ := w.off p hp
  exact ⟨s.new p.1 f ⟨p.2, h, tn⟩, h0, s.keep _ _ (fun q hq => (off_pot g0 h0 q hq).1) h, tn⟩⟩
theorem Own.new (w : Own pt F0 H0 F H L) (h : H a = none) (tn : ∀ ys, o ≠ .tup ys) : Own pt F0 H0 F (upd H a o) (L ++ [(a, o)]) := by
  have h0 : H0 a = none := w.step.back a h
  have fa : F a = none := not_in w.step.inn h
  refine ⟨w.step.trans (.litter w.step.inn w.step.good h), ?_, fun p hp => ?_⟩
  · rw [List.map_append, List.nodup_append]
    refine ⟨w.nd, by simp, fun x hx y hy => ?_⟩
    obtain ⟨p, hp, rfl⟩ := List.mem_map.mp hx
    rw [List.mem_singleton.mp hy]
    intro z
    have := (w.off p hp).2.2.1
    rw [z] at this
    dsimp only at this
    rw [h] at this; cases this
  · rcases List.mem_append.mp hp with z | z
    · obtain ⟨f, h0', h', tn'⟩ := w.off p z
      have ne : p.1 ≠ a := fun e => by rw [e, h] at h'; cases h'
      exact ⟨f, h0', by rw [upd_ne ne]; exact h', tn'⟩
    · rw [List.mem_singleton.mp z]
      exact ⟨fa, h0, upd_same, tn⟩
theorem Own.get {k : Nat} (w : Own pt F0 H0 F H L) (hk : L[k]? = some (a, o)) : F a = none ∧ H0 a = none ∧ H a = some o := by
  obtain ⟨x, y, z, _⟩ := w.off _ (List.mem_of_getElem? hk)
  exact ⟨x, y, z⟩
theorem Own.put (g0 : Good pt F0 H0) (w : Own pt F0 H0 F H L) (k : Nat) (hk : L[k]? = some (a, o)) (tn : ∀ ys, o' ≠ .tup ys) : Own pt F0 H0 F (upd H a o') (L.set k (a, o')) := by
  obtain ⟨fa, h0, ha, _⟩ := w.off _ (List.mem_of_getElem? hk)
  have e1 : (L.set k (a, o')).map (·.1) = L.map (·.1) := by
    rw [List.map_set]
    apply List.ext_getElem?
    intro i
    by_cases z : k = i
    · subst z
      have hl := (List.getElem?_eq_some_iff.mp hk).1
      rw [List.getElem?_set_self (by rw [List.length_map]; exact hl), List.getElem?_map, hk]; rfl
    · rw [List.getElem?_set_ne z]
  refine ⟨w.step.put g0 h0 fa, by rw [e1]; exact w.nd, fun p hp => ?_⟩
  obtain ⟨i, hi⟩ := List.mem_iff_getElem?.mp hp
  by_cases z : k = i
  · subst z
    have hl := (List.getElem?_eq_some_iff.mp hk).1
    rw [List.getElem?_set_self hl] at hi
    obtain rfl := Option.some.inj hi
    exact ⟨fa, h0, upd_same, tn⟩
  · rw [List.getElem?_set_ne z] at hi
    obtain ⟨f, h0', h', tn'⟩ := w.off p (List.mem_of_getElem? hi)
    have ne : p.1 ≠ a := fun e => by
      have h1 : (L.map (·.1))[i]? = some a := by rw [List.getElem?_map, hi, ← e]; rfl
      have h2 : (L.map (·.1))[k]? = some a := by rw [List.getElem?_map, hk]; rfl
      have hl1 := (List.getElem?_eq_some_iff.mp h1)
      have hl2 := (List.getElem?_eq_some_iff.mp h2)
      obtain ⟨l1, e1⟩ := hl1
      obtain ⟨l2, e2⟩ := hl2
      exact z ((List.getElem_inj (h₀ := l2) (h₁ := l1) w.nd).mp (e2.trans e1.symm))
    exact ⟨f, h0', by rw [upd_ne ne]; exact h', tn'⟩
/-- some of it seen as if it were shared; what comes of it, without those again -/
theorem Own.fixS (g0 : Good pt F0 H0) (w : Own pt F0 H0 F H L) (nd' : (L'.map (·.1)).Nodup) (sub : ∀ p ∈ L', p ∈ L) :
    Ex F (putAll L' F) ∧ Ex (putAll L' F) H ∧ Good pt (putAll L' F) H ∧ ∀ F2 H2, Step pt (putAll L' F) H F2 H2 → Own pt F0 H0 (delAll L' F2) H2 L ∧ Ex F (delAll L' F2) ∧ (∀ a ys, F2 a = some (.tup ys) → delAll L' F2 a = some (.tup ys)) ∧ ∀ p ∈ L', F2 p.1 = some p.2 := by
  have ne : ∀ {b : Addr} {u : HO}, F b = some u → ∀ p ∈ L', p.1 ≠ b := fun {b u} hb p hp e => by
    have := (w.off p (sub p hp)).1
    rw [e, hb] at this; cases this
  have e1 : Ex F (putAll L' F) := fun b u hb => by rw [putAll_off (ne hb)]; exact hb
  have e2 : Ex (putAll L' F) H := fun b u hb => by
    rcases putAll_in hb with ⟨p, hp, rfl, rfl⟩ | h
    · exact (w.off p (sub p hp)).2.2.1
    · exact w.step.inn _ _ h
  refine ⟨e1, e2, fun q hq => ?_, fun F2 H2 s => ?_⟩
  · obtain ⟨f, pa⟩ := w.step.good q hq
    exact ⟨by rw [putAll_off fun p hp => (off_pot g0 (w.off p (sub p hp)).2.1 q hq).1]; exact f, pa⟩
  · have at2 : ∀ p ∈ L', F2 p.1 = some p.2 := fun p hp => s.sub _ _ (putAll_at nd' hp)
    have e3 : Ex F (delAll L' F2) := fun b u hb => by rw [delAll_off (ne hb)]; exact s.sub _ _ (e1 _ _ hb)
    have tp : ∀ a ys, F2 a = some (.tup ys) → delAll L' F2 a = some (.tup ys) := fun b ys hb => by
      rw [delAll_off fun p hp e => ?_]; exact hb
      have h1 := at2 p hp
      rw [e, hb] at h1
      exact (w.off p (sub p hp)).2.2.2 ys (Option.some.inj h1).symm
    have off : ∀ p ∈ L, delAll L' F2 p.1 = none := fun p hp => by
      by_cases z : ∃ p' ∈ L', p'.1 = p.1
      · obtain ⟨p', hp', e⟩ := z
        rw [← e]; exact delAll_at hp'
      · have zn : ∀ p' ∈ L', p'.1 ≠ p.1 := fun p' hp' e => z ⟨p', hp', e⟩
        obtain ⟨f, h0, h, tn⟩ := w.off p hp
        exact delAll_none (s.new p.1 (by rw [putAll_off zn]; exact f) ⟨p.2, h, tn⟩)
    refine ⟨⟨⟨w.step.sub.trans e3, delAll_ex.trans s.inn, w.step.keep.trans s.keep, s.good.less delAll_ex, fun b hb hb0 => ?_⟩, w.nd, fun p hp => ?_⟩, e3, tp, at2⟩
    · have f := w.step.new b hb hb0
      have lo := w.step.keep.loose w.step.good hb0
      obtain ⟨u, hu, _⟩ := hb0
      have zn : ∀ p' ∈ L', p'.1 ≠ b := fun p' hp' e => by
        have := (w.off p' (sub p' hp')).2.1
        rw [e, hu] at this; cases this
      exact delAll_none (s.new b (by rw [putAll_off zn]; exact f) lo)
    · obtain ⟨f, h0, h, tn⟩ := w.off p hp
      exact ⟨off p hp, h0, s.keep _ _ (fun q hq => (off_pot g0 h0 q hq).1) h, tn⟩
/-- some of it is shared from now on -/
theorem Own.cut (g0 : Good pt F0 H0) {L1 L2 : List Own1} (w : Own pt F0 H0 F H L) (nd' : (L1.map (·.1) ++ L2.map (·.1)).Nodup) (s1 : ∀ p ∈ L1, p ∈ L) (s2 : ∀ p ∈ L2, p ∈ L) : Own pt F0 H0 (putAll L1 F) H L2 ∧ Ex F (putAll L1 F) := by
  have n1 := (List.nodup_append.mp nd').1
  have n2 := (List.nodup_append.mp nd').2.1
  have n3 := (List.nodup_append.mp nd').2.2
  obtain ⟨e1, e2, gd, _⟩ := w.fixS g0 n1 s1
  refine ⟨⟨⟨w.step.sub.trans e1, e2, w.step.keep, gd, fun b hb hb0 => ?_⟩, n2, fun p hp => ?_⟩, e1⟩
  · have f := w.step.new b hb hb0
    obtain ⟨u, hu, _⟩ := hb0
    rw [putAll_off fun p' hp' e => ?_]; exact f
    have := (w.off p' (s1 p' hp')).2.1
    rw [e, hu] at this; cases this
  · obtain ⟨f, h0, h, tn⟩ := w.off p (s2 p hp)
    exact ⟨by rw [putAll_off fun p' hp' e => n3 _ (List.mem_map_of_mem hp') _ (List.mem_map_of_mem hp) e]; exact f, h0, h, tn⟩
theorem Own.done (g0 : Good pt F0 H0) (w : Own pt F0 H0 F H L) : ∃ F2, Step pt F0 H0 F2 H ∧ Ex F F2 ∧ ∀ p ∈ L, F2 p.1 = some p.2 := by
  obtain ⟨c, e⟩ := w.cut (L1 := L) (L2 := []) g0 (by simpa using w.nd) (fun _ h => h) (fun _ h => by cases h)
  exact ⟨_, c.step, e, fun p hp => putAll_at w.nd hp⟩
/-! statements -/
/-- x = e, e reads nothing of one's own -/
theorem t_asgF {i : Nat} (g0 : Good pt F0 H0) (w : Own pt F0 H0 F H L) (h : EvG K pt te σ F R) (q : ∀ d v F2 H2, R d → Own pt F0 H0 F2 H2 L → Ex F F2 → Rp K F2 v d → tz D (σ.set i (some v)) H2) : tSeq (tAsg te (gName i)) tz D σ H :=
  h H w.step.inn w.step.good _ fun d v F2 H2 hd s hv => q d v F2 H2 hd (w.run g0 s) s.sub hv
theorem t_asgF1 {i : Nat} (g0 : Good pt F0 H0) (w : Own pt F0 H0 F H L) (h : EvG K pt te σ F R) (q : ∀ d v F2 H2, R d → Own pt F0 H0 F2 H2 L → Ex F F2 → Rp K F2 v d → D.nx (σ.set i (some v)) H2) : tAsg te (gName i) D σ H :=
  h H w.step.inn w.step.good _ fun d v F2 H2 hd s hv => q d v F2 H2 hd (w.run g0 s) s.sub hv
theorem t_ifO1 {b : Bool} (g0 : Good pt F0 H0) (w : Own pt F0 H0 F H L) (h : EtG pt t σ (putAll L F) (· = b)) (h1 : b = true → ∀ F2 H2, Own pt F0 H0 F2 H2 L → Ex F F2 → tu D σ H2) (h2 : b = false → ∀ F2 H2, Own pt F0 H0 F2 H2 L → Ex F F2 → tw D σ H2) : tIfS t tu tw D σ H := by
  obtain ⟨e1, e2, gd, back⟩ := w.fixS g0 w.nd (fun _ h => h)
  refine h H e2 gd _ fun c F2 H2 hc s => ?_
  obtain ⟨w2, e3, _, _⟩ := back F2 H2 s
  cases c with
  | true => rw [if_pos rfl]; exact h1 hc.symm _ _ w2 e3
  | false => rw [if_neg (by simp)]; exact h2 hc.symm _ _ w2 e3
/-- a loop over what is walked here, with a break -/
theorem t_forB {j : Nat} {RS : List PyData → Prop} (i0 : Ex F H) (g : Good pt F H) (hw : WiG K pt wi σ F RS) (I : List PyData → Nat → L2.St → Hp → Hp → Prop) (J : L2.St → Hp → Hp → Prop) (h0 : ∀ ds, RS ds → ∀ F1 H1, Step pt F H F1 H1 → I ds 0 σ F1 H1) (hI : ∀ ds i σ' F' H', I ds i σ' F' H' → Ex F' H')
    (hs : ∀ ds, RS ds → ∀ i d, ds[i]? = some d → ∀ σ' F' H' x, I ds i σ' F' H' → Ex F F' → Rp K F' x d →
      ∀ N B : L2.St → Hp → Prop, (∀ σ2 F2 H2, I ds (i + 1) σ2 F2 H2 → Ex F' F2 → N σ2 H2) → (∀ σ2 F2 H2, J σ2 F2 H2 → B σ2 H2) → tu { D with nx := N, ct := N, bk := B } (σ'.set j (some x)) H')
    (hd : ∀ ds, RS ds → ∀ σ' F' H', I ds ds.length σ' F' H' → Ex F F' → J σ' F' H') (k : ∀ σ' F' H', J σ' F' H' → tz D σ' H') : tSeq (tFor wi (gName j) tu) tz D σ H :=
  hw H i0 g _ fun ds' Jt F1 H1 e s1 Y => by
    refine ⟨fun i m σ' H' => m = ds'.length - i ∧ i ≤ ds'.length ∧ ∃ F', I ds' i σ' F' H' ∧ Ex F1 F', ⟨ds'.length, by simp, Nat.zero_le _, F1, h0 ds' e F1 H1 s1, Ex.refl _⟩, ?_⟩
    rintro i m σ' H' ⟨rfl, hil, F', p, e'⟩
    have eH : Ex F1 H' := e'.trans (hI ds' i σ' F' H' p)
    by_cases hlt : i < ds'.length
    · refine .inr ⟨Y.go i H' eH hlt, fun σ2 H2 => ∃ F2, I ds' (i + 1) σ2 F2 H2 ∧ Ex F1 F2, fun σ2 H2 ⟨F2, a, b⟩ => ⟨ds'.length - (i + 1), by omega, rfl, hlt, F2, a, b⟩, fun x H2 y => ?_⟩
      obtain ⟨rfl, d, hdd, hx⟩ := Y.yld i H' x H2 eH hlt y
      exact hs ds' e i d hdd σ' F' _ x p (s1.sub.trans e') (Rp.mono e' _ _ hx) _ _ (fun σ2 F2 H2 a b => ⟨F2, a, e'.trans b⟩) fun σ2 F2 H2 a => k σ2 F2 H2 a
    · have hE : i = ds'.length := Nat.le_antisymm hil (Nat.le_of_not_lt hlt)
      subst hE
      exact .inl ⟨Y.stop H' eH, k σ' F' H' (hd ds' e σ' F' H' p (s1.sub.trans e'))⟩
end
end Fv
/-! != by a class's own __eq__; sorted(set(x)), x a list or a tuple of numbers -/
namespace L2
open PySem PySem.Spec PyProof.Rows Evl
open Sem (wp)
end L2
namespace Fv
open PySem PySem.Spec PyProof.Rows L2 Evl StX
end Fv
/-! lists and dicts among what is one's own -/
namespace Fv
open PySem PySem.Spec PyProof.Rows L2 Evl StX
/-- a list of one's own holds this -/
def LstO (K : PySem.W.Frag) (F : Hp) (o : HO) (ds : List PyData) : Prop := ∃ acc, o = .lst acc ∧ RpAll K F acc ds
/-- a dict of one's own, its keys data, holds this -/
structure DctO (P : Program) (w : World) (K : PySem.W.Frag) (F : Hp) (D : Addr) (o : HO) (xs : List NEnt) : Prop where
  low : (D == sysModules) = false
  ex : ∃ ob, o = rawO D ob ∧ DNo P w ob xs
  keys : ∀ x ∈ xs, KeyOk K F x.1 x.2.1
section
variable {P : Program} {w : World} {K : PySem.W.Frag} {pt : Option Pt} {σ : L2.St} {F0 H0 F H F' F2 H2 : Hp} {te ta tb ty : TE} {ts : TA} {t : TT} {R : PD} {D : Ends} {tz tu tw : TS} {wi : TI} {L : List Own1} {a l : Addr} {o o' : HO} {xs : List NEnt} {ds : List PyData}
theorem LstO.mono (e : Ex F F') (h : LstO K F o ds) : LstO K F' o ds := by
  obtain ⟨acc, e1, r⟩ := h
  exact ⟨acc, e1, RpAll.mono e _ _ r⟩
theorem LstO.rp (h : LstO K F o ds) (hl : F a = some o) : Rp K F (.ref a) (.list ds) := by
  obtain ⟨acc, rfl, r⟩ := h
  exact .lst hl r
theorem DctO.mono (e : Ex F F') (h : DctO P w K F a o xs) : DctO P w K F' a o xs := ⟨h.low, h.ex, fun x hx => (h.keys x hx).mono e⟩
theorem DctO.nd (h : DctO P w K F a o xs) (hl : F a = some o) : ND P w K F a xs := by
  obtain ⟨ob, rfl, d⟩ := h.ex
  exact ⟨h.low, ⟨ob, hl, d⟩, h.keys⟩
theorem raw_tn {ob : Obj} : ∀ ys, rawO a ob ≠ .tup ys := fun ys z => by cases z
/-- what is one's own, put among what is seen -/
theorem Own.see {k : Nat} (w : Own pt F0 H0 F H L) (hk : L[k]? = some (a, o)) : putAll L F a = some o := putAll_at w.nd (List.mem_of_getElem? hk)
theorem Own.seeEx (g0 : Good pt F0 H0) (w : Own pt F0 H0 F H L) : Ex F (putAll L F) := (w.fixS g0 w.nd fun _ h => h).1
/-- x = [] -/
theorem t_newLO {i : Nat} (w : Own pt F0 H0 F H L) (q : ∀ l H2, Own pt F0 H0 F H2 (L ++ [(l, .lst [])]) → tz D (σ.set i (some (.ref l))) H2) : tSeq (tAsg (tLst tNil) (gName i)) tz D σ H :=
  ⟨Nat.zero_le _, fun l hl => q l _ (w.new hl fun ys z => by cases z)⟩
/-- x = [e, ..] -/
theorem t_newLsO {i : Nat} (g0 : Good pt F0 H0) (w : Own pt F0 H0 F H L) (h : EvsG K pt ts σ F (· = ds)) (hz : ds.length ≤ 100000) (q : ∀ l o F2 H2, Own pt F0 H0 F2 H2 (L ++ [(l, o)]) → LstO K F2 o ds → Ex F F2 → tz D (σ.set i (some (.ref l))) H2) : tSeq (tAsg (tLst ts) (gName i)) tz D σ H :=
  h H w.step.inn w.step.good _ fun ds' vs F2 H2 hd s hv => by
    subst hd
    exact ⟨by rw [hv.length]; exact sz_of hz, fun l hl => q l _ F2 _ ((w.run g0 s).new hl fun ys z => by cases z) ⟨vs, rfl, hv⟩ s.sub⟩
/-- x = {} -/
theorem t_newNO {i : Nat} (w0 : Own pt F0 H0 F H L) (q : ∀ l o H2, Own pt F0 H0 F H2 (L ++ [(l, o)]) → DctO P w K F l o [] → tz D (σ.set i (some (.ref l))) H2) : tSeq (tAsg (tDNewN P w) (gName i)) tz D σ H := fun l ob hl low hd =>
  q l _ _ (w0.new hl raw_tn) ⟨low, ⟨ob, rfl, hd⟩, fun x hx => by cases hx⟩
/-- xs.append(e) -/
theorem t_appO1 {i : Nat} (k : Nat) (g0 : Good pt F0 H0) (w : Own pt F0 H0 F H L) (hk : L[k]? = some (l, o)) (lo : LstO K F o ds) (hi : σ[i]? = some (some (.ref l))) (h : EvG K pt te σ F R) (hz : ds.length < 100000)
    (q : ∀ d o2 F2 H2, R d → Own pt F0 H0 F2 H2 (L.set k (l, o2)) → LstO K F2 o2 (ds ++ [d]) → Ex F F2 → D.nx σ H2) : tDrop (tBM K "list" rAppend (tVar i) (tCons te tNil)) D σ H := by
  obtain ⟨acc, rfl, r⟩ := lo
  refine ⟨.ref l, hi, .inl ⟨rfl, acc, sq_of (w.get hk).2.2⟩, h H w.step.inn w.step.good _ fun d v F2 H2 hd s hv => ?_⟩
  have w2 := w.run g0 s
  have r2 := RpAll.mono s.sub _ _ r
  exact ⟨l, acc, v, rfl, rfl, (w2.get hk).2.2, sz_lt (by rw [r2.length]; exact hz), q d (.lst (acc ++ [v])) F2 _ hd (w2.put g0 k hk fun ys z => by cases z) ⟨_, rfl, r2.append (.one hv)⟩ s.sub⟩
/-- xs.extend(e) -/
theorem t_extO1 {i : Nat} {es : List PyData} (k : Nat) (g0 : Good pt F0 H0) (w : Own pt F0 H0 F H L) (hk : L[k]? = some (l, o)) (lo : LstO K F o ds) (hi : σ[i]? = some (some (.ref l))) (h : EvG K pt te σ F (Is (.list es))) (hz : ds.length + es.length ≤ 100000)
    (q : ∀ o2 F2 H2, Own pt F0 H0 F2 H2 (L.set k (l, o2)) → LstO K F2 o2 (ds ++ es) → Ex F F2 → D.nx σ H2) : tDrop (tBM K "list" rExtend (tVar i) (tCons te tNil)) D σ H := by
  obtain ⟨acc, rfl, r⟩ := lo
  refine ⟨.ref l, hi, .inl ⟨rfl, acc, sq_of (w.get hk).2.2⟩, h H w.step.inn w.step.good _ fun d v F2 H2 hd s hv => ?_⟩
  subst hd
  obtain ⟨b, zs, rfl, hb, hzs⟩ := rp_lst hv
  have w2 := w.run g0 s
  have r2 := RpAll.mono s.sub _ _ r
  exact ⟨l, b, acc, zs, rfl, rfl, (w2.get hk).2.2, s.inn _ _ hb, by rw [r2.length, hzs.length]; exact sz_of hz, q (.lst (acc ++ zs)) F2 _ (w2.put g0 k hk fun ys z => by cases z) ⟨_, rfl, r2.append hzs⟩ s.sub⟩
/-- d[key] = e; e may read what is one's own -/
theorem t_putNO1 {i : Nat} {ks : List PyData} (k : Nat) (g0 : Good pt F0 H0) (w0 : Own pt F0 H0 F H L) (hk0 : L[k]? = some (l, o)) (do_ : DctO P w K F l o xs) (hi : σ[i]? = some (some (.ref l))) (hz : xs.length < 50000) (hb : kb (.tuple ks) = true) (hdp : (nk (.tuple ks)).depth ≤ 8)
    (he : EvG K pt te σ (putAll L F) R) (hn : ∀ d, R d → nl d = true) (hk : ∀ F', Ex F F' → EvG K pt ty σ F' (Is (.tuple ks)))
    (q : ∀ d v b o2 F2 H2, R d → Own pt F0 H0 F2 H2 (L.set k (l, o2)) → DctO P w K F2 l o2 (putN xs (nk (.tuple ks)) b v) → Ex F F2 → Rp K F2 v d → Rp K F2 (.ref b) (.tuple ks) → D.nx σ H2) : tAsg te (gSub (tVar i) ty (rSetN P w K)) D σ H := by
  obtain ⟨e1, e2, gd, back⟩ := w0.fixS g0 w0.nd (fun _ h => h)
  refine he H e2 gd _ fun d v F1 H1 hd s hv => ?_
  obtain ⟨w2, e3, tp, _⟩ := back F1 H1 s
  have hv3 := rp_tups tp d v (hn d hd) hv
  refine ⟨_, hi, hk _ e3 H1 w2.step.inn w2.step.good _ fun d2 v2 F3 H3 hd2 s2 hv2 => ?_⟩
  subst hd2
  obtain ⟨b, ys, rfl, hl, ha⟩ := rp_tup hv2
  have w3 := w2.run g0 s2
  have ko : KeyOk K F3 (nk (.tuple ks)) b := ⟨_, hv2, hb, rfl, hdp⟩
  have e4 := e3.trans s2.sub
  have d3 := do_.mono e4
  have nd3 : ND P w K H3 l xs := (d3.mono w3.step.inn).nd (w3.get hk0).2.2
  refine ⟨l, xs, _, b, rfl, rfl, nd3, ko.mono s2.inn, Nat.lt_of_lt_of_le hz (by decide), fun ob ho => ?_⟩
  refine q d v b (rawO l ob) F3 _ hd (w3.put g0 k hk0 raw_tn) ⟨d3.low, ⟨ob, rfl, ho⟩, fun x hx => ?_⟩ e4 (Rp.mono s2.sub _ _ hv3) hv2
  unfold putN at hx
  split at hx
  · obtain ⟨y, hy, rfl⟩ := List.mem_map.mp hx
    have := d3.keys y hy
    unfold putAtN
    split
    · exact this
    · exact this
  · rcases List.mem_append.mp hx with m | m
    · exact d3.keys x m
    · rw [List.mem_singleton.mp m]; exact ko
/-- key in d, key not in d -/
theorem g_inNd {i : Nat} {ks : List PyData} {neg : Bool} (h : EvG K pt te σ F (Is (.tuple ks))) (hb : kb (.tuple ks) = true) (hdp : (nk (.tuple ks)).depth ≤ 8) (h0 : σ[i]? = some (some (.ref l))) (nd : ND P w K F l xs) :
    EvG K pt (tOp (rInN P w K neg) te (tVar i)) σ F (Is (.bool (if neg then !(atN xs (nk (.tuple ks))).isSome else (atN xs (nk (.tuple ks))).isSome))) := fun H1 e g Q q =>
  h H1 e g _ fun d v F2 H2 hd s hv => by
    subst hd
    obtain ⟨b, rfl⟩ := tup_ref hv
    exact ⟨_, h0, l, xs, _, b, rfl, rfl, (nd.mono s.sub).mono s.inn, KeyOk.mono s.inn ⟨_, hv, hb, rfl, hdp⟩, q _ _ F2 H2 rfl s (.bl _)⟩
/-- a loop over a list of data that is left off where one likes; what is one's own goes with it -/
theorem t_forO {j : Nat} {RS : List PyData → Prop} (g0 : Good pt F0 H0) (w : Own pt F0 H0 F H L) (hw : WiG K pt wi σ F RS) (I : List PyData → Nat → L2.St → Hp → List Own1 → Prop) (h0 : ∀ ds, RS ds → ∀ F1, Ex F F1 → I ds 0 σ F1 L)
    (hs : ∀ ds, RS ds → ∀ i d, ds[i]? = some d → ∀ σ' F' H' L' x, I ds i σ' F' L' → Own pt F0 H0 F' H' L' → Ex F F' → Rp K F' x d →
      ∀ N : L2.St → Hp → Prop, (∀ σ2 F2 H2 L2, I ds (i + 1) σ2 F2 L2 → Own pt F0 H0 F2 H2 L2 → Ex F' F2 → N σ2 H2) → tu { D with nx := N, ct := N, bk := tz D } (σ'.set j (some x)) H')
    (hd : ∀ ds, RS ds → ∀ σ' F' H' L', I ds ds.length σ' F' L' → Own pt F0 H0 F' H' L' → Ex F F' → tz D σ' H') : tSeq (tFor wi (gName j) tu) tz D σ H :=
  hw H w.step.inn w.step.good _ fun ds' J F1 H1 e s1 Y => by
    refine ⟨fun i m σ' H' => m = ds'.length - i ∧ i ≤ ds'.length ∧ ∃ F' L', I ds' i σ' F' L' ∧ Own pt F0 H0 F' H' L' ∧ Ex F1 F', ⟨ds'.length, by simp, Nat.zero_le _, F1, L, h0 ds' e F1 s1.sub, w.run g0 s1, Ex.refl _⟩, ?_⟩
    rintro i m σ' H' ⟨rfl, hil, F', L', p, w', e'⟩
    have eH : Ex F1 H' := e'.trans w'.step.inn
    by_cases hlt : i < ds'.length
    · refine .inr ⟨Y.go i H' eH hlt, fun σ2 H2 => ∃ F2 L2, I ds' (i + 1) σ2 F2 L2 ∧ Own pt F0 H0 F2 H2 L2 ∧ Ex F1 F2, fun σ2 H2 ⟨F2, L2, a, c, b⟩ => ⟨ds'.length - (i + 1), by omega, rfl, hlt, F2, L2, a, c, b⟩, fun x H2 y => ?_⟩
      obtain ⟨rfl, d, hdd, hx⟩ := Y.yld i H' x H2 eH hlt y
      exact hs ds' e i d hdd σ' F' _ L' x p w' (s1.sub.trans e') (Rp.mono e' _ _ hx) _ fun σ2 F2 H2 L2 a c b => ⟨F2, L2, a, c, e'.trans b⟩
    · have hE : i = ds'.length := Nat.le_antisymm hil (Nat.le_of_not_lt hlt)
      subst hE
      exact .inl ⟨Y.stop H' eH, hd ds' e σ' F' H' L' p w' (s1.sub.trans e')⟩
theorem t_forO1 {j : Nat} {RS : List PyData → Prop} (g0 : Good pt F0 H0) (w : Own pt F0 H0 F H L) (hw : WiG K pt wi σ F RS) (I : List PyData → Nat → L2.St → Hp → List Own1 → Prop) (h0 : ∀ ds, RS ds → ∀ F1, Ex F F1 → I ds 0 σ F1 L)
    (hs : ∀ ds, RS ds → ∀ i d, ds[i]? = some d → ∀ σ' F' H' L' x, I ds i σ' F' L' → Own pt F0 H0 F' H' L' → Ex F F' → Rp K F' x d →
      ∀ N : L2.St → Hp → Prop, (∀ σ2 F2 H2 L2, I ds (i + 1) σ2 F2 L2 → Own pt F0 H0 F2 H2 L2 → Ex F' F2 → N σ2 H2) → tu { D with nx := N, ct := N, bk := D.nx } (σ'.set j (some x)) H')
    (hd : ∀ ds, RS ds → ∀ σ' F' H' L', I ds ds.length σ' F' L' → Own pt F0 H0 F' H' L' → Ex F F' → D.nx σ' H') : tFor wi (gName j) tu D σ H :=
  t_forO (tz := fun _ => D.nx) (D := D) g0 w hw I h0 hs hd
end
end Fv
/-! isinstance of a caught error that has fields, any answer -/
namespace Fv
open PySem PySem.Spec PySem.Calls PySem.W PyProof.Rows
section
variable {P : Program} {w : World} {A : Around} {R : Value → Shared → Prop} {K : Frag} {e D : Addr} {oe : Obj} {fo : Option Obj}
/-- the class's own word for __class__ comes before what the error holds -/
theorem word_class (C : L2.ExcC K D) : findObj K D fo "__class__" = some (.bind (.builtin "getset_descriptor.__get__") (.builtin "object.__class__")) := by
  have h1 : (clsIn K D).isSome = true := (any_some C.hd).elim fun _ h => by rw [h.1]; rfl
  obtain ⟨c, hc⟩ := Option.isSome_iff_exists.mp h1
  simp only [findObj, hc, C.ha, C.hn, C.ht, Option.bind_some]
theorem is_base (C : L2.ExcC K D) {h : Heap} (X : K.In h) (I : InstAt h e oe D fo) : Looks (model P w) h (isInstance (.ref e) (.type "BaseException")) true :=
  Looks.andThen I.type (looks_subIn X C.hs)
/-- what the base class's __getattribute__ does for __class__ -/
theorem base_class (C : L2.ExcC K D) {h : Heap} {gs : Array GenState} {dr : Drawn} {n n0 : Nat} {os : OsState} {Q : Value → Shared → Prop} (X : K.In h) (I : InstAt h e oe D fo) (q : Q (.ref D) ⟨h, gs, dr, n, os⟩) :
    wpAny (model P w) A (call (.builtin "BaseException.__getattribute__") [.ref e, .str "__class__" n0]) Q R ⟨h, gs, dr, n, os⟩ := by
  have G := PySem.F.excAttr_ValueError.ga
  refine wpAny_call (codeAny_call_builtin G.plain PySem.F.entry_bexc_ga ?_)
  refine check_slot (s := ⟨h, gs, dr, n, os⟩) (i := "BaseException.__getattribute__") (owner := "BaseException") (n := "__getattribute__") (self := .ref e) (rest := [.str "__class__" n0]) (kw := []) (by decide +kernel) (by decide +kernel) (is_base C X I) (PySem.F.args_bexc_ga _ _) ?_
  unfold Builtin.«object.__getattribute__»
  refine wpAny_bind (wpAny_of_eq (a := ((Value.ref e : Value), [Value.str "__class__" n0])) (by simp only [slotArgs]; rfl) ?_)
  dsimp only
  refine wpAny_bind (m := Builtin.ObjectAttr.attrName (.str "__class__" n0)) (wpAny_pure (wpAny_bind (I.type.at (wpAny_bind ((looks_find X I (word_class C)).at ?_)))))
  dsimp only
  unfold Builtin.ObjectAttr.bindTo
  refine wpAny_bind (wpAny_holding (wpAny_call (class_get (s := ⟨h, gs, dr, n, os⟩) (ox := oe) (od := fo) X I C.hm ?_)))
  first
    | exact wpAny_pure q
    | exact q
/-- getattr(e, "__class__") -/
theorem ask_class (C : L2.ExcC K D) {h : Heap} {gs : Array GenState} {dr : Drawn} {n : Nat} {os : OsState} {Q : Option Value → Shared → Prop} (X : K.In h) (I : InstAt h e oe D fo) (q : Q (some (.ref D)) ⟨h, gs, dr, n + 1, os⟩) :
    wpAny (model P w) A (getAttr? (.ref e) "__class__") Q R ⟨h, gs, dr, n, os⟩ := by
  have other : (Value.builtin "BaseException.__getattribute__" == Value.builtin "object.__getattribute__") = false := by decide +kernel
  simp only [getAttr?, getAttrBy?, getAttrBy]
  refine wpAny_bind (wpAny_mkText (wpAny_bind (wpAny_attempt (wpAny_holding (wpAny_bind (I.type.at (wpAny_bind ((looks_findIn X C.hg).at ?_))))))))
  dsimp only
  rw [other, Bool.and_false, if_neg (by decide)]
  simp only [getAttrByItsOwn, hookBefore]
  rw [if_pos (show onTheHeap (Value.ref D) = true from rfl)]
  refine wpAny_bind ((looks_findIn X C.hk).at (wpAny_bind (wpAny_attempt (wpAny_holding ?_))))
  simp only [callGetattribute, boundAndCalled, Bool.false_and, Bool.false_eq_true, if_false, PySem.F.excAttr_ValueError.ga.bind]
  refine wpAny_bind (wpAny_pure (base_class C X I ?_))
  rw [handedOut_of (v := .ref D) rfl]
  first
    | exact wpAny_pure (wpAny_pure q)
    | exact wpAny_pure q
    | exact wpAny_pure (wpAny_bind (wpAny_pure (wpAny_pure q)))
/-- what isinstance asks of such an error -/
theorem kit_err (C : L2.ExcC K D) : KitX K (.ref e) (.ref D) (fun h => InstAt h e oe D fo) := by
  obtain ⟨cd, hcd, _⟩ := any_some C.hd
  have cls : ∃ c d sl, K.lookup D = some ⟨c, d, .cls cd, sl⟩ := by
    unfold clsIn at hcd
    split at hcd
    · rename_i c d z sl ho
      cases hcd
      exact ⟨c, d, sl, ho⟩
    · cases hcd
  obtain ⟨c, d, sl, ho⟩ := cls
  refine ⟨fun _ _ _ I => I.type, fun _ _ X _ A' Q' E' s' k q => ?_, fun h tp dd its n sl' X htp => ?_, fun X I q => ask_class C X I q⟩
  · simp only [isType, loadHead]
    exact wpAny_bind (wpAny_loadPart (k _ _ (X _ _ ho)) (wpAny_pure q))
  · by_cases z : tp = D
    · rw [z, X _ _ ho] at htp; cases htp
    · exact beq_eq_false_iff_ne.mpr fun y => z (Value.ref.inj y).symm
/-- an own class, asked of an own class -/
theorem kit_own {S B : Addr} {b : Bool} (hc : isClsIn K B = true) (ht : typeIn K (.ref B) = some (.type "type")) (hs : subIn K (.ref S) (.ref B) = some b) (hb : S = B → b = true) : kitOne K (.ref S) (.ref B) = some b := by
  have hc' : (clsIn K B).isSome = true := hc
  unfold kitOne kitCls
  by_cases z : S = B
  · subst z
    rw [hb rfl]
    simp
  · simp [hc', ht, hs, z]
end
end Fv
namespace L2
open PySem PySem.Spec PyProof.Rows
/-- isinstance(e, c), e the exception that the suite holds, with its fields at dd -/
def rIsX (K : PySem.W.Frag) (cls : Value) (d : Option Addr) (a : Addr) : List V → Hp → VK → Prop := fun xs H Q => ∃ (D dd : Addr) (fs : List (Str × V)) (c : V) (cv : Value) (b : Bool), xs = [.ref a, c] ∧ cls = .ref D ∧ d = some dd ∧ ExcC K D ∧ H dd = some (.xd fs) ∧ (∀ u, RelV c u → u = cv) ∧ PySem.W.kitOne K (.ref D) cv = some b ∧ Q (.bl b) H
theorem c_isX {X : Cx} {a : Addr} {oe : Obj} {cls : Value} {d : Option Addr} {pn : List (Addr × Obj)} {K : PySem.W.Frag} (hz : Zc cls d oe) (hf : ∃ vs, oe.data = .fields vs) (h : X.K = K := by rfl) : CallR (X.suite a ((a, oe) :: pn)) (.builtin "isinstance") (rIsX K cls d a) := by
  subst h
  intro pins s σ H xs us Q I r ⟨D, dd, fs, c, cv, b, ex, ec, ed, C, ea, hcv, hk, q⟩
  subst ex; subst ec; subst ed
  obtain ⟨u0, u1, rfl, r0, r1⟩ : ∃ u0 u1, us = [u0, u1] ∧ RelV (.ref a) u0 ∧ RelV c u1 := by
    cases r with
    | cons x y =>
      cases y with
      | cons y z => cases z; exact ⟨_, _, rfl, x, y⟩
  cases r0
  obtain rfl := hcv _ r1
  obtain ⟨vs, hv⟩ := hf
  obtain ⟨mA, hns, _⟩ : ObjOk X.prog X.w H s.heap dd (.xd fs) := I.hok dd _ ea
  obtain ⟨od, ho, _⟩ := lookIn_ns hns
  have J : PySem.W.InstAt s.heap a oe D (some od) := ⟨(I.pin (a, oe) (List.mem_append_left _ List.mem_cons_self)).1, hz.1, by unfold PySem.W.notCls; rw [hv] <;> rfl, by rw [hz.2]; exact ho⟩
  exact PySem.W.kia_one (Fv.kit_err C) I.kIn J hk (fun z => nomatch z) fun tk => ⟨.bl b, H, I.kept (t' := tk) fun _ _ z => z, rfl, q⟩
end L2
namespace Fv
open PySem PySem.Spec PyProof.Rows L2 Evl StX
theorem g_isX {K : PySem.W.Frag} {pt : Option Pt} {σ : L2.St} {F : Hp} {D dd a : Addr} {fs : List (Str × V)} {c : V} {cv : Value} {b : Bool} {i : Nat} (C : ExcC K D) (h0 : σ[i]? = some (some (.ref a))) (hd : F dd = some (.xd fs)) (hc : ∀ u, RelV c u → u = cv) (hk : PySem.W.kitOne K (.ref D) cv = some b) :
    EvG K pt (tCB (rIsX K (.ref D) (some dd) a) (tCons (tVar i) (tCons (tC c) tNil))) σ F (Is (.bool b)) := fun H1 e g Q q =>
  ⟨_, h0, D, dd, fs, c, cv, b, rfl, rfl, rfl, C, e _ _ hd, hc, hk, q _ _ F H1 rfl (.refl e g) (.bl b)⟩
end Fv
/-! walking a list while an error is handled -/
namespace Fv
open PySem PySem.Spec PyProof.Rows L2 L2H Evl StX HotX
end Fv
/-! == by a class's own __eq__ with something of another class; a comprehension over tuples taken apart; instances whose fields are rows of whole numbers -/
namespace L2
open PySem PySem.Spec PyProof.Rows Evl
end L2
namespace Fv
open PySem PySem.Spec PyProof.Rows L2 Evl StX
section
variable {K : PySem.W.Frag} {w : World} {pt : Option Pt} {σ : L2.St} {F F' F0 H0 H F2 H2 : Hp} {te ti ta tb : TE} {ts tr : TA} {t : TT} {R : PD} {D : Ends} {tz tu : TS} {wi : TI} {l x : Addr}
/-! instances with rows -/
structure InsR (K : PySem.W.Frag) (C : Addr) (F : Hp) (x : Addr) (fs : List (Str × List Int)) : Prop where
  ex : ∃ dx vs, F x = some (.ins C dx ((fs.map (·.1)).zip vs)) ∧ F dx = some (.own x) ∧ RpAll K F vs (fs.map fun p => dT p.2)
theorem InsR.mono {C : Addr} {fs : List (Str × List Int)} (h : InsR K C F x fs) (e : Ex F F') : InsR K C F' x fs := by
  obtain ⟨dx, vs, h1, h2, h3⟩ := h.ex
  exact ⟨dx, vs, e _ _ h1, e _ _ h2, RpAll.mono e _ _ h3⟩
end
end Fv
namespace Fv
open PySem PySem.Spec PyProof.Rows L2 Evl StX
end Fv
namespace L2
open PySem PySem.Spec PyProof.Rows Evl
end L2
namespace Fv
open PySem PySem.Spec PyProof.Rows L2 Evl StX
end Fv
/-! objects that change: what is handed to a def and comes back changed; fields written; makers of such objects -/
namespace Fv
open PySem PySem.Spec PyProof.Rows L2 Evl StX
section
variable {K : PySem.W.Frag} {pt : Option Pt} {σ : L2.St} {F F' F0 H0 H F2 H2 : Hp} {te ti ta tb : TE} {ts : TA} {t : TT} {R : PD} {D : Ends} {tz tu tw : TS} {L L' L2 LR LQ : List Own1} {a x dx l : Addr} {o o' : HO} {fs : List (Str × V)} {f : Str} {C : Addr}
/-- what is handed over: it stands in the heap, out of the frozen part -/
structure OwnIn (F H : Hp) (L : List Own1) : Prop where
  inn : Ex F H
  nd : (L.map (·.1)).Nodup
  off : ∀ p ∈ L, F p.1 = none ∧ H p.1 = some p.2 ∧ ∀ ys, p.2 ≠ .tup ys
theorem OwnIn.start (w : OwnIn F H L) : Own none F (delAll L H) F H L := ⟨⟨Ex.refl F, w.inn, Keep.of delAll_ex, .nil, New.refl F _⟩, w.nd, fun p hp => by
  obtain ⟨h1, h2, h3⟩ := w.off p hp
  exact ⟨h1, delAll_at hp, h2, h3⟩⟩
theorem Own.to (w : Own pt F0 H0 F H LR) (nd : (L.map (·.1)).Nodup) (s : ∀ p ∈ L, p ∈ LR) : OwnIn F H L := ⟨w.step.inn, nd, fun p hp => by
  obtain ⟨h1, _, h2, h3⟩ := w.off p (s p hp)
  exact ⟨h1, h2, h3⟩⟩
theorem Own.less (w : Own pt F0 H0 F H LR) (nd : (L.map (·.1)).Nodup) (s : ∀ p ∈ L, p ∈ LR) : Own pt F0 H0 F H L := ⟨w.step, nd, fun p hp => w.off p (s p hp)⟩
/-- a call that was handed L of it -/
theorem Own.call (g0 : Good pt F0 H0) (w : Own pt F0 H0 F H LR) (sL : ∀ p ∈ L, p ∈ LR) (sR : ∀ p ∈ LQ, p ∈ LR) (nd : (L.map (·.1) ++ LQ.map (·.1)).Nodup) (c : Own none F (delAll L H) F2 H2 L2) : Own pt F0 H0 F2 H2 (L2 ++ LQ) ∧ Ex F F2 := by
  have nd1 := (List.nodup_append.mp nd).1
  have nd2 := (List.nodup_append.mp nd).2.1
  have nd3 := (List.nodup_append.mp nd).2.2
  -- what stood before and isn't handed over stands still
  have still : ∀ b u, (∀ p ∈ L, p.1 ≠ b) → H b = some u → H2 b = some u := fun b u hb hu => c.step.keep.ex b u (by rw [delAll_off hb]; exact hu)
  have h0L : ∀ {b : Addr} {u : HO}, H0 b = some u → ∀ p ∈ L, p.1 ≠ b := fun {b u} hb p hp e => by
    have := (w.off p (sL p hp)).2.1
    rw [e, hb] at this; cases this
  have potL : ∀ q, pt = some q → (∀ p ∈ L, p.1 ≠ q.p) ∧ ∀ p ∈ L, p.1 ≠ q.l := fun q hq => ⟨fun p hp e => (off_pot g0 (w.off p (sL p hp)).2.1 q hq).1 e, fun p hp e => (off_pot g0 (w.off p (sL p hp)).2.1 q hq).2 e⟩
  have good2 : Good pt F2 H2 := fun q hq => by
    obtain ⟨f1, pa⟩ := w.step.good q hq
    obtain ⟨q1, q2⟩ := potL q hq
    obtain ⟨i1, i2, i3, hp, hb⟩ := pa.ex
    have s1 := still _ _ q1 hp
    have s2 := still _ _ q2 pa.ls
    exact ⟨c.step.new q.p f1 ⟨_, by rw [delAll_off q1]; exact hp, fun ys z => by cases z⟩, ⟨pa.ne, s2, pa.few, i1, i2, i3, s1, hb⟩⟩
  have keep2 : Keep pt H0 H2 := fun b u nb hb => still b u (h0L hb) (w.step.keep b u nb hb)
  have new2 : New F0 H0 F2 := fun b hb hu => by
    have fb := w.step.new b hb hu
    obtain ⟨u, hu1, hu2⟩ := hu
    by_cases z : ∃ q, pt = some q ∧ b = q.p
    · obtain ⟨q, hq, rfl⟩ := z
      exact (good2 q hq).1
    · have hH := w.step.keep b u (fun q hq e => z ⟨q, hq, e⟩) hu1
      exact c.step.new b fb ⟨u, by rw [delAll_off (h0L hu1)]; exact hH, hu2⟩
  refine ⟨⟨⟨w.step.sub.trans c.step.sub, c.step.inn, keep2, good2, new2⟩, ?_, fun p hp => ?_⟩, c.step.sub⟩
  · rw [List.map_append, List.nodup_append]
    refine ⟨c.nd, nd2, fun b hb d hd e => ?_⟩
    obtain ⟨p, hp, rfl⟩ := List.mem_map.mp hb
    obtain ⟨r, hr, rfl⟩ := List.mem_map.mp hd
    have h1 := (c.off p hp).2.1
    have h2 := (w.off r (sR r hr)).2.2.1
    have h3 : ∀ p' ∈ L, p'.1 ≠ r.1 := fun p' hp' e' => nd3 _ (List.mem_map_of_mem hp') _ (List.mem_map_of_mem hr) e'
    rw [e, delAll_off h3, h2] at h1; cases h1
  · rcases List.mem_append.mp hp with z | z
    · obtain ⟨h1, h2, h3, h4⟩ := c.off p z
      refine ⟨h1, ?_, h3, h4⟩
      cases e : H0 p.1 with
      | none => rfl
      | some u =>
        by_cases y : ∃ q, pt = some q ∧ p.1 = q.p
        · obtain ⟨q, hq, e2⟩ := y
          have pa := (w.step.good q hq).2
          rw [e2, delAll_off (potL q hq).1] at h2
          exact absurd h2 pa.some
        · have hH := w.step.keep p.1 u (fun q hq e' => y ⟨q, hq, e'⟩) e
          rw [delAll_off (h0L e), hH] at h2; cases h2
    · obtain ⟨h1, h2, h3, h4⟩ := w.off p (sR p z)
      have h5 : ∀ p' ∈ L, p'.1 ≠ p.1 := fun p' hp' e' => nd3 _ (List.mem_map_of_mem hp') _ (List.mem_map_of_mem z) e'
      exact ⟨c.step.new p.1 h1 ⟨p.2, by rw [delAll_off h5]; exact h3, h4⟩, h2, still _ _ h5 h3, h4⟩
end
end Fv
namespace Fv
open PySem PySem.Spec PyProof.Rows L2 Evl StX
section
variable {K : PySem.W.Frag} {pt : Option Pt} {σ : L2.St} {F F' F0 H0 H F2 H2 : Hp} {te ti ta tb : TE} {ts : TA} {t : TT} {R : PD} {D : Ends} {tz tu tw : TS} {L L' L2 LR LQ : List Own1} {a x dx l : Addr} {o o' : HO} {fs : List (Str × V)} {f : Str} {C : Addr}
/-- x[i] = e, x a list of one's own -/
theorem t_setLO1 {i j : Nat} {vs : List V} (k : Nat) (g0 : Good pt F0 H0) (w : Own pt F0 H0 F H L) (hk : L[k]? = some (l, .lst vs)) (hi : σ[i]? = some (some (.ref l)))
    (h : EvG K pt te σ (putAll L F) R) (hn : ∀ d, R d → nl d = true) (hj : EvG K pt ti σ F (Is (.int (j : Int)))) (lt : j < vs.length)
    (q : ∀ d v F2 H2, R d → Own pt F0 H0 F2 H2 (L.set k (l, .lst (vs.set j v))) → Ex F F2 → Rp K F2 v d → D.nx σ H2) : tAsg te (gSub (tVar i) ti rSetL) D σ H := by
  obtain ⟨e1, e2, gd, back⟩ := w.fixS g0 w.nd (fun _ h => h)
  refine h H e2 gd _ fun d v F2 H2 hd s hv => ?_
  obtain ⟨w2, e3, tp, _⟩ := back F2 H2 s
  have hv2 := rp_tups tp d v (hn d hd) hv
  refine ⟨.ref l, hi, hj.mono e3 H2 w2.step.inn w2.step.good _ fun d2 v2 F3 H3 hd2 s3 hv3 => ?_⟩
  subst hd2
  obtain rfl := rp_int hv3
  have w3 := w2.run g0 s3
  exact ⟨l, vs, (j : Int), j, rfl, rfl, (w3.get hk).2.2, ixN_nat lt, q d v _ _ hd (w3.put g0 k hk fun ys z => by cases z) (e3.trans s3.sub) (Rp.mono s3.sub _ _ hv2)⟩
end
end Fv
/-! the place of a number in a tuple of numbers -/
namespace L2
open PySem PySem.Spec PyProof.Rows
end L2
namespace Fv
open PySem PySem.Spec PyProof.Rows L2 Evl StX
/-- a tuple of whole numbers seen as it was made -/
def TupF (F : Hp) (v : V) (ys : List Int) : Prop := ∃ p o, v = .ref p ∧ F p = some (.frz o (.tup (ys.map .int))) ∧ o.cls = .type "tuple" ∧ o.dict = none
section
variable {K : PySem.W.Frag} {pt : Option Pt} {σ : L2.St} {F F' F0 H0 H : Hp} {te ta tb ti : TE} {ts : TA} {x C dx : Addr} {ys : List Int} {v : V} {D : Ends} {tz : TS} {L : List Own1} {fs : List (Str × V)} {f : Str}
theorem TupF.mono (e : Ex F F') (h : TupF F v ys) : TupF F' v ys := by
  obtain ⟨p, o, h1, h2, h3⟩ := h
  exact ⟨p, o, h1, e _ _ h2, h3⟩
end
end Fv
/-! objects that change, further: made in a display or a comprehension, lists joined, popped from; calls that read them -/
namespace Fv
open PySem PySem.Spec PyProof.Rows L2 Evl StX
section
variable {K : PySem.W.Frag} {pt : Option Pt} {σ : L2.St} {F F' F0 H0 H F2 H2 : Hp} {te ti ta tb : TE} {ts tk : TA} {t : TT} {R : PD} {D : Ends} {tz tu tw : TS} {wi : TI} {L L' L2 LR LQ : List Own1} {a x dx l C : Addr} {o o' : HO} {fs : List (Str × V)} {f : Str} {E : XK}
theorem RpAll.tups (w : ∀ a ys, F a = some (.tup ys) → F' a = some (.tup ys)) : ∀ {ds : List PyData} {vs : List V}, nlL ds = true → RpAll K F vs ds → RpAll K F' vs ds
  | [], _, _, x => by cases x; exact .nil
  | d :: ds, _, hn, x => by
    simp only [nlL, Bool.and_eq_true] at hn
    cases x with
    | cons x1 x2 => exact .cons (rp_tups w d _ hn.1 x1) (RpAll.tups w hn.2 x2)
end
end Fv
/-! objects that change: tests whose branches change them, one put in another's place, pop -/
namespace Fv
open PySem PySem.Spec PyProof.Rows L2 Evl StX
section
variable {K : PySem.W.Frag} {pt : Option Pt} {σ : L2.St} {F F' F0 H0 H F2 H2 : Hp} {te ti ta tb : TE} {ts tk : TA} {t : TT} {R : PD} {D : Ends} {tz tu tw : TS} {wi : TI} {L L' L2 LR LQ : List Own1} {a x dx l C : Addr} {o o' : HO} {fs : List (Str × V)} {f : Str} {E : XK} {Rb : Bool → Prop}
/-- a test that ends in J either way -/
theorem t_ifJO (J : _root_.L2.St → Hp → List Own1 → Prop) (g0 : Good pt F0 H0) (w : Own pt F0 H0 F H L) (h : EtG pt t σ (putAll L F) Rb)
    (h1 : Rb true → ∀ F2 H2, Own pt F0 H0 F2 H2 L → Ex F F2 → ∀ N : _root_.L2.St → Hp → Prop, (∀ σ3 F3 H3 L3, J σ3 F3 L3 → Own pt F0 H0 F3 H3 L3 → N σ3 H3) → tu { D with nx := N } σ H2)
    (h2 : Rb false → ∀ F2 H2, Own pt F0 H0 F2 H2 L → Ex F F2 → ∀ N : _root_.L2.St → Hp → Prop, (∀ σ3 F3 H3 L3, J σ3 F3 L3 → Own pt F0 H0 F3 H3 L3 → N σ3 H3) → tw { D with nx := N } σ H2)
    (q : ∀ σ3 F3 H3 L3, J σ3 F3 L3 → Own pt F0 H0 F3 H3 L3 → tz D σ3 H3) : tSeq (tIfS t tu tw) tz D σ H := by
  obtain ⟨e1, e2, gd, back⟩ := w.fixS g0 w.nd (fun _ h => h)
  refine h H e2 gd _ fun c F2 H2 hc s => ?_
  obtain ⟨w2, e3, _, _⟩ := back F2 H2 s
  cases c with
  | true => rw [if_pos rfl]; exact h1 hc _ _ w2 e3 (tz D) q
  | false => rw [if_neg (by simp)]; exact h2 hc _ _ w2 e3 (tz D) q
/-- the last one in another's place -/
theorem Own.swap {q : Own1} (w : Own pt F0 H0 F H (L ++ [q])) {j : Nat} (hj : j < L.length) : Own pt F0 H0 F H (L.set j q) := by
  refine w.less ?_ fun p hp => ?_
  · have nd := w.nd
    rw [List.map_append] at nd
    obtain ⟨h1, _, h3⟩ := List.nodup_append.mp nd
    rw [List.map_set]
    have e : L.map (·.1) = (L.map (·.1)).take j ++ (L.map (·.1))[j]'(by rw [List.length_map]; exact hj) :: (L.map (·.1)).drop (j + 1) := by
      rw [← List.drop_eq_getElem_cons, List.take_append_drop]
    rw [List.set_eq_take_append_cons_drop, if_pos (by rw [List.length_map]; exact hj)]
    rw [e] at h1
    obtain ⟨n1, n2, n3⟩ := List.nodup_append.mp h1
    rw [List.nodup_cons] at n2
    have no : ∀ b ∈ L.map (·.1), b ≠ q.1 := fun b hb => h3 b hb q.1 (by simp)
    rw [List.nodup_append]
    refine ⟨n1, List.nodup_cons.mpr ⟨fun hm => no _ (List.mem_of_mem_drop hm) rfl, n2.2⟩, fun b hb d hd => ?_⟩
    rcases List.mem_cons.mp hd with rfl | hd
    · exact no b (List.mem_of_mem_take hb)
    · exact n3 b hb d (List.mem_cons_of_mem _ hd)
  · rcases List.mem_or_eq_of_mem_set hp with h | h
    · exact List.mem_append_left _ h
    · exact List.mem_append_right _ (by rw [h]; simp)
theorem Own.all (w : Own pt F0 H0 F H L) : OwnIn F H L := w.to w.nd fun p hp => hp
/-- what an expression gives that reads one's own -/
theorem t_evO {Q : VK} (g0 : Good pt F0 H0) (w : Own pt F0 H0 F H L) (h : EvG K pt te σ (putAll L F) R) (hn : ∀ d, R d → nl d = true) (q : ∀ d v F2 H2, R d → Own pt F0 H0 F2 H2 L → Ex F F2 → Rp K F2 v d → Q v H2) : te σ H Q := by
  obtain ⟨e1, e2, gd, back⟩ := w.fixS g0 w.nd (fun _ h => h)
  refine h H e2 gd _ fun d v F2 H2 hd s hv => ?_
  obtain ⟨w2, e3, tp, _⟩ := back F2 H2 s
  exact q d v _ H2 hd w2 e3 (rp_tups tp d v (hn d hd) hv)
end
end Fv
/-! objects that change: a comprehension with a test, what was made while one's own was seen, a call handed the first part -/
namespace Fv
open PySem PySem.Spec PyProof.Rows L2 Evl StX
end Fv
/-! a dict of dicts of one's own, their keys rows -/
namespace Fv
open PySem PySem.Spec PyProof.Rows L2 Evl StX
theorem putK_new {kvs : List (List Key × V)} {k : List Key} {v : V} (h : k ∉ kvs.map (·.1)) : putK kvs k v = kvs ++ [(k, v)] := by
  unfold putK
  have : (kvs.any fun kv => decide (kv.1 = k)) = false := by
    rw [List.any_eq_false]
    intro x hx
    simp only [decide_eq_true_eq]
    intro e
    exact h (List.mem_map.mpr ⟨x, hx, e⟩)
  rw [this]; rfl
/-- the outer dict: each row its dict -/
def nearK (R : List (List Int)) (as : Nat → Addr) : List (List Key × V) := (List.range R.length).map fun k => (key (R.getD k []), V.ref (as k))
def nearIn (n : Nat) (as : Nat → Addr) (ks : Nat → List (List Key × V)) : List Own1 := (List.range n).map fun k => (as k, HO.dT (ks k))
def nearL (Dd : Addr) (R : List (List Int)) (as : Nat → Addr) (ks : Nat → List (List Key × V)) : List Own1 := (Dd, HO.dT (nearK R as)) :: nearIn R.length as ks
def upN {α : Type} (f : Nat → α) (k : Nat) (v : α) : Nat → α := fun i => if i = k then v else f i
theorem nearL_at {Dd : Addr} {R : List (List Int)} {as : Nat → Addr} {ks : Nat → List (List Key × V)} {k : Nat} (h : k < R.length) : (nearL Dd R as ks)[k + 1]? = some (as k, .dT (ks k)) := by
  show (nearIn R.length as ks)[k]? = _
  unfold nearIn
  rw [List.getElem?_map, List.getElem?_range h]; rfl
theorem nearL_set {Dd : Addr} {R : List (List Int)} {as : Nat → Addr} {ks : Nat → List (List Key × V)} {k : Nat} {v : List (List Key × V)} (h : k < R.length) : (nearL Dd R as ks).set (k + 1) (as k, .dT v) = nearL Dd R as (upN ks k v) := by
  show (Dd, HO.dT (nearK R as)) :: (nearIn R.length as ks).set k (as k, .dT v) = (Dd, HO.dT (nearK R as)) :: nearIn R.length as (upN ks k v)
  congr 1
  unfold nearIn
  apply List.ext_getElem?
  intro i
  by_cases z : i < R.length
  · by_cases y : k = i
    · subst y
      rw [List.getElem?_set_self (by simp; exact z), List.getElem?_map, List.getElem?_range z]
      simp [upN]
    · rw [List.getElem?_set_ne y, List.getElem?_map, List.getElem?_map, List.getElem?_range z]
      simp only [Option.map_some, upN]
      rw [if_neg (fun e => y e.symm)]
  · rw [List.getElem?_eq_none (by simp; omega), List.getElem?_eq_none (by simp; omega)]
theorem valV_map {α : Type} {f : α → List Key} {g : α → V} : ∀ {l : List α} {a : α}, a ∈ l → (∀ b ∈ l, f b = f a → g b = g a) → valV (l.map fun x => (f x, g x)) (f a) = some (g a)
  | b :: l, a, ha, hu => by
    rw [List.map_cons]
    by_cases z : f b = f a
    · rw [valV_pos z, hu b (by simp) z]
    · rw [valV_neg z]
      rcases List.mem_cons.mp ha with e | m
      · exact absurd (by rw [e]) z
      · exact valV_map m fun c hc => hu c (List.mem_cons_of_mem _ hc)
theorem nearK_at {R : List (List Int)} {as : Nat → Addr} {k : Nat} (nd : R.Nodup) (h : k < R.length) : valV (nearK R as) (key (R.getD k [])) = some (.ref (as k)) := by
  refine valV_map (f := fun k => key (R.getD k [])) (g := fun k => V.ref (as k)) (List.mem_range.mpr h) fun j hj e => ?_
  have hj := List.mem_range.mp hj
  have e2 := key_inj e
  rw [List.getD_eq_getElem?_getD, List.getD_eq_getElem?_getD, List.getElem?_eq_getElem hj, List.getElem?_eq_getElem h] at e2
  have : j = k := (List.getElem_inj nd).mp e2
  rw [this]
theorem nearK_keys (R : List (List Int)) (as : Nat → Addr) : (nearK R as).map (·.1) = R.map key := by
  unfold nearK
  rw [List.map_map]
  apply List.ext_getElem?
  intro i
  rw [List.getElem?_map, List.getElem?_map]
  by_cases z : i < R.length
  · rw [List.getElem?_range z, List.getElem?_eq_getElem z]
    show some (key (R.getD i [])) = _
    rw [List.getD_eq_getElem?_getD, List.getElem?_eq_getElem z]; rfl
  · rw [List.getElem?_eq_none (by simp; omega), List.getElem?_eq_none (by omega)]; rfl
theorem nearK_take {R : List (List Int)} {as as2 : Nat → Addr} {i : Nat} {r : List Int} (hr : R[i]? = some r) (h : ∀ k < i, as2 k = as k) : nearK (R.take (i + 1)) as2 = nearK (R.take i) as ++ [(key r, .ref (as2 i))] := by
  have hi : i < R.length := (List.getElem?_eq_some_iff.mp hr).1
  have l1 : (R.take (i + 1)).length = i + 1 := by rw [List.length_take]; omega
  have l2 : (R.take i).length = i := by rw [List.length_take]; omega
  unfold nearK
  rw [l1, l2, List.range_succ, List.map_append]
  congr 1
  · refine List.map_congr_left fun k hk => ?_
    have hk := List.mem_range.mp hk
    rw [h k hk]
    congr 2
    rw [List.getD_eq_getElem?_getD, List.getD_eq_getElem?_getD, List.getElem?_take_of_lt (by omega), List.getElem?_take_of_lt hk]
  · show [(key ((R.take (i + 1)).getD i []), V.ref (as2 i))] = _
    rw [List.getD_eq_getElem?_getD, List.getElem?_take_of_lt (by omega), hr]; rfl
section
variable {K : PySem.W.Frag} {pt : Option Pt} {σ : L2.St} {F F' F0 H0 H F2 H2 : Hp} {te ti ta tb : TE} {ts tk : TA} {t tt : TT} {R : PD} {D : Ends} {tz tu tw : TS} {wi : TI} {L L' L2 LR LQ : List Own1} {a x dx l C : Addr} {o o' : HO} {fs : List (Str × V)} {f : Str} {E : XK} {d d1 : PyData}
/-- {row: {} for row in rows} -/
theorem e_dcOwn {j : Nat} {vs : List Nat} {ls : List (List Int)} {Q : VK} (nd : ls.Nodup) (g0 : Good pt F0 H0) (w : Own pt F0 H0 F H L) (hw : WiG K pt wi σ F (· = ls.map dT)) (hz : ls.length ≤ 300) (hwp : ∀ x, wipe ((wipe σ vs).set j (some x)) vs = wipe σ vs)
    (hk : ∀ l ∈ ls, ∀ F', Ex F F' → ∀ v, Rp K F' v (dT l) → EvG K pt te ((wipe σ vs).set j (some v)) F' (Is (dT l)))
    (q : ∀ Dd as F2 H2, Own pt F0 H0 F2 H2 (L ++ nearL Dd ls as fun _ => []) → Ex F F2 → Q (.ref Dd) H2) : tDcT wi (gName j) tYes te tDNewT vs σ H Q :=
  hw H w.step.inn w.step.good _ fun ds J F1 H1 hds s1 Y => fun Dd hD => by
    subst hds
    have w1 := w.run g0 s1
    have hlen : (ls.map dT).length = ls.length := by simp
    refine ⟨fun i m H => m = ls.length - i ∧ i ≤ ls.length ∧ ∃ F' as, Own pt F0 H0 F' H (L ++ nearL Dd (ls.take i) as fun _ => []) ∧ Ex F1 F', ⟨ls.length, by simp, Nat.zero_le _, F1, fun _ => Dd, w1.new hD (fun ys z => by cases z), Ex.refl _⟩, ?_⟩
    rintro i m H ⟨rfl, hi, F', as, wb, ef⟩
    have eH : Ex F1 H := ef.trans wb.step.inn
    by_cases hlt : i < ls.length
    · refine .inr ⟨Y.go i H eH (by rw [hlen]; exact hlt), fun H => ∃ F' as, Own pt F0 H0 F' H (L ++ nearL Dd (ls.take (i + 1)) as fun _ => []) ∧ Ex F1 F', fun H' p' => ⟨ls.length - (i + 1), by omega, rfl, hlt, p'⟩, fun v H' y => ?_⟩
      obtain ⟨rfl, d, hd, hx⟩ := Y.yld i H v H' eH (by rw [hlen]; exact hlt) y
      obtain ⟨r, hr, rfl⟩ := get_map hd
      have hm0 : r ∈ ls := List.mem_of_getElem? hr
      refine ⟨hwp v, yes_of (ite_t ?_)⟩
      refine hk r hm0 F' (s1.sub.trans ef) v (Rp.mono ef _ _ hx) _ wb.step.inn wb.step.good _ fun d u F2 H2 hd2 s2 hu => ?_
      subst hd2
      obtain ⟨q2, xs, rfl, hq2, ha⟩ := rp_tup hu
      have e1 := rpAll_ints ha
      subst e1
      have w2 := wb.run g0 s2
      intro p hp
      have w3 := w2.new hp (o := .dT []) fun ys z => by cases z
      have hk0 : (L ++ nearL Dd (ls.take i) as (fun _ => []) ++ [(p, HO.dT [])])[L.length]? = some (Dd, .dT (nearK (ls.take i) as)) := by
        rw [List.append_assoc, List.getElem?_append_right (Nat.le_refl _), Nat.sub_self]; rfl
      have w4 := w3.put g0 L.length hk0 (o' := .dT (putK (nearK (ls.take i) as) (key r) (.ref p))) fun ys z => by cases z
      have nin : key r ∉ (nearK (ls.take i) as).map (·.1) := by
        rw [nearK_keys]
        intro h
        obtain ⟨r2, h2, e2⟩ := List.mem_map.mp h
        have := key_inj e2
        subst this
        obtain ⟨j, hj, ej⟩ := List.mem_iff_getElem.mp h2
        rw [List.length_take] at hj
        rw [List.getElem_take] at ej
        obtain ⟨hi2, ei⟩ := List.getElem?_eq_some_iff.mp hr
        have : j = i := (List.getElem_inj nd).mp (ej.trans ei.symm)
        omega
      have l2 : (ls.take i).length = i := by rw [List.length_take]; omega
      have l1 : (ls.take (i + 1)).length = i + 1 := by rw [List.length_take]; omega
      have eL : (L ++ nearL Dd (ls.take i) as (fun _ => []) ++ [(p, HO.dT [])]).set L.length (Dd, .dT (putK (nearK (ls.take i) as) (key r) (.ref p))) = L ++ nearL Dd (ls.take (i + 1)) (upN as i p) fun _ => [] := by
        rw [putK_new nin, List.append_assoc, List.set_append_right _ _ (Nat.le_refl _), Nat.sub_self]
        congr 1
        unfold nearL
        rw [nearK_take (as := as) (as2 := upN as i p) hr (fun k hk => by unfold upN; rw [if_neg (by omega)])]
        have e3 : upN as i p i = p := by unfold upN; rw [if_pos rfl]
        rw [e3]
        show (_ :: (nearIn _ as _ ++ _)) = _
        congr 1
        unfold nearIn
        rw [l1, l2, List.range_succ, List.map_append]
        congr 1
        · refine List.map_congr_left fun k hk => ?_
          have := List.mem_range.mp hk
          unfold upN; rw [if_neg (by omega)]
        · show [(p, HO.dT [])] = [(upN as i p i, HO.dT [])]
          rw [e3]
      rw [eL] at w4
      refine ⟨nearK (ls.take i) as, key r, q2, rfl, ?_, (w3.get hk0).2.2, ?_, F2, upN as i p, w4, ef.trans s2.sub⟩
      · rw [key_kV]; exact w3.step.inn _ _ hq2
      · refine Nat.lt_of_le_of_lt ?_ (show 300 < sizeLine by decide)
        unfold nearK
        rw [List.length_map, List.length_range, l2]; omega
    · have hE : i = ls.length := Nat.le_antisymm hi (Nat.le_of_not_lt hlt)
      subst hE
      rw [List.take_length] at wb
      exact .inl ⟨by have := Y.stop H eH; rw [hlen] at this; exact this, q Dd as F' _ wb (s1.sub.trans ef)⟩
/-- near[row][other] = True -/
theorem t_nearPut {i j k b c : Nat} {Dd ai : Addr} {kvs ks : List (List Key × V)} {u v : V} {r o : List Int} (g0 : Good pt F0 H0) (w : Own pt F0 H0 F H L) (hD : L[b]? = some (Dd, .dT kvs)) (hI : L[c]? = some (ai, .dT ks)) (hi : σ[i]? = some (some (.ref Dd))) (hj : σ[j]? = some (some u)) (hk : σ[k]? = some (some v))
    (hu : Rp K F u (dT r)) (hv : Rp K F v (dT o)) (hval : valV kvs (key r) = some (.ref ai)) (hz : ks.length < 50000) (q : ∀ H2, Own pt F0 H0 F H2 (L.set c (ai, .dT (putK ks (key o) (.bl true)))) → D.nx σ H2) : tAsg (tC (.bl true)) (gSub (tDGet (tVar i) (tVar j)) (tVar k) rSetD) D σ H := by
  obtain ⟨a1, xs, rfl, hl1, ha1⟩ := rp_tup hu
  have e1 := rpAll_ints ha1
  subst e1
  obtain ⟨a2, ys, rfl, hl2, ha2⟩ := rp_tup hv
  have e2 := rpAll_ints ha2
  subst e2
  refine ⟨.ref Dd, hi, .ref a1, hj, Dd, .ref ai, rfl, ?_, .ref a2, hk, ai, _, rfl, .inr ⟨ks, key o, a2, (w.get hI).2.2, rfl, by rw [key_kV]; exact w.step.inn _ _ hl2, Nat.lt_of_lt_of_le hz (by decide), rfl⟩, q _ (w.put g0 c hI fun ys z => by cases z)⟩
  rw [← hval]
  exact DGet.t (k := key r) (w.get hD).2.2 (by rw [key_kV]; exact w.step.inn _ _ hl1)
end
end Fv
/-! the order of rows of one length; what is got out of a dict of rows; who is near whom, while it is being found out -/
namespace Fv
open PySem PySem.Spec PyProof.Rows L2 Evl StX
theorem code_le4 : ∀ {a b : List Int}, a.length = b.length → TS.Bd 4 a → TS.Bd 4 b → ¬ b < a → TS.code 4 a ≤ TS.code 4 b
  | [], [], _, _, _, _ => Int.le_refl _
  | [], _ :: _, h, _, _, _ => by simp at h
  | _ :: _, [], h, _, _, _ => by simp at h
  | d :: r, e :: q, h, ha, hb, hc => by
    have hl : r.length = q.length := by simpa using h
    rcases Int.lt_trichotomy d e with z | z | z
    · exact Int.le_of_lt (TS.code_lt (B := 4) (d := d) (e := e) hl ha.tail hb.tail z)
    · subst z
      have := code_le4 hl ha.tail hb.tail fun w => hc (List.cons_lt_cons_iff.mpr (.inr ⟨rfl, w⟩))
      rw [TS.code.eq_2, TS.code.eq_2, hl]
      omega
    · exact absurd (List.cons_lt_cons_iff.mpr (.inl z)) hc
theorem dataLe_rowT : (PySem.W.dataLe false dT : List Int → List Int → Bool) = fun p q => decide (¬ q < p) := by
  funext p q
  show (!PySem.W.dataLt (dT q) (dT p)) = _
  have e1 : PySem.W.dataLt (dT q) (dT p) = decide (q < p) := (PySem.W.dataLt_tuple _ _).trans (PySem.W.dataLt_ints q p)
  rw [e1, decide_not]
theorem asc_sortL {n : Nat} {ks : List (List Int)} (h : ∀ r ∈ ks, r.length = n ∧ TS.Bd 4 r) (nd : ks.Nodup) : Asc (sortL ks) := by
  have h1 : (sortL ks).Pairwise fun a b => (fun p q : List Int => decide (¬ q < p)) a b = true := by
    unfold sortL
    rw [dataLe_rowT]
    refine List.pairwise_mergeSort (fun a b c h k => ?_) (fun a b => ?_) ks
    · simp only [decide_eq_true_eq] at h k ⊢
      exact (List.le_trans (show a ≤ b from h) (show b ≤ c from k) : a ≤ c)
    · simp only [Bool.or_eq_true, decide_eq_true_eq]
      exact List.le_total a b
  have hs : ∀ r ∈ sortL ks, r.length = n ∧ TS.Bd 4 r := fun r hr => h r ((sortL_perm ks).mem_iff.mp hr)
  refine asc_of hs (List.Pairwise.imp_of_mem (fun {a b} ha hb h2 => ?_) h1) ((sortL_perm ks).nodup_iff.mpr nd)
  exact code_le4 ((hs a ha).1.trans (hs b hb).1.symm) (hs a ha).2 (hs b hb).2 (by simpa using h2)
/-- the rows of an ascending list that are in another one, sorted -/
theorem sortL_in {n : Nat} {R M : List (List Int)} {p : List Int → Bool} (hR : Asc R) (hl : ∀ r ∈ R, r.length = n ∧ TS.Bd 4 r) (nd : M.Nodup) (hm : ∀ o, o ∈ M ↔ o ∈ R ∧ p o = true) : sortL M = R.filter p := by
  refine asc_ext (asc_sortL (fun r hr => hl r ((hm r).mp hr).1) nd) (hR.sublist List.filter_sublist) fun x => ?_
  rw [(sortL_perm M).mem_iff, hm, List.mem_filter]
theorem putK_keys_old {kvs : List (List Key × V)} {k : List Key} {v : V} (h : k ∈ kvs.map (·.1)) : (putK kvs k v).map (·.1) = kvs.map (·.1) := by
  unfold putK
  have : (kvs.any fun kv => decide (kv.1 = k)) = true := by
    rw [List.any_eq_true]
    obtain ⟨x, hx, e⟩ := List.mem_map.mp h
    exact ⟨x, hx, by simp [e]⟩
  rw [this, if_pos rfl, List.map_map]
  refine List.map_congr_left fun x _ => ?_
  show (if x.1 = k then _ else x).1 = x.1
  by_cases z : x.1 = k
  · rw [if_pos z]
  · rw [if_neg z]
theorem putK_keys_new {kvs : List (List Key × V)} {k : List Key} {v : V} (h : k ∉ kvs.map (·.1)) : (putK kvs k v).map (·.1) = kvs.map (·.1) ++ [k] := by
  rw [putK_new h, List.map_append]; rfl
/-- a dict's keys are some rows, each once -/
def KeysAre (kvs : List (List Key × V)) (p : List Int → Prop) : Prop := ∃ M : List (List Int), kvs.map (·.1) = M.map key ∧ M.Nodup ∧ ∀ o, o ∈ M ↔ p o
theorem KeysAre.put {kvs : List (List Key × V)} {p q : List Int → Prop} {o : List Int} {v : V} (h : KeysAre kvs p) (hq : ∀ x, q x ↔ p x ∨ x = o) : KeysAre (putK kvs (key o) v) q := by
  obtain ⟨M, h1, h2, h3⟩ := h
  by_cases z : o ∈ M
  · refine ⟨M, ?_, h2, fun x => ?_⟩
    · rw [putK_keys_old (by rw [h1]; exact List.mem_map.mpr ⟨o, z, rfl⟩), h1]
    · rw [hq, h3]
      exact ⟨.inl, fun h => h.elim id fun e => by rw [e]; exact (h3 o).mp z⟩
  · refine ⟨M ++ [o], ?_, ?_, fun x => ?_⟩
    · rw [putK_keys_new ?_, h1, List.map_append]; rfl
      rw [h1]
      intro h
      obtain ⟨r, hr, e⟩ := List.mem_map.mp h
      rw [key_inj e] at hr
      exact z hr
    · rw [List.nodup_append]
      exact ⟨h2, by simp, fun a ha b hb e => by rw [List.mem_singleton.mp hb] at e; subst e; exact z ha⟩
    · rw [List.mem_append, List.mem_singleton, hq, h3]
theorem KeysAre.iff {kvs : List (List Key × V)} {p q : List Int → Prop} (h : KeysAre kvs p) (hq : ∀ x, q x ↔ p x) : KeysAre kvs q := by
  obtain ⟨M, h1, h2, h3⟩ := h
  exact ⟨M, h1, h2, fun o => (h3 o).trans (hq o).symm⟩
theorem nd_le : ∀ {a b : List (List Int)}, a.Nodup → (∀ x ∈ a, x ∈ b) → a.length ≤ b.length
  | [], _, _, _ => Nat.zero_le _
  | x :: a, b, h, hs => by
    obtain ⟨h1, h2⟩ := List.nodup_cons.mp h
    have hx := hs x (by simp)
    have := nd_le (a := a) (b := b.erase x) h2 fun y hy => (List.mem_erase_of_ne (fun z : y = x => h1 (z ▸ hy))).mpr (hs y (List.mem_cons_of_mem _ hy))
    rw [List.length_erase_of_mem hx] at this
    have := List.length_pos_of_mem hx
    rw [List.length_cons]; omega
theorem KeysAre.len {kvs : List (List Key × V)} {p : List Int → Prop} {R : List (List Int)} (h : KeysAre kvs p) (hp : ∀ x, p x → x ∈ R) : kvs.length ≤ R.length := by
  obtain ⟨M, h1, h2, h3⟩ := h
  have e : kvs.length = M.length := by have := congrArg List.length h1; simpa using this
  rw [e]
  exact nd_le h2 fun x hx => hp x ((h3 x).mp hx)
/-- what stands at each row's dict -/
def NearI (R : List (List Int)) (ks : Nat → List (List Key × V)) (P : List Int → List Int → Prop) : Prop := ∀ k < R.length, KeysAre (ks k) (P (R.getD k []))
theorem NearI.iff {R : List (List Int)} {ks : Nat → List (List Key × V)} {P Q : List Int → List Int → Prop} (h : NearI R ks P) (hq : ∀ a b, Q a b ↔ P a b) : NearI R ks Q := fun k hk => (h k hk).iff fun x => hq _ x
theorem getD_inj {R : List (List Int)} (nd : R.Nodup) {i j : Nat} (hi : i < R.length) (hj : j < R.length) (e : R.getD i [] = R.getD j []) : i = j := by
  rw [List.getD_eq_getElem?_getD, List.getD_eq_getElem?_getD, List.getElem?_eq_getElem hi, List.getElem?_eq_getElem hj] at e
  exact (List.getElem_inj nd).mp e
theorem NearI.put {R : List (List Int)} (nd : R.Nodup) {ks : Nat → List (List Key × V)} {P Q : List Int → List Int → Prop} {k : Nat} {o : List Int} {v : V} (hk : k < R.length) (h : NearI R ks P) (hq : ∀ a b, Q a b ↔ P a b ∨ a = R.getD k [] ∧ b = o) : NearI R (upN ks k (putK (ks k) (key o) v)) Q := fun i hi => by
  unfold upN
  by_cases z : i = k
  · subst z
    rw [if_pos rfl]
    exact (h i hi).put fun x => (hq _ x).trans ⟨fun h => h.imp id fun h => h.2, fun h => h.imp id fun h => ⟨rfl, h⟩⟩
  · rw [if_neg z]
    exact (h i hi).iff fun x => (hq _ x).trans ⟨fun h => h.elim id fun h => absurd (getD_inj nd hi hk h.1) z, .inl⟩
theorem getD_of_mem {R : List (List Int)} {r : List Int} (h : r ∈ R) : ∃ k, k < R.length ∧ R.getD k [] = r := by
  obtain ⟨k, hk, e⟩ := List.mem_iff_getElem.mp h
  exact ⟨k, hk, by rw [List.getD_eq_getElem?_getD, List.getElem?_eq_getElem hk]; exact e⟩
theorem nearL_in {Dd : Addr} {R : List (List Int)} {as : Nat → Addr} {ks : Nat → List (List Key × V)} {k : Nat} (h : k < R.length) : (as k, HO.dT (ks k)) ∈ nearL Dd R as ks := List.mem_of_getElem? (nearL_at h)
section
variable {K : PySem.W.Frag} {pt : Option Pt} {σ : L2.St} {F H : Hp} {te : TE} {D : Addr} {kvs : List (List Key × V)} {r : List Int} {y : V} {i : Nat}
/-- d[e], e a row -/
theorem x_dgetR (hi : σ[i]? = some (some (.ref D))) (hk : EvG K pt te σ F (Is (dT r))) (hD : F D = some (.dT kvs)) (hv : valV kvs (key r) = some y) : EvX pt (tDGet (tVar i) te) σ F (fun v F2 => v = y ∧ Ex F F2) := fun H1 i1 g1 Q q =>
  ⟨_, hi, hk H1 i1 g1 _ fun d u F2 H2 hd s hu => by
    subst hd
    obtain ⟨a1, xs, rfl, hl1, ha1⟩ := rp_tup hu
    have e1 := rpAll_ints ha1
    subst e1
    refine ⟨D, y, rfl, ?_, q _ F2 H2 ⟨rfl, s.sub⟩ s⟩
    rw [← hv]
    exact DGet.t (k := key r) (s.inn _ _ (s.sub _ _ hD)) (by rw [key_kV]; exact s.inn _ _ hl1)⟩
end
end Fv
namespace KJ
open PySem PySem.Spec PyProof.Rows L2 L2H Fv Evl StX
abbrev s_near_inputs : Stmt := topS 31
theorem sc_near_inputs : FnScope ["book", "falls", "manner", "near", "entry", "circle", "other"] ["book", "falls", "manner"] (defScope s_near_inputs) := ⟨rfl, rfl, rfl, by decide +kernel, rfl, by decide +kernel, by decide +kernel⟩
/-! ### the circles -/
def circs (sp : Bool) (R : List (List Int)) (cs : List (List (List Int))) : List (List (List Int)) := if sp = true then [R] else cs
def encC (sp : Bool) (c : List (List Int)) : PyData := if sp = true then dTT c else dLT c
theorem circD_eq (sp : Bool) (R : List (List Int)) (cs : List (List (List Int))) : circD sp R cs = .list ((circs sp R cs).map (encC sp)) := by
  unfold circD circs encC
  cases sp <;> rfl
theorem rowsAt_of {gs : List (ORow × List (List Int))} (nd : (gs.map (·.1)).Nodup) {g : ORow × List (List Int)} (hg : g ∈ gs) : rowsAt gs g.1 = g.2 := by
  unfold rowsAt
  induction gs with
  | nil => cases hg
  | cons h gs ih =>
    obtain ⟨n1, n2⟩ := List.nodup_cons.mp nd
    rcases List.mem_cons.mp hg with rfl | m
    · rw [List.find?_cons_of_pos (by simp)]; rfl
    · rw [List.find?_cons_of_neg (by simp; intro e; exact n1 (by show h.1 ∈ _; rw [e]; exact List.mem_map.mpr ⟨g, m, rfl⟩))]
      exact ih n2 m
theorem addB_keys (gs : List (ORow × List (List Int))) (v : ORow) (r : List Int) (nd : (gs.map (·.1)).Nodup) : ((addB gs v r).map (·.1)).Nodup := by
  unfold addB
  by_cases z : (gs.any fun g => decide (g.1 = v)) = true
  · rw [if_pos z, List.map_map]
    rw [show gs.map ((fun x : ORow × List (List Int) => x.1) ∘ fun g => if g.1 = v then (g.1, g.2 ++ [r]) else g) = gs.map (·.1) from List.map_congr_left fun g _ => by
      show (if g.1 = v then _ else g).1 = g.1
      by_cases y : g.1 = v
      · rw [if_pos y]
      · rw [if_neg y]]
    exact nd
  · rw [if_neg z, List.map_append, List.nodup_append]
    refine ⟨nd, by simp, fun a ha b hb e => z ?_⟩
    obtain ⟨g, hg, rfl⟩ := List.mem_map.mp ha
    have hb : b = v := by simpa using hb
    exact List.any_eq_true.mpr ⟨g, hg, by simp; rw [e, hb]⟩
theorem byV_nd (ps : List (ORow × List Int)) : ((byV ps).map (·.1)).Nodup := by
  have key : ∀ (ps : List (ORow × List Int)) gs, (gs.map (·.1)).Nodup → ((ps.foldl (fun gs p => addB gs p.1 p.2) gs).map (·.1)).Nodup := by
    intro ps
    induction ps with
    | nil => exact fun _ h => h
    | cons p ps ih => exact fun gs h => ih _ (addB_keys gs _ _ h)
  exact key ps [] List.nodup_nil
theorem mem_circleAt {n : Nat} {R : List (List Int)} {lot : List Int} {a b : List Int} : (∃ c ∈ circleAt n R lot, a ∈ c ∧ b ∈ c) ↔ a ∈ R ∧ b ∈ R ∧ shownV a (coN n lot) = shownV b (coN n lot) := by
  have at' : ∀ vw (x : List Int), x ∈ rowsAt (byV (couplesAt n lot R)) vw ↔ x ∈ R ∧ shownV x (coN n lot) = vw := fun vw x => by
    rw [rowsAt_byV]
    constructor
    · intro h
      obtain ⟨p, hp, rfl⟩ := List.mem_map.mp h
      obtain ⟨h1, h2⟩ := List.mem_filter.mp hp
      obtain ⟨r, hr, rfl⟩ := List.mem_map.mp h1
      exact ⟨hr, by simpa using h2⟩
    · rintro ⟨h1, h2⟩
      exact List.mem_map.mpr ⟨(shownV x (coN n lot), x), List.mem_filter.mpr ⟨List.mem_map.mpr ⟨x, h1, rfl⟩, by simpa using h2⟩, rfl⟩
  constructor
  · rintro ⟨c, hc, ha, hb⟩
    obtain ⟨g, hg, rfl⟩ := List.mem_map.mp hc
    rw [← rowsAt_of (byV_nd _) hg] at ha hb
    obtain ⟨a1, a2⟩ := (at' _ _).mp ha
    obtain ⟨b1, b2⟩ := (at' _ _).mp hb
    exact ⟨a1, b1, a2.trans b2.symm⟩
  · rintro ⟨ha, hb, e⟩
    have hk : shownV a (coN n lot) ∈ (byV (couplesAt n lot R)).map (·.1) := (keys_byV _ _).mpr ⟨(shownV a (coN n lot), a), List.mem_map.mpr ⟨a, ha, rfl⟩, rfl⟩
    obtain ⟨g, hg, eg⟩ := List.mem_map.mp hk
    refine ⟨g.2, List.mem_map.mpr ⟨g, hg, rfl⟩, ?_, ?_⟩
    · rw [← rowsAt_of (byV_nd _) hg, eg]; exact (at' _ _).mpr ⟨ha, rfl⟩
    · rw [← rowsAt_of (byV_nd _) hg, eg]; exact (at' _ _).mpr ⟨hb, e.symm⟩
/-- two are in one circle -/
def inC (C : List (List (List Int))) (a b : List Int) : Prop := ∃ c ∈ C, a ∈ c ∧ b ∈ c
theorem inC_circs {sp : Bool} {n : Nat} {L R : List (List Int)} {a b : List Int} : inC (circs sp R (circlesOf n L R)) a b ↔ a ∈ R ∧ b ∈ R ∧ (sp = true ∨ ∃ lot ∈ L, shownV a (coN n lot) = shownV b (coN n lot)) := by
  unfold inC circs
  cases sp with
  | true =>
    constructor
    · rintro ⟨c, hc, ha, hb⟩
      have hc : c = R := by simpa using hc
      subst hc
      exact ⟨ha, hb, .inl rfl⟩
    · rintro ⟨ha, hb, _⟩
      exact ⟨R, by simp, ha, hb⟩
  | false =>
    rw [if_neg (by decide)]
    constructor
    · rintro ⟨c, hc, ha, hb⟩
      obtain ⟨lot, hl, hc⟩ := List.mem_flatMap.mp hc
      obtain ⟨h1, h2, h3⟩ := mem_circleAt.mp ⟨c, hc, ha, hb⟩
      exact ⟨h1, h2, .inr ⟨lot, hl, h3⟩⟩
    · rintro ⟨ha, hb, z | ⟨lot, hl, e⟩⟩
      · cases z
      · obtain ⟨c, hc, h⟩ := mem_circleAt.mpr ⟨ha, hb, e⟩
        exact ⟨c, List.mem_flatMap.mpr ⟨lot, hl, hc⟩, h⟩
theorem circs_sub {sp : Bool} {n : Nat} {L R : List (List Int)} : ∀ c ∈ circs sp R (circlesOf n L R), ∀ r ∈ c, r ∈ R := fun c hc r hr => (inC_circs.mp ⟨c, hc, hr, hr⟩).1
/-- near: in one circle, and another -/
def nearB (C : List (List (List Int))) (a b : List Int) : Bool := (C.any fun c => decide (a ∈ c) && decide (b ∈ c)) && !decide (b = a)
theorem nearB_iff {C : List (List (List Int))} {a b : List Int} : nearB C a b = true ↔ inC C a b ∧ b ≠ a := by
  unfold nearB inC
  simp
def nearD (C : List (List (List Int))) (R : List (List Int)) : List (List Int × PyData) := R.map fun r => (r, dLT (R.filter (nearB C r)))
section
variable {P : Program} {w : World} {K : PySem.W.Frag} {mg : Str → Option Value} {base : Heap} {CB CL tM : Addr}
def spNear (K : PySem.W.Frag) (CB CL : Addr) : Sp := fun vs H Q _ => ∃ (x z : Addr) (n m : Nat) (mn : Str) (R ls : List (List Int)) (F : Hp), vs = [.ref x, .ref z, .str mn] ∧ ((1 ≤ n ∧ n ≤ 5) ∧ mn ∈ mans ∧ R.length ≤ 300 ∧ (∀ r ∈ R, r.length = n ∧ TS.Bd 4 r) ∧ Asc R) ∧ Ex F H ∧ Bk K CB F x n m R ∧ Fam K CL F z n ls ∧
  ∀ D kvs F2 H2, Step none F H F2 H2 → F2 D = some (.dT kvs) → DV K F2 kvs (nearD (circs (splitOf mn n ls) R (circlesOf n (famLots n ls) R)) R) → Q (.ref D) H2
theorem t_asgDcOwn {pt : Option Pt} {σ : L2.St} {F F0 H0 H : Hp} {te : TE} {wi : TI} {L : List Own1} {tz : TS} {D : Ends} {i j : Nat} {vs : List Nat} {ls : List (List Int)} (nd : ls.Nodup) (g0 : Good pt F0 H0) (w : Own pt F0 H0 F H L) (hw : WiG K pt wi σ F (· = ls.map dT)) (hz : ls.length ≤ 300) (hwp : ∀ x, wipe ((wipe σ vs).set j (some x)) vs = wipe σ vs)
    (hk : ∀ l ∈ ls, ∀ F', Ex F F' → ∀ v, Rp K F' v (dT l) → EvG K pt te ((wipe σ vs).set j (some v)) F' (Is (dT l)))
    (q : ∀ Dd as F2 H2, Own pt F0 H0 F2 H2 (L ++ nearL Dd ls as fun _ => []) → Ex F F2 → tz D (σ.set i (some (.ref Dd))) H2) : tSeq (tAsg (tDcT wi (gName j) tYes te tDNewT vs) (gName i)) tz D σ H :=
  e_dcOwn (Q := fun x H1 => gName i x σ H1 (tz D)) nd g0 w hw hz hwp hk q
theorem ok_near {f fC : Addr} {fd fdC : FuncData} (Fn : Fun K "near_inputs" "near_inputs" s_near_inputs f fd) (T : Tx mg) (BC : BookC K CB)
    (F_circles : Fun K "_circles" "_circles" s_circles fC fdC) (b_circles : Binds K fdC ["book", "falls", "manner"] []) (g_circles : mg "_circles" = some (.ref fC)) (G_circles : FnOk P w K mg base CX0 5 fC fdC ["book", "falls", "manner"] (spCirc P w K CB CL)) :
    FnOk P w K mg base CX0 6 f fd ["book", "falls", "manner"] (spNear K CB CL) := by
  refine Fn.ok sc_near_inputs (fun vs H Q E ⟨_, _, _, _, _, _, _, _, h, _⟩ => by rw [h]; rfl) (fun cdv A outer s H vs Q E hr h => ?_)
  obtain ⟨x, z, n, m, mn, R, ls, F, rfl, ⟨⟨n1, n5⟩, hm, hR, hrow, hasc⟩, e, bk, fam, q⟩ := h
  obtain ⟨dx, it, dl, o1, o2, o3, o4⟩ := id bk.ex
  refine ⟨_, (pss_cons (ps_set (i := 3) sc_near_inputs.nd rfl (by first | exact Or.inl rfl | exact Or.inr rfl) (pe_dcT (own := [("entry", 4)]) (g := gName 4) rfl (hu_of hr) sc_near_inputs.nd (i_tup (K := K) (e_fld (K := K) (pv 0) rfl)) (blkOk_by (own := [("entry", 4)]) (N := ["book", "falls", "manner", "near", "entry", "circle", "other"]) (sc := (defScope s_near_inputs)) (by decide +kernel)) (fun _ _ _ _ _ => pg_name (i := 4) sc_near_inputs.nd rfl (by first | exact Or.inl rfl | exact Or.inr rfl)) (fun _ _ _ _ _ => pts_nil) (fun _ _ _ _ _ => (pv 4)) (fun _ _ _ _ _ => pe_dnewT)))
    (pss_cons (ps_for PassesOwn.never rfl (i_list (K := K) (pe_call G_circles (hr.mono (by decide)) (by rfl) g_circles F_circles.kp b_circles .nil pass0 (pa_cons (pv 0) (pa_cons (pv 1) (pa_cons (pv 2) pa_nil))))) (pg_name (i := 5) sc_near_inputs.nd rfl (by first | exact Or.inl rfl | exact Or.inr rfl)) (pss_one (ps_for PassesOwn.never rfl (pi_seq (K := K) (pv 5)) (pg_name (i := 4) sc_near_inputs.nd rfl (by first | exact Or.inl rfl | exact Or.inr rfl)) (pss_one (ps_for PassesOwn.never rfl (pi_seq (K := K) (pv 5)) (pg_name (i := 6) sc_near_inputs.nd rfl (by first | exact Or.inl rfl | exact Or.inr rfl)) (pss_one (ps_asg pe_bl (pg_sub (pe_dget (hu_of hr) (pv 3) (pv 4) (fun _ _ => rfl)) (pv 6) (set_dict (hu_of hr))))))))))
    (pss_one (ps_ret (pe_dcT (own := [("entry", 4)]) (g := gName 4) rfl (hu_of hr) sc_near_inputs.nd (i_tup (K := K) (e_fld (K := K) (pv 0) rfl)) (blkOk_by (own := [("entry", 4)]) (N := ["book", "falls", "manner", "near", "entry", "circle", "other"]) (sc := (defScope s_near_inputs)) (by decide +kernel)) (fun _ _ _ _ _ => pg_name (i := 4) sc_near_inputs.nd rfl (by first | exact Or.inl rfl | exact Or.inr rfl)) (fun _ _ _ _ _ => pts_nil) (fun _ _ _ _ _ => (pv 4)) (fun _ _ _ _ _ => (pe_lc (own := [("other", 6)]) (g := gName 6) rfl sc_near_inputs.nd (i_list (K := K) (pe_callB (c_sortDT (K := K) rfl (hu65 hr)) (by rfl) T.sorted (by decide +kernel) (pa_cons (pe_dget (hu_of hr) (pv 3) (pv 4) (fun _ _ => rfl)) pa_nil))) (blkOk_by (own := [("other", 6)]) (N := ["book", "falls", "manner", "near", "entry", "circle", "other"]) (by rfl)) (fun _ _ _ _ _ => pg_name (i := 6) sc_near_inputs.nd rfl (by first | exact Or.inl rfl | exact Or.inr rfl)) (fun _ _ _ _ _ => (pts_one (pt_cmpR (o_neD (K := K) hr.units) (pv 6) (pv 4) (nomark _)))) (fun _ _ _ _ _ => (pv 6))))))))), ?_⟩
  have g0 : Good none F H := .nil
  have nd := hasc.nd
  let C := circs (splitOf mn n ls) R (circlesOf n (famLots n ls) R)
  refine t_asgDcOwn (K := K) (ls := R) nd g0 (Own.nil (.refl e .nil)) (w_tupI (g_fld (K := K) (i := 0) rfl o1 BC.cl BC.nI rfl (Rp.mono (Ex.refl _) _ _ o3))) hR (fun _ => rfl) (fun r hr2 F' e' v hv => g_var rfl hv) fun Dd as F1 H1 w1 e1 => ?_
  have lenC : ∀ c ∈ C, ∀ r ∈ c, r ∈ R := circs_sub
  have eor : ∀ c, encC (splitOf mn n ls) c = .list (c.map dT) ∨ encC (splitOf mn n ls) c = .tuple (c.map dT) := fun c => by
    unfold encC
    by_cases y : splitOf mn n ls = true
    · rw [if_pos y]; exact .inr rfl
    · rw [if_neg y]; exact .inl rfl
  refine t_forO (K := K) (RS := (· = C.map (encC (splitOf mn n ls)))) g0 w1 (w_listI (EvG.is (fun H1 i g Q1 q1 => ⟨_, rfl, _, rfl, _, rfl, x, z, n, m, mn, R, ls, F1, rfl, ⟨n5, hm, hR, fun r hr => (hrow r hr).1⟩, i, bk.mono e1, fam.mono e1, fun v F2 H2 s hv => q1 _ v F2 H2 rfl (s.lift g) hv⟩) (circD_eq _ _ _))) (fun ds i σ' F' L' => (∃ a b c, σ' = [some (.ref x), some (.ref z), some (.str mn), some (.ref Dd), a, b, c]) ∧ ∃ ks, L' = nearL Dd R as ks ∧ NearI R ks (inC (C.take i))) (fun ds hds F2 e2 => ⟨⟨_, _, _, rfl⟩, _, rfl, ?_⟩) (fun ds hds i d hd σ' F' H' L' u hI w' e' hu N hN => ?_) (fun ds hds σ' F' H' L' hI w' e' => ?_)
  · exact fun k hk => ⟨[], rfl, List.nodup_nil, fun o => ⟨fun h => (List.not_mem_nil h).elim, fun ⟨c, h, _⟩ => (List.not_mem_nil h).elim⟩⟩
  · subst hds
    obtain ⟨⟨a0, b0, c0, rfl⟩, ks0, rfl, hK0⟩ := hI
    obtain ⟨c, hc, rfl⟩ := get_map hd
    have hcm := List.mem_of_getElem? hc
    have hcR := lenC c hcm
    refine t_forO1 (K := K) (RS := (· = c.map dT)) g0 w' (w_seqI (eor c) (g_var rfl hu)) (fun ds j σ' F' L' => (∃ a b, σ' = [some (.ref x), some (.ref z), some (.str mn), some (.ref Dd), a, some u, b]) ∧ ∃ ks, L' = nearL Dd R as ks ∧ NearI R ks fun a b => inC (C.take i) a b ∨ a ∈ c.take j ∧ b ∈ c) (fun ds hds F2 e2 => ⟨⟨_, _, rfl⟩, ks0, rfl, hK0.iff fun a b => by simp⟩) (fun ds hds j d hd σ2 F2 H2 L2 v hI w2 e2 hv N2 hN2 => ?_) (fun ds hds σ2 F2 H2 L2 hI w2 e2 => ?_)
    · subst hds
      obtain ⟨⟨a1, b1, rfl⟩, ks1, rfl, hK1⟩ := hI
      obtain ⟨r, hr1, rfl⟩ := get_map hd
      have hrc := List.mem_of_getElem? hr1
      refine t_forO1 (K := K) (RS := (· = c.map dT)) g0 w2 (w_seqI (eor c) (g_var rfl (Rp.mono e2 _ _ hu))) (fun ds l σ' F' L' => (∃ b, σ' = [some (.ref x), some (.ref z), some (.str mn), some (.ref Dd), some v, some u, b]) ∧ Ex F2 F' ∧ ∃ ks, L' = nearL Dd R as ks ∧ NearI R ks fun a b => (inC (C.take i) a b ∨ a ∈ c.take j ∧ b ∈ c) ∨ a = r ∧ b ∈ c.take l) (fun ds hds F3 e3 => ⟨⟨_, rfl⟩, e3, ks1, rfl, hK1.iff fun a b => by simp⟩) (fun ds hds l d hd σ3 F3 H3 L3 t hI w3 e3 ht N3 hN3 => ?_) (fun ds hds σ3 F3 H3 L3 hI w3 e3 => ?_)
      · subst hds
        obtain ⟨⟨b2, rfl⟩, e23, ks2, rfl, hK2⟩ := hI
        obtain ⟨o, ho1, rfl⟩ := get_map hd
        have hoc := List.mem_of_getElem? ho1
        obtain ⟨k, hk, ek⟩ := getD_of_mem (hcR r hrc)
        subst ek
        have hle : (ks2 k).length ≤ R.length := (hK2 k hk).len fun y hy => by
          rcases hy with (⟨c', hc', _, h⟩ | h) | h
          · exact lenC c' (List.mem_of_mem_take hc') y h
          · exact hcR y h.2
          · exact hcR y (List.mem_of_mem_take h.2)
        refine t_nearPut (K := K) (i := 3) (j := 4) (k := 6) (b := 0) (c := k + 1) g0 w3 rfl (nearL_at hk) rfl rfl rfl (Rp.mono e23 _ _ hv) ht (nearK_at nd hk) (by omega) fun H4 w4 => ?_
        rw [nearL_set hk] at w4
        refine hN3 _ F3 H4 _ ⟨⟨_, rfl⟩, e23, _, rfl, hK2.put nd hk fun a b => ?_⟩ w4 (Ex.refl _)
        rw [take_succA ho1, List.mem_append, List.mem_singleton]
        constructor
        · rintro (h | ⟨h1, h2 | h2⟩)
          · exact .inl (.inl h)
          · exact .inl (.inr ⟨h1, h2⟩)
          · exact .inr ⟨h1, h2⟩
        · rintro ((h | ⟨h1, h2⟩) | ⟨h1, h2⟩)
          · exact .inl h
          · exact .inr ⟨h1, .inl h2⟩
          · exact .inr ⟨h1, .inr h2⟩
      · subst hds
        obtain ⟨⟨b2, rfl⟩, e23, ks2, rfl, hK2⟩ := hI
        rw [List.length_map, List.take_length] at hK2
        refine hN2 _ F3 H3 _ ⟨⟨_, _, rfl⟩, ks2, rfl, hK2.iff fun a b => ?_⟩ w3 e3
        rw [take_succA hr1, List.mem_append, List.mem_singleton]
        constructor
        · rintro (h | ⟨h1 | h1, h2⟩)
          · exact .inl (.inl h)
          · exact .inl (.inr ⟨h1, h2⟩)
          · exact .inr ⟨h1, h2⟩
        · rintro ((h | ⟨h1, h2⟩) | ⟨h1, h2⟩)
          · exact .inl h
          · exact .inr ⟨.inl h1, h2⟩
          · exact .inr ⟨.inr h1, h2⟩
    · subst hds
      obtain ⟨⟨a1, b1, rfl⟩, ks1, rfl, hK1⟩ := hI
      rw [List.length_map, List.take_length] at hK1
      refine hN _ F2 H2 _ ⟨⟨_, _, _, rfl⟩, ks1, rfl, hK1.iff fun a b => ?_⟩ w2 e2
      rw [take_succA hc]
      unfold inC
      constructor
      · rintro ⟨c', hc', h⟩
        rcases List.mem_append.mp hc' with h' | h'
        · exact .inl ⟨c', h', h⟩
        · rw [List.mem_singleton.mp h'] at h
          exact .inr h
      · rintro (⟨c', hc', h⟩ | h)
        · exact ⟨c', List.mem_append_left _ hc', h⟩
        · exact ⟨c, List.mem_append_right _ (by simp), h⟩
  · subst hds
    obtain ⟨⟨a0, b0, c0, rfl⟩, ks, rfl, hK⟩ := hI
    rw [List.length_map, List.take_length] at hK
    obtain ⟨F2, s2, e2, dn⟩ := w'.done g0
    have e0 : Ex F F2 := e1.trans (e'.trans e2)
    have hDd : F2 Dd = some (.dT (nearK R as)) := dn (Dd, _) (by unfold nearL; simp)
    refine t_retX s2 (x_dcV (K := K) dT R (fun _ => true) id (fun r => dLT (R.filter (nearB C r))) (w_tupI (g_fld (K := K) (i := 0) rfl (e0 _ _ o1) BC.cl BC.nI rfl (Rp.mono e0 _ _ o3))) (by omega) (by rw [List.filter_eq_self.mpr fun _ _ => rfl, List.map_id]; exact nd) (fun _ => rfl) (fun r hr2 F' e' v hv => et_yes) (fun r hr2 _ F' e' v hv => g_var rfl hv) (fun r hr2 _ F' e' v hv => ?_)) fun v F3 H3 ⟨D, kvs, ev, hD, dv⟩ s3 => ?_
    · obtain ⟨k, hk, ek⟩ := getD_of_mem hr2
      obtain ⟨M, hM1, hM2, hM3⟩ := hK k hk
      rw [ek] at hM3
      have hMR : ∀ o ∈ M, o ∈ R := fun o ho => by
        obtain ⟨c, hc, _, h⟩ := (hM3 o).mp ho
        exact lenC c hc o h
      have hval : valV (nearK R as) (key r) = some (.ref (as k)) := by rw [← ek]; exact nearK_at nd hk
      have hk2 : F2 (as k) = some (.dT (ks k)) := dn _ (nearL_in hk)
      have hsort : sortL M = R.filter fun o => decide (o ∈ M) := sortL_in hasc hrow hM2 fun o => by simp only [decide_eq_true_eq]; exact ⟨fun h => ⟨hMR o h, h⟩, fun h => h.2⟩
      refine EvG.is (g_lcE (K := K) dT (sortL M) (fun o => !decide (o = r)) dT (w_listI ((g_sortDT (K := K) (R := M) (fun H1 i1 g1 Q1 q1 => x_dgetR (K := K) (D := Dd) (kvs := nearK R as) (r := r) (y := .ref (as k)) rfl (g_var rfl hv) (e' _ _ hDd) hval H1 i1 g1 _ fun v2 F4 H4 ⟨h1, h2⟩ s4 => q1 v2 F4 H4 ⟨as k, ks k, h1, h2 _ _ (e' _ _ hk2), hM1⟩ s4) (canSort_rowsT fun o ho => by intro z; have := (hrow o (hMR o ho)).1; rw [z] at this; simp at this; omega)).imp fun d ⟨M', h1, _, h3⟩ => by rw [h1, h3])) ?_ (fun _ => rfl) (fun o ho F'' e'' u hu => et_of (K := K) (g_opI (g_var rfl hu) (g_var rfl (Rp.mono e'' _ _ hv)) rv_neT)) (fun o ho _ F'' e'' u hu => g_var rfl hu)) ?_
      · have := nd_le hM2 hMR
        rw [(sortL_perm M).length_eq]; omega
      · rw [hsort, List.filter_filter]
        refine congrArg (fun l => PyData.list (l.map dT)) (List.filter_congr fun o ho => ?_)
        rw [Bool.eq_iff_iff, nearB_iff]
        simp only [Bool.and_eq_true, decide_eq_true_eq, Bool.not_eq_true', decide_eq_false_iff_not]
        rw [hM3]
        exact ⟨fun h => ⟨h.2, h.1⟩, fun h => ⟨h.2, h.1⟩⟩
    · subst ev
      refine q D kvs F3 H3 s3 hD ?_
      rw [List.filter_eq_self.mpr fun _ _ => rfl] at dv
      exact dv
end
end KJ
/-! dicts of one's own whose keys are rows; loops over a list that is got by way of what is one's own; while by a measure -/
namespace Fv
open PySem PySem.Spec PyProof.Rows L2 Evl StX
theorem dT_dO (r : List Int) : dT r = dO (r.map some) := by
  show PyData.tuple (r.map PyData.int) = PyData.tuple ((r.map some).map optD)
  rw [List.map_map]; rfl
theorem kb_row (r : List Int) : kb (dT r) = true := by rw [dT_dO]; exact kb_dO _
theorem depth_row (r : List Int) : (nk (dT r)).depth ≤ 8 := by rw [dT_dO]; exact depth_dO _
theorem dT_inj {a b : List Int} (h : dT a = dT b) : a = b := by
  have h2 : a.map PyData.int = b.map PyData.int := by injection h
  exact (List.map_inj_right fun x y e => by injection e).mp h2
abbrev rowP (ps : List (List Int × PyData)) : List (PyData × PyData) := ps.map fun p => (dT p.1, p.2)
def RowD (P : Program) (w : World) (K : PySem.W.Frag) (F : Hp) (l : Addr) (o : HO) (ps : List (List Int × PyData)) : Prop := ∃ xs, DctO P w K F l o xs ∧ NV K F xs (rowP ps)
theorem rowP_kb {ps : List (List Int × PyData)} : ∀ p ∈ rowP ps, kb p.1 = true := fun p hp => by
  obtain ⟨q, _, rfl⟩ := List.mem_map.mp hp
  exact kb_row q.1
theorem rowP_fst (ps : List (List Int × PyData)) : (rowP ps).map (·.1) = (ps.map (·.1)).map dT := by
  rw [List.map_map, List.map_map]; rfl
theorem rowP_not {ps : List (List Int × PyData)} {r : List Int} (h : r ∉ ps.map (·.1)) : dT r ∉ (rowP ps).map (·.1) := by
  rw [rowP_fst]
  intro z
  obtain ⟨q, h1, h2⟩ := List.mem_map.mp z
  exact h (dT_inj h2 ▸ h1)
theorem nodup_dT {ls : List (List Int)} (h : ls.Nodup) : (ls.map dT).Nodup := by
  rw [List.nodup_iff_pairwise_ne] at h ⊢
  rw [List.pairwise_map]
  exact h.imp fun hne e => hne (dT_inj e)
section
variable {P : Program} {w : World} {K : PySem.W.Frag} {pt : Option Pt} {σ : L2.St} {F0 H0 F H F' F2 H2 : Hp} {te ta tb ty : TE} {ts : TA} {t : TT} {R : PD} {D : Ends} {tz tu tw : TS} {wi : TI} {L : List Own1} {a l : Addr} {o o' : HO} {ps : List (List Int × PyData)} {r : List Int}
theorem nv_keys {xs : List NEnt} {qs : List (PyData × PyData)} (h : NV K F xs qs) (hq : ∀ q ∈ qs, ∃ r, q.1 = dT r) : ∀ x ∈ xs, KeyOk K F x.1 x.2.1 := by
  induction h with
  | nil => exact fun _ h => by cases h
  | @cons x q xs qs h1 _ ih =>
    intro y hy
    rcases List.mem_cons.mp hy with e | m
    · subst e
      obtain ⟨r, er⟩ := hq q List.mem_cons_self
      exact ⟨q.1, h1.2.1, by rw [er]; exact kb_row r, h1.1.symm, by rw [h1.1, er]; exact depth_row r⟩
    · exact ih (fun z hz => hq z (List.mem_cons_of_mem _ hz)) y m
theorem RowD.mono (e : Ex F F') (h : RowD P w K F l o ps) : RowD P w K F' l o ps := by
  obtain ⟨xs, h1, h2⟩ := h
  exact ⟨xs, h1.mono e, h2.mono e⟩
theorem RowD.tups (e : ∀ a ys, F a = some (.tup ys) → F' a = some (.tup ys)) (hn : ∀ p ∈ ps, nl p.2 = true) (h : RowD P w K F l o ps) : RowD P w K F' l o ps := by
  obtain ⟨xs, h1, h2⟩ := h
  have nr : ∀ r : List Int, nl (dT r) = true := fun r => by
    show nlL _ = true
    induction r with
    | nil => rfl
    | cons i r ih => exact ih
  have h3 : NV K F' xs (rowP ps) := by
    clear h1
    generalize eq : rowP ps = qs at h2
    have hq : ∀ q ∈ qs, nl q.1 = true ∧ nl q.2 = true := fun q hq => by
      rw [← eq] at hq
      obtain ⟨p, hp, rfl⟩ := List.mem_map.mp hq
      exact ⟨nr _, hn p hp⟩
    clear eq
    induction h2 with
    | nil => exact .nil
    | cons h1 _ ih =>
      obtain ⟨q1, q2⟩ := hq _ List.mem_cons_self
      exact .cons ⟨h1.1, rp_tups e _ _ q1 h1.2.1, rp_tups e _ _ q2 h1.2.2⟩ (ih fun q hq' => hq q (List.mem_cons_of_mem _ hq'))
  exact ⟨xs, ⟨h1.low, h1.ex, nv_keys h3 fun q hq => by obtain ⟨p, hp, rfl⟩ := List.mem_map.mp hq; exact ⟨_, rfl⟩⟩, h3⟩
/-- what is in the dict, seen -/
theorem RowD.nd (h : RowD P w K F l o ps) (hl : F l = some o) : ∃ xs, ND P w K F l xs ∧ NV K F xs (rowP ps) := by
  obtain ⟨xs, h1, h2⟩ := h
  exact ⟨xs, h1.nd hl, h2⟩
/-- row in d, row not in d -/
theorem g_inRow {i : Nat} {neg : Bool} (h : EvG K pt te σ F (Is (dT r))) (h0 : σ[i]? = some (some (.ref l))) (d : RowD P w K F l o ps) (hl : F l = some o) (nd : (ps.map (·.1)).Nodup) :
    EvG K pt (tOp (rInN P w K neg) te (tVar i)) σ F (Is (.bool (if neg then !decide (r ∈ ps.map (·.1)) else decide (r ∈ ps.map (·.1))))) := by
  obtain ⟨xs, n, v⟩ := d.nd hl
  have := g_inNd (neg := neg) h (kb_row r) (depth_row r) h0 n
  have e : (atN xs (nk (dT r))).isSome = decide (r ∈ ps.map (·.1)) := by
    by_cases z : r ∈ ps.map (·.1)
    · obtain ⟨p, hp, rfl⟩ := List.mem_map.mp z
      obtain ⟨q, hq, _⟩ := v.get rowP_kb (by rw [rowP_fst]; exact nodup_dT nd) (k := dT p.1) (d := p.2) (List.mem_map.mpr ⟨p, hp, rfl⟩)
      rw [hq, decide_eq_true z]; rfl
    · rw [v.none_ (kb_row r) rowP_kb (rowP_not z), decide_eq_false z]; rfl
  have e2 : (atN xs (nk (.tuple (r.map .int)))).isSome = decide (r ∈ ps.map (·.1)) := e
  rw [e2] at this
  exact this
/-- d[row] -/
theorem g_getRow {i : Nat} {z : PyData} (h : EvG K pt te σ F (Is (dT r))) (h0 : σ[i]? = some (some (.ref l))) (d : RowD P w K F l o ps) (hl : F l = some o) (nd : (ps.map (·.1)).Nodup) (hm : (r, z) ∈ ps) :
    EvG K pt (tOp (rIxN P w K) (tVar i) te) σ F (Is z) := by
  obtain ⟨xs, n, v⟩ := d.nd hl
  obtain ⟨q, hq, hz⟩ := v.get rowP_kb (by rw [rowP_fst]; exact nodup_dT nd) (k := dT r) (d := z) (List.mem_map.mpr ⟨(r, z), hm, rfl⟩)
  exact g_dgetN h0 n h (fun b F' hb => by obtain ⟨a, ys, rfl, _⟩ := rp_tup hb; exact ⟨a, rfl⟩) (kb_row r) (depth_row r) hq hz
/-- sorted(d) -/
theorem g_sortRow {i : Nat} (h0 : σ[i]? = some (some (.ref l))) (d : RowD P w K F l o ps) (hl : F l = some o) (ne : ∀ p ∈ ps, p.1 ≠ []) : EvG K pt (tCB (rSortN P w K) (tCons (tVar i) tNil)) σ F (Is (dLT (sortL (ps.map (·.1))))) := by
  obtain ⟨xs, n, v⟩ := d.nd hl
  have hk : RpAll K F (xs.map fun x => V.ref x.2.1) ((ps.map (·.1)).map dT) := by
    rw [← rowP_fst]
    clear n d hl ne
    generalize rowP ps = qs at v ⊢
    induction v with
    | nil => exact .nil
    | cons h1 _ ih => exact .cons h1.2.1 ih
  have cs := canSort_rowsT (R := ps.map (·.1)) fun r hr => by
    obtain ⟨p, hp, rfl⟩ := List.mem_map.mp hr
    exact ne p hp
  refine (g_sortN h0 n hk cs).is ?_
  exact congrArg PyData.list (PySem.W.sort_maps (r := PySem.W.dataLe false dT) (s := PySem.W.dataLe false id) (l := ps.map Prod.fst) dT fun _ _ _ _ => rfl).symm
/-- d[row] = e, the row new -/
theorem t_putRow {i : Nat} (k : Nat) (g0 : Good pt F0 H0) (w0 : Own pt F0 H0 F H L) (hk0 : L[k]? = some (l, o)) (d : RowD P w K F l o ps) (hi : σ[i]? = some (some (.ref l))) (hz : ps.length < 50000) (hr : r ∉ ps.map (·.1))
    (he : EvG K pt te σ (putAll L F) R) (hn : ∀ d, R d → nl d = true) (hk : ∀ F', Ex F F' → EvG K pt ty σ F' (Is (dT r)))
    (q : ∀ z o2 F2 H2, R z → Own pt F0 H0 F2 H2 (L.set k (l, o2)) → RowD P w K F2 l o2 (ps ++ [(r, z)]) → Ex F F2 → D.nx σ H2) : tAsg te (gSub (tVar i) ty (rSetN P w K)) D σ H := by
  obtain ⟨xs, d1, v⟩ := d
  refine t_putNO1 (P := P) (w := w) (K := K) k g0 w0 hk0 d1 hi (by rw [v.len, List.length_map]; exact hz) (kb_row r) (depth_row r) he hn hk fun z u b o2 F2 H2 hR w2 d2 e2 hu hb => q z o2 F2 H2 hR w2 ⟨_, d2, ?_⟩ e2
  have := (v.mono e2).put (kb_row r) rowP_kb (rowP_not hr) hb hu
  unfold rowP
  rw [List.map_append]
  exact this
/-- a loop over a list, found by way of what is one's own -/
theorem t_forP {j : Nat} {ds : List PyData} (g0 : Good pt F0 H0) (w0 : Own pt F0 H0 F H L) (h : EvX pt te σ (putAll L F) (fun v F2 => ∃ a us, v = .ref a ∧ F a = some (.lst us) ∧ RpAll K F us ds)) (I : Nat → L2.St → Hp → List Own1 → Prop) (h0 : ∀ F1, Ex F F1 → I 0 σ F1 L)
    (hs : ∀ i d, ds[i]? = some d → ∀ σ' F' H' L' x, I i σ' F' L' → Own pt F0 H0 F' H' L' → Ex F F' → Rp K F' x d →
      ∀ N : L2.St → Hp → Prop, (∀ σ2 F2 H2 L2, I (i + 1) σ2 F2 L2 → Own pt F0 H0 F2 H2 L2 → Ex F' F2 → N σ2 H2) → tu { D with nx := N, ct := N, bk := D.nx } (σ'.set j (some x)) H')
    (hd : ∀ σ' F' H' L', I ds.length σ' F' L' → Own pt F0 H0 F' H' L' → Ex F F' → D.nx σ' H') : tFor (iList K te) (gName j) tu D σ H := by
  obtain ⟨e1, e2, gd, back⟩ := w0.fixS g0 w0.nd (fun _ h => h)
  refine h H e2 gd _ fun v F2 H2 ⟨a, us, hv, ha, ru⟩ s => ?_
  subst hv
  obtain ⟨w2, e3, _, _⟩ := back F2 H2 s
  have hlen := ru.length
  refine ⟨a, rfl, ⟨us, SqL.of (w2.step.inn _ _ (e3 _ _ ha))⟩, fun i m σ' H' => m = us.length - i ∧ i ≤ us.length ∧ ∃ F' L', I i σ' F' L' ∧ Own pt F0 H0 F' H' L' ∧ Ex F F', ⟨us.length, by simp, Nat.zero_le _, _, L, h0 _ e3, w2, e3⟩, ?_⟩
  rintro i m σ' H' ⟨rfl, hil, F', L', p, w', e'⟩
  have hl' : H' a = some (.lst us) := w'.step.inn _ _ (e' _ _ ha)
  by_cases hlt : i < us.length
  · refine .inr ⟨⟨us, us[i], SqL.of hl', List.getElem?_eq_getElem hlt⟩, fun σ2 H2 => ∃ F2 L2, I (i + 1) σ2 F2 L2 ∧ Own pt F0 H0 F2 H2 L2 ∧ Ex F F2, fun σ2 H2 ⟨F2, b⟩ => ⟨us.length - (i + 1), by omega, rfl, hlt, F2, b⟩, fun x H2 y => ?_⟩
    obtain ⟨rfl, y⟩ := y
    have hx := y us (SqL.of hl')
    obtain ⟨d, hd1, hd2⟩ := RpAll.get ru hx
    exact hs i d hd1 σ' F' _ L' x p w' e' (Rp.mono e' _ _ hd2) _ fun σ2 F2 H2 L2 b c e => ⟨F2, L2, b, c, e'.trans e⟩
  · have hE : i = us.length := Nat.le_antisymm hil (Nat.le_of_not_lt hlt)
    subst hE
    exact .inl ⟨⟨us, SqL.of hl', Nat.le_refl _⟩, hd σ' F' H' L' (by rw [← hlen]; exact p) w' e'⟩
/-- while, by a measure -/
theorem t_whileM {ι : Type} (μ : ι → Nat) (B : ι → Bool) (I : ι → L2.St → Hp → Prop) (x0 : ι) (h0 : I x0 σ H)
    (ht : ∀ x σ' H', I x σ' H' → ∀ Q : Bool → Hp → Prop, (∀ H2, I x σ' H2 → Q (B x) H2) → t σ' H' Q)
    (hs : ∀ x σ' H', B x = true → I x σ' H' → ∀ N : L2.St → Hp → Prop, (∀ y σ2 H2, μ y < μ x → I y σ2 H2 → N σ2 H2) → tu { D with nx := N, ct := N, bk := tz D } σ' H')
    (hd : ∀ x σ' H', B x = false → I x σ' H' → tz D σ' H') : tSeq (tWhile t tu) tz D σ H := by
  refine ⟨fun m σ' H' => ∃ x, m = μ x ∧ I x σ' H', ⟨_, x0, rfl, h0⟩, ?_⟩
  rintro m σ' H' ⟨x, rfl, p⟩
  refine ht x σ' H' p _ fun H2 p2 => ?_
  cases hb : B x with
  | true => exact ⟨fun σ2 H3 => ∃ y, μ y < μ x ∧ I y σ2 H3, fun σ2 H3 ⟨y, a, b⟩ => ⟨μ y, a, y, rfl, b⟩, hs x σ' H2 hb p2 _ fun y σ2 H3 a b => ⟨y, a, b⟩⟩
  | false => exact hd x σ' H2 hb p2
end
end Fv
namespace Fv
open PySem PySem.Spec PyProof.Rows L2 Evl StX
section
variable {P : Program} {w : World} {K : PySem.W.Frag} {pt : Option Pt} {σ : L2.St} {F0 H0 F H F' F2 H2 : Hp} {te ta tb ty tv : TE} {ts : TA} {t : TT} {R : PD} {D : Ends} {tz tu tw : TS} {wi : TI} {L : List Own1} {a l : Addr} {o o' : HO} {ps : List (List Int × PyData)} {r : List Int}
/-- d[row] = e, something after it -/
theorem t_putRowS {i : Nat} (k : Nat) (g0 : Good pt F0 H0) (w0 : Own pt F0 H0 F H L) (hk0 : L[k]? = some (l, o)) (d : RowD P w K F l o ps) (hi : σ[i]? = some (some (.ref l))) (hz : ps.length < 50000) (hr : r ∉ ps.map (·.1))
    (he : EvG K pt te σ (putAll L F) R) (hn : ∀ d, R d → nl d = true) (hk : ∀ F', Ex F F' → EvG K pt ty σ F' (Is (dT r)))
    (q : ∀ z o2 F2 H2, R z → Own pt F0 H0 F2 H2 (L.set k (l, o2)) → RowD P w K F2 l o2 (ps ++ [(r, z)]) → Ex F F2 → tz D σ H2) : tSeq (tAsg te (gSub (tVar i) ty (rSetN P w K))) tz D σ H :=
  t_putRow (D := { D with nx := tz D }) k g0 w0 hk0 d hi hz hr he hn hk q
/-- x = {row: e} -/
theorem t_dpairRow {i : Nat} {z : PyData} (g0 : Good pt F0 H0) (w0 : Own pt F0 H0 F H L) (hk : EvG K pt te σ F (Is (dT r))) (hv : ∀ F', Ex F F' → EvG K pt tv σ F' (Is z))
    (q : ∀ l o F2 H2, Own pt F0 H0 F2 H2 (L ++ [(l, o)]) → RowD P w K F2 l o [(r, z)] → Ex F F2 → tz D (σ.set i (some (.ref l))) H2) : tSeq (tAsg (tDPairN P w K te tv) (gName i)) tz D σ H := fun Dd o hD low hn => by
  have w1 := w0.new (o := rawO Dd o) hD raw_tn
  refine hk _ w1.step.inn w1.step.good _ fun d y F2 H2 hd s hy => ?_
  subst hd
  have w2 := w1.run g0 s
  refine hv F2 s.sub H2 w2.step.inn w2.step.good _ fun d2 y2 F3 H3 hd2 s2 hy2 => ?_
  subst hd2
  have w3 := w2.run g0 s2
  obtain ⟨b, ys, rfl, hl, ha⟩ := rp_tup hy
  have ko : KeyOk K F3 (nk (dT r)) b := ⟨_, Rp.mono s2.sub _ _ hy, kb_row r, rfl, depth_row r⟩
  have hk0 : (L ++ [(Dd, rawO Dd o)])[L.length]? = some (Dd, rawO Dd o) := by simp
  refine ⟨nk (dT r), b, rfl, ⟨low, ⟨o, (w3.get hk0).2.2, hn⟩, fun x hx => by cases hx⟩, ko.mono w3.step.inn, fun o' ho' => ?_⟩
  have w4 := w3.put g0 L.length hk0 (o' := rawO Dd o') raw_tn
  rw [List.set_append_right _ _ (Nat.le_refl _), Nat.sub_self] at w4
  refine q Dd (rawO Dd o') F3 _ w4 ⟨_, ⟨low, ⟨o', rfl, ho'⟩, fun x hx => ?_⟩, ?_⟩ (s.sub.trans s2.sub)
  · have : x = (nk (dT r), b, y2) := by
      unfold putN at hx
      simpa [atN] using hx
    rw [this]; exact ko
  · show NV K F3 (putN [] (nk (dT r)) b y2) [(dT r, _)]
    unfold putN
    simp only [atN, List.find?_nil, Option.map_none, Option.isSome_none, Bool.false_eq_true, if_false, List.nil_append]
    exact .cons ⟨rfl, Rp.mono s2.sub _ _ hy, hy2⟩ .nil
/-- x = list(range(a, b)) -/
theorem t_rgO {i : Nat} {x y : Int} (g0 : Good pt F0 H0) (w0 : Own pt F0 H0 F H L) (ha : EvG K pt ta σ (putAll L F) (Is (.int x))) (hb : EvG K pt tb σ (putAll L F) (Is (.int y))) (ok : RgOk x y)
    (q : ∀ v F2 H2, Own pt F0 H0 F2 H2 L → Ex F F2 → Rp K F2 v (.list (rng x (y - x).toNat)) → tz D (σ.set i (some v)) H2) : tSeq (tAsg (tLstRg (tRg2 ta tb)) (gName i)) tz D σ H := by
  obtain ⟨e1, e2, gd, back⟩ := w0.fixS g0 w0.nd (fun _ h => h)
  refine ha H e2 gd _ fun d v F2 H2 hd s hv => ?_
  subst hd
  refine hb.mono s.sub H2 s.inn s.good _ fun d2 v2 F3 H3 hd2 s2 hv2 => ?_
  subst hd2
  obtain ⟨w2, e3, _, _⟩ := back F3 H3 (s.trans s2)
  refine ⟨x, y, rp_int hv, rp_int hv2, ok, fun p hp => ?_⟩
  have w3 := w2.run g0 (.laid (o := .lst (rgV x y)) w2.step.inn w2.step.good hp)
  refine q (.ref p) _ _ w3 (e3.trans fun a o h => ?_) (.lst upd_same (rgV_rng x y _))
  by_cases z : a = p
  · subst z
    have := w2.step.inn _ _ h
    rw [hp] at this; cases this
  · rw [upd_ne z]; exact h
/-- len(d) of a dict whose keys are data -/
theorem g_lenN {i : Nat} {xs : List NEnt} (h0 : σ[i]? = some (some (.ref l))) (nd : ND P w K F l xs) : EvG K pt (tCB (rLenN P w K) (tCons (tVar i) tNil)) σ F (Is (.int ((xs.length : Nat) : Int))) := fun H1 e g Q q => ⟨_, h0, l, xs, rfl, nd.mono e, q _ _ F H1 rfl (.refl e g) (.int _)⟩
end
end Fv
/-! the tree of what is linked with one, level by level -/
namespace Fv
open PySem PySem.Spec PyProof.Rows L2 Evl StX
/-- a row of the tree: the input, its parent, its level -/
abbrev TE3 := List Int × Option Nat × Nat
abbrev rowsT (ts : List TE3) : List (List Int) := ts.map (·.1)
structure TreeI (adj : List Int → List (List Int)) (root : List Int) (ts : List TE3) (lo lv : Nat) : Prop where
  hd : ts[0]? = some (root, none, 0)
  nd : (rowsT ts).Nodup
  par : ∀ i e, 0 < i → ts[i]? = some e → ∃ j f, e.2.1 = some j ∧ j < i ∧ ts[j]? = some f ∧ e.2.2 = f.2.2 + 1 ∧ e.1 ∈ adj f.1 ∧ ∀ k g, k < j → ts[k]? = some g → e.1 ∉ adj g.1
  ord : ts.Pairwise fun a b => a.2.2 < b.2.2 ∨ a.2.2 = b.2.2 ∧ TS.code 4 a.1 < TS.code 4 b.1
  lev : ∀ i e, ts[i]? = some e → (lo ≤ i → e.2.2 = lv) ∧ (i < lo → e.2.2 < lv)
  clo : ∀ i e, i < lo → ts[i]? = some e → ∀ o ∈ adj e.1, o ∈ rowsT ts
  le : lo ≤ ts.length
structure ParI (adj : List Int → List (List Int)) (ts : List TE3) (cnt : Nat) (ext : List (List Int)) (par : List (List Int × Nat)) : Prop where
  nd : (par.map (·.1)).Nodup
  new : ∀ p ∈ par, p.1 ∉ rowsT ts ∧ ∃ e, ts[p.2]? = some e ∧ p.1 ∈ adj e.1 ∧ ∀ k g, k < p.2 → ts[k]? = some g → p.1 ∉ adj g.1
  clo : ∀ i e, i < cnt → ts[i]? = some e → ∀ o ∈ adj e.1, o ∈ rowsT ts ∨ o ∈ par.map (·.1)
  ext : ∀ o ∈ ext, o ∈ rowsT ts ∨ o ∈ par.map (·.1)
section
variable {adj : List Int → List (List Int)} {root o : List Int} {ts : List TE3} {lo lv cnt : Nat} {ext : List (List Int)} {par : List (List Int × Nat)} {e : TE3}
theorem TreeI.start : TreeI adj root [(root, none, 0)] 0 0 where
  hd := rfl
  nd := by simp [rowsT]
  par := fun i e h1 h2 => by
    have := (List.getElem?_eq_some_iff.mp h2).1
    simp at this; omega
  ord := by simp
  lev := fun i e h => by
    have hi := (List.getElem?_eq_some_iff.mp h).1
    have : i = 0 := by simpa using hi
    subst this
    have : e = (root, none, 0) := by simpa using h.symm
    subst this
    exact ⟨fun _ => rfl, fun h => by omega⟩
  clo := fun i e h => by omega
  le := Nat.zero_le _
theorem ParI.start (h : TreeI adj root ts lo lv) : ParI adj ts lo [] [] := ⟨List.nodup_nil, fun _ h => (List.not_mem_nil h).elim, fun i e h1 h2 o ho => .inl (h.clo i e h1 h2 o ho), fun _ h => (List.not_mem_nil h).elim⟩
theorem ParI.skip (h : ParI adj ts cnt ext par) (ho : o ∈ rowsT ts ∨ o ∈ par.map (·.1)) : ParI adj ts cnt (ext ++ [o]) par := ⟨h.nd, h.new, h.clo, fun x hx => by
  rcases List.mem_append.mp hx with z | z
  · exact h.ext x z
  · rw [List.mem_singleton.mp z]; exact ho⟩
theorem ParI.add (h : ParI adj ts cnt ext par) (he : ts[cnt]? = some e) (ho : o ∈ adj e.1) (h1 : o ∉ rowsT ts) (h2 : o ∉ par.map (·.1)) : ParI adj ts cnt (ext ++ [o]) (par ++ [(o, cnt)]) where
  nd := by
    rw [List.map_append, List.nodup_append]
    exact ⟨h.nd, by simp, fun a ha b hb e => by
      have : b = o := by simpa using hb
      rw [this] at e; subst e; exact h2 ha⟩
  new := fun p hp => by
    rcases List.mem_append.mp hp with z | z
    · exact h.new p z
    · rw [List.mem_singleton.mp z]
      refine ⟨h1, e, he, ho, fun k g hk hg hm => ?_⟩
      rcases h.clo k g hk hg o hm with y | y
      · exact h1 y
      · exact h2 y
  clo := fun i f hi hf x hx => by
    rw [List.map_append, List.mem_append]
    rcases h.clo i f hi hf x hx with y | y
    · exact .inl y
    · exact .inr (.inl y)
  ext := fun x hx => by
    rw [List.map_append, List.mem_append]
    rcases List.mem_append.mp hx with z | z
    · rcases h.ext x z with y | y
      · exact .inl y
      · exact .inr (.inl y)
    · rw [List.mem_singleton.mp z]; exact .inr (.inr (by simp))
theorem ParI.next (h : ParI adj ts cnt (adj e.1) par) (he : ts[cnt]? = some e) : ParI adj ts (cnt + 1) [] par := ⟨h.nd, h.new, fun i f hi hf x hx => by
  rcases Nat.lt_succ_iff_lt_or_eq.mp hi with z | z
  · exact h.clo i f z hf x hx
  · subst z
    rw [he] at hf
    cases hf
    exact h.ext x hx, fun _ h => by cases h⟩
def parOf (par : List (List Int × Nat)) (o : List Int) : Nat := ((par.find? fun p => decide (p.1 = o)).map (·.2)).getD 0
theorem parOf_mem {par : List (List Int × Nat)} {o : List Int} (h : o ∈ par.map (·.1)) : (o, parOf par o) ∈ par := by
  unfold parOf
  induction par with
  | nil => cases h
  | cons p ps ih =>
    by_cases z : p.1 = o
    · rw [List.find?_cons_of_pos (by simpa using z)]
      subst z
      exact List.mem_cons_self
    · rw [List.find?_cons_of_neg (by simpa using z)]
      rcases List.mem_cons.mp h with y | y
      · exact absurd y.symm z
      · exact List.mem_cons_of_mem _ (ih y)
def nextL (par : List (List Int × Nat)) (lv : Nat) : List TE3 := (sortL (par.map (·.1))).map fun o => (o, some (parOf par o), lv)
theorem nextL_rows (par : List (List Int × Nat)) (lv : Nat) : rowsT (nextL par lv) = sortL (par.map (·.1)) := by
  show (List.map _ _).map _ = _
  rw [List.map_map]
  exact (List.map_congr_left fun _ _ => rfl).trans (List.map_id _)
theorem TreeI.step {n : Nat} (h : TreeI adj root ts lo lv) (p : ParI adj ts ts.length [] par) (hr : ∀ o ∈ par.map (·.1), o.length = n ∧ TS.Bd 4 o) : TreeI adj root (ts ++ nextL par (lv + 1)) ts.length (lv + 1) := by
  have pos : 0 < ts.length := (List.getElem?_eq_some_iff.mp h.hd).1
  have asc : Asc (sortL (par.map (·.1))) := asc_sortL hr p.nd
  have inP : ∀ x, x ∈ sortL (par.map (·.1)) ↔ x ∈ par.map (·.1) := fun x => (sortL_perm _).mem_iff
  have eR : rowsT (ts ++ nextL par (lv + 1)) = rowsT ts ++ sortL (par.map (·.1)) := by
    show (ts ++ _).map _ = _
    rw [List.map_append, ← nextL_rows par (lv + 1)]
  have old : ∀ {i e}, i < ts.length → (ts ++ nextL par (lv + 1))[i]? = some e → ts[i]? = some e := fun {i e} hi he => by rw [List.getElem?_append_left hi] at he; exact he
  have lift : ∀ {i e}, ts[i]? = some e → (ts ++ nextL par (lv + 1))[i]? = some e := fun {i e} he => by rw [List.getElem?_append_left (List.getElem?_eq_some_iff.mp he).1]; exact he
  have new : ∀ {i e}, ts.length ≤ i → (ts ++ nextL par (lv + 1))[i]? = some e → ∃ o, o ∈ par.map (·.1) ∧ e = (o, some (parOf par o), lv + 1) := fun {i e} hi he => by
    rw [List.getElem?_append_right hi] at he
    have := List.mem_of_getElem? he
    obtain ⟨o, ho, rfl⟩ := List.mem_map.mp this
    exact ⟨o, (inP o).mp ho, rfl⟩
  have dlv : ∀ e ∈ ts, e.2.2 ≤ lv := fun e he => by
    obtain ⟨i, hi, hie⟩ := List.mem_iff_getElem.mp he
    have := h.lev i e (by rw [List.getElem?_eq_getElem hi, hie])
    by_cases z : lo ≤ i
    · exact Nat.le_of_eq (this.1 z)
    · exact Nat.le_of_lt (this.2 (by omega))
  refine ⟨lift h.hd, ?_, fun i e hi he => ?_, ?_, fun i e he => ?_, fun i e hi he o ho => ?_, by rw [List.length_append]; omega⟩
  · rw [eR, List.nodup_append]
    exact ⟨h.nd, asc.nd, fun a ha b hb e => by
      subst e
      obtain ⟨q, hq, rfl⟩ := List.mem_map.mp ((inP a).mp hb)
      exact (p.new q hq).1 ha⟩
  · by_cases z : i < ts.length
    · obtain ⟨j, f, h1, h2, h3, h4, h5, h6⟩ := h.par i e hi (old z he)
      exact ⟨j, f, h1, h2, lift h3, h4, h5, fun k g hk hg => h6 k g hk (old (by omega) hg)⟩
    · obtain ⟨o, ho, rfl⟩ := new (by omega) he
      have hm := parOf_mem ho
      obtain ⟨h1, f, h2, h3, h4⟩ := p.new _ hm
      have hj : parOf par o < ts.length := (List.getElem?_eq_some_iff.mp h2).1
      refine ⟨parOf par o, f, rfl, by omega, lift h2, ?_, h3, fun k g hk hg => h4 k g hk (old (by omega) hg)⟩
      have := h.lev _ f h2
      by_cases y : lo ≤ parOf par o
      · rw [this.1 y]
      · exact absurd (h.clo _ f (by omega) h2 o h3) h1
  · rw [List.pairwise_append]
    refine ⟨h.ord, ?_, fun a ha b hb => ?_⟩
    · unfold nextL
      rw [List.pairwise_map]
      exact asc.imp fun {a b} h => .inr ⟨rfl, h⟩
    · obtain ⟨o, _, rfl⟩ := List.mem_map.mp hb
      exact .inl (Nat.lt_succ_of_le (dlv a ha))
  · by_cases z : i < ts.length
    · exact ⟨fun h => by omega, fun _ => Nat.lt_succ_of_le (dlv e (List.mem_of_getElem? (old z he)))⟩
    · obtain ⟨o, ho, rfl⟩ := new (by omega) he
      exact ⟨fun _ => rfl, fun h => absurd h z⟩
  · have he := old hi he
    rw [eR, List.mem_append, inP]
    exact p.clo i e hi he o ho
/-! what a whole tree says -/
/-- the level of an input -/
def depT (ts : List TE3) (o : List Int) : Nat := ((ts.find? fun e => decide (e.1 = o)).map (·.2.2)).getD 0
theorem find_row : ∀ {ts : List TE3}, (rowsT ts).Nodup → ∀ {e : TE3}, e ∈ ts → ts.find? (fun f => decide (f.1 = e.1)) = some e
  | f :: ts, nd, e, he => by
    obtain ⟨n1, n2⟩ := List.nodup_cons.mp nd
    rcases List.mem_cons.mp he with rfl | m
    · rw [List.find?_cons_of_pos (by simp)]
    · rw [List.find?_cons_of_neg (by simp; intro z; exact n1 (by show f.1 ∈ _; rw [z]; exact List.mem_map.mpr ⟨e, m, rfl⟩))]
      exact find_row n2 m
theorem TreeI.dep (h : TreeI adj root ts lo lv) {e : TE3} (he : e ∈ ts) : depT ts e.1 = e.2.2 := by
  unfold depT
  rw [find_row h.nd he]; rfl
theorem TreeI.dep0 (h : TreeI adj root ts lo lv) : root ∈ rowsT ts ∧ depT ts root = 0 := by
  have hm := List.mem_of_getElem? h.hd
  exact ⟨List.mem_map.mpr ⟨_, hm, rfl⟩, h.dep hm⟩
/-- another than the root has one at a level less beside it -/
theorem TreeI.down (h : TreeI adj root ts lo lv) (ho : o ∈ rowsT ts) (hne : o ≠ root) : ∃ r, r ∈ rowsT ts ∧ o ∈ adj r ∧ depT ts o = depT ts r + 1 := by
  obtain ⟨e, he, rfl⟩ := List.mem_map.mp ho
  obtain ⟨i, hi, hie⟩ := List.mem_iff_getElem.mp he
  have hi2 : ts[i]? = some e := by rw [List.getElem?_eq_getElem hi, hie]
  by_cases z : i = 0
  · subst z
    rw [h.hd] at hi2
    cases hi2
    exact absurd rfl hne
  · obtain ⟨j, f, h1, h2, h3, h4, h5, h6⟩ := h.par i e (by omega) hi2
    have hf := List.mem_of_getElem? h3
    exact ⟨f.1, List.mem_map.mpr ⟨f, hf, rfl⟩, h5, by rw [h.dep he, h.dep hf]; exact h4⟩
/-- what is beside one is at most a level further -/
theorem TreeI.near (h : TreeI adj root ts ts.length lv) {r : List Int} (hr : r ∈ rowsT ts) (ho : o ∈ adj r) : o ∈ rowsT ts ∧ depT ts o ≤ depT ts r + 1 := by
  obtain ⟨e, he, rfl⟩ := List.mem_map.mp hr
  obtain ⟨i, hi, hie⟩ := List.mem_iff_getElem.mp he
  have hi2 : ts[i]? = some e := by rw [List.getElem?_eq_getElem hi, hie]
  have hm := h.clo i e hi hi2 o ho
  refine ⟨hm, ?_⟩
  obtain ⟨f, hf, rfl⟩ := List.mem_map.mp hm
  obtain ⟨k, hk, hkf⟩ := List.mem_iff_getElem.mp hf
  have hk2 : ts[k]? = some f := by rw [List.getElem?_eq_getElem hk, hkf]
  rw [h.dep he, h.dep hf]
  by_cases z : k = 0
  · subst z
    rw [h.hd] at hk2
    cases hk2
    exact Nat.zero_le _
  · obtain ⟨j, g, h1, h2, h3, h4, h5, h6⟩ := h.par k f (by omega) hk2
    have hj : j ≤ i := by
      by_cases y : i < j
      · exact absurd ho (h6 i e y hi2)
      · omega
    have : g.2.2 ≤ e.2.2 := by
      rcases Nat.lt_or_eq_of_le hj with y | y
      · have := (List.pairwise_iff_getElem.mp h.ord) j i (List.getElem?_eq_some_iff.mp h3).1 hi y
        rw [(List.getElem?_eq_some_iff.mp h3).2, hie] at this
        rcases this with a | a
        · omega
        · omega
      · subst y
        rw [hi2] at h3
        cases h3
        exact Nat.le_refl _
    omega
end
end Fv
namespace KJ
open PySem PySem.Spec PyProof.Rows L2 L2H Fv Evl StX
abbrev s_tree_from : Stmt := topS 33
theorem sc_tree_from : FnScope ["near", "entry", "tree", "seen", "level", "parents", "index", "other"] ["near", "entry"] (defScope s_tree_from) := ⟨rfl, rfl, rfl, by decide +kernel, rfl, by decide +kernel, by decide +kernel⟩
def optN : Option Nat → PyData
  | none => .none
  | some j => .int (j : Nat)
/-- a row of the tree as data -/
def encT (e : TE3) : PyData := .tuple [dT e.1, optN e.2.1]
/-- what has been seen -/
structure SeenP (rows : List (List Int)) (seen : List (List Int × PyData)) (par : List (List Int × Nat)) : Prop where
  nd : (seen.map (·.1)).Nodup
  mem : ∀ o, o ∈ seen.map (·.1) ↔ o ∈ rows ∨ o ∈ par.map (·.1)
def parP (par : List (List Int × Nat)) : List (List Int × PyData) := par.map fun p => (p.1, PyData.int (p.2 : Nat))
theorem parP_fst (par : List (List Int × Nat)) : (parP par).map (·.1) = par.map (·.1) := by unfold parP; rw [List.map_map]; rfl
theorem dv_get {K : PySem.W.Frag} {F : Hp} {f : List Int → PyData} : ∀ {R : List (List Int)} {kvs : List (List Key × V)}, DV K F kvs (R.map fun r => (r, f r)) → ∀ {r}, r ∈ R → ∃ y, valV kvs (key r) = some y ∧ Rp K F y (f r)
  | a :: R, kvs, h, r, hr => by
    rw [List.map_cons] at h
    cases h with
    | @cons kv _ kvs _ h1 h2 =>
      by_cases z : a = r
      · subst z
        exact ⟨kv.2, by rw [show kv = (kv.1, kv.2) from rfl, valV_pos h1.1], h1.2⟩
      · obtain ⟨y, h3, h4⟩ := dv_get h2 ((List.mem_cons.mp hr).resolve_left fun e => z e.symm)
        exact ⟨y, by rw [show kv = (kv.1, kv.2) from rfl, valV_neg (fun e => z (key_inj (h1.1.symm.trans e)))]; exact h3, h4⟩
section
variable {P : Program} {w : World} {K : PySem.W.Frag} {mg : Str → Option Value} {base : Heap} {CB CL tM : Addr}
/-- who is near whom, as a dict -/
structure NearD (K : PySem.W.Frag) (F : Hp) (D : Addr) (n : Nat) (R : List (List Int)) (adj : List Int → List (List Int)) : Prop where
  ex : ∃ kvs, F D = some (.dT kvs) ∧ DV K F kvs (R.map fun r => (r, dLT (adj r)))
  row : ∀ r ∈ R, r.length = n ∧ TS.Bd 4 r
  sub : ∀ r ∈ R, ∀ o ∈ adj r, o ∈ R
  len : ∀ r ∈ R, (adj r).length ≤ 300
  few : R.length ≤ 300
  pos : 1 ≤ n
theorem NearD.mono {F F' : Hp} {D : Addr} {n : Nat} {R : List (List Int)} {adj : List Int → List (List Int)} (h : NearD K F D n R adj) (e : Ex F F') : NearD K F' D n R adj := by
  obtain ⟨⟨kvs, h1, h2⟩, h3, h4, h5, h6, h7⟩ := h
  exact ⟨⟨kvs, e _ _ h1, Paired.mapP h2 fun _ _ z => ⟨z.1, Rp.mono e _ _ z.2⟩⟩, h3, h4, h5, h6, h7⟩
def spTree (K : PySem.W.Frag) : Sp := fun vs H Q _ => ∃ (D : Addr) (v : V) (n : Nat) (R : List (List Int)) (adj : List Int → List (List Int)) (root : List Int) (F : Hp), vs = [.ref D, v] ∧ NearD K F D n R adj ∧ root ∈ R ∧ Ex F H ∧ Rp K F v (dT root) ∧
  ∀ ts lv v' F2 H2, Step none F H F2 H2 → TreeI adj root ts ts.length lv → (∀ o ∈ rowsT ts, o ∈ R) → Rp K F2 v' (.tuple (ts.map encT)) → Q v' H2
theorem ok_tree {f : Addr} {fd : FuncData} (Fn : Fun K "tree_from" "tree_from" s_tree_from f fd) (T : Tx mg) : FnOk P w K mg base CX0 1 f fd ["near", "entry"] (spTree K) := by
  refine Fn.ok sc_tree_from (fun vs H Q E ⟨_, _, _, _, _, _, _, h, _⟩ => by rw [h]; rfl) (fun cdv A outer s H vs Q E hr h => ?_)
  obtain ⟨Dn, v, n, R, adj, root, F, rfl, nr, hroot, e, hv, q⟩ := h
  refine ⟨_, (pss_cons (ps_set (i := 2) sc_tree_from.nd rfl (by first | exact Or.inl rfl | exact Or.inr rfl) (pe_lst (pa_cons (pe_tup (pa_cons (pv 1) (pa_cons pe_non pa_nil))) pa_nil)))
    (pss_cons (ps_set (i := 3) sc_tree_from.nd rfl (by first | exact Or.inl rfl | exact Or.inr rfl) (pe_dpairN (P := P) (w := w) (K := K) (hu65 hr) (pv 1) pe_bl))
    (pss_cons (ps_set (i := 4) sc_tree_from.nd rfl (by first | exact Or.inl rfl | exact Or.inr rfl) (pe_lst (pa_cons pe_int pa_nil)))
    (pss_cons (ps_while PassesOwn.never (pt_cmpR op_gt (pe_callB (c_len (K := K)) (by rfl) T.len (by decide +kernel) (pa_cons (pv 4) pa_nil)) pe_int (nomark _)) (pss_cons (ps_set (i := 5) sc_tree_from.nd rfl (by first | exact Or.inl rfl | exact Or.inr rfl) (pe_dnewN (P := P) (w := w)))
    (pss_cons (ps_for PassesOwn.never rfl (i_list (K := K) (pv 4)) (pg_name (i := 6) sc_tree_from.nd rfl (by first | exact Or.inl rfl | exact Or.inr rfl)) (pss_one (ps_for PassesOwn.never rfl (i_list (K := K) (pe_dget (hu_of hr) (pv 0) (pe_ix (o_ixT (K := K)) (pe_ix (o_ixL (K := K)) (pv 2) (pv 6) (fun _ _ => rfl)) pe_int (fun _ _ => rfl)) (fun _ _ => rfl))) (pg_name (i := 7) sc_tree_from.nd rfl (by first | exact Or.inl rfl | exact Or.inr rfl)) (pss_one (ps_if (pt_cmpR (o_ninN (P := P) (w := w) (K := K) (hu65 hr)) (pv 7) (pv 3) (by rfl)) (pss_cons (ps_asg pe_bl (pg_sub (pv 3) (pv 7) (set_N (P := P) (w := w) (K := K) (hu65 hr))))
    (pss_one (ps_asg (pv 6) (pg_sub (pv 5) (pv 7) (set_N (P := P) (w := w) (K := K) (hu65 hr)))))) pss_nil)))))
    (pss_cons (ps_set (i := 4) sc_tree_from.nd rfl (by first | exact Or.inl rfl | exact Or.inr rfl) (pe_listRg rfl (by rfl) T.list (prg_2 (by rfl) T.range (pe_callB (c_len (K := K)) (by rfl) T.len (by decide +kernel) (pa_cons (pv 2) pa_nil)) (pe_op op_add (pe_callB (c_len (K := K)) (by rfl) T.len (by decide +kernel) (pa_cons (pv 2) pa_nil)) (pe_callB (c_lenN (P := P) (w := w) (K := K)) (by rfl) T.len (by decide +kernel) (pa_cons (pv 5) pa_nil))))))
    (pss_one (ps_expr (pe_bm PySem.F.plainAttrs_list PySem.F.slot_list_extend PySem.F.type_list_extend mt_extend (pv 2) (pa_cons (pe_lc (own := [("other", 7)]) (g := gName 7) rfl sc_tree_from.nd (i_list (K := K) (pe_callB (c_sortN (P := P) (w := w) (K := K) rfl (hu65 hr)) (by rfl) T.sorted (by decide +kernel) (pa_cons (pv 5) pa_nil))) (blkOk_by (own := [("other", 7)]) (N := ["near", "entry", "tree", "seen", "level", "parents", "index", "other"]) (sc := (defScope s_tree_from)) (by decide +kernel)) (fun _ _ _ _ _ => pg_name (i := 7) sc_tree_from.nd rfl (by first | exact Or.inl rfl | exact Or.inr rfl)) (fun _ _ _ _ _ => pts_nil) (fun _ _ _ _ _ => (pe_tup (pa_cons (pv 7) (pa_cons (pe_dgetN (P := P) (w := w) (K := K) (hu65 hr) (pv 5) (pv 7) (fun _ _ => rfl)) pa_nil))))) pa_nil))))))))
    (pss_one (ps_ret (pe_callTy (c_tup (K := K)) (by rfl) T.tuple (by decide +kernel) (pa_cons (pv 2) pa_nil)))))))), ?_⟩
  have g0 : Good none F H := .nil
  refine t_newLsO (K := K) (ds := [encT (root, none, 0)]) g0 (Own.nil (.refl e .nil)) (gs_one (g_tupI (gs_two (g_var rfl hv) g_non) (by show 2 ≤ 100000; omega))) (by show 1 ≤ 100000; omega) fun Ta oT F1 H1 w1 l1 e1 => ?_
  refine t_dpairRow (P := P) (w := w) (K := K) (r := root) (z := .bool true) g0 w1 (g_var rfl (Rp.mono e1 _ _ hv)) (fun F' e' => g_bl) fun Sa oS F2 H2 w2 d2 e2 => ?_
  refine t_asgF (K := K) (R := Is (.list [.int 0])) g0 w2 (g_lstI (gs_one g_int) (by show 1 ≤ 100000; omega)) fun d lv F3 H3 hd w3 e3 hlv => ?_
  rw [show d = _ from hd] at hlv
  have rlen : ∀ ts : List TE3, (rowsT ts).Nodup → (∀ o ∈ rowsT ts, o ∈ R) → ts.length ≤ R.length := fun ts h1 h2 => by
    have := nd_le h1 h2
    rwa [List.length_map] at this
  refine t_whileM (fun x : List TE3 × Nat × Nat => (R.length - x.1.length) + (if x.2.1 < x.1.length then 1 else 0)) (fun x => decide (x.2.1 < x.1.length)) (fun x σ' H' => ∃ (lv : V) (F' : Hp) (oT oS : HO) (seen : List (List Int × PyData)) (a b c : Option V), σ' = [some (.ref Dn), some v, some (.ref Ta), some (.ref Sa), some lv, a, b, c] ∧ Own none F H F' H' [(Ta, oT), (Sa, oS)] ∧ Ex F F' ∧ LstO K F' oT (x.1.map encT) ∧ RowD P w K F' Sa oS seen ∧ SeenP (rowsT x.1) seen [] ∧ Rp K F' lv (.list (rng (x.2.1 : Nat) (x.1.length - x.2.1))) ∧ TreeI adj root x.1 x.2.1 x.2.2 ∧ (∀ o ∈ rowsT x.1, o ∈ R)) ([(root, none, 0)], 0, 0) ?_ (fun x σ' H' hI Q hQ => ?_) (fun x σ' H' hb hI N hN => ?_) (fun x σ' H' hb hI => ?_)
  · refine ⟨lv, F3, _, _, _, _, _, _, rfl, w3, e1.trans (e2.trans e3), l1.mono (e2.trans e3), d2.mono e3, ⟨by simp, fun o => by simp [rowsT]⟩, hlv, TreeI.start, fun o ho => ?_⟩
    have : o = root := by simpa [rowsT] using ho
    rw [this]; exact hroot
  · obtain ⟨ts, lo, lvl⟩ := x
    obtain ⟨lv, F', oT, oS, seen, a, b, c, rfl, w4, e4, lT, dS, sn, hlv, tI, tR⟩ := hI
    dsimp only at *
    refine (et_of (K := K) (g_opI (g_cbI (gs_one (g_var rfl hlv)) rc_lenL) g_int rv_bl)) H' w4.step.inn w4.step.good Q fun b2 F2 H2 hb2 s2 => ?_
    have eb : b2 = decide (lo < ts.length) := by
      rw [show b2 = _ from hb2, rng_len]
      by_cases z : lo < ts.length
      · rw [decide_eq_true z, decide_eq_true (by omega)]
      · rw [decide_eq_false z, decide_eq_false (by omega)]
    rw [eb]
    exact hQ H2 ⟨lv, F2, oT, oS, seen, a, b, c, rfl, w4.run g0 s2, e4.trans s2.sub, lT.mono s2.sub, dS.mono s2.sub, sn, Rp.mono s2.sub _ _ hlv, tI, tR⟩
  · obtain ⟨ts, lo, lvl⟩ := x
    obtain ⟨lv, F', oT, oS, seen, a, b, c, rfl, w4, e4, lT, dS, sn, hlv, tI, tR⟩ := hI
    dsimp only at *
    have hlo : lo < ts.length := of_decide_eq_true hb
    have tlen := rlen ts tI.nd tR
    have few := nr.few
    refine t_newNO (P := P) (w := w) (K := K) w4 fun Pa oP H5 w5 d5 => ?_
    have p5 : RowD P w K F' Pa oP (parP []) := ⟨[], d5, .nil⟩
    -- the level
    refine t_forO (K := K) (RS := (· = rng (lo : Nat) (ts.length - lo))) g0 w5 (w_listI (g_var rfl hlv)) (fun ds t σ' F2 L' => (∃ a b, σ' = [some (.ref Dn), some v, some (.ref Ta), some (.ref Sa), some lv, some (.ref Pa), a, b]) ∧ ∃ oS oP seen par, L' = [(Ta, oT), (Sa, oS), (Pa, oP)] ∧ Ex F' F2 ∧ RowD P w K F2 Sa oS seen ∧ RowD P w K F2 Pa oP (parP par) ∧ SeenP (rowsT ts) seen par ∧ ParI adj ts (lo + t) [] par ∧ (∀ o ∈ par.map (·.1), o ∈ R)) (fun ds hds F2 e2 => ⟨⟨_, _, rfl⟩, oS, oP, seen, [], rfl, e2, dS.mono e2, p5.mono e2, sn, ParI.start tI, fun o ho => (List.not_mem_nil ho).elim⟩) (fun ds hds t d hd σ' F2 H2 L' u hI w6 e6 hu N6 hN6 => ?_) (fun ds hds σ' F2 H2 L' hI w6 e6 => ?_)
    · subst hds
      obtain ⟨⟨a1, b1, rfl⟩, oS1, oP1, seen1, par1, rfl, e51, dS1, dP1, sn1, pI1, pR1⟩ := hI
      have ht : t < ts.length - lo := by
        have := (List.getElem?_eq_some_iff.mp hd).1
        rwa [rng_len] at this
      rw [rng_get ht] at hd
      obtain rfl : PyData.int ((lo : Int) + (t : Int)) = d := by injection hd
      obtain rfl := rp_int hu
      have hcnt : lo + t < ts.length := by omega
      obtain ⟨e0, he0⟩ : ∃ e0, ts[lo + t]? = some e0 := ⟨_, List.getElem?_eq_getElem hcnt⟩
      have he0m : e0.1 ∈ R := tR _ (List.mem_map.mpr ⟨e0, List.mem_of_getElem? he0, rfl⟩)
      obtain ⟨⟨kvs, hN1, hN2⟩, _, _, _, _, _⟩ := id nr
      have eF2 : Ex F F2 := e4.trans e51
      obtain ⟨y, hy1, hy2⟩ := dv_get hN2 he0m
      obtain ⟨ya, yus, ey, hya, hyu⟩ := rp_lst hy2
      subst ey
      have ex0 := Own.seeEx g0 w6
      have seeT : putAll [(Ta, oT), (Sa, oS1), (Pa, oP1)] F2 Ta = some oT := Own.see (k := 0) w6 rfl
      have hkey : EvG K none (tOp (rIxT K) (tOp (rIxL K) (tVar 2) (tVar 6)) (tC (.int 0))) [some (.ref Dn), some v, some (.ref Ta), some (.ref Sa), some lv, some (.ref Pa), some (.int ((lo : Int) + (t : Int))), b1] (putAll [(Ta, oT), (Sa, oS1), (Pa, oP1)] F2) (Is (dT e0.1)) := g_opI (g_opI (g_var rfl (((lT.mono e51).mono ex0).rp seeT)) (g_var (v := .int ((lo : Int) + (t : Int))) rfl (.int _)) (rv_ixL (d := encT e0) (by rw [← Int.natCast_add]; exact atI_nat (by rw [List.getElem?_map, he0]; rfl)))) g_int (rv_ixT rfl)
      refine t_forP (K := K) (ds := (adj e0.1).map dT) g0 w6 (fun H1 i1 g1 Q1 q1 => x_dgetR (K := K) (D := Dn) (kvs := kvs) (r := e0.1) (y := .ref ya) rfl hkey (ex0 _ _ (eF2 _ _ hN1)) hy1 H1 i1 g1 _ fun v F3 H3 h3 s3 => q1 v F3 H3 ⟨ya, yus, h3.1, eF2 _ _ hya, RpAll.mono eF2 _ _ hyu⟩ s3) (fun l σ' F3 L' => (∃ b, σ' = [some (.ref Dn), some v, some (.ref Ta), some (.ref Sa), some lv, some (.ref Pa), some (.int ((lo : Int) + (t : Int))), b]) ∧ ∃ oS oP seen par, L' = [(Ta, oT), (Sa, oS), (Pa, oP)] ∧ Ex F' F3 ∧ RowD P w K F3 Sa oS seen ∧ RowD P w K F3 Pa oP (parP par) ∧ SeenP (rowsT ts) seen par ∧ ParI adj ts (lo + t) ((adj e0.1).take l) par ∧ (∀ o ∈ par.map (·.1), o ∈ R)) (fun F3 e3 => ⟨⟨_, rfl⟩, oS1, oP1, seen1, par1, rfl, e51.trans e3, dS1.mono e3, dP1.mono e3, sn1, pI1, pR1⟩) (fun l d hd σ3 F3 H3 L3 x hI w7 e7 hx N7 hN7 => ?_) (fun σ3 F3 H3 L3 hI w7 e7 => ?_)
      · obtain ⟨o, ho1, rfl⟩ := get_map hd
        obtain ⟨⟨b2, rfl⟩, oS2, oP2, seen2, par2, rfl, e52, dS2, dP2, sn2, pI2, pR2⟩ := hI
        have hoA := List.mem_of_getElem? ho1
        have hoR := nr.sub _ he0m o hoA
        have ex2 := Own.seeEx g0 w7
        have seeS : putAll [(Ta, oT), (Sa, oS2), (Pa, oP2)] F3 Sa = some oS2 := Own.see (k := 1) w7 rfl
        have et := et_of (K := K) (pt := none) (g_inRow (P := P) (w := w) (K := K) (pt := none) (F := putAll [(Ta, oT), (Sa, oS2), (Pa, oP2)] F3) (σ := [some (.ref Dn), some v, some (.ref Ta), some (.ref Sa), some lv, some (.ref Pa), some (.int ((lo : Int) + (t : Int))), some x]) (i := 3) (neg := true) (r := o) (g_var (i := 7) rfl (Rp.mono ex2 _ _ hx)) rfl (dS2.mono ex2) seeS sn2.nd)
        have slen : seen2.length ≤ R.length := by
          have := nd_le sn2.nd fun o ho => ((sn2.mem o).mp ho).elim (tR o) (pR2 o)
          rwa [List.length_map] at this
        have plen : (parP par2).length ≤ R.length := by
          have := nd_le pI2.nd pR2
          unfold parP
          rw [List.length_map] at this ⊢
          exact this
        refine t_ifO1 g0 w7 et (fun hb F4 H4 w8 e8 => ?_) (fun hb F4 H4 w8 e8 => ?_)
        · have hns : o ∉ seen2.map (·.1) := by simpa using hb
          have hnr : o ∉ rowsT ts := fun h => hns ((sn2.mem o).mpr (.inl h))
          have hnp : o ∉ par2.map (·.1) := fun h => hns ((sn2.mem o).mpr (.inr h))
          refine t_putRowS (P := P) (w := w) (K := K) (R := Is (.bool true)) (r := o) 1 g0 w8 rfl (dS2.mono e8) rfl (by omega) hns g_bl (fun d h => by rw [show d = _ from h]; rfl) (fun F' e' => g_var rfl (Rp.mono (e8.trans e') _ _ hx)) fun z oS3 F5 H5 hz w9 d9 e9 => ?_
          refine t_putRow (P := P) (w := w) (K := K) (R := Is (.int ((lo : Int) + (t : Int)))) (r := o) 2 g0 w9 rfl (dP2.mono (e8.trans e9)) rfl (by omega) (by rw [parP_fst]; exact hnp) (g_var (v := .int ((lo : Int) + (t : Int))) rfl (.int _)) (fun d h => by rw [show d = _ from h]; rfl) (fun F' e' => g_var rfl (Rp.mono (e8.trans (e9.trans e')) _ _ hx)) fun z2 oP3 F6 H6 hz2 w10 d10 e10 => ?_
          refine hN7 _ F6 H6 _ ⟨⟨_, rfl⟩, oS3, oP3, seen2 ++ [(o, z)], par2 ++ [(o, lo + t)], rfl, e52.trans (e8.trans (e9.trans e10)), d9.mono e10, ?_, ?_, ?_, ?_⟩ w10 (e8.trans (e9.trans e10))
          · have ez : parP (par2 ++ [(o, lo + t)]) = parP par2 ++ [(o, z2)] := by
              unfold parP
              rw [List.map_append, show z2 = _ from hz2]
              rfl
            rw [ez]; exact d10
          · refine ⟨?_, fun y => ?_⟩
            · rw [List.map_append, List.nodup_append]
              exact ⟨sn2.nd, by simp, fun a ha b hb e => by
                have : b = o := by simpa using hb
                rw [this] at e; subst e; exact hns ha⟩
            · rw [List.map_append, List.map_append, List.mem_append, List.mem_append, sn2.mem]
              simp only [List.map_cons, List.map_nil, List.mem_singleton]
              exact or_assoc
          · rw [take_succA ho1]
            exact pI2.add he0 hoA hnr hnp
          · intro y hy
            rw [List.map_append, List.mem_append] at hy
            rcases hy with hy | hy
            · exact pR2 y hy
            · have : y = o := by simpa using hy
              rw [this]; exact hoR
        · have hs : o ∈ seen2.map (·.1) := by simpa using hb
          refine hN7 _ F4 H4 _ ⟨⟨_, rfl⟩, oS2, oP2, seen2, par2, rfl, e52.trans e8, dS2.mono e8, dP2.mono e8, sn2, ?_, pR2⟩ w8 e8
          rw [take_succA ho1]
          exact pI2.skip ((sn2.mem o).mp hs)
      · obtain ⟨⟨b2, rfl⟩, oS2, oP2, seen2, par2, rfl, e52, dS2, dP2, sn2, pI2, pR2⟩ := hI
        rw [List.length_map, List.take_length] at pI2
        exact hN6 _ F3 H3 _ ⟨⟨_, _, rfl⟩, oS2, oP2, seen2, par2, rfl, e52, dS2, dP2, sn2, pI2.next he0, pR2⟩ w7 e7
    · subst hds
      obtain ⟨⟨a1, b1, rfl⟩, oS1, oP1, seen1, par1, rfl, e51, dS1, dP1, sn1, pI1, pR1⟩ := hI
      rw [rng_len, show lo + (ts.length - lo) = ts.length by omega] at pI1
      have ex0 := Own.seeEx g0 w6
      have seeT : putAll [(Ta, oT), (Sa, oS1), (Pa, oP1)] F2 Ta = some oT := Own.see (k := 0) w6 rfl
      have seeP : putAll [(Ta, oT), (Sa, oS1), (Pa, oP1)] F2 Pa = some oP1 := Own.see (k := 2) w6 rfl
      have eF2 : Ex F F2 := e4.trans e51
      have hpar : ∀ o ∈ par1.map (·.1), o.length = n ∧ TS.Bd 4 o := fun o ho => nr.row o (pR1 o ho)
      have tI2 := tI.step pI1 hpar
      have nlen : (nextL par1 (lvl + 1)).length = par1.length := by
        unfold nextL
        rw [List.length_map, (sortL_perm _).length_eq, List.length_map]
      have tR2 : ∀ o ∈ rowsT (ts ++ nextL par1 (lvl + 1)), o ∈ R := fun o ho => by
        have e : rowsT (ts ++ nextL par1 (lvl + 1)) = rowsT ts ++ sortL (par1.map (·.1)) := by
          rw [← nextL_rows par1 (lvl + 1)]
          exact List.map_append
        rw [e, List.mem_append] at ho
        rcases ho with h | h
        · exact tR o h
        · exact pR1 o ((sortL_perm _).mem_iff.mp h)
      have tlen2 := rlen _ tI2.nd tR2
      rw [List.length_append, nlen] at tlen2
      obtain ⟨xs, ndP, nvP⟩ := (dP1.mono ex0).nd seeP
      have xlen : xs.length = par1.length := by
        have := nvP.len
        unfold rowP parP at this
        rw [List.length_map, List.length_map] at this
        exact this
      have glen : EvG K none (tCB _ (tCons (tVar 2) tNil)) [some (.ref Dn), some v, some (.ref Ta), some (.ref Sa), some lv, some (.ref Pa), a1, b1] (putAll [(Ta, oT), (Sa, oS1), (Pa, oP1)] F2) (Is (.int ((ts.map encT).length : Nat))) := g_cbI (gs_one (g_var rfl (((lT.mono e51).mono ex0).rp seeT))) rc_lenL
      rw [List.length_map] at glen
      refine t_rgO (K := K) (x := (ts.length : Nat)) (y := (ts.length : Nat) + (par1.length : Nat)) g0 w6 glen (g_opI glen ((g_lenN rfl ndP).is (by rw [xlen])) rv_add) (RgOk.of_le (by omega) (by omega) (by omega) (by omega)) fun lv3 F7 H7 w7 e7 hlv3 => ?_
      obtain ⟨w8, ex8⟩ := w7.cut (L1 := [(Pa, oP1)]) (L2 := [(Ta, oT), (Sa, oS1)]) g0 (by
        have := w7.nd
        simp only [List.map_cons, List.map_nil, List.nodup_cons, List.mem_cons, List.cons_append, List.nil_append, List.not_mem_nil, not_or, not_false_eq_true, and_true, List.nodup_nil, or_false] at this ⊢
        obtain ⟨⟨h1, h2⟩, h3⟩ := this
        exact ⟨⟨fun e => h2 e.symm, fun e => h3 e.symm⟩, h1⟩) (fun p hp => by simp at hp; subst hp; simp) (fun p hp => by simp at hp; rcases hp with rfl | rfl <;> simp)
      have hPa : putAll [(Pa, oP1)] F7 Pa = some oP1 := putAll_at (L := [(Pa, oP1)]) (p := (Pa, oP1)) (by simp) (by simp)
      have dP7 : RowD P w K (putAll [(Pa, oP1)] F7) Pa oP1 (parP par1) := dP1.mono (e7.trans ex8)
      have pnd : ((parP par1).map (·.1)).Nodup := by rw [parP_fst]; exact pI1.nd
      refine t_extO1 (K := K) (es := (nextL par1 (lvl + 1)).map encT) 0 g0 w8 rfl (lT.mono (e51.trans (e7.trans ex8))) rfl (EvG.is (g_lcEM (K := K) dT (sortL (par1.map (·.1))) (fun o => encT (o, some (parOf par1 o), lvl + 1)) (w_listI ((g_sortRow (P := P) (w := w) (K := K) (i := 5) rfl dP7 hPa fun p hp => ?_).is (by rw [parP_fst]))) ?_ (fun _ => rfl) (fun o ho F' e' u hu => ?_)) ?_) ?_ fun oT4 F9 H9 w9 l9 e9 => ?_
      · have hm : p.1 ∈ par1.map (·.1) := by rw [← parP_fst]; exact List.mem_map.mpr ⟨p, hp, rfl⟩
        have h1 := (hpar _ hm).1
        have h2 := nr.pos
        intro z
        rw [z, List.length_nil] at h1
        omega
      · rw [(sortL_perm _).length_eq, List.length_map]; omega
      · have hm : o ∈ par1.map (·.1) := (sortL_perm _).mem_iff.mp ho
        exact g_tupI (gs_two (g_var rfl hu) (g_getRow (P := P) (w := w) (K := K) (i := 5) (g_var rfl hu) rfl (dP7.mono e') (e' _ _ hPa) pnd (List.mem_map.mpr ⟨_, parOf_mem hm, rfl⟩))) (by show 2 ≤ 100000; omega)
      · unfold nextL
        rw [List.map_map]; rfl
      · rw [List.length_map, List.length_map, nlen]; omega
      · have efin := e51.trans (e7.trans (ex8.trans e9))
        refine hN (ts ++ nextL par1 (lvl + 1), ts.length, lvl + 1) _ H9 ?_ ⟨lv3, F9, oT4, oS1, seen1, _, _, _, rfl, w9, e4.trans efin, ?_, (dS1.mono (e7.trans (ex8.trans e9))), ⟨sn1.nd, fun o => ?_⟩, ?_, tI2, tR2⟩
        · show (R.length - (ts ++ nextL par1 (lvl + 1)).length) + (if ts.length < (ts ++ nextL par1 (lvl + 1)).length then 1 else 0) < (R.length - ts.length) + (if lo < ts.length then 1 else 0)
          rw [List.length_append, nlen, if_pos hlo]
          split <;> omega
        · show LstO K F9 oT4 ((ts ++ nextL par1 (lvl + 1)).map encT)
          rw [List.map_append]; exact l9
        · show o ∈ seen1.map (·.1) ↔ o ∈ rowsT (ts ++ nextL par1 (lvl + 1)) ∨ o ∈ ([] : List (List Int × Nat)).map (·.1)
          rw [sn1.mem]
          have e : rowsT (ts ++ nextL par1 (lvl + 1)) = rowsT ts ++ sortL (par1.map (·.1)) := by
            rw [← nextL_rows par1 (lvl + 1)]
            exact List.map_append
          rw [e, List.mem_append, (sortL_perm _).mem_iff]
          simp
        · show Rp K F9 lv3 (.list (rng (ts.length : Nat) ((ts ++ nextL par1 (lvl + 1)).length - ts.length)))
          have := Rp.mono (ex8.trans e9) _ _ hlv3
          rw [show ((ts.length : Int) + (par1.length : Int) - (ts.length : Int)).toNat = par1.length by omega] at this
          rw [List.length_append, nlen, Nat.add_sub_cancel_left]
          exact this
  · obtain ⟨ts, lo, lvl⟩ := x
    obtain ⟨lv, F', oT, oS, seen, a, b, c, rfl, w4, e4, lT, dS, sn, hlv, tI, tR⟩ := hI
    dsimp only at *
    have elo : lo = ts.length := by
      have := of_decide_eq_false hb
      have := tI.le
      omega
    subst elo
    obtain ⟨F5, s5, e5, dn⟩ := w4.done g0
    have hT5 : F5 Ta = some oT := dn (Ta, oT) (by simp)
    exact t_retI (K := K) s5 (g_cbI (gs_one (g_var rfl ((lT.mono e5).rp hT5))) rc_tupL) fun v' F6 H6 s6 hv6 => q ts lvl v' F6 H6 s6 tI tR hv6
end
end KJ
/-! a for with any target; what is got out of a dict of rows that holds lists -/
namespace Fv
open PySem PySem.Spec PyProof.Rows L2 Evl StX
section
variable {P : Program} {w : World} {K : PySem.W.Frag} {pt : Option Pt} {σ : L2.St} {F0 H0 F H F' F2 H2 : Hp} {te ta tb ty tv : TE} {ts : TA} {t : TT} {R : PD} {D : Ends} {tz tu tw : TS} {wi : TI} {L : List Own1} {a l Dd : Addr} {o o' : HO} {ps : List (List Int × PyData)} {r : List Int} {g : TG}
theorem t_forOg {RS : List PyData → Prop} (g0 : Good pt F0 H0) (w : Own pt F0 H0 F H L) (hw : WiG K pt wi σ F RS) (I : List PyData → Nat → L2.St → Hp → List Own1 → Prop) (h0 : ∀ ds, RS ds → ∀ F1, Ex F F1 → I ds 0 σ F1 L)
    (hs : ∀ ds, RS ds → ∀ i d, ds[i]? = some d → ∀ σ' F' H' L' x, I ds i σ' F' L' → Own pt F0 H0 F' H' L' → Ex F F' → Rp K F' x d →
      ∀ N : L2.St → Hp → Prop, (∀ σ2 F2 H2 L2, I ds (i + 1) σ2 F2 L2 → Own pt F0 H0 F2 H2 L2 → Ex F' F2 → N σ2 H2) → g x σ' H' (tu { D with nx := N, ct := N, bk := tz D }))
    (hd : ∀ ds, RS ds → ∀ σ' F' H' L', I ds ds.length σ' F' L' → Own pt F0 H0 F' H' L' → Ex F F' → tz D σ' H') : tSeq (tFor wi g tu) tz D σ H :=
  hw H w.step.inn w.step.good _ fun ds' J F1 H1 e s1 Y => by
    refine ⟨fun i m σ' H' => m = ds'.length - i ∧ i ≤ ds'.length ∧ ∃ F' L', I ds' i σ' F' L' ∧ Own pt F0 H0 F' H' L' ∧ Ex F1 F', ⟨ds'.length, by simp, Nat.zero_le _, F1, L, h0 ds' e F1 s1.sub, w.run g0 s1, Ex.refl _⟩, ?_⟩
    rintro i m σ' H' ⟨rfl, hil, F', L', p, w', e'⟩
    have eH : Ex F1 H' := e'.trans w'.step.inn
    by_cases hlt : i < ds'.length
    · refine .inr ⟨Y.go i H' eH hlt, fun σ2 H2 => ∃ F2 L2, I ds' (i + 1) σ2 F2 L2 ∧ Own pt F0 H0 F2 H2 L2 ∧ Ex F1 F2, fun σ2 H2 ⟨F2, L2, a, c, b⟩ => ⟨ds'.length - (i + 1), by omega, rfl, hlt, F2, L2, a, c, b⟩, fun x H2 y => ?_⟩
      obtain ⟨rfl, d, hdd, hx⟩ := Y.yld i H' x H2 eH hlt y
      exact hs ds' e i d hdd σ' F' _ L' x p w' (s1.sub.trans e') (Rp.mono e' _ _ hx) _ fun σ2 F2 H2 L2 a c b => ⟨F2, L2, a, c, e'.trans b⟩
    · have hE : i = ds'.length := Nat.le_antisymm hil (Nat.le_of_not_lt hlt)
      subst hE
      exact .inl ⟨Y.stop H' eH, hd ds' e σ' F' H' L' p w' (s1.sub.trans e')⟩
theorem rpAll2' {F : Hp} {xs : List V} {a b : PyData} (h : RpAll K F xs [a, b]) : ∃ x y, xs = [x, y] ∧ Rp K F x a ∧ Rp K F y b := by
  cases h with
  | cons h1 h2 => cases h2 with
    | cons h2 h3 => cases h3; exact ⟨_, _, rfl, h1, h2⟩
/-- a target of two names -/
theorem g_twoN {j1 j2 : Nat} {c1 c2 : PyData} {v : V} (hv : Rp K F' v (.tuple [c1, c2])) : ∃ x1 x2, Rp K F' x1 c1 ∧ Rp K F' x2 c2 ∧ ∀ (τ : L2.St) (H' : Hp) (Q : L2.St → Hp → Prop), Ex F' H' → Q ((τ.set j1 (some x1)).set j2 (some x2)) H' →
    gTup K 2 (gCons (gName j1) (gCons (gName j2) gNil)) v τ H' Q := by
  obtain ⟨a, zs, rfl, hl, ha⟩ := rp_tup hv
  obtain ⟨x1, x2, rfl, h1, h2⟩ := rpAll2' ha
  exact ⟨x1, x2, h1, h2, fun τ H' Q e q => ⟨a, _, rfl, SqT.of (e _ _ hl), rfl, x1, _, rfl, x2, _, rfl, rfl, q⟩⟩
/-- d[e], e a row, its value data -/
theorem g_dgetR {i : Nat} {y : V} {d : PyData} {kvs : List (List Key × V)} (hi : σ[i]? = some (some (.ref Dd))) (hk : EvG K pt te σ F (Is (dT r))) (hD : F Dd = some (.dT kvs)) (hv : valV kvs (key r) = some y) (hy : Rp K F y d) : EvG K pt (tDGet (tVar i) te) σ F (Is d) := fun H1 i1 g1 Q q =>
  x_dgetR hi hk hD hv H1 i1 g1 Q fun v F2 H2 ⟨h1, h2⟩ s => q d v F2 H2 rfl s (by rw [h1]; exact Rp.mono h2 _ _ hy)
end
end Fv
namespace Fv
open PySem PySem.Spec PyProof.Rows L2 Evl StX
section
variable {K : PySem.W.Frag} {pt : Option Pt} {σ : L2.St} {F0 H0 F H : Hp} {te : TE} {R : PD} {D : Ends} {tz : TS} {L : List Own1} {l : Addr} {o : HO} {ds : List PyData}
/-- xs.append(e), e reads what is one's own -/
theorem t_appV1 {i : Nat} (k : Nat) (g0 : Good pt F0 H0) (w0 : Own pt F0 H0 F H L) (hk : L[k]? = some (l, o)) (lo : LstO K F o ds) (hi : σ[i]? = some (some (.ref l))) (h : EvG K pt te σ (putAll L F) R) (hn : ∀ d, R d → nl d = true) (hz : ds.length < 100000)
    (q : ∀ d o2 F2 H2, R d → Own pt F0 H0 F2 H2 (L.set k (l, o2)) → LstO K F2 o2 (ds ++ [d]) → Ex F F2 → D.nx σ H2) : tDrop (tBM K "list" rAppend (tVar i) (tCons te tNil)) D σ H := by
  obtain ⟨acc, rfl, r⟩ := lo
  obtain ⟨e1, e2, gd, back⟩ := w0.fixS g0 w0.nd (fun _ h => h)
  refine ⟨.ref l, hi, .inl ⟨rfl, acc, sq_of (w0.get hk).2.2⟩, h H e2 gd _ fun d v F2 H2 hd s hv => ?_⟩
  obtain ⟨w2, e3, tp, _⟩ := back F2 H2 s
  have r2 := RpAll.mono e3 _ _ r
  exact ⟨l, acc, v, rfl, rfl, (w2.get hk).2.2, sz_lt (by rw [r2.length]; exact hz), q d (.lst (acc ++ [v])) _ _ hd (w2.put g0 k hk fun ys z => by cases z) ⟨_, rfl, r2.append (.one (rp_tups tp d v (hn d hd) hv))⟩ e3⟩
/-- -i -/
theorem g_negI {x : Int} (h : EvG K pt te σ F (Is (.int x))) : EvG K pt (tUn (rU fun i => .int (-i)) te) σ F (Is (.int (-x))) := fun H1 e g Q q => h H1 e g _ fun d v F2 H2 hd s hv => by
  subst hd
  exact ⟨x, rp_int hv, q _ _ F2 H2 rfl s (.int _)⟩
/-- the last of a list -/
theorem atI_last {xs : List PyData} {d : PyData} : atI (xs ++ [d]) (-1) = some d := by
  unfold atI ixN
  simp only [List.length_append, List.length_cons, List.length_nil]
  rw [if_neg (by omega), if_pos (by omega)]
  show (xs ++ [d])[_]? = _
  rw [show (-1 + ((xs.length + 1 : Nat) : Int)).toNat = xs.length by omega]
  simp
end
end Fv
namespace KJ
open PySem PySem.Spec PyProof.Rows L2 L2H Fv Evl StX
abbrev s_steps_to : Stmt := topS 35
theorem sc_steps_to : FnScope ["near", "entry", "tree", "steps", "other", "parent"] ["near", "entry"] (defScope s_steps_to) := ⟨rfl, rfl, rfl, by decide +kernel, rfl, by decide +kernel, by decide +kernel⟩
abbrev s_first_onward : Stmt := topS 36
theorem sc_first_onward : FnScope ["near", "steps_left", "entry", "other"] ["near", "steps_left", "entry"] (defScope s_first_onward) := ⟨rfl, rfl, rfl, by decide +kernel, rfl, by decide +kernel, by decide +kernel⟩
theorem rows_idx {ts : List TE3} (nd : (rowsT ts).Nodup) {i j : Nat} {a b : TE3} (hi : ts[i]? = some a) (hj : ts[j]? = some b) (e : a.1 = b.1) : i = j := by
  have h1 : (rowsT ts)[i]? = some a.1 := by
    show (ts.map _)[i]? = _
    rw [List.getElem?_map, hi]; rfl
  have h2 : (rowsT ts)[j]? = some a.1 := by
    show (ts.map _)[j]? = _
    rw [List.getElem?_map, hj, e]; rfl
  exact (List.getElem?_inj (List.getElem?_eq_some_iff.mp h1).1 nd).mp (h1.trans h2.symm)
/-- how far each input of a tree is -/
def stepsP (ts : List TE3) : List (List Int × PyData) := ts.map fun e => (e.1, PyData.int (e.2.2 : Nat))
theorem stepsP_fst (ts : List TE3) : (stepsP ts).map (·.1) = rowsT ts := by unfold stepsP; rw [List.map_map]; rfl
section
variable {P : Program} {w : World} {K : PySem.W.Frag} {mg : Str → Option Value} {base : Heap} {CB CL tM : Addr}
theorem TreeI.steps_mem {adj : List Int → List (List Int)} {root : List Int} {ts : List TE3} {lo lv : Nat} (h : TreeI adj root ts lo lv) {o : List Int} (ho : o ∈ rowsT ts) : (o, PyData.int (depT ts o : Nat)) ∈ stepsP ts := by
  obtain ⟨e, he, rfl⟩ := List.mem_map.mp ho
  exact List.mem_map.mpr ⟨e, he, by rw [h.dep he]⟩
def spSteps (P : Program) (w : World) (K : PySem.W.Frag) : Sp := fun vs H Q _ => ∃ (D : Addr) (v : V) (n : Nat) (R : List (List Int)) (adj : List Int → List (List Int)) (root : List Int) (F : Hp), vs = [.ref D, v] ∧ NearD K F D n R adj ∧ root ∈ R ∧ Ex F H ∧ Rp K F v (dT root) ∧
  ∀ ts lv l o F2 H2, Step none F H F2 H2 → TreeI adj root ts ts.length lv → (∀ o ∈ rowsT ts, o ∈ R) → F2 l = some o → RowD P w K F2 l o (stepsP ts) → Q (.ref l) H2
theorem ok_steps {f fT : Addr} {fd fdT : FuncData} (Fn : Fun K "_steps_to" "_steps_to" s_steps_to f fd) (T : Tx mg)
    (F_tree_from : Fun K "tree_from" "tree_from" s_tree_from fT fdT) (b_tree_from : Binds K fdT ["near", "entry"] []) (g_tree_from : mg "tree_from" = some (.ref fT)) : FnOk P w K mg base CX0 2 f fd ["near", "entry"] (spSteps P w K) := by
  have G_tree_from : FnOk P w K mg base CX0 1 fT fdT ["near", "entry"] (spTree K) := ok_tree F_tree_from T
  refine Fn.ok sc_steps_to (fun vs H Q E ⟨_, _, _, _, _, _, _, h, _⟩ => by rw [h]; rfl) (fun cdv A outer s H vs Q E hr h => ?_)
  obtain ⟨Dn, v, n, R, adj, root, F, rfl, nr, hroot, e, hv, q⟩ := h
  refine ⟨_, (pss_cons (ps_set (i := 2) sc_steps_to.nd rfl (by first | exact Or.inl rfl | exact Or.inr rfl) (pe_call G_tree_from (hr.mono (by decide)) (by rfl) g_tree_from F_tree_from.kp b_tree_from .nil pass0 (pa_cons (pv 0) (pa_cons (pv 1) pa_nil))))
    (pss_cons (ps_set (i := 3) sc_steps_to.nd rfl (by first | exact Or.inl rfl | exact Or.inr rfl) (pe_dpairN (P := P) (w := w) (K := K) (hu65 hr) (pv 1) pe_int))
    (pss_cons (ps_for PassesOwn.never rfl (i_tup (K := K) (pe_slice (s_tup (K := K)) (pv 2) (po_some pe_int) po_none)) (pg_tup rfl (pgs_cons (pg_name (i := 4) sc_steps_to.nd rfl (by first | exact Or.inl rfl | exact Or.inr rfl)) (pgs_cons (pg_name (i := 5) sc_steps_to.nd rfl (by first | exact Or.inl rfl | exact Or.inr rfl)) pgs_nil))) (pss_one (ps_asg (pe_op op_add (pe_dgetN (P := P) (w := w) (K := K) (hu65 hr) (pv 3) (pe_ix (o_ixT (K := K)) (pe_ix (o_ixT (K := K)) (pv 2) (pv 5) (fun _ _ => rfl)) pe_int (fun _ _ => rfl)) (fun _ _ => rfl)) pe_int) (pg_sub (pv 3) (pv 4) (set_N (P := P) (w := w) (K := K) (hu65 hr))))))
    (pss_one (ps_ret (pv 3)))))), ?_⟩
  have g0 : Good none F H := .nil
  refine ⟨_, rfl, _, rfl, Dn, v, n, R, adj, root, F, rfl, nr, hroot, e, hv, fun ts lvl tv F1 H1 s1 tI tR htv => ?_⟩
  have w1 : Own none F H F1 H1 [] := Own.nil s1
  have e1 := s1.sub
  have pos : 0 < ts.length := (List.getElem?_eq_some_iff.mp tI.hd).1
  have tlen : ts.length ≤ 300 := by
    have := nd_le tI.nd tR
    rw [List.length_map] at this
    have := nr.few
    omega
  refine t_dpairRow (P := P) (w := w) (K := K) (r := root) (z := .int 0) g0 w1 (g_var rfl (Rp.mono e1 _ _ hv)) (fun F' e' => g_int) fun Sa oS F2 H2 w2 d2 e2 => ?_
  have htv2 := Rp.mono e2 _ _ htv
  refine t_forOg (K := K) (RS := (· = (ts.map encT).drop 1)) g0 w2 (w_tupI (g_slA (i := 1) (g_var rfl htv2) g_int)) (fun ds i σ' F' L' => (∃ a b, σ' = [some (.ref Dn), some v, some tv, some (.ref Sa), a, b]) ∧ ∃ oS, L' = [(Sa, oS)] ∧ RowD P w K F' Sa oS (stepsP (ts.take (i + 1)))) (fun ds hds F3 e3 => ⟨⟨_, _, rfl⟩, oS, rfl, ?_⟩) (fun ds hds i d hd σ' F' H' L' x hI w3 e3 hx N hN => ?_) (fun ds hds σ' F' H' L' hI w3 e3 => ?_)
  · have e1 : ts.take (0 + 1) = [(root, none, 0)] := by
      cases ts with
      | nil => simp at pos
      | cons e ts =>
        have := tI.hd
        simp only [List.getElem?_cons_zero, Option.some.injEq] at this
        rw [this]; rfl
    rw [e1]
    exact d2.mono e3
  · subst hds
    obtain ⟨⟨a, b, rfl⟩, oS3, rfl, d3⟩ := hI
    rw [List.getElem?_drop, Nat.add_comm] at hd
    obtain ⟨c, hc, rfl⟩ := get_map hd
    obtain ⟨jp, fe, h1, h2, h3, h4, h5, h6⟩ := tI.par (i + 1) c (by omega) hc
    obtain ⟨x1, x2, hx1, hx2, hg⟩ := g_twoN (j1 := 4) (j2 := 5) (K := K) hx
    refine hg _ _ _ w3.step.inn ?_
    rw [h1] at hx2
    obtain rfl := rp_int hx2
    have ex0 := Own.seeEx g0 w3
    have seeS : putAll [(Sa, oS3)] F' Sa = some oS3 := Own.see (k := 0) w3 rfl
    have hnd : ((stepsP (ts.take (i + 1))).map (·.1)).Nodup := by
      rw [stepsP_fst]
      exact tI.nd.sublist ((List.take_sublist _ _).map _)
    have hin : (fe.1, PyData.int (fe.2.2 : Nat)) ∈ stepsP (ts.take (i + 1)) := List.mem_map.mpr ⟨fe, List.mem_of_getElem? (i := jp) (by rw [List.getElem?_take_of_lt h2]; exact h3), rfl⟩
    have hnew : c.1 ∉ (stepsP (ts.take (i + 1))).map (·.1) := by
      rw [stepsP_fst]
      intro z
      obtain ⟨g, hg1, hg2⟩ := List.mem_map.mp z
      obtain ⟨k, hk, ek⟩ := List.mem_iff_getElem.mp hg1
      rw [List.length_take] at hk
      rw [List.getElem_take] at ek
      have := rows_idx tI.nd (List.getElem?_eq_some_iff.mpr ⟨by omega, ek⟩) hc hg2
      omega
    have htv3 := Rp.mono (e3.trans ex0) _ _ htv2
    refine t_putRow (P := P) (w := w) (K := K) (R := Is (.int (c.2.2 : Nat))) (r := c.1) 0 g0 w3 rfl d3 rfl (by unfold stepsP; rw [List.length_map, List.length_take]; omega) hnew (EvG.is (g_opI (g_getRow (P := P) (w := w) (K := K) (i := 3) (g_opI (g_opI (g_var (i := 2) rfl htv3) (g_var (v := .int (jp : Nat)) (i := 5) rfl (.int _)) (rv_ixT (d := encT fe) (atI_nat (by rw [List.getElem?_map, h3]; rfl)))) g_int (rv_ixT (d := dT fe.1) rfl)) rfl (d3.mono ex0) seeS hnd hin) g_int rv_add) (by rw [h4]; rfl)) (fun d h => by rw [show d = _ from h]; rfl) (fun F5 e5 => g_var rfl (Rp.mono e5 _ _ hx1)) fun z o2 F5 H5 hz w5 d5 e5 => ?_
    refine hN _ F5 H5 _ ⟨⟨_, _, rfl⟩, o2, rfl, ?_⟩ w5 e5
    have ez : stepsP (ts.take (i + 1 + 1)) = stepsP (ts.take (i + 1)) ++ [(c.1, z)] := by
      rw [take_succA hc]
      unfold stepsP
      rw [List.map_append, show z = _ from hz]; rfl
    rw [ez]; exact d5
  · subst hds
    obtain ⟨⟨a, b, rfl⟩, oS3, rfl, d3⟩ := hI
    obtain ⟨F5, s5, e5, dn⟩ := w3.done g0
    have el : ts.take (((ts.map encT).drop 1).length + 1) = ts := by
      rw [List.length_drop, List.length_map, Nat.sub_add_cancel pos, List.take_length]
    rw [el] at d3
    exact ⟨_, rfl, q ts lvl Sa oS3 F5 H' s5 tI tR (dn (Sa, oS3) (by simp)) (d3.mono e5)⟩
/-- the first beside it that is a step nearer -/
def onwT (adj : List Int → List (List Int)) (ts : List TE3) (r : List Int) : Option (List Int) := (adj r).find? fun o => decide (depT ts o < depT ts r)
def rowO : Option (List Int) → PyData
  | none => .none
  | some r => dT r
def spOnw (P : Program) (w : World) (K : PySem.W.Frag) : Sp := fun vs H Q _ => ∃ (D l : Addr) (o : HO) (v : V) (n : Nat) (R : List (List Int)) (adj : List Int → List (List Int)) (root r : List Int) (ts : List TE3) (lv : Nat) (F : Hp), vs = [.ref D, .ref l, v] ∧ NearD K F D n R adj ∧ TreeI adj root ts ts.length lv ∧ (∀ o ∈ rowsT ts, o ∈ R) ∧ (F l = some o ∧ RowD P w K F l o (stepsP ts)) ∧ r ∈ rowsT ts ∧ Ex F H ∧ Rp K F v (dT r) ∧
  ∀ v' F2 H2, Step none F H F2 H2 → Rp K F2 v' (rowO (onwT adj ts r)) → Q v' H2
theorem ok_onw {f : Addr} {fd : FuncData} (Fn : Fun K "_first_onward" "_first_onward" s_first_onward f fd) : FnOk P w K mg base CX0 1 f fd ["near", "steps_left", "entry"] (spOnw P w K) := by
  refine Fn.ok sc_first_onward (fun vs H Q E ⟨_, _, _, _, _, _, _, _, _, _, _, _, h, _⟩ => by rw [h]; rfl) (fun cdv A outer s H vs Q E hr h => ?_)
  obtain ⟨Dn, l, o, v, n, R, adj, root, r, ts, lvl, F, rfl, nr, tI, tR, ⟨hl, dS⟩, hr0, e, hv, q⟩ := h
  refine ⟨_, (pss_cons (ps_for PassesOwn.never rfl (i_list (K := K) (pe_dget (hu_of hr) (pv 0) (pv 2) (fun _ _ => rfl))) (pg_name (i := 3) sc_first_onward.nd rfl (by first | exact Or.inl rfl | exact Or.inr rfl)) (pss_one (ps_if (pt_cmpR op_lt (pe_dgetN (P := P) (w := w) (K := K) (hu65 hr) (pv 1) (pv 3) (fun _ _ => rfl)) (pe_dgetN (P := P) (w := w) (K := K) (hu65 hr) (pv 1) (pv 2) (fun _ _ => rfl)) (nomark _)) (pss_one (ps_ret (pv 3))) pss_nil)))
    (pss_one (ps_ret pe_non))), ?_⟩
  obtain ⟨⟨kvs, hN1, hN2⟩, _, _, _, _, _⟩ := id nr
  obtain ⟨y, hy1, hy2⟩ := dv_get hN2 (tR r hr0)
  have hnd : ((stepsP ts).map (·.1)).Nodup := by rw [stepsP_fst]; exact tI.nd
  refine t_for (K := K) (ds := (adj r).map dT) (.refl e .nil) (w_listI (g_dgetR (r := r) rfl (g_var rfl hv) hN1 hy1 hy2)) (fun i σ' F' => (∃ a, σ' = [some (.ref Dn), some (.ref l), some v, a]) ∧ ((adj r).take i).find? (fun o => decide (depT ts o < depT ts r)) = none) (fun F2 e2 => ⟨⟨_, rfl⟩, rfl⟩) (fun i d hd σ' F' H' x hI s' e' hx N hN => ?_) (fun σ' F' H' hI s' e' => ?_)
  · obtain ⟨c, hc, rfl⟩ := get_map hd
    obtain ⟨⟨a, rfl⟩, hno⟩ := hI
    have hcA := List.mem_of_getElem? hc
    obtain ⟨hcm, hcd⟩ := tI.near hr0 hcA
    have g1 : ∀ F2, Ex F' F2 → EvG K none (tOp (rIxN P w K) (tVar 1) (tVar 3)) [some (.ref Dn), some (.ref l), some v, some x] F2 (Is (.int (depT ts c : Nat))) := fun F2 e2 => g_getRow (P := P) (w := w) (K := K) (g_var rfl (Rp.mono e2 _ _ hx)) rfl (dS.mono (e'.trans e2)) (e2 _ _ (e' _ _ hl)) hnd (TreeI.steps_mem tI hcm)
    have g2 : ∀ F2, Ex F' F2 → EvG K none (tOp (rIxN P w K) (tVar 1) (tVar 2)) [some (.ref Dn), some (.ref l), some v, some x] F2 (Is (.int (depT ts r : Nat))) := fun F2 e2 => g_getRow (P := P) (w := w) (K := K) (g_var rfl (Rp.mono (e'.trans e2) _ _ hv)) rfl (dS.mono (e'.trans e2)) (e2 _ _ (e' _ _ hl)) hnd (TreeI.steps_mem tI hr0)
    refine t_if1 (b := decide (depT ts c < depT ts r)) s' ((et_of (K := K) (g_opI (g1 F' (Ex.refl _)) (g2 F' (Ex.refl _)) rv_bl)).is (by
      by_cases z : depT ts c < depT ts r
      · rw [decide_eq_true z]; exact decide_eq_true (by omega)
      · rw [decide_eq_false z]; exact decide_eq_false (by omega))) (fun hb F2 H2 s2 e2 => ?_) (fun hb F2 H2 s2 e2 => ?_)
    · refine t_retI (K := K) s2 (g_var rfl (Rp.mono e2 _ _ hx)) fun v' F3 H3 s3 hv3 => q v' F3 H3 s3 ?_
      have : onwT adj ts r = some c := by
        unfold onwT
        obtain ⟨hi, ei⟩ := List.getElem?_eq_some_iff.mp hc
        rw [← List.take_append_drop i (adj r), List.find?_append, hno, List.drop_eq_getElem_cons hi, ei, List.find?_cons_of_pos (by simpa using hb)]
        rfl
      rw [this]; exact hv3
    · refine hN _ F2 H2 ⟨⟨_, rfl⟩, ?_⟩ s2 e2
      rw [take_succA hc, List.find?_append, hno, Option.none_or, List.find?_cons_of_neg (by simpa using hb)]
      rfl
  · obtain ⟨⟨a, rfl⟩, hno⟩ := hI
    rw [List.length_map, List.take_length] at hno
    refine t_retI (K := K) s' g_non fun v' F3 H3 s3 hv3 => q v' F3 H3 s3 ?_
    have : onwT adj ts r = none := hno
    rw [this]; exact hv3
end
end KJ
namespace KJ
open PySem PySem.Spec PyProof.Rows L2 L2H Fv Evl StX
abbrev s_Book___contains__ : Stmt := inClass (topS 39) 4
theorem sc_Book___contains__ : FnScope ["self", "thing"] ["self", "thing"] (defScope s_Book___contains__) := ⟨rfl, rfl, rfl, by decide +kernel, rfl, by decide +kernel, by decide +kernel⟩
abbrev s_least_chain : Stmt := topS 34
theorem sc_least_chain : FnScope ["book", "falls", "manner", "one", "other", "entry", "near", "steps_left", "chain"] ["book", "falls", "manner", "one", "other"] (defScope s_least_chain) := ⟨rfl, rfl, rfl, by decide +kernel, rfl, by decide +kernel, by decide +kernel⟩
/-- a row as a list or a tuple -/
def rowS (b : Bool) (r : List Int) : PyData := if b = true then .list (r.map .int) else dT r
theorem rowS_or (b : Bool) (r : List Int) : rowS b r = .list (r.map .int) ∨ rowS b r = .tuple (r.map .int) := match b with | true => .inl rfl | false => .inr rfl
/-- the way on, a step nearer each time -/
def chainT (adj : List Int → List (List Int)) (ts : List TE3) : Nat → List Int → List (List Int)
  | 0, r => [r]
  | d + 1, r => r :: chainT adj ts d ((onwT adj ts r).getD r)
section
variable {P : Program} {w : World} {K : PySem.W.Frag} {mg : Str → Option Value} {base : Heap} {CB CL tM : Addr}
variable {σ : L2.St} {F H : Hp} {te : TE}
abbrev spRowS (K : PySem.W.Frag) : Sp := PSp K (fun i : Bool × List Int => [rowS i.1 i.2]) (fun i => i.2.length ≤ 1000) (fun _ => .bool true)
theorem ok_rowS {f fS fW : Addr} {fd fdS fdW : FuncData} (Fn : Fun K "is_whole_row" "is_whole_row" s_is_whole_row f fd) (T : Tx mg)
    (F_is_sequence : Fun K "is_sequence" "is_sequence" s_is_sequence fS fdS) (b_is_sequence : Binds K fdS ["thing"] []) (g_is_sequence : mg "is_sequence" = some (.ref fS))
    (F_is_whole : FunW K fW fdW) (g_is_whole : mg "is_whole" = some (.ref fW)) : FnOk P w K mg base CX0 2 f fd ["thing"] (spRowS K) := by
  have G_is_sequence : FnOk P w K mg base CX0 1 fS fdS ["thing"] (spSeq K) := ok_seq F_is_sequence T
  have G_is_whole : FnOk P w K mg base CX0 1 fW fdW ["thing", "low", "high"] (spWhole K) := ok_whole F_is_whole T
  obtain ⟨ds1, v1_is_whole, b1_is_whole⟩ := L2.FunD.binds1 F_is_whole (ps := ["thing", "low", "high"]) 1 0 (by simp) rfl fun T kV doc pm an cdv ct us its hl hi => match us, its, hl, hi with | [_], [_, _], _, _ => ⟨_, rfl, rfl⟩
  refine Fn.ok sc_is_whole_row (PSp.len (fun _ => rfl)) (fun cdv A outer s H vs Q E hr h => ?_)
  obtain ⟨⟨b, r⟩, F, hf, e, ha, q⟩ := h
  obtain ⟨v, rfl, hv⟩ := rpAll1 ha
  refine ⟨_, (pss_one (ps_ret (pe_and (pe_call G_is_sequence (hr.mono (by decide)) (by rfl) g_is_sequence F_is_sequence.kp b_is_sequence .nil pass0 (pa_cons (pv 0) pa_nil)) (pe_one (pe_callB (c_all (K := K)) (by rfl) T.all (by decide +kernel) (pa_cons (pe_lc (own := [("item", 1)]) (g := gName 1) rfl sc_is_whole_row.nd (pi_seq (K := K) (pv 0)) (blkOk_by (own := [("item", 1)]) (N := ["thing", "item"]) (sc := (defScope s_is_whole_row)) (by decide +kernel)) (fun _ _ _ _ _ => pg_name (i := 1) sc_is_whole_row.nd rfl (by first | exact Or.inl rfl | exact Or.inr rfl)) (fun _ _ _ _ _ => pts_nil) (fun _ _ _ _ _ => (pe_call G_is_whole (hr.mono (by decide)) (by rfl) g_is_whole F_is_whole.kp b1_is_whole v1_is_whole pass0 (pa_cons (pv 1) pa_nil)))) pa_nil)))))), ?_⟩
  exact t_retI (K := K) (Step.refl e .nil) ((g_andV (a := true) (b := true) ((g_call (rowS b r) (gs_one (g_var rfl hv)) rfl trivial).is (by rcases rowS_or b r with h | h <;> rw [h] <;> rfl)) fun hb =>
    (g_cbI (gs_one ((g_lcEM PyData.int r (fun _ => .bool true) (w_seqI (rowS_or b r) (g_var rfl hv)) (Nat.le_trans hf (by decide)) (fun _ => rfl) fun x hx F' e' y hy => g_whole1 (g_var rfl hy)))) (rc_allM r fun _ => true)).is (by simp)).is rfl) q
/-- tuple(x), x a row -/
theorem g_tupS {b : Bool} {r : List Int} {pt : Option Pt} (h : EvG K pt te σ F (Is (rowS b r))) : EvG K pt (tCB (fun xs H Q => ∃ p ys, xs = [.ref p] ∧ ((SqL K H p ys ∧ ∀ l, H l = none → Q (.ref l) (upd H l (.tup ys))) ∨ (SqT K H p ys ∧ Q (.ref p) H))) (tCons te tNil)) σ F (Is (dT r)) := by
  rcases rowS_or b r with e | e
  · rw [e] at h; exact g_cbI (gs_one h) rc_tupL
  · rw [e] at h; exact g_cbI (gs_one h) rc_tupT
def spCont (K : PySem.W.Frag) (CB : Addr) : Sp := fun vs H Q _ => ∃ (x : Addr) (n m : Nat) (R : List (List Int)) (b : Bool) (r : List Int) (F : Hp) (v : V), vs = [.ref x, v] ∧ r.length ≤ 1000 ∧ Ex F H ∧ Bk K CB F x n m R ∧ Rp K F v (rowS b r) ∧
  ∀ u F2 H2, Step none F H F2 H2 → Rp K F2 u (.bool (decide (r ∈ R))) → Q u H2
theorem fnCont {X : Cx} {k : Nat} {f : Addr} {fd : FuncData} {ps : List Str} {sp : Sp} (h : FnOk X.prog X.w X.K X.mg X.base CX0 k f fd ps sp) : FnOk X.prog X.w X.K X.mg X.base CX0 k f fd ps sp := h
theorem ok_cont {f fR fS fW : Addr} {fd fdR fdS fdW : FuncData} (Fn : Fun K "__contains__" "Book.__contains__" s_Book___contains__ f fd) (T : Tx mg) (BC : BookC K CB)
    (F_is_whole_row : Fun K "is_whole_row" "is_whole_row" s_is_whole_row fR fdR) (b_is_whole_row : Binds K fdR ["thing"] []) (g_is_whole_row : mg "is_whole_row" = some (.ref fR))
    (F_is_sequence : Fun K "is_sequence" "is_sequence" s_is_sequence fS fdS) (b_is_sequence : Binds K fdS ["thing"] []) (g_is_sequence : mg "is_sequence" = some (.ref fS))
    (F_is_whole : FunW K fW fdW) (g_is_whole : mg "is_whole" = some (.ref fW)) : FnOk P w K mg base CX0 3 f fd ["self", "thing"] (spCont K CB) := by
  have G_is_whole_row : FnOk P w K mg base CX0 2 fR fdR ["thing"] (spRowS K) := ok_rowS F_is_whole_row T F_is_sequence b_is_sequence g_is_sequence F_is_whole g_is_whole
  refine Fn.ok sc_Book___contains__ (fun vs H Q E ⟨_, _, _, _, _, _, _, _, h, _⟩ => by rw [h]; rfl) (fun cdv A outer s H vs Q E hr h => ?_)
  obtain ⟨x, n, m, R, b, r, F, v, rfl, hr1, e, bk, hv, q⟩ := h
  obtain ⟨dx, it, d, o1, o2, o3, o4⟩ := bk.ex
  refine ⟨_, (pss_one (ps_ret (pe_and (pe_call G_is_whole_row (hr.mono (by decide)) (by rfl) g_is_whole_row F_is_whole_row.kp b_is_whole_row .nil pass0 (pa_cons (pv 1) pa_nil)) (pe_one (pe_cmp (pc_din (hu_of hr) (pe_callTy (c_tup (K := K)) (by rfl) T.tuple (by decide +kernel) (pa_cons (pv 1) pa_nil)) (e_fld (K := K) (pv 0) rfl)) rfl))))), ?_⟩
  exact t_retI (K := K) (Step.refl e .nil) ((g_andV (a := true) (b := decide (r ∈ R)) (g_call (b, r) (gs_one (g_var rfl hv)) rfl hr1) fun _ => g_din (m := r) (ls := R) (g_tupS (g_var rfl hv)) fun F' e' => x_fld rfl (e' _ _ o1) BC.cl BC.nH rfl fun F'' e'' => ⟨d, rfl, e'' _ _ (e' _ _ o4)⟩).is rfl) q
/-- e not in the book -/
theorem et_notIn {i : Nat} {x : Addr} {n m : Nat} {R : List (List Int)} {b : Bool} {r : List Int} {E : XK} (h0 : σ[i]? = some (some (.ref x))) (bk : Bk K CB F x n m R) (hr : r.length ≤ 1000) (h : EvG K none te σ F (Is (rowS b r))) :
    EtG none (tTest (tOp (rInI CB (spCont K CB) E true) te (tVar i))) σ F (· = !decide (r ∈ R)) := fun H1 e g Q q => h H1 e g _ fun d v F2 H2 hd s hv => by
  subst hd
  have bk2 := bk.mono s.sub
  obtain ⟨dx, it, D, o1, _⟩ := id bk2.ex
  refine ⟨_, h0, x, dx, _, rfl, s.inn _ _ o1, x, n, m, R, b, r, F2, v, rfl, hr, s.inn, bk2, hv, fun u F3 H3 s3 hu => ?_⟩
  obtain rfl := rp_bool hu
  exact ⟨_, rfl, _, rfl, q _ F3 H3 (by simp) (s.trans s3)⟩
end
end KJ
namespace KJ
open PySem PySem.Spec PyProof.Rows L2 L2H Fv Evl StX
def adjC (C : List (List (List Int))) (R : List (List Int)) (r : List Int) : List (List Int) := R.filter (nearB C r)
theorem adjC_sym {C : List (List (List Int))} {R : List (List Int)} {a b : List Int} (ha : a ∈ R) (h : b ∈ adjC C R a) : a ∈ adjC C R b := by
  obtain ⟨hb, h2⟩ := List.mem_filter.mp h
  obtain ⟨⟨c, hc, h3, h4⟩, h5⟩ := nearB_iff.mp h2
  exact List.mem_filter.mpr ⟨ha, nearB_iff.mpr ⟨⟨c, hc, h4, h3⟩, fun e => h5 e.symm⟩⟩
theorem onw_some {adj : List Int → List (List Int)} {root r : List Int} {ts : List TE3} {lv : Nat} {R : List (List Int)} (tI : TreeI adj root ts ts.length lv) (tR : ∀ o ∈ rowsT ts, o ∈ R) (sym : ∀ a ∈ R, ∀ b ∈ adj a, a ∈ adj b) (hr : r ∈ rowsT ts) (hd : 0 < depT ts r) :
    ∃ r2, onwT adj ts r = some r2 ∧ r2 ∈ rowsT ts ∧ r2 ∈ adj r ∧ depT ts r = depT ts r2 + 1 := by
  have hne : r ≠ root := fun e => by rw [e, tI.dep0.2] at hd; omega
  obtain ⟨p, hp, h1, h2⟩ := tI.down hr hne
  have hpa : p ∈ adj r := sym p (tR p hp) r h1
  cases h : onwT adj ts r with
  | none =>
    have := List.find?_eq_none.mp h p hpa
    simp at this
    omega
  | some r2 =>
    have h3 := List.mem_of_find?_eq_some h
    have h4 := List.find?_some h
    simp only [decide_eq_true_eq] at h4
    obtain ⟨h5, _⟩ := tI.near hr h3
    have h6 := sym r (tR r hr) r2 h3
    obtain ⟨_, h7⟩ := tI.near h5 h6
    exact ⟨r2, rfl, h5, h3, by omega⟩
theorem nl_dT (r : List Int) : nl (dT r) = true := by
  show nlL _ = true
  induction r with
  | nil => rfl
  | cons i r ih => exact ih
/-- the levels are fewer than the rows -/
theorem TreeI.dep_lt {adj : List Int → List (List Int)} {root r : List Int} {ts : List TE3} {lo lv : Nat} (tI : TreeI adj root ts lo lv) (hr : r ∈ rowsT ts) : depT ts r < ts.length := by
  have key : ∀ (i : Nat) (e : TE3), ts[i]? = some e → e.2.2 ≤ i := by
    intro i
    induction i using Nat.strongRecOn with
    | _ i ih =>
      intro e he
      by_cases z : i = 0
      · subst z
        rw [tI.hd] at he
        cases he
        exact Nat.le_refl _
      · obtain ⟨j, f, h1, h2, h3, h4, _⟩ := tI.par i e (by omega) he
        have := ih j h2 f h3
        omega
  obtain ⟨e, he, rfl⟩ := List.mem_map.mp hr
  obtain ⟨i, hi, hie⟩ := List.mem_iff_getElem.mp he
  have := key i e (by rw [List.getElem?_eq_getElem hi, hie])
  rw [tI.dep he]; omega
def chainD (adj : List Int → List (List Int)) (ts : List TE3) (one : List Int) : PyData := if one ∈ rowsT ts then dTT (chainT adj ts (depT ts one) one) else .none
section
variable {P : Program} {w : World} {K : PySem.W.Frag} {mg : Str → Option Value} {base : Heap} {CB CL tM : Addr}
def spChain (K : PySem.W.Frag) (CB CL : Addr) : Sp := fun vs H Q _ => ∃ (x z : Addr) (n m : Nat) (mn : Str) (R ls : List (List Int)) (b1 b2 : Bool) (one other : List Int) (F : Hp) (v1 v2 : V), vs = [.ref x, .ref z, .str mn, v1, v2] ∧ ((1 ≤ n ∧ n ≤ 5) ∧ mn ∈ mans ∧ R.length ≤ 300 ∧ (∀ r ∈ R, r.length = n ∧ TS.Bd 4 r) ∧ Asc R) ∧ (one ∈ R ∧ other ∈ R) ∧ Ex F H ∧ Bk K CB F x n m R ∧ Fam K CL F z n ls ∧ Rp K F v1 (rowS b1 one) ∧ Rp K F v2 (rowS b2 other) ∧
  ∀ ts lv v' F2 H2, Step none F H F2 H2 → TreeI (adjC (circs (splitOf mn n ls) R (circlesOf n (famLots n ls) R)) R) other ts ts.length lv → (∀ o ∈ rowsT ts, o ∈ R) → Rp K F2 v' (chainD (adjC (circs (splitOf mn n ls) R (circlesOf n (famLots n ls) R)) R) ts one) → Q v' H2
theorem ok_chain {f fA fM fN fT fO fC : Addr} {fd fdA fdM fdN fdT fdO fdC : FuncData} (Fn : Fun K "least_chain" "least_chain" s_least_chain f fd) (T : Tx mg) (BC : BookC K CB)
    (c_contains : PySem.W.findIn K (.ref CB) "__contains__" = some (some (.ref fC))) (i_contains : PySem.W.isFn K (.ref fC) = true) (b_contains : Binds K fdC ["self", "thing"] []) (G_contains : FnOk P w K mg base CX0 3 fC fdC ["self", "thing"] (spCont K CB))
    (F_check_meeting : Fun K "check_meeting" "check_meeting" s_check_meeting fA fdA) (b_check_meeting : Binds K fdA ["book", "falls"] []) (g_check_meeting : mg "check_meeting" = some (.ref fA)) (G_check_meeting : FnOk P w K mg base CX0 1 fA fdA ["book", "falls"] (spMeet K CB CL))
    (F_check_manner : Fun K "check_manner" "check_manner" s_check_manner fM fdM) (b_check_manner : Binds K fdM ["manner"] []) (g_check_manner : mg "check_manner" = some (.ref fM)) (G_check_manner : FnOk P w K mg base CX0 1 fM fdM ["manner"] (spMan K))
    (F_near_inputs : Fun K "near_inputs" "near_inputs" s_near_inputs fN fdN) (b_near_inputs : Binds K fdN ["book", "falls", "manner"] []) (g_near_inputs : mg "near_inputs" = some (.ref fN)) (G_near_inputs : FnOk P w K mg base CX0 6 fN fdN ["book", "falls", "manner"] (spNear K CB CL))
    (F_steps_to : Fun K "_steps_to" "_steps_to" s_steps_to fT fdT) (b_steps_to : Binds K fdT ["near", "entry"] []) (g_steps_to : mg "_steps_to" = some (.ref fT)) (G_steps_to : FnOk P w K mg base CX0 2 fT fdT ["near", "entry"] (spSteps P w K))
    (F_first_onward : Fun K "_first_onward" "_first_onward" s_first_onward fO fdO) (b_first_onward : Binds K fdO ["near", "steps_left", "entry"] []) (g_first_onward : mg "_first_onward" = some (.ref fO)) :
    FnOk P w K mg base CX0 7 f fd ["book", "falls", "manner", "one", "other"] (spChain K CB CL) := by
  have G_first_onward : FnOk P w K mg base CX0 1 fO fdO ["near", "steps_left", "entry"] (spOnw P w K) := ok_onw F_first_onward
  refine Fn.ok sc_least_chain (fun vs H Q E ⟨_, _, _, _, _, _, _, _, _, _, _, _, _, _, h, _⟩ => by rw [h]; rfl) (fun cdv A outer s H vs Q E hr h => ?_)
  obtain ⟨x, z, n, m, mn, R, ls, b1, b2, one, other, F, v1, v2, rfl, ⟨⟨n1, n5⟩, hm, hR, hrow, hasc⟩, ⟨hone, hother⟩, e, bk, fam, hv1, hv2, q⟩ := h
  refine ⟨_, (pss_cons (ps_expr (pe_call G_check_meeting (hr.mono (by decide)) (by rfl) g_check_meeting F_check_meeting.kp b_check_meeting .nil pass0 (pa_cons (pv 0) (pa_cons (pv 1) pa_nil))))
    (pss_cons (ps_expr (pe_call G_check_manner (hr.mono (by decide)) (by rfl) g_check_manner F_check_manner.kp b_check_manner .nil pass0 (pa_cons (pv 2) pa_nil)))
    (pss_cons (ps_for PassesOwn.never rfl (i_tup (K := K) (pe_tup (pa_cons (pv 3) (pa_cons (pv 4) pa_nil)))) (pg_name (i := 5) sc_least_chain.nd rfl (by first | exact Or.inl rfl | exact Or.inr rfl)) (pss_one (ps_if (pt_cmpR (op_notInI (KJ.fnCont G_contains) (hr.mono (by decide)) b_contains pass0 c_contains i_contains) (pv 5) (pv 0) (by rfl)) (pss_one ps_never) pss_nil)))
    (pss_cons (ps_set (i := 6) sc_least_chain.nd rfl (by first | exact Or.inl rfl | exact Or.inr rfl) (pe_call G_near_inputs (hr.mono (by decide)) (by rfl) g_near_inputs F_near_inputs.kp b_near_inputs .nil pass0 (pa_cons (pv 0) (pa_cons (pv 1) (pa_cons (pv 2) pa_nil)))))
    (pss_cons (ps_set (i := 7) sc_least_chain.nd rfl (by first | exact Or.inl rfl | exact Or.inr rfl) (pe_call G_steps_to (hr.mono (by decide)) (by rfl) g_steps_to F_steps_to.kp b_steps_to .nil pass0 (pa_cons (pv 6) (pa_cons (pe_callTy (c_tup (K := K)) (by rfl) T.tuple (by decide +kernel) (pa_cons (pv 4) pa_nil)) pa_nil))))
    (pss_cons (ps_if (pt_cmpR (o_ninN (P := P) (w := w) (K := K) (hu65 hr)) (pe_callTy (c_tup (K := K)) (by rfl) T.tuple (by decide +kernel) (pa_cons (pv 3) pa_nil)) (pv 7) (by rfl)) (pss_one (ps_ret pe_non)) pss_nil)
    (pss_cons (ps_set (i := 8) sc_least_chain.nd rfl (by first | exact Or.inl rfl | exact Or.inr rfl) (pe_lst (pa_cons (pe_callTy (c_tup (K := K)) (by rfl) T.tuple (by decide +kernel) (pa_cons (pv 3) pa_nil)) pa_nil)))
    (pss_cons (ps_while PassesOwn.never (pt_cmpR op_gt (pe_dgetN (P := P) (w := w) (K := K) (hu65 hr) (pv 7) (pe_ix (o_ixL (K := K)) (pv 8) (pe_un un_neg pe_int) (fun _ _ => rfl)) (fun _ _ => rfl)) pe_int (nomark _)) (pss_one (ps_expr (pe_bm PySem.F.plainAttrs_list PySem.F.slot_list_append PySem.F.type_list_append mt_append (pv 8) (pa_cons (pe_call G_first_onward (hr.mono (by decide)) (by rfl) g_first_onward F_first_onward.kp b_first_onward .nil pass0 (pa_cons (pv 6) (pa_cons (pv 7) (pa_cons (pe_ix (o_ixL (K := K)) (pv 8) (pe_un un_neg pe_int) (fun _ _ => rfl)) pa_nil)))) pa_nil)))))
    (pss_one (ps_ret (pe_callTy (c_tup (K := K)) (by rfl) T.tuple (by decide +kernel) (pa_cons (pv 8) pa_nil)))))))))))), ?_⟩
  have g0 : Good none F H := .nil
  let C := circs (splitOf mn n ls) R (circlesOf n (famLots n ls) R)
  have hmem : ∀ r ∈ R, r.length ≤ 1000 := fun r hr => by have := (hrow r hr).1; omega
  refine ⟨_, rfl, _, rfl, x, z, n, m, R, ls, F, rfl, e, bk, fam, fun F1 H1 s1 => ?_⟩
  have e1 := s1.sub
  dsimp only
  refine g_call (K := K) (F := F1) (pt := none) mn (gs_one (g_var (v := .str mn) (σ := [some (.ref x), some (.ref z), some (.str mn), some v1, some v2, none, none, none, none]) (i := 2) rfl (.str _))) rfl hm H1 s1.inn .nil _ fun d u F2 H2 hd s2 hu => ?_
  have s12 := s1.trans s2
  have e2 := s12.sub
  dsimp only
  refine t_for (K := K) (ds := [rowS b1 one, rowS b2 other]) s12 (w_tupI (g_tupI (gs_two (g_var (i := 3) rfl (Rp.mono e2 _ _ hv1)) (g_var (i := 4) rfl (Rp.mono e2 _ _ hv2))) (by show 2 ≤ 100000; omega))) (fun i σ' F' => ∃ a, σ' = [some (.ref x), some (.ref z), some (.str mn), some v1, some v2, a, none, none, none]) (fun F3 e3 => ⟨_, rfl⟩) (fun i d hd σ' F' H' u hI s' e' hu N hN => ?_) (fun σ' F' H' hI s' e' => ?_)
  · obtain ⟨a, rfl⟩ := hI
    obtain ⟨b, r, hr2, rfl⟩ : ∃ b r, r ∈ R ∧ d = rowS b r := by
      match i, hd with
      | 0, hd => exact ⟨b1, one, hone, (Option.some.inj hd).symm⟩
      | 1, hd => exact ⟨b2, other, hother, (Option.some.inj hd).symm⟩
    exact t_if1 (b := false) s' ((et_notIn (CB := CB) (n := n) (m := m) (R := R) (b := b) (r := r) rfl (bk.mono (e2.trans e')) (hmem r hr2) (g_var rfl hu)).is (by simp [hr2])) (fun z => by cases z) fun _ F3 H3 s3 e3 => hN _ F3 H3 ⟨_, rfl⟩ s3 e3
  obtain ⟨a, rfl⟩ := hI
  have e3 := s'.sub
  refine ⟨_, rfl, _, rfl, _, rfl, x, z, n, m, mn, R, ls, F', rfl, ⟨⟨n1, n5⟩, hm, hR, hrow, hasc⟩, s'.inn, bk.mono e3, fam.mono e3, fun Dn kvs F4 H4 s4 hDn dv => ?_⟩
  have s04 := s'.trans s4
  have e4 := s04.sub
  have nr : NearD K F4 Dn n R (adjC C R) := ⟨⟨kvs, hDn, dv⟩, hrow, fun r hr o ho => (List.mem_filter.mp ho).1, fun r hr => Nat.le_trans (List.length_filter_le _ _) hR, hR, n1⟩
  have hv1' := Rp.mono e4 _ _ hv1
  have hv2' := Rp.mono e4 _ _ hv2
  have sym : ∀ a ∈ R, ∀ b ∈ adjC C R a, a ∈ adjC C R b := fun a ha b hb => adjC_sym ha hb
  -- how far the others are
  refine ⟨_, rfl, ?_⟩
  refine (g_tupS (K := K) (b := b2) (r := other) (σ := [some (.ref x), some (.ref z), some (.str mn), some v1, some v2, a, some (.ref Dn), none, none]) (g_var (i := 4) rfl hv2')) H4 s4.inn .nil _ fun d5 u5 F5 H5 hd5 s5 hu5 => ?_
  rw [show d5 = _ from hd5] at hu5
  refine ⟨Dn, u5, n, R, adjC C R, other, F5, rfl, nr.mono s5.sub, hother, s5.inn, hu5, fun ts lvl l o F6 H6 s6 tI tR hl dS => ?_⟩
  have s06 := (s04.trans s5).trans s6
  have e6 := s06.sub
  have e46 : Ex F4 F6 := s5.sub.trans s6.sub
  have nr6 := nr.mono e46
  have hnd : ((stepsP ts).map (·.1)).Nodup := by rw [stepsP_fst]; exact tI.nd
  dsimp only
  have hv16 := Rp.mono e46 _ _ hv1'
  refine t_when (b := !decide (one ∈ rowsT ts)) s06 ((et_of (K := K) (g_inRow (P := P) (w := w) (K := K) (σ := [some (.ref x), some (.ref z), some (.str mn), some v1, some v2, a, some (.ref Dn), some (.ref l), none]) (i := 7) (neg := true) (r := one) (g_tupS (g_var (i := 3) rfl hv16)) rfl dS hl hnd)).is (by rw [stepsP_fst]; rfl)) (fun hb F7 H7 s7 e7 => ?_) fun hb F7 H7 s7 e7 => ?_
  · refine t_retI (K := K) s7 g_non fun v' F8 H8 s8 hv8 => q ts lvl v' F8 H8 s8 tI tR ?_
    have hno : ¬ one ∈ rowsT ts := by simpa using hb
    unfold chainD
    rw [if_neg hno]; exact hv8
  have hin : one ∈ rowsT ts := by simpa using hb
  refine t_newLsO (K := K) (ds := [dT one]) g0 (Own.nil s7) (gs_one (g_tupS (g_var (i := 3) rfl (Rp.mono e7 _ _ hv16)))) (by show 1 ≤ 100000; omega) fun Ca oC F8 H8 w8 l8 e8 => ?_
  have e68 : Ex F6 F8 := e7.trans e8
  have dlim : ∀ r ∈ rowsT ts, depT ts r ≤ 300 := fun r hr => by
    have := nd_le tI.nd tR
    have hb := TreeI.dep_lt tI hr
    rw [List.length_map] at this
    omega
  have glast : ∀ (pre : List (List Int)) (r : List Int) (oC : HO) (F' : Hp) (H' : Hp) (w' : Own none F H F' H' [(Ca, oC)]), LstO K F' oC ((pre ++ [r]).map dT) → EvG K none (tOp (rIxL K) (tVar 8) (tUn (rU fun i => .int (-i)) (tC (.int 1)))) [some (.ref x), some (.ref z), some (.str mn), some v1, some v2, a, some (.ref Dn), some (.ref l), some (.ref Ca)] (putAll [(Ca, oC)] F') (Is (dT r)) := fun pre r oC F' H' w' lo => by
    have ex0 := Own.seeEx g0 w'
    have see : putAll [(Ca, oC)] F' Ca = some oC := Own.see (k := 0) w' rfl
    have hrp := (lo.mono ex0).rp see
    rw [List.map_append] at hrp
    exact g_opI (g_var rfl hrp) (g_negI g_int) (rv_ixL atI_last)
  refine t_whileM (fun y : List (List Int) × List Int => depT ts y.2) (fun y => decide (0 < depT ts y.2)) (fun y σ' H' => σ' = [some (.ref x), some (.ref z), some (.str mn), some v1, some v2, a, some (.ref Dn), some (.ref l), some (.ref Ca)] ∧ ∃ (F' : Hp) (oC : HO), Own none F H F' H' [(Ca, oC)] ∧ Ex F6 F' ∧ LstO K F' oC ((y.1 ++ [y.2]).map dT) ∧ y.2 ∈ rowsT ts ∧ y.1 ++ chainT (adjC C R) ts (depT ts y.2) y.2 = chainT (adjC C R) ts (depT ts one) one ∧ y.1.length + depT ts y.2 ≤ 300) ([], one) ⟨rfl, F8, oC, w8, e68, l8, hin, rfl, by have := dlim one hin; show 0 + depT ts one ≤ 300; omega⟩ (fun y σ' H' hI Q hQ => ?_) (fun y σ' H' hb hI N hN => ?_) (fun y σ' H' hb hI => ?_)
  · obtain ⟨pre, r⟩ := y
    obtain ⟨rfl, F', oC', w', e', lo, hr, hch, hlen⟩ := hI
    dsimp only at *
    have ex0 := Own.seeEx g0 w'
    obtain ⟨x1, x2, gd, back⟩ := w'.fixS g0 w'.nd (fun _ h => h)
    refine (et_of (K := K) (g_opI (g_getRow (P := P) (w := w) (K := K) (i := 7) (glast pre r oC' F' H' w' lo) rfl (dS.mono (e'.trans ex0)) (ex0 _ _ (e' _ _ hl)) hnd (TreeI.steps_mem tI hr)) g_int rv_bl)) H' x2 gd Q fun c F9 H9 hc s9 => ?_
    obtain ⟨w9, e9, _, _⟩ := back F9 H9 s9
    have ec : c = decide (0 < depT ts r) := by
      rw [show c = _ from hc]
      by_cases zz : 0 < depT ts r
      · rw [decide_eq_true zz]; exact decide_eq_true (by omega)
      · rw [decide_eq_false zz]; exact decide_eq_false (by omega)
    rw [ec]
    exact hQ H9 ⟨rfl, _, oC', w9, e'.trans e9, lo.mono e9, hr, hch, hlen⟩
  · obtain ⟨pre, r⟩ := y
    obtain ⟨rfl, F', oC', w', e', lo, hr, hch, hlen⟩ := hI
    dsimp only at *
    have hd : 0 < depT ts r := of_decide_eq_true hb
    have ex0 := Own.seeEx g0 w'
    obtain ⟨r2, h1, h2, h3, h4⟩ := onw_some tI tR sym hr hd
    refine t_appV1 (K := K) (R := Is (rowO (onwT (adjC C R) ts r))) 0 g0 w' rfl lo rfl (fun H9 i9 g9 Q9 q9 => ⟨_, rfl, _, rfl, glast pre r oC' F' H' w' lo H9 i9 g9 _ fun d v F10 H10 hd10 s10 hv10 => ?_⟩) (fun d hd9 => by rw [show d = _ from hd9, h1]; exact nl_dT r2) (by rw [List.length_map, List.length_append]; simp only [List.length_cons, List.length_nil]; omega) fun d o2 F9 H9 hd9 w9 l9 e9 => ?_
    · rw [show d = _ from hd10] at hv10
      have eF := (e'.trans ex0).trans s10.sub
      exact ⟨Dn, l, o, v, n, R, adjC C R, other, r, ts, lvl, F10, rfl, nr6.mono eF, tI, tR, ⟨eF _ _ hl, dS.mono eF⟩, hr, s10.inn, hv10, fun v' F11 H11 s11 hv11 => q9 _ v' F11 H11 rfl (s10.trans (s11.lift s10.good)) hv11⟩
    · refine hN (pre ++ [r], r2) _ H9 (by show depT ts r2 < depT ts r; omega) ⟨rfl, F9, o2, w9, e'.trans e9, ?_, h2, ?_, ?_⟩
      · show LstO K F9 o2 (((pre ++ [r]) ++ [r2]).map dT)
        rw [show d = _ from hd9, h1] at l9
        rw [List.map_append]; exact l9
      · show (pre ++ [r]) ++ chainT (adjC C R) ts (depT ts r2) r2 = _
        rw [← hch, h4]
        show _ = pre ++ (r :: chainT (adjC C R) ts (depT ts r2) ((onwT (adjC C R) ts r).getD r))
        rw [h1, List.append_assoc]; rfl
      · show (pre ++ [r]).length + depT ts r2 ≤ 300
        rw [List.length_append]
        simp only [List.length_cons, List.length_nil]
        omega
  · obtain ⟨pre, r⟩ := y
    obtain ⟨rfl, F', oC', w', e', lo, hr, hch, hlen⟩ := hI
    dsimp only at *
    have hd : depT ts r = 0 := by
      have := of_decide_eq_false hb
      omega
    obtain ⟨F9, s9, e9, dn⟩ := w'.done g0
    have hC9 : F9 Ca = some oC' := dn (Ca, oC') (by simp)
    refine t_retI (K := K) s9 (g_cbI (gs_one (g_var rfl ((lo.mono e9).rp hC9))) rc_tupL) fun v' F10 H10 s10 hv10 => q ts lvl v' F10 H10 s10 tI tR ?_
    unfold chainD
    rw [if_pos hin]
    rw [hd] at hch
    rw [← show pre ++ [r] = _ from hch]; exact hv10
end
end KJ
namespace KJ
open PySem PySem.Spec PyProof.Rows L2 Fv Evl StX
abbrev s_law_same : Stmt := topS 59
theorem sc_law_same : FnScope ["_law_told", "_law_due", "_law_k"] ["_law_told", "_law_due"] (defScope s_law_same) := ⟨rfl, rfl, rfl, by decide +kernel, rfl, by decide +kernel, by decide +kernel⟩
abbrev s_law_way : Stmt := topS 58
theorem sc_law_way : FnScope ["_law_pot_here", "_law_row"] ["_law_pot_here", "_law_row"] (defScope s_law_way) := ⟨rfl, rfl, rfl, by decide +kernel, rfl, by decide +kernel, by decide +kernel⟩
abbrev s_law_many : Stmt := topS 44
theorem sc_law_many : FnScope ["_law_pot_here"] ["_law_pot_here"] (defScope s_law_many) := ⟨rfl, rfl, rfl, by decide +kernel, rfl, by decide +kernel, by decide +kernel⟩
abbrev s_law_worths : Stmt := topS 45
theorem sc_law_worths : FnScope ["_law_pot_here", "_law_n"] ["_law_pot_here", "_law_n"] (defScope s_law_worths) := ⟨rfl, rfl, rfl, by decide +kernel, rfl, by decide +kernel, by decide +kernel⟩
def isS : PyData → Bool
  | .str _ => true
  | _ => false
theorem kit_str : ∀ d : PyData, kitB (tyD d) "str" = some (isS d)
  | .none => by decide +kernel
  | .bool _ => by show kitB "bool" "str" = some false; decide +kernel
  | .int _ => by show kitB "int" "str" = some false; decide +kernel
  | .str _ => by show kitB "str" "str" = some true; decide +kernel
  | .list _ => by show kitB "list" "str" = some false; decide +kernel
  | .tuple _ => by show kitB "tuple" "str" = some false; decide +kernel
  | .dict _ => by show kitB "dict" "str" = some false; decide +kernel
def atom : PyData → Bool
  | .none => true
  | .bool _ => true
  | .int _ => true
  | .str _ => true
  | _ => false
def capN (n : Nat) : Nat := [0, 0, 4, 4, 3, 2].getD n 0
section
variable {P : Program} {w : World} {K : PySem.W.Frag} {mg : Str → Option Value} {base : Heap}
variable {pt : Option Pt} {σ : L2.St} {F F0 H0 H : Hp} {te ta tb : TE} {ts tr : TA} {D : Ends} {tz : TS}
theorem never_ok {f : Addr} {fd : FuncData} {ps : List Str} : FnOk P w K mg base CX0 0 f fd ps (fun _ _ _ _ => False) := ⟨fun _ _ _ _ h => h.elim, fun _ _ _ _ _ _ _ _ _ _ _ _ _ h => h.elim⟩
abbrev spSame0 (K : PySem.W.Frag) : Sp := PSp K (fun d : PyData => [d, d]) (fun d => atom d = true) (fun _ => .bool true)
/-- the end of _law_same, of an atom -/
theorem same_atom {d : PyData} {x y : V} {Q : VK} (s : Step none F0 H0 F H) (hd : atom d = true) (hx : Rp K F x d) (hy : Rp K F y d) {z : L2.St} (q : ∀ v F2 H2, Step none F0 H0 F2 H2 → Rp K F2 v (.bool true) → Q v H2) :
    tSeq (tIfS (tTest (tOp (fun x y H Q => y = .non ∧ Q (.bl (decide (x = .non))) H) (tVar 1) (tC .non))) (tRet (tOp (fun x y H Q => y = .non ∧ Q (.bl (decide (x = .non))) H) (tVar 0) (tC .non))) tNext)
      (tSeq (tIfS (tB (tCB (rIsi K) (tCons (tVar 1) (tCons (tC (.ty "bool")) tNil)))) (tRet (tIf (tB (tVar 1)) (tOp rIsB (tVar 0) (tC (.bl true))) (tOp rIsB (tVar 0) (tC (.bl false))))) tNext)
        (tSeq (tIfS (tB (tCB (rIsi K) (tCons (tVar 1) (tCons (tC (.ty "str")) tNil)))) (tRet (tAndV (tCB (rIsi K) (tCons (tVar 0) (tCons (tC (.ty "str")) tNil))) (tOp rEq (tVar 0) (tVar 1)))) tNext)
          (tRet (tAndV (tCB (rIsi K) (tCons (tVar 0) (tCons (tC (.ty "int")) tNil))) (tAndV (tNotV (tCB (rIsi K) (tCons (tVar 0) (tCons (tC (.ty "bool")) tNil)))) (tOp rEq (tVar 0) (tVar 1)))))))
      { nx := fun _ H' => Q .non H', rt := Q } (some x :: some y :: z) H := by
  refine t_when s (et_of (g_opI (g_var rfl hy) g_non rv_isN)) (fun hb F2 H2 s2 e2 => ?_) (fun hb F2 H2 s2 e2 => ?_)
  · obtain rfl : d = .none := by cases d <;> simp_all [isNone]
    exact t_retI s2 ((g_opI (g_var rfl (Rp.mono e2 _ _ hx)) g_non rv_isN).is rfl) q
  refine t_when s2 (et_B (g_isi (g_var rfl (Rp.mono e2 _ _ hy)) (kit_bool d))) (fun hb F3 H3 s3 e3 => ?_) (fun hb3 F3 H3 s3 e3 => ?_)
  · obtain ⟨b, rfl⟩ : ∃ b, d = .bool b := by cases d <;> simp_all [isB]
    refine t_retI s3 ((g_if (R := Is (.bool true)) (b := b) (et_B (g_var rfl (Rp.mono (e2.trans e3) _ _ hy))) (fun h => (g_opI (g_var rfl (Rp.mono (e2.trans e3) _ _ hx)) g_bl rv_isB).is ?_) fun h => (g_opI (g_var rfl (Rp.mono (e2.trans e3) _ _ hx)) g_bl rv_isB).is ?_)) q
    · rw [h]; rfl
    · rw [h]; rfl
  have e3' := e2.trans e3
  refine t_when s3 (et_B (g_isi (g_var rfl (Rp.mono e3' _ _ hy)) (kit_str d))) (fun hb F4 H4 s4 e4 => ?_) (fun hb4 F4 H4 s4 e4 => ?_)
  · obtain ⟨t, rfl⟩ : ∃ t, d = .str t := by cases d <;> simp_all [isS]
    exact t_retI s4 ((g_andV (b := true) (g_isi (g_var rfl (Rp.mono (e3'.trans e4) _ _ hx)) (kit_str _)) fun _ => (g_opI (g_var rfl (Rp.mono (e3'.trans e4) _ _ hx)) (g_var rfl (Rp.mono (e3'.trans e4) _ _ hy)) rv_eqS).is (by simp)).is rfl) q
  · obtain ⟨i, rfl⟩ : ∃ i, d = .int i := by cases d <;> simp_all [isS, isB, isNone, atom]
    have e4' := e3'.trans e4
    exact t_retI s4 ((g_andV (b := true) (g_isi (g_var rfl (Rp.mono e4' _ _ hx)) (kit_int _)) fun _ => (g_andV (b := true) (g_notV (g_isi (g_var rfl (Rp.mono e4' _ _ hx)) (kit_bool _))) fun _ => (g_opI (g_var rfl (Rp.mono e4' _ _ hx)) (g_var rfl (Rp.mono e4' _ _ hy)) rv_eqI).is (by simp)).is rfl).is rfl) q
theorem ok_same0 {f : Addr} {fd : FuncData} (F_law_same : Fun K "_law_same" "_law_same" s_law_same f fd) (T : Tx mg) (b_law_same : Binds K fd ["_law_told", "_law_due"] []) (g_law_same : mg "_law_same" = some (.ref f)) : FnOk P w K mg base CX0 1 f fd ["_law_told", "_law_due"] (spSame0 K) := by
  have G_law_same : FnOk P w K mg base CX0 0 f fd ["_law_told", "_law_due"] (fun _ _ _ _ => False) := never_ok
  refine Fun.ok F_law_same sc_law_same (PSp.len (fun _ => rfl)) (fun cdv A outer s H vs Q E hr h => ?_)
  obtain ⟨d, F, hd, e, ha, q⟩ := h
  obtain ⟨x, y, rfl, hx, hy⟩ := rpAll2 ha
  refine ⟨_, (pss_cons (ps_if (pt_val (pe_callB (c_isi (K := K)) (by rfl) T.isinstance (by decide +kernel) (pa_cons (pv 1) (pa_cons (pe_bltn (v := .ty "tuple") (by rfl) T.tuple (by decide +kernel) rfl) pa_nil)))) (pss_cons (ps_if (PW.pt (pw_or (pt_not (pt_val (pe_callB (c_isi (K := K)) (by rfl) T.isinstance (by decide +kernel) (pa_cons (pv 0) (pa_cons (pe_bltn (v := .ty "tuple") (by rfl) T.tuple (by decide +kernel) rfl) pa_nil))))) (pw_or1 (pt_cmpR op_ne (pe_callB (c_len (K := K)) (by rfl) T.len (by decide +kernel) (pa_cons (pv 0) pa_nil)) (pe_callB (c_len (K := K)) (by rfl) T.len (by decide +kernel) (pa_cons (pv 1) pa_nil)) (nomark _))))) (pss_one (ps_ret pe_bl)) pss_nil)
    (pss_one (ps_ret (pe_cmpR (o_eqD (K := K) hr.units) (pe_lc (own := [("_law_k", 2)]) (g := gName 2) rfl sc_law_same.nd (pi_range1 (by rfl) T.range (pa_cons (pe_callB (c_len (K := K)) (by rfl) T.len (by decide +kernel) (pa_cons (pv 1) pa_nil)) pa_nil)) (blkOk_by (own := [("_law_k", 2)]) (N := ["_law_told", "_law_due", "_law_k"]) (sc := (defScope s_law_same)) (by decide +kernel)) (fun _ _ _ _ _ => pg_name (i := 2) sc_law_same.nd rfl (by first | exact Or.inl rfl | exact Or.inr rfl)) (fun _ _ _ _ _ => (pts_one (pt_not (pt_val (pe_call G_law_same (hr.mono (by decide)) (by rfl) g_law_same F_law_same.kp b_law_same .nil pass0 (pa_cons (pe_ix (o_ixT (K := K)) (pv 0) (pv 2) (fun _ _ => rfl)) (pa_cons (pe_ix (o_ixT (K := K)) (pv 1) (pv 2) (fun _ _ => rfl)) pa_nil))))))) (fun _ _ _ _ _ => (pv 2))) (pe_lst pa_nil) (nomark _))))) pss_nil)
    (pss_cons (ps_if (pt_cmpR op_isN (pv 1) pe_non (nomark _)) (pss_one (ps_ret (pe_cmpR op_isN (pv 0) pe_non (nomark _)))) pss_nil)
    (pss_cons (ps_if (pt_val (pe_callB (c_isi (K := K)) (by rfl) T.isinstance (by decide +kernel) (pa_cons (pv 1) (pa_cons (pe_bltn (v := .ty "bool") (by rfl) T.bool (by decide +kernel) rfl) pa_nil)))) (pss_one (ps_ret (pe_ifExp (pt_val (pv 1)) (pe_cmpR op_isBl (pv 0) pe_bl (nomark _)) (pe_cmpR op_isBl (pv 0) pe_bl (nomark _))))) pss_nil)
    (pss_cons (ps_if (pt_val (pe_callB (c_isi (K := K)) (by rfl) T.isinstance (by decide +kernel) (pa_cons (pv 1) (pa_cons (pe_bltn (v := .ty "str") (by rfl) T.str (by decide +kernel) rfl) pa_nil)))) (pss_one (ps_ret (pe_and (pe_callB (c_isi (K := K)) (by rfl) T.isinstance (by decide +kernel) (pa_cons (pv 0) (pa_cons (pe_bltn (v := .ty "str") (by rfl) T.str (by decide +kernel) rfl) pa_nil))) (pe_one (pe_cmpR op_eq (pv 0) (pv 1) (nomark _)))))) pss_nil)
    (pss_one (ps_ret (pe_and (pe_callB (c_isi (K := K)) (by rfl) T.isinstance (by decide +kernel) (pa_cons (pv 0) (pa_cons (pe_bltn (v := .ty "int") (by rfl) T.int (by decide +kernel) rfl) pa_nil))) (pe_and (pe_not (pe_callB (c_isi (K := K)) (by rfl) T.isinstance (by decide +kernel) (pa_cons (pv 0) (pa_cons (pe_bltn (v := .ty "bool") (by rfl) T.bool (by decide +kernel) rfl) pa_nil)))) (pe_one (pe_cmpR op_eq (pv 0) (pv 1) (nomark _))))))))))), ?_⟩
  refine t_when (b := isT d) (Step.refl e .nil) (et_B (g_isi (g_var rfl hy) (kit_tuple d))) (fun hb F2 H2 s2 e2 => by cases d <;> simp_all [isT, atom]) (fun hb F2 H2 s2 e2 => ?_)
  exact same_atom s2 hd (Rp.mono e2 _ _ hx) (Rp.mono e2 _ _ hy) q
end
end KJ
namespace KJ
open PySem PySem.Spec PyProof.Rows L2 Fv Evl StX
section
variable {P : Program} {w : World} {K : PySem.W.Frag} {mg : Str → Option Value} {base : Heap}
variable {pt : Option Pt} {σ : L2.St} {F F0 H0 H : Hp} {te ta tb : TE} {ts tr : TA} {D : Ends} {tz : TS}
/-! ### drawn sizes -/
abbrev HouseN : PD := fun d => ∃ n : Nat, d = .int n ∧ 2 ≤ n ∧ n ≤ 5
abbrev spMany (K : PySem.W.Frag) : Sp := spQ K (fun _ : Unit => []) (fun _ => True) (fun _ => HouseN)
theorem gs_int {i : Int} {ds : List PyData} (h : EvsG K pt tr σ F (· = ds)) : EvsG K pt (tCons (tC (.int i)) tr) σ F (· = .int i :: ds) := gs_consI g_int h
theorem ok_many {f fD : Addr} {fd fdD : FuncData} (Fn : Fun K "_law_many" "_law_many" s_law_many f fd) (T : Tx mg)
    (F_law_draw : Fun K "_law_draw" "_law_draw" s_law_draw fD fdD) (b_law_draw : Binds K fdD ["_law_pot_here", "_law_many_here"] []) (g_law_draw : mg "_law_draw" = some (.ref fD)) : FnOk P w K mg base CX0 2 f fd ["_law_pot_here"] (spMany K) := by
  have G_law_draw : FnOk P w K mg base CX0 1 fD fdD ["_law_pot_here", "_law_many_here"] (spDraw K) := ok_draw F_law_draw T
  refine Fn.ok sc_law_many (spQ.len (n := 0) (fun _ => rfl)) (fun cdv A outer s H vs Q E hr h => ?_)
  obtain ⟨q, _, F, as, rfl, _, e, g, ha, k⟩ := h
  cases ha
  refine ⟨_, (pss_one (ps_ret (pe_ix (o_ixL (K := K)) (pe_lst (pa_cons pe_int (pa_cons pe_int (pa_cons pe_int (pa_cons pe_int (pa_cons pe_int (pa_cons pe_int (pa_cons pe_int (pa_cons pe_int pa_nil))))))))) (pe_call G_law_draw (hr.mono (by decide)) (by rfl) g_law_draw F_law_draw.kp b_law_draw .nil pass0 (pa_cons (pv 0) (pa_cons pe_int pa_nil))) (fun _ _ => rfl)))), ?_⟩
  refine t_ret (K := K) (R := HouseN) (Step.refl e g) (g_pick (c := 8) (g_lstI (gs_int (gs_int (gs_int (gs_int (gs_int (gs_int (gs_int (gs_int gs_nil)))))))) (by decide)) (g_callP (m := 8) rfl g_int (by decide)) (by decide) fun d hd => ?_) fun d v F2 H2 hd s2 hv2 => k d v F2 H2 hd s2 hv2
  simp only [List.mem_cons, List.not_mem_nil, or_false] at hd
  rcases hd with rfl | rfl | rfl | rfl | rfl | rfl | rfl | rfl
  · exact ⟨2, rfl, by decide, by decide⟩
  · exact ⟨2, rfl, by decide, by decide⟩
  · exact ⟨2, rfl, by decide, by decide⟩
  · exact ⟨3, rfl, by decide, by decide⟩
  · exact ⟨3, rfl, by decide, by decide⟩
  · exact ⟨3, rfl, by decide, by decide⟩
  · exact ⟨4, rfl, by decide, by decide⟩
  · exact ⟨5, rfl, by decide, by decide⟩
abbrev spWorths (K : PySem.W.Frag) : Sp := spQ K (fun n : Nat => [.int n]) (fun n => 2 ≤ n ∧ n ≤ 5) (fun n d => ∃ m : Nat, d = .int m ∧ 1 ≤ m ∧ m ≤ capN n)
theorem cap_get {n : Nat} (h : n ≤ 5) : atI ([0, 0, 4, 4, 3, 2].map PyData.int) (n : Int) = some (.int (capN n)) := by
  have : n = 0 ∨ n = 1 ∨ n = 2 ∨ n = 3 ∨ n = 4 ∨ n = 5 := by omega
  rcases this with rfl | rfl | rfl | rfl | rfl | rfl
  · exact atI_nat (xs := [0, 0, 4, 4, 3, 2].map PyData.int) (j := 0) rfl
  · exact atI_nat (xs := [0, 0, 4, 4, 3, 2].map PyData.int) (j := 1) rfl
  · exact atI_nat (xs := [0, 0, 4, 4, 3, 2].map PyData.int) (j := 2) rfl
  · exact atI_nat (xs := [0, 0, 4, 4, 3, 2].map PyData.int) (j := 3) rfl
  · exact atI_nat (xs := [0, 0, 4, 4, 3, 2].map PyData.int) (j := 4) rfl
  · exact atI_nat (xs := [0, 0, 4, 4, 3, 2].map PyData.int) (j := 5) rfl
theorem cap_few {n : Nat} (h2 : 2 ≤ n) (h5 : n ≤ 5) : 2 ≤ capN n ∧ capN n ≤ 4 := by
  have : n = 2 ∨ n = 3 ∨ n = 4 ∨ n = 5 := by omega
  rcases this with rfl | rfl | rfl | rfl <;> decide
theorem ok_worths {f fD : Addr} {fd fdD : FuncData} (Fn : Fun K "_law_worths" "_law_worths" s_law_worths f fd) (T : Tx mg)
    (F_law_draw : Fun K "_law_draw" "_law_draw" s_law_draw fD fdD) (b_law_draw : Binds K fdD ["_law_pot_here", "_law_many_here"] []) (g_law_draw : mg "_law_draw" = some (.ref fD)) : FnOk P w K mg base CX0 2 f fd ["_law_pot_here", "_law_n"] (spWorths K) := by
  have G_law_draw : FnOk P w K mg base CX0 1 fD fdD ["_law_pot_here", "_law_many_here"] (spDraw K) := ok_draw F_law_draw T
  refine Fn.ok sc_law_worths (spQ.len (n := 1) (fun _ => rfl)) (fun cdv A outer s H vs Q E hr h => ?_)
  obtain ⟨q, n, F, as, rfl, ⟨h2, h5⟩, e, g, ha, k⟩ := h
  obtain ⟨v, rfl, hv⟩ := rpAll1 ha
  refine ⟨_, (pss_one (ps_ret (pe_callB c_min2 (by rfl) T.min (by decide +kernel) (pa_cons (pe_ix (o_ixL (K := K)) (pe_lst (pa_cons pe_int (pa_cons pe_int (pa_cons pe_int (pa_cons pe_int (pa_cons pe_int (pa_cons pe_int (pa_cons pe_int (pa_cons pe_int pa_nil))))))))) (pe_call G_law_draw (hr.mono (by decide)) (by rfl) g_law_draw F_law_draw.kp b_law_draw .nil pass0 (pa_cons (pv 0) (pa_cons pe_int pa_nil))) (fun _ _ => rfl)) (pa_cons (pe_ix (o_ixL (K := K)) (pe_lst (pa_cons pe_int (pa_cons pe_int (pa_cons pe_int (pa_cons pe_int (pa_cons pe_int (pa_cons pe_int pa_nil))))))) (pv 1) (fun _ _ => rfl)) pa_nil))))), ?_⟩
  obtain ⟨c2, c4⟩ := cap_few h2 h5
  refine t_ret (K := K) (R := fun d => ∃ m : Nat, d = .int m ∧ 1 ≤ m ∧ m ≤ capN n) (Step.refl e g) (g_cb (R1 := fun ds => ∃ j : Int, ds = [.int j, .int (capN n)] ∧ 1 ≤ j) (fun H1 i g Q q => gs_cons (R1 := fun d => ∃ j : Int, d = .int j ∧ 1 ≤ j)
    (g_pick (c := 8) (g_lstI (gs_int (gs_int (gs_int (gs_int (gs_int (gs_int (gs_int (gs_int gs_nil)))))))) (by decide)) (g_callP (m := 8) rfl g_int (by decide)) (by decide) fun d hd => ?_)
    (gs_one (g_opI (g_lstI (gs_int (gs_int (gs_int (gs_int (gs_int (gs_int gs_nil)))))) (by decide)) (g_var rfl hv) (rv_ixL (cap_get h5)))) H1 i g Q fun l vs F2 H2 ⟨d, ds, hl, ⟨j, hj, j1⟩, hds⟩ s hv => q l vs F2 H2 ⟨j, by rw [hl, hj, hds], j1⟩ s hv)
    fun ds ⟨j, hj, j1⟩ => hj ▸ fun F H vs e hvs Q q => rc_min2 F H vs e hvs Q fun z v F2 H2 hz s hv => q z v F2 H2 ?_ s hv) fun d v F2 H2 hd s2 hv2 => k d v F2 H2 hd s2 hv2
  · simp only [List.mem_cons, List.not_mem_nil, or_false] at hd
    rcases hd with rfl | rfl | rfl | rfl | rfl | rfl | rfl | rfl <;> exact ⟨_, rfl, by decide⟩
  · rw [show z = _ from hz]
    by_cases z : ((capN n : Nat) : Int) < j
    · rw [if_pos z]; exact ⟨capN n, rfl, by omega, Nat.le_refl _⟩
    · rw [if_neg z]; exact ⟨j.toNat, congrArg PyData.int (by omega), by omega, by omega⟩
end
end KJ
namespace KJ
open PySem PySem.Spec PyProof.Rows L2 Fv Evl StX
abbrev s_law_differ : Stmt := topS 55
theorem sc_law_differ : FnScope ["_law_one", "_law_other", "_law_k"] ["_law_one", "_law_other"] (defScope s_law_differ) := ⟨rfl, rfl, rfl, by decide +kernel, rfl, by decide +kernel, by decide +kernel⟩
def at_ (e : List Int) (h : Int) : Int := e.getD h.toNat 0
def differ (a b : List Int) : List Int := (hs a.length).filter fun h => !decide (at_ a h = at_ b h)
section
variable {P : Program} {w : World} {K : PySem.W.Frag} {mg : Str → Option Value} {base : Heap}
variable {pt : Option Pt} {σ : L2.St} {F F0 H0 H : Hp} {te ta tb : TE} {ts tr : TA} {D : Ends} {tz : TS} {C : Addr}
theorem ix_int {e : List Int} {h : Int} (hh : h ∈ hs e.length) : RvG K (rIxT K) (dT e) (.int h) (Is (.int (at_ e h))) := by
  obtain ⟨h0, h1⟩ := hs_mem.mp hh
  refine rv_ixT ?_
  obtain ⟨j, rfl⟩ : ∃ j : Nat, h = (j : Int) := ⟨h.toNat, by omega⟩
  have hj : j < e.length := by omega
  refine atI_nat ?_
  rw [List.getElem?_map, List.getElem?_eq_getElem hj]
  unfold at_
  rw [show ((j : Int)).toNat = j by omega, List.getD_eq_getElem?_getD, List.getElem?_eq_getElem hj]; rfl
theorem w_lenT {e : List Int} (h : EvG K pt te σ F (Is (dT e))) (hz : e.length ≤ 100000) : WiG K pt (iRng1 (tCons (tCB (Fv.rLen K) (tCons te tNil)) tNil)) σ F (· = (hs e.length).map .int) := by
  have := w_rng1I (K := K) (pt := pt) (σ := σ) (F := F) (n := (((e.map PyData.int).length : Nat) : Int)) (gs_one (g_cbI (gs_one h) rc_lenT)) (by omega) (by rw [List.length_map]; omega)
  rw [List.length_map, show ((e.length : Nat) : Int).toNat = e.length by omega, rng_hs] at this
  exact this
abbrev spDiffer (K : PySem.W.Frag) : Sp := PSp K (fun i : List Int × List Int => [dT i.1, dT i.2]) (fun i => i.1.length ≤ 1000 ∧ i.2.length = i.1.length) (fun i => dT (differ i.1 i.2))
theorem ok_differ {f : Addr} {fd : FuncData} (Fn : Fun K "_law_differ" "_law_differ" s_law_differ f fd) (T : Tx mg) : FnOk P w K mg base CX0 1 f fd ["_law_one", "_law_other"] (spDiffer K) := by
  refine Fn.ok sc_law_differ (PSp.len (fun _ => rfl)) (fun cdv A outer s H vs Q E hr h => ?_)
  obtain ⟨⟨a, b⟩, F, ⟨hz, hl⟩, e, ha, q⟩ := h
  obtain ⟨v, x, rfl, hv, hx⟩ := rpAll2 ha
  simp only at hz hl
  refine ⟨_, (pss_one (ps_ret (pe_callTy (c_tup (K := K)) (by rfl) T.tuple (by decide +kernel) (pa_cons (pe_lc (own := [("_law_k", 2)]) (g := gName 2) rfl sc_law_differ.nd (pi_range1 (by rfl) T.range (pa_cons (pe_callB (c_len (K := K)) (by rfl) T.len (by decide +kernel) (pa_cons (pv 0) pa_nil)) pa_nil)) (blkOk_by (own := [("_law_k", 2)]) (N := ["_law_one", "_law_other", "_law_k"]) (sc := (defScope s_law_differ)) (by decide +kernel)) (fun _ _ _ _ _ => pg_name (i := 2) sc_law_differ.nd rfl (by first | exact Or.inl rfl | exact Or.inr rfl)) (fun _ _ _ _ _ => (pts_one (pt_cmpR op_ne (pe_ix (o_ixT (K := K)) (pv 0) (pv 2) (fun _ _ => rfl)) (pe_ix (o_ixT (K := K)) (pv 1) (pv 2) (fun _ _ => rfl)) (nomark _)))) (fun _ _ _ _ _ => (pv 2))) pa_nil)))), ?_⟩
  exact t_retI (K := K) (Step.refl e .nil) (g_cbI (gs_one (g_lcE PyData.int (hs a.length) (fun h => !decide (at_ a h = at_ b h)) PyData.int (w_lenT (e := a) (g_var rfl hv) (Nat.le_trans hz (by decide))) (by rw [hs_len]; omega) (fun _ => rfl)
    (fun h hh F' e' u hu => et_of (g_opI (g_opI (g_var rfl (Rp.mono e' _ _ hv)) (g_var rfl hu) (ix_int hh)) (g_opI (g_var rfl (Rp.mono e' _ _ hx)) (g_var rfl hu) (ix_int (e := b) (by rw [hl]; exact hh))) rv_neI)) (fun h _ _ F' e' u hu => g_var rfl hu))) rc_tupL) q
end
end KJ
namespace KJ
open PySem PySem.Spec PyProof.Rows L2 Fv Evl StX
abbrev s_law_entry : Stmt := topS 50
theorem sc_law_entry : FnScope ["_law_pot_here", "_law_n", "_law_m", "_law_house"] ["_law_pot_here", "_law_n", "_law_m"] (defScope s_law_entry) := ⟨rfl, rfl, rfl, by decide +kernel, rfl, by decide +kernel, by decide +kernel⟩
section
variable {P : Program} {w : World} {K : PySem.W.Frag} {mg : Str → Option Value} {base : Heap}
variable {pt : Option Pt} {σ : L2.St} {F F0 H0 H : Hp} {te ta tb : TE} {ts tr : TA} {D : Ends} {tz : TS} {C : Addr}
/-! ### the family -/
/-! ### rows -/
/-! ### drawn rows -/
abbrev spEntry (K : PySem.W.Frag) : Sp := spQ K (fun i : Nat × Nat => [.int i.1, .int i.2]) (fun i => i.1 ≤ 100 ∧ 1 ≤ i.2 ∧ i.2 ≤ 100) (fun i d => ∃ r : List Int, d = dT r ∧ r.length = i.1 ∧ ∀ k ∈ r, 0 ≤ k ∧ k < (i.2 : Int))
theorem ok_entry {f fD : Addr} {fd fdD : FuncData} (Fn : Fun K "_law_entry" "_law_entry" s_law_entry f fd) (T : Tx mg)
    (F_law_draw : Fun K "_law_draw" "_law_draw" s_law_draw fD fdD) (b_law_draw : Binds K fdD ["_law_pot_here", "_law_many_here"] []) (g_law_draw : mg "_law_draw" = some (.ref fD)) : FnOk P w K mg base CX0 2 f fd ["_law_pot_here", "_law_n", "_law_m"] (spEntry K) := by
  have G_law_draw : FnOk P w K mg base CX0 1 fD fdD ["_law_pot_here", "_law_many_here"] (spDraw K) := ok_draw F_law_draw T
  refine Fn.ok sc_law_entry (spQ.len (n := 2) (fun _ => rfl)) (fun cdv A outer s H vs Q E hr h => ?_)
  obtain ⟨q, ⟨n, m⟩, F, as, rfl, ⟨hn, m1, m2⟩, e, g, ha, k⟩ := h
  obtain ⟨v, x, rfl, hv, hx⟩ := rpAll2 ha
  obtain rfl := rp_int hv
  obtain rfl := rp_int hx
  simp only at hn m1 m2
  refine ⟨_, (pss_one (ps_ret (pe_callTy (c_tup (K := K)) (by rfl) T.tuple (by decide +kernel) (pa_cons (pe_lc (own := [("_law_house", 3)]) (g := gName 3) rfl sc_law_entry.nd (pi_range1 (by rfl) T.range (pa_cons (pv 1) pa_nil)) (blkOk_by (own := [("_law_house", 3)]) (N := ["_law_pot_here", "_law_n", "_law_m", "_law_house"]) (sc := (defScope s_law_entry)) (by decide +kernel)) (fun _ _ _ _ _ => pg_name (i := 3) sc_law_entry.nd rfl (by first | exact Or.inl rfl | exact Or.inr rfl)) (fun _ _ _ _ _ => pts_nil) (fun _ _ _ _ _ => (pe_call G_law_draw (hr.mono (by decide)) (by rfl) g_law_draw F_law_draw.kp b_law_draw .nil pass0 (pa_cons (pv 0) (pa_cons (pv 2) pa_nil))))) pa_nil)))), ?_⟩
  refine t_ret (K := K) (R := fun d => ∃ r : List Int, d = dT r ∧ r.length = n ∧ ∀ k ∈ r, 0 ≤ k ∧ k < (m : Int)) (Step.refl e g) (g_cb (g_consR (g_lcR (α := Unit) PyData.int (fun k => 0 ≤ k ∧ k < (m : Int)) (w_range (n := n) (g_var rfl (.int _)) (by omega)) (fun ds h => by rw [h, List.length_map, List.length_range]; omega) (fun _ => rfl) fun F' e' u =>
    (g_callP (m := (m : Int)) rfl (g_var (v := .int m) (d := .int m) rfl (.int _)) ⟨by omega, by omega⟩).imp fun d ⟨j, hj, j0, j1⟩ => ⟨j, hj, j0, j1⟩)) ?_) fun d v F2 H2 hd s2 hv2 => ?_
  · rintro ds ⟨d, rfl, ds, ys, hds, rfl, hl, hp⟩
    intro F H vs e hvs Q q
    refine rc_tupL F H vs e hvs Q fun z v F2 H2 hz s hv => q z v F2 H2 ⟨ys, hz, ?_, hp⟩ s hv
    rw [hl, show ds = _ from hds, List.length_map, List.length_range]
  · obtain ⟨r, h1, h2, h3⟩ := hd
    exact k d v F2 H2 ⟨r, h1, h2, h3⟩ s2 hv2
end
end KJ
namespace KJ
open PySem PySem.Spec PyProof.Rows L2 L2H Fv Evl StX
abbrev s_law_family : Stmt := topS 48
theorem sc_law_family : FnScope ["_law_n", "_law_lots_here", "_law_lot_here"] ["_law_n", "_law_lots_here"] (defScope s_law_family) := ⟨rfl, rfl, rfl, by decide +kernel, rfl, by decide +kernel, by decide +kernel⟩
section
variable {P : Program} {w : World} {K : PySem.W.Frag} {mg : Str → Option Value} {base : Heap} {CB CO CL fN : Addr}
variable {pt : Option Pt} {σ : L2.St} {F F' F0 H0 H F2 H2 : Hp} {te ta tb ty td : TE} {ts tr : TA} {t : TT} {D : Ends} {tz tu tw : TS} {l : Addr} {kvs : List (List Key × V)} {wi : TI}
/-! the family -/
def spFamily (K : PySem.W.Frag) (CL : Addr) : Sp := fun vs H Q _ => ∃ (n : Nat) (ls : List (List Int)) (F : Hp) (v : V), vs = [.int n, v] ∧ ((2 ≤ n ∧ n ≤ 5) ∧ GoodLots n ls ∧ ls.length ≤ 32) ∧ Ex F H ∧ Rp K F v (dLT ls) ∧ ∀ x F2 H2, Step none F H F2 H2 → Fam K CL F2 x n ls → Q (.ref x) H2
theorem ok_family {f : Addr} {fd fdN : FuncData} (Fn : Fun K "_law_family" "_law_family" s_law_family f fd) (T : Tx mg) (M_Falls : Mk K CL fN) (g_Falls : mg "Falls" = some (.ref CL)) (G_Falls : FnOk P w K mg base CX0 4 fN fdN ["self", "houses", "lots"] (spInit K CL)) (b_Falls : Binds K fdN ["self", "houses", "lots"] []) :
    FnOk P w K mg base CX0 6 f fd ["_law_n", "_law_lots_here"] (spFamily K CL) := by
  refine Fn.ok sc_law_family (fun vs H Q E ⟨_, _, _, _, h, _⟩ => by rw [h]; rfl) (fun cdv A outer s H vs Q E hr h => ?_)
  obtain ⟨n, ls, F, v, rfl, ⟨hn, hg, hl⟩, e, hv, q⟩ := h
  refine ⟨_, (pss_one (ps_ret (pe_make M_Falls G_Falls (hr.mono (by decide)) (by rfl) g_Falls b_Falls .nil pass0 (pa_cons (pv 0) (pa_cons (pe_lc (own := [("_law_lot_here", 2)]) (g := gName 2) rfl sc_law_family.nd (i_list (K := K) (pv 1)) (blkOk_by (own := [("_law_lot_here", 2)]) (N := ["_law_n", "_law_lots_here", "_law_lot_here"]) (sc := (defScope s_law_family)) (by decide +kernel)) (fun _ _ _ _ _ => pg_name (i := 2) sc_law_family.nd rfl (by first | exact Or.inl rfl | exact Or.inr rfl)) (fun _ _ _ _ _ => pts_nil) (fun _ _ _ _ _ => (pe_callTy (c_list (K := K)) (by rfl) T.list (by decide +kernel) (pa_cons (pv 2) pa_nil)))) pa_nil))))), ?_⟩
  refine t_retX (Step.refl e .nil) (x_make (n := n) (src := .list (ls.map dI)) (ls := ls) (gs_two (g_var (v := .int n) rfl (.int _)) (g_lcEM dT ls dI (w_listI (g_var rfl hv)) (by omega) (fun _ => rfl) fun l hl' F' e' y hy => g_cbI (gs_one (g_var rfl hy)) (rc_list (.inr rfl)))) (.l ls) hn hg hl) fun z F3 H3 ⟨x, ez, fam⟩ s3 => ?_
  rw [ez]
  exact q x F3 H3 s3 fam
/-! the wide table -/
/-! what is due -/
end
end KJ
namespace KJ
open PySem PySem.Spec PyProof.Rows L2 L2H Fv Evl StX
abbrev s_law_unlike : Stmt := topS 51
theorem sc_law_unlike : FnScope ["_law_rows", "_law_found", "_law_row"] ["_law_rows"] (defScope s_law_unlike) := ⟨rfl, rfl, rfl, by decide +kernel, rfl, by decide +kernel, by decide +kernel⟩
section
variable {P : Program} {w : World} {K : PySem.W.Frag} {mg : Str → Option Value} {base : Heap}
variable {pt : Option Pt} {σ : L2.St} {F F' F0 H0 H : Hp} {te ta tb ty td : TE} {ts tr : TA} {t : TT} {D : Ends} {tz tu tw : TS} {l : Addr} {ls : List PyData}
theorem t_if1Fix {b : Bool} (g0 : Good pt F0 H0) (h0 : H0 l = none) (g : Gst K pt F0 H0 l F H ls) (h : ∀ Fp, Ex F Fp → Rp K Fp (.ref l) (.list ls) → EtG pt t σ Fp (· = b)) (h1 : b = true → ∀ F2 H2, Gst K pt F0 H0 l F2 H2 ls → Ex F F2 → tu D σ H2) (h2 : b = false → ∀ F2 H2, Gst K pt F0 H0 l F2 H2 ls → Ex F F2 → tw D σ H2) : tIfS t tu tw D σ H := by
  obtain ⟨Fp, e1, e2, gd, r, back⟩ := g.fix g0 h0
  exact h Fp e1 r H e2 gd _ fun c F2 H2 hc s => by
    subst hc
    obtain ⟨F3, g3, e3, _, _⟩ := back F2 H2 s
    cases c with
    | true => exact h1 rfl F3 H2 g3 e3
    | false => exact h2 rfl F3 H2 g3 e3
def spUq (K : PySem.W.Frag) : Sp := fun vs H Q _ => ∃ (n : Nat) (rs : List (List Int)) (F : Hp) (v : V), vs = [v] ∧ (1 ≤ n ∧ rs.length < 64 ∧ ∀ r ∈ rs, r.length = n ∧ TS.Bd 4 r) ∧ Ex F H ∧ Rp K F v (dLT rs) ∧
  ∀ R u F2 H2, Asc R → (∀ r, r ∈ R ↔ r ∈ rs) → Step none F H F2 H2 → Rp K F2 u (dLT R) → Q u H2
theorem ok_uq {f : Addr} {fd : FuncData} (Fn : Fun K "_law_unlike" "_law_unlike" s_law_unlike f fd) (T : Tx mg) : FnOk P w K mg base CX0 1 f fd ["_law_rows"] (spUq K) := by
  refine Fn.ok sc_law_unlike (fun vs H Q E ⟨_, _, _, _, h, _⟩ => by rw [h]; rfl) (fun cdv A outer s H vs Q E hr h => ?_)
  obtain ⟨n, rs, F, v, rfl, ⟨h1n, hz, hrow⟩, e, hv, q⟩ := h
  refine ⟨_, (pss_cons (ps_set (i := 1) sc_law_unlike.nd rfl (by first | exact Or.inl rfl | exact Or.inr rfl) (pe_lst pa_nil))
    (pss_cons (ps_for PassesOwn.never rfl (i_list (K := K) (pe_callB (c_sortR (K := K) n h1n) (by rfl) T.sorted (by decide +kernel) (pa_cons (pv 0) pa_nil))) (pg_name (i := 2) sc_law_unlike.nd rfl (by first | exact Or.inl rfl | exact Or.inr rfl)) (pss_one (ps_if (PW.pt (pw_or (pt_not (e_truth (K := K) (pv 1))) (pw_or1 (pt_cmpR (o_neD (K := K) hr.units) (pe_ix (o_ixL (K := K)) (pv 1) (pe_un un_neg pe_int) (fun _ _ => rfl)) (pv 2) (nomark _))))) (pss_one (ps_expr (pe_bm PySem.F.plainAttrs_list PySem.F.slot_list_append PySem.F.type_list_append mt_append (pv 1) (pa_cons (pv 2) pa_nil)))) pss_nil)))
    (pss_one (ps_ret (pv 1))))), ?_⟩
  have g0 : Good none F H := .nil
  refine t_newL (K := K) (Step.refl e .nil) (fun l h0 hl0 g1 => ?_) (fun _ h => h)
  refine t_forGR (K := K) (RS := fun ds => ∃ S : List (List Int), ds = S.map dT ∧ S.Perm rs ∧ S.Pairwise fun a b => TS.code 4 a ≤ TS.code 4 b) g0 h0 g1
    (w_listE ((g_sortR (n := n) (g_var rfl hv) hz hrow).imp fun d ⟨S, h1, h2, h3⟩ => ⟨_, h1, S, rfl, h2, h3⟩))
    (fun ds i σ' F' ls' => (∃ z, σ' = [some v, some (.ref l), z]) ∧ ∃ U : List (List Int), ls' = U.map dT ∧ Asc U ∧ ∀ r, dT r ∈ ds.take i ↔ r ∈ U) (fun ds _ F2 e2 => ⟨⟨none, rfl⟩, [], rfl, .nil, by simp⟩) (fun ds hds i d hd σ' F' H' u ls' hI g' e' hu N hN => ?_) (fun ds hds σ' F' H' ls' hI g' e' => ?_)
  · obtain ⟨⟨z, rfl⟩, U, rfl, hU, hmem⟩ := hI
    obtain ⟨S, rfl, hS1, hS2⟩ := hds
    obtain ⟨x, hx, rfl⟩ := get_map hd
    have hxS : x ∈ S := List.mem_of_getElem? hx
    have hxr := hrow x (hS1.mem_iff.mp hxS)
    have inS : ∀ r ∈ U, r ∈ S.take i := fun r hr' => by
      have := (hmem r).mpr hr'
      rw [← List.map_take] at this
      obtain ⟨r2, h1, h2⟩ := List.mem_map.mp this
      rw [← dT_inj h2]; exact h1
    have rowU : ∀ r ∈ U, r.length = n ∧ TS.Bd 4 r := fun r hr' => hrow r (hS1.mem_iff.mp (List.mem_of_mem_take (inS r hr')))
    have le : ∀ r ∈ U, TS.code 4 r ≤ TS.code 4 x := fun r hr' => by
      obtain ⟨j, hj, e2⟩ := List.getElem_of_mem (inS r hr')
      obtain ⟨hi, hx2⟩ := List.getElem?_eq_some_iff.mp hx
      rw [List.length_take] at hj
      have := List.pairwise_iff_getElem.mp hS2 j i (by omega) hi (by omega)
      rw [List.getElem_take] at e2
      rw [e2, hx2] at this
      exact this
    have hlenU : U.length ≤ i := by
      have := nd_len hU.nd inS
      rw [List.length_take] at this; omega
    have hil : i < rs.length := by
      rw [← hS1.length_eq]; exact (List.getElem?_eq_some_iff.mp hx).1
    have mem2 : ∀ r, dT r ∈ (S.map dT).take (i + 1) ↔ r ∈ U ∨ r = x := fun r => by
      rw [take_succA hd, List.mem_append, hmem r, List.mem_singleton]
      exact ⟨fun h => h.elim .inl fun z => .inr (dT_inj z), fun h => h.elim .inl fun z => .inr (by rw [z])⟩
    refine t_if1Fix (K := K) (b := U.isEmpty || !decide (U.getLast? = some x)) g0 h0 g' (fun Fp ep hl => et_or (a := U.isEmpty) ((et_not (et_truL (g_var rfl hl))).is (by simp)) fun hne => ?_) (fun hb F2 H2 g2 e2 => ?_) (fun hb F2 H2 g2 e2 => ?_)
    · obtain ⟨U', y, rfl⟩ : ∃ U' y, U = U' ++ [y] := ⟨U.dropLast, U.getLast (by intro z; rw [z] at hne; cases hne), (List.dropLast_concat_getLast _).symm⟩
      exact (et_of (K := K) (g_opI (g_opI (g_var rfl hl) (g_un1 g_int) (rv_ixL (d := dT y) (by rw [List.map_append]; exact atI_last))) (g_var rfl (Rp.mono ep _ _ hu)) rv_neT)).is (by simp)
    · refine t_app (K := K) g0 h0 g2 rfl (g_var rfl (Rp.mono e2 _ _ hu)) (by rw [List.length_map]; omega) fun d4 F4 H4 hd4 g4 e4 => ?_
      subst hd4
      refine hN _ F4 H4 _ ⟨⟨_, rfl⟩, U ++ [x], by rw [List.map_append]; rfl, List.pairwise_append.mpr ⟨hU, List.pairwise_singleton _ _, fun r hr' y hy => ?_⟩, fun r => ?_⟩ g4 (e2.trans e4)
      · rw [List.mem_singleton.mp hy]
        obtain ⟨U', y, rfl⟩ : ∃ U' y, U = U' ++ [y] := ⟨U.dropLast, U.getLast (by intro z; rw [z] at hr'; cases hr'), (List.dropLast_concat_getLast _).symm⟩
        have hyx : y ≠ x := by simpa using hb
        have ly := le y (by simp)
        have ry := rowU y (by simp)
        have lt : TS.code 4 y < TS.code 4 x := by
          rcases Int.lt_or_eq_of_le ly with z | z
          · exact z
          · exact absurd (code_inj (ry.1.trans hxr.1.symm) ry.2 hxr.2 z) hyx
        rcases List.mem_append.mp hr' with z | z
        · have := (List.pairwise_append.mp hU).2.2 r z y (by simp)
          omega
        · rw [List.mem_singleton.mp z]; exact lt
      · rw [mem2 r, List.mem_append, List.mem_singleton]
    · refine hN _ F2 H2 _ ⟨⟨_, rfl⟩, U, rfl, hU, fun r => ?_⟩ g2 e2
      rw [mem2 r]
      have hb' : ¬ U = [] ∧ U.getLast? = some x := by simpa using hb
      exact ⟨fun h => h.elim id fun z => by rw [z]; exact List.mem_of_getLast? hb'.2, .inl⟩
  · obtain ⟨⟨z, rfl⟩, U, rfl, hU, hmem⟩ := hI
    obtain ⟨S, rfl, hS1, hS2⟩ := hds
    obtain ⟨F2, s2, e2, r2⟩ := g'.done g0 h0
    refine t_retI (K := K) s2 (g_var rfl r2) fun v3 F3 H3 s3 hv3 => q U v3 F3 H3 hU (fun r => ?_) s3 hv3
    rw [← hmem r, List.take_length, ← hS1.mem_iff]
    exact ⟨fun h => by obtain ⟨r2, h1, h2⟩ := List.mem_map.mp h; rw [← dT_inj h2]; exact h1, fun h => List.mem_map_of_mem h⟩
end
end KJ
namespace KJ
open PySem PySem.Spec PyProof.Rows L2 L2H Fv Evl StX
abbrev s_law_fine : Stmt := topS 49
theorem sc_law_fine : FnScope ["_law_pot_here"] ["_law_pot_here"] (defScope s_law_fine) := ⟨rfl, rfl, rfl, by decide +kernel, rfl, by decide +kernel, by decide +kernel⟩
abbrev s_law_near : Stmt := topS 56
theorem sc_law_near : FnScope ["_law_one", "_law_other", "_law_lots_here", "_law_manner"] ["_law_one", "_law_other", "_law_lots_here", "_law_manner"] (defScope s_law_near) := ⟨rfl, rfl, rfl, by decide +kernel, rfl, by decide +kernel, by decide +kernel⟩
abbrev s_law_web : Stmt := topS 57
theorem sc_law_web : FnScope ["_law_rows", "_law_lots_here", "_law_manner", "_law_k", "_law_j"] ["_law_rows", "_law_lots_here", "_law_manner"] (defScope s_law_web) := ⟨rfl, rfl, rfl, by decide +kernel, rfl, by decide +kernel, by decide +kernel⟩
/-- near, as the law has it -/
def nearW (mn : Str) (lots : List (List Int)) (a b : List Int) : Bool := !decide (a = b) && (decide (mn = ("letters" : Str)) && coversOf a.length lots || lets lots (differ a b))
def webRow (mn : Str) (lots rows : List (List Int)) (k : Nat) : List Nat := (List.range rows.length).filter fun j => nearW mn lots (rows.getD k []) (rows.getD j [])
def webOf (mn : Str) (lots rows : List (List Int)) : List (List Nat) := (List.range rows.length).map (webRow mn lots rows)
abbrev dNs (ks : List Nat) : PyData := .list (ks.map natD)
section
variable {P : Program} {w : World} {K : PySem.W.Frag} {mg : Str → Option Value} {base : Heap}
variable {pt : Option Pt} {σ : L2.St} {F F' F0 H0 H : Hp} {te ta tb : TE} {ts tr : TA} {D : Ends} {tz : TS} {n : Nat}
theorem rpAll4 {F : Hp} {vs : List V} {d e g j : PyData} (h : RpAll K F vs [d, e, g, j]) : ∃ v x y z, vs = [v, x, y, z] ∧ Rp K F v d ∧ Rp K F x e ∧ Rp K F y g ∧ Rp K F z j := by
  cases h with
  | cons h1 h2 =>
    obtain ⟨x, y, z, rfl, hx, hy, hz⟩ := rpAll3 h2
    exact ⟨_, x, y, z, rfl, h1, hx, hy, hz⟩
abbrev spFine (K : PySem.W.Frag) : Sp := spQ K (fun _ : Unit => []) (fun _ => True) (fun _ d => ∃ mn, d = .str mn ∧ mn ∈ mans)
theorem ok_fine {f fD : Addr} {fd fdD : FuncData} (Fn : Fun K "_law_fine" "_law_fine" s_law_fine f fd) (T : Tx mg)
    (F_law_draw : Fun K "_law_draw" "_law_draw" s_law_draw fD fdD) (b_law_draw : Binds K fdD ["_law_pot_here", "_law_many_here"] []) (g_law_draw : mg "_law_draw" = some (.ref fD)) : FnOk P w K mg base CX0 2 f fd ["_law_pot_here"] (spFine K) := by
  have G_law_draw : FnOk P w K mg base CX0 1 fD fdD ["_law_pot_here", "_law_many_here"] (spDraw K) := ok_draw F_law_draw T
  refine Fn.ok sc_law_fine (spQ.len (n := 0) (fun _ => rfl)) (fun cdv A outer s H vs Q E hr h => ?_)
  obtain ⟨q, _, F, as, rfl, _, e, g, ha, k⟩ := h
  cases ha
  refine ⟨_, (pss_one (ps_ret (pe_ix (o_ixL (K := K)) (pe_lst (pa_cons pe_str (pa_cons pe_str (pa_cons pe_str pa_nil)))) (pe_call G_law_draw (hr.mono (by decide)) (by rfl) g_law_draw F_law_draw.kp b_law_draw .nil pass0 (pa_cons (pv 0) (pa_cons pe_int pa_nil))) (fun _ _ => rfl)))), ?_⟩
  exact t_ret (K := K) (R := fun d => ∃ mn, d = .str mn ∧ mn ∈ mans) (Step.refl e g) (g_pick (ds := manD) (c := 3) (g_lstI (gs_consI g_str (gs_consI g_str (gs_consI g_str gs_nil))) (by decide)) (g_callP (m := 3) rfl g_int (by decide)) (by decide) fun d hd => by obtain ⟨mn, h1, rfl⟩ := List.mem_map.mp hd; exact ⟨mn, rfl, h1⟩) fun d v F2 H2 hd s2 hv2 => k d v F2 H2 hd s2 hv2
abbrev spWay (K : PySem.W.Frag) : Sp := spQ K (fun r : List Int => [dT r]) (fun r => r.length ≤ 1000) (fun r d => ∃ b, d = rowS b r)
theorem ok_way {f fD : Addr} {fd fdD : FuncData} (Fn : Fun K "_law_way" "_law_way" s_law_way f fd) (T : Tx mg)
    (F_law_draw : Fun K "_law_draw" "_law_draw" s_law_draw fD fdD) (b_law_draw : Binds K fdD ["_law_pot_here", "_law_many_here"] []) (g_law_draw : mg "_law_draw" = some (.ref fD)) : FnOk P w K mg base CX0 2 f fd ["_law_pot_here", "_law_row"] (spWay K) := by
  have G_law_draw : FnOk P w K mg base CX0 1 fD fdD ["_law_pot_here", "_law_many_here"] (spDraw K) := ok_draw F_law_draw T
  refine Fn.ok sc_law_way (spQ.len (n := 1) (fun _ => rfl)) (fun cdv A outer s H vs Q E hr h => ?_)
  obtain ⟨q, r, F, as, rfl, hz, e, g, ha, k⟩ := h
  obtain ⟨v, rfl, hv⟩ := rpAll1 ha
  refine ⟨_, (pss_one (ps_ret (pe_ifExp (e_truth (K := K) (pe_call G_law_draw (hr.mono (by decide)) (by rfl) g_law_draw F_law_draw.kp b_law_draw .nil pass0 (pa_cons (pv 0) (pa_cons pe_int pa_nil)))) (pe_callTy (c_list (K := K)) (by rfl) T.list (by decide +kernel) (pa_cons (pv 1) pa_nil)) (pe_callTy (c_tup (K := K)) (by rfl) T.tuple (by decide +kernel) (pa_cons (pv 1) pa_nil))))), ?_⟩
  refine t_ret (K := K) (Step.refl e g) (g_ifR (et_truR (g_callP (m := 2) rfl g_int (by decide))) ((g_cbI (gs_one (g_var rfl hv)) (rc_list (.inr rfl))).imp fun d hd => ?_) ((g_cbI (gs_one (g_var rfl hv)) rc_tupT).imp fun d hd => ?_)) fun d v F2 H2 hd s2 hv2 => k d v F2 H2 hd s2 hv2
  · exact ⟨true, hd⟩
  · exact ⟨false, hd⟩
abbrev spNearW (K : PySem.W.Frag) : Sp := PSp K (fun i : (List Int × List Int) × List (List Int) × Str => [dT i.1.1, dT i.1.2, dLT i.2.1, .str i.2.2]) (fun i => i.1.1.length ≤ 5 ∧ i.1.2.length = i.1.1.length) (fun i => .bool (nearW i.2.2 i.2.1 i.1.1 i.1.2))
theorem ok_nearW {f fE fD fC : Addr} {fd fdE fdD fdC : FuncData} (Fn : Fun K "_law_near" "_law_near" s_law_near f fd) (T : Tx mg)
    (F_law_covers : Fun K "_law_covers" "_law_covers" s_law_covers fC fdC) (b_law_covers : Binds K fdC ["_law_n", "_law_lots_here"] []) (g_law_covers : mg "_law_covers" = some (.ref fC))
    (F_law_differ : Fun K "_law_differ" "_law_differ" s_law_differ fD fdD) (b_law_differ : Binds K fdD ["_law_one", "_law_other"] []) (g_law_differ : mg "_law_differ" = some (.ref fD))
    (F_law_lets : Fun K "_law_lets" "_law_lets" s_law_lets fE fdE) (b_law_lets : Binds K fdE ["_law_lots_here", "_law_lot_here"] []) (g_law_lets : mg "_law_lets" = some (.ref fE)) : FnOk P w K mg base CX0 2 f fd ["_law_one", "_law_other", "_law_lots_here", "_law_manner"] (spNearW K) := by
  have G_law_lets : FnOk P w K mg base CX0 1 fE fdE ["_law_lots_here", "_law_lot_here"] (spLets K) := ok_lets F_law_lets T
  have G_law_differ : FnOk P w K mg base CX0 1 fD fdD ["_law_one", "_law_other"] (spDiffer K) := ok_differ F_law_differ T
  have G_law_covers : FnOk P w K mg base CX0 1 fC fdC ["_law_n", "_law_lots_here"] (spCovers K) := ok_covers F_law_covers T
  refine Fn.ok sc_law_near (PSp.len (fun _ => rfl)) (fun cdv A outer s H vs Q E hr h => ?_)
  obtain ⟨⟨⟨a, b⟩, lots, mn⟩, F, ⟨hz, hl⟩, e, ha, q⟩ := h
  replace hz : a.length ≤ 5 := hz
  replace hl : b.length = a.length := hl
  obtain ⟨y, v, x, u, rfl, hy, hv, hx, hu⟩ := rpAll4 ha
  refine ⟨_, (pss_cons (ps_if (pt_cmpR (o_eqD (K := K) hr.units) (pv 0) (pv 1) (nomark _)) (pss_one (ps_ret pe_bl)) pss_nil)
    (pss_cons (ps_if (PW.pt (pw_and (pt_cmpR op_eq (pv 3) pe_str (nomark _)) (pw_and1 (pt_val (pe_call G_law_covers (hr.mono (by decide)) (by rfl) g_law_covers F_law_covers.kp b_law_covers .nil pass0 (pa_cons (pe_callB (c_len (K := K)) (by rfl) T.len (by decide +kernel) (pa_cons (pv 0) pa_nil)) (pa_cons (pv 2) pa_nil))))))) (pss_one (ps_ret pe_bl)) pss_nil)
    (pss_one (ps_ret (pe_call G_law_lets (hr.mono (by decide)) (by rfl) g_law_lets F_law_lets.kp b_law_lets .nil pass0 (pa_cons (pv 2) (pa_cons (pe_call G_law_differ (hr.mono (by decide)) (by rfl) g_law_differ F_law_differ.kp b_law_differ .nil pass0 (pa_cons (pv 0) (pa_cons (pv 1) pa_nil))) pa_nil))))))), ?_⟩
  refine t_when (b := decide (a = b)) (Step.refl e .nil) ((et_of (g_opI (g_var rfl hy) (g_var rfl hv) (rv_eqD (shaped_dT a) (shaped_dT b)))).is (by rw [eqv_dT])) (fun hb F2 H2 s2 e2 => ?_) (fun hb F2 H2 s2 e2 => ?_)
  · refine t_retI (K := K) s2 g_bl fun v3 F3 H3 s3 hv3 => q v3 F3 H3 s3 ?_
    show Rp K F3 v3 (.bool (nearW mn lots a b))
    unfold nearW
    rw [hb]; exact hv3
  refine t_when (b := decide (mn = ("letters" : Str)) && coversOf a.length lots) s2 (et_and (b := coversOf a.length lots) (et_of (g_opI (g_var rfl (Rp.mono e2 _ _ hu)) g_str rv_eqS)) fun _ => et_B (g_call (a.length, lots) (gs_two (g_cbI (gs_one (g_var rfl (Rp.mono e2 _ _ hy))) rc_lenT |>.is (by rw [List.length_map])) (g_var rfl (Rp.mono e2 _ _ hx))) rfl hz)) (fun hc F3 H3 s3 e3 => ?_) fun hc F3 H3 s3 e3 => ?_
  · refine t_retI (K := K) s3 g_bl fun v4 F4 H4 s4 hv4 => q v4 F4 H4 s4 ?_
    show Rp K F4 v4 (.bool (nearW mn lots a b))
    unfold nearW
    rw [hb, hc]; exact hv4
  refine t_retI (K := K) s3 (g_call (lots, differ a b) (gs_two (g_var rfl (Rp.mono (e2.trans e3) _ _ hx)) (g_call (a, b) (gs_two (g_var rfl (Rp.mono (e2.trans e3) _ _ hy)) (g_var rfl (Rp.mono (e2.trans e3) _ _ hv))) rfl ⟨by show a.length ≤ 1000; omega, hl⟩)) rfl ?_) fun v4 F4 H4 s4 hv4 => q v4 F4 H4 s4 ?_
  · show (differ a b).length ≤ 50000
    have : (differ a b).length ≤ a.length := Nat.le_trans (List.length_filter_le _ _) (by rw [hs_len]; exact Nat.le_refl _)
    omega
  · show Rp K F4 v4 (.bool (nearW mn lots a b))
    unfold nearW
    rw [hb, hc]; exact hv4
/-- range(len(x)) of a list -/
theorem w_lenL {ds : List PyData} {n : Nat} (h : EvG K pt te σ F (Is (.list ds))) (hn : ds.length = n) (hz : n ≤ 100000) : WiG K pt (iRng1 (tCons (tCB (Fv.rLen K) (tCons te tNil)) tNil)) σ F (· = (List.range n).map natD) := by
  have := w_rng1I (K := K) (pt := pt) (σ := σ) (F := F) (n := (n : Int)) (gs_one ((g_cbI (gs_one h) rc_lenL).is (by rw [hn]))) (by omega) (by omega)
  rw [show (n : Int).toNat = n by omega, rng_nat] at this
  exact this
theorem g_ixRow {rows : List (List Int)} {k : Nat} (h : EvG K pt ta σ F (Is (dLT rows))) (hi : EvG K pt tb σ F (Is (natD k))) (hk : k < rows.length) : EvG K pt (tOp (rIxL K) ta tb) σ F (Is (dT (rows.getD k []))) :=
  g_opI h hi (rv_ixL (atI_nat (by rw [List.getElem?_map, List.getD_eq_getElem?_getD, List.getElem?_eq_getElem hk]; rfl)))
abbrev spWeb (K : PySem.W.Frag) : Sp := PSp K (fun i : List (List Int) × List (List Int) × Str => [dLT i.1, dLT i.2.1, .str i.2.2]) (fun i => ∃ n, n ≤ 5 ∧ i.1.length ≤ 300 ∧ ∀ r ∈ i.1, r.length = n) (fun i => .list ((webOf i.2.2 i.2.1 i.1).map dNs))
theorem ok_web {f fN : Addr} {fd fdN : FuncData} (Fn : Fun K "_law_web" "_law_web" s_law_web f fd) (T : Tx mg)
    (F_law_near : Fun K "_law_near" "_law_near" s_law_near fN fdN) (b_law_near : Binds K fdN ["_law_one", "_law_other", "_law_lots_here", "_law_manner"] []) (g_law_near : mg "_law_near" = some (.ref fN)) (G_law_near : FnOk P w K mg base CX0 2 fN fdN ["_law_one", "_law_other", "_law_lots_here", "_law_manner"] (spNearW K)) :
    FnOk P w K mg base CX0 3 f fd ["_law_rows", "_law_lots_here", "_law_manner"] (spWeb K) := by
  refine Fn.ok sc_law_web (PSp.len (fun _ => rfl)) (fun cdv A outer s H vs Q E hr h => ?_)
  obtain ⟨⟨rows, lots, mn⟩, F, ⟨n, hn, hz, hrow⟩, e, ha, q⟩ := h
  replace hz : rows.length ≤ 300 := hz
  obtain ⟨y, v, x, rfl, hy, hv, hx⟩ := rpAll3 ha
  refine ⟨_, (pss_one (ps_ret (pe_lc (own := [("_law_k", 3)]) (g := gName 3) rfl sc_law_web.nd (pi_range1 (by rfl) T.range (pa_cons (pe_callB (c_len (K := K)) (by rfl) T.len (by decide +kernel) (pa_cons (pv 0) pa_nil)) pa_nil)) (blkOk_by (own := [("_law_k", 3)]) (N := ["_law_rows", "_law_lots_here", "_law_manner", "_law_k", "_law_j"]) (sc := (defScope s_law_web)) (by decide +kernel)) (fun _ _ _ _ _ => pg_name (i := 3) sc_law_web.nd rfl (by first | exact Or.inl rfl | exact Or.inr rfl)) (fun _ _ _ _ _ => pts_nil) (fun _ _ _ _ _ => (pe_lc (own := [("_law_j", 4)]) (g := gName 4) rfl sc_law_web.nd (pi_range1 (by rfl) T.range (pa_cons (pe_callB (c_len (K := K)) (by rfl) T.len (by decide +kernel) (pa_cons (pv 0) pa_nil)) pa_nil)) (blkOk_by (own := [("_law_j", 4)]) (N := ["_law_rows", "_law_lots_here", "_law_manner", "_law_k", "_law_j"]) (by rfl)) (fun _ _ _ _ _ => pg_name (i := 4) sc_law_web.nd rfl (by first | exact Or.inl rfl | exact Or.inr rfl)) (fun _ _ _ _ _ => (pts_one (pt_val (pe_call G_law_near (hr.mono (by decide)) (by rfl) g_law_near F_law_near.kp b_law_near .nil pass0 (pa_cons (pe_ix (o_ixL (K := K)) (pv 0) (pv 3) (fun _ _ => rfl)) (pa_cons (pe_ix (o_ixL (K := K)) (pv 0) (pv 4) (fun _ _ => rfl)) (pa_cons (pv 1) (pa_cons (pv 2) pa_nil)))))))) (fun _ _ _ _ _ => (pv 4))))))), ?_⟩
  have hl : ∀ k, k < rows.length → (rows.getD k []).length = n := fun k hk => hrow _ (by rw [List.getD_eq_getElem?_getD, List.getElem?_eq_getElem hk]; exact List.getElem_mem hk)
  refine t_retI (K := K) (Step.refl e .nil) (EvG.is (g_lcEM natD (List.range rows.length) (fun k => dNs (webRow mn lots rows k)) (w_lenL (g_var rfl hy) (by rw [List.length_map]) (by omega)) (by rw [List.length_range]; omega) (fun _ => rfl) (fun k hk F' e' u hu => ?_)) (congrArg PyData.list (List.map_map (f := webRow mn lots rows) (g := dNs) (l := List.range rows.length)).symm)) q
  have hk := List.mem_range.mp hk
  refine EvG.is (g_lcE natD (List.range rows.length) (fun j => nearW mn lots (rows.getD k []) (rows.getD j [])) natD (w_lenL (g_var rfl (Rp.mono e' _ _ hy)) (by rw [List.length_map]) (by omega)) (by rw [List.length_range]; omega) (fun _ => rfl) (fun j hj F'' e'' z hz => ?_) (fun j hj _ F'' e'' z hz => g_var rfl hz)) rfl
  have hj := List.mem_range.mp hj
  have e2 := e'.trans e''
  exact et_B (g_call ((rows.getD k [], rows.getD j []), lots, mn) (gs_consI (g_ixRow (g_var rfl (Rp.mono e2 _ _ hy)) (g_var rfl (Rp.mono e'' _ _ hu)) hk) (gs_consI (g_ixRow (g_var rfl (Rp.mono e2 _ _ hy)) (g_var rfl hz) hj) (gs_two (g_var rfl (Rp.mono e2 _ _ hv)) (g_var rfl (Rp.mono e2 _ _ hx))))) rfl ⟨by show (rows.getD k []).length ≤ 5; rw [hl k hk]; exact hn, by show (rows.getD j []).length = (rows.getD k []).length; rw [hl k hk, hl j hj]⟩)
end
end KJ
namespace KJ
open PySem PySem.Spec PyProof.Rows L2 L2H Fv Evl StX
abbrev s_law_longer_chains : Stmt := topS 61
theorem sc_law_longer_chains : FnScope ["_law_web_here", "_law_chains_here", "_law_met", "_law_longer", "_law_chain", "_law_j"] ["_law_web_here", "_law_chains_here", "_law_met"] (defScope s_law_longer_chains) := ⟨rfl, rfl, rfl, by decide +kernel, rfl, by decide +kernel, by decide +kernel⟩
abbrev s_law_chains : Stmt := topS 60
theorem sc_law_chains : FnScope ["_law_web_here", "_law_start", "_law_goal", "_law_chains_here", "_law_met", "_law_turn", "_law_ends", "_law_chain"] ["_law_web_here", "_law_start", "_law_goal"] (defScope s_law_chains) := ⟨rfl, rfl, rfl, by decide +kernel, rfl, by decide +kernel, by decide +kernel⟩
abbrev Ch := List Nat
def lastN (c : Ch) : Nat := c.getLast?.getD 0
def longer1 (web : List (List Nat)) (met : List Nat) (c : Ch) : List Ch := ((web.getD (lastN c) []).filter fun j => !decide (j ∈ met)).map fun j => c ++ [j]
def longerOf (web : List (List Nat)) (met : List Nat) (cs : List Ch) : List Ch := cs.flatMap (longer1 web met)
def stC (web : List (List Nat)) (st : List Ch × List Nat) : List Ch × List Nat := (longerOf web st.2 st.1, st.2 ++ (longerOf web st.2 st.1).map lastN)
def stAt (web : List (List Nat)) (s : Nat) : Nat → List Ch × List Nat
  | 0 => ([[s]], [s])
  | t + 1 => stC web (stAt web s t)
def endsOf (g : Nat) (cs : List Ch) : List Ch := cs.filter fun c => decide (lastN c = g)
/-- the first turn at which some chain ends there -/
def chainsTo (web : List (List Nat)) (s g : Nat) (t : Nat) : List Ch := match (List.range t).find? fun i => !(endsOf g (stAt web s i).1).isEmpty with
  | some i => endsOf g (stAt web s i).1
  | none => []
/-- the chains stay few -/
def FewC (web : List (List Nat)) (s : Nat) : Prop := (web.length ≤ 300 ∧ ∀ r ∈ web, r.length ≤ 300) ∧ ∀ t ≤ web.length, (stAt web s t).1.length ≤ 10000 ∧ (stAt web s t).2.length ≤ 50000 ∧ ∀ c ∈ (stAt web s t).1, c ≠ [] ∧ c.length ≤ 1000 ∧ lastN c < web.length
theorem chain_last {c : Ch} (h : c ≠ []) : ∃ pre, c = pre ++ [lastN c] := by
  refine ⟨c.dropLast, ?_⟩
  unfold lastN
  rw [List.getLast?_eq_some_getLast h]
  exact (List.dropLast_concat_getLast h).symm
section
variable {P : Program} {w : World} {K : PySem.W.Frag} {mg : Str → Option Value} {base : Heap}
variable {pt : Option Pt} {σ : L2.St} {F F' F0 H0 H : Hp} {te ta tb : TE} {ts tr : TA} {D : Ends} {tz : TS} {n : Nat}
theorem rv_ninNs {i : Nat} {ns : List Nat} : RvG K (rIn K true) (natD i) (dNs ns) (Is (.bool (!decide (i ∈ ns)))) := rv_val fun F H x y e hx hy => by
  obtain ⟨a, xs, rfl, hl, ha⟩ := rp_lst hy
  have e1 : xs = (ns.map fun k : Nat => (k : Int)).map V.int := rpAll_ints (ns := ns.map fun k : Nat => (k : Int)) (by rw [List.map_map]; exact ha)
  subst e1
  rw [rp_int hx]
  refine ⟨_, fun Q q => ⟨a, _, rfl, .inl (sq_of (e _ _ hl)), rfl, flat_ints _, q⟩, ?_⟩
  rw [inV_ints]
  have : decide ((i : Int) ∈ ns.map fun k : Nat => (k : Int)) = decide (i ∈ ns) := decide_eq_decide.mpr ⟨fun h => by
    obtain ⟨k, hk, ek⟩ := List.mem_map.mp h
    have : k = i := by omega
    rw [← this]; exact hk, fun h => List.mem_map.mpr ⟨i, h, rfl⟩⟩
  rw [this]; exact .bl _
theorem g_lastC {c : Ch} (hc : c ≠ []) (h : EvG K pt te σ F (Is (dNs c))) : EvG K pt (tOp (rIxL K) te (tUn (rU fun i => .int (-i)) (tC (.int 1)))) σ F (Is (natD (lastN c))) := by
  obtain ⟨pre, e⟩ := chain_last hc
  refine g_opI h (g_negI g_int) (rv_ixL ?_)
  have : c.map natD = pre.map natD ++ [natD (lastN c)] := by
    conv => lhs; rw [e]
    rw [List.map_append]; rfl
  rw [this]
  exact atI_last
def spLonger (K : PySem.W.Frag) : Sp := PSp K (fun i : List (List Nat) × List Ch × List Nat => [.list (i.1.map dNs), .list (i.2.1.map dNs), dNs i.2.2]) (fun i => ((∀ r ∈ i.1, r.length ≤ 300) ∧ ∀ c ∈ i.2.1, c ≠ [] ∧ c.length ≤ 1000 ∧ lastN c < i.1.length) ∧ i.2.1.length ≤ 10000 ∧ (longerOf i.1 i.2.2 i.2.1).length ≤ 10000) (fun i => .list ((longerOf i.1 i.2.2 i.2.1).map dNs))
theorem ok_longer {f : Addr} {fd : FuncData} (Fn : Fun K "_law_longer_chains" "_law_longer_chains" s_law_longer_chains f fd) (T : Tx mg) : FnOk P w K mg base CX0 1 f fd ["_law_web_here", "_law_chains_here", "_law_met"] (spLonger K) := by
  refine Fn.ok sc_law_longer_chains (PSp.len (fun _ => rfl)) (fun cdv A outer s H vs Q E hr h => ?_)
  obtain ⟨⟨web, cs, met⟩, F, ⟨⟨hw, hcs⟩, hz, hl⟩, e, ha, q⟩ := h
  dsimp only at hw hcs hz hl
  obtain ⟨y, v, x, rfl, hy, hv, hx⟩ := rpAll3 ha
  refine ⟨_, (pss_cons (ps_set (i := 3) sc_law_longer_chains.nd rfl (by first | exact Or.inl rfl | exact Or.inr rfl) (pe_lst pa_nil))
    (pss_cons (ps_for PassesOwn.never rfl (i_list (K := K) (pv 1)) (pg_name (i := 4) sc_law_longer_chains.nd rfl (by first | exact Or.inl rfl | exact Or.inr rfl)) (pss_one (ps_for PassesOwn.never rfl (i_list (K := K) (pe_ix (o_ixL (K := K)) (pv 0) (pe_ix (o_ixL (K := K)) (pv 4) (pe_un un_neg pe_int) (fun _ _ => rfl)) (fun _ _ => rfl))) (pg_name (i := 5) sc_law_longer_chains.nd rfl (by first | exact Or.inl rfl | exact Or.inr rfl)) (pss_one (ps_if (pt_cmpR (o_notIn (K := K)) (pv 5) (pv 2) (by rfl)) (pss_one (ps_expr (pe_bm PySem.F.plainAttrs_list PySem.F.slot_list_append PySem.F.type_list_append mt_append (pv 3) (pa_cons (pe_op op_cat (pv 4) (pe_lst (pa_cons (pv 5) pa_nil))) pa_nil)))) pss_nil)))))
    (pss_one (ps_ret (pv 3))))), ?_⟩
  have g0 : Good none F H := .nil
  have pre_le : ∀ i, (longerOf web met (cs.take i)).length ≤ 10000 := fun i => by
    refine Nat.le_trans ?_ hl
    unfold longerOf
    conv => rhs; rw [← List.take_append_drop i cs, List.flatMap_append]
    rw [List.length_append]; omega
  refine t_newLO (Own.nil (.refl e .nil)) fun l H1 w1 => ?_
  refine t_forO (K := K) (RS := (· = cs.map dNs)) g0 w1 (w_listI (g_var rfl hv)) (fun ds i σ' F' L' => (∃ a b, σ' = [some y, some v, some x, some (.ref l), a, b]) ∧ ∃ o, L' = [(l, o)] ∧ LstO K F' o ((longerOf web met (cs.take i)).map dNs)) (fun ds hds F2 e2 => ⟨⟨_, _, rfl⟩, _, rfl, ⟨[], rfl, .nil⟩⟩) (fun ds hds i d hd σ' F' H' L' u hI w' e' hu N hN => ?_) (fun ds hds σ' F' H' L' hI w' e' => ?_)
  · subst hds
    obtain ⟨⟨a, b, rfl⟩, o, rfl, lo⟩ := hI
    obtain ⟨c, hc, rfl⟩ := get_map hd
    have hcm := List.mem_of_getElem? hc
    obtain ⟨c1, c2, c3⟩ := hcs c hcm
    have hrow : (web.getD (lastN c) []).length ≤ 300 := by
      rw [List.getD_eq_getElem?_getD, List.getElem?_eq_getElem c3]
      exact hw _ (List.getElem_mem c3)
    have hnx : longerOf web met (cs.take (i + 1)) = longerOf web met (cs.take i) ++ longer1 web met c := by
      rw [take_succA hc]
      unfold longerOf
      rw [List.flatMap_append]
      simp
    have hlen2 := pre_le (i + 1)
    rw [hnx, List.length_append] at hlen2
    have gw : EvG K none (tOp (rIxL K) (tVar 0) (tOp (rIxL K) (tVar 4) (tUn (rU fun i => .int (-i)) (tC (.int 1))))) [some y, some v, some x, some (.ref l), some u, b] F' (Is (dNs (web.getD (lastN c) []))) := g_opI (g_var rfl (Rp.mono e' _ _ hy)) (g_lastC c1 (g_var rfl hu)) (rv_ixL (atI_nat (by rw [List.getElem?_map, List.getD_eq_getElem?_getD, List.getElem?_eq_getElem c3]; rfl)))
    refine t_forO1 (K := K) (RS := (· = (web.getD (lastN c) []).map natD)) g0 w' (w_listI gw) (fun ds j σ' F2 L' => (∃ b, σ' = [some y, some v, some x, some (.ref l), some u, b]) ∧ Ex F' F2 ∧ ∃ o, L' = [(l, o)] ∧ LstO K F2 o ((longerOf web met (cs.take i) ++ (((web.getD (lastN c) []).take j).filter fun j => !decide (j ∈ met)).map fun j => c ++ [j]).map dNs)) (fun ds hds F2 e2 => ⟨⟨_, rfl⟩, e2, o, rfl, ?_⟩) (fun ds hds j d hd σ2 F2 H2 L2 u2 hI w2 e2 hu2 N2 hN2 => ?_) (fun ds hds σ2 F2 H2 L2 hI w2 e2 => ?_)
    · simpa using lo.mono e2
    · subst hds
      obtain ⟨⟨b2, rfl⟩, e22, o2, rfl, lo2⟩ := hI
      obtain ⟨k, hk, rfl⟩ := get_map hd
      have ex2 := Own.seeEx g0 w2
      have hpart : ((((web.getD (lastN c) []).take j).filter fun j => !decide (j ∈ met)).map fun j => c ++ [j]).length ≤ 300 := by
        rw [List.length_map]
        refine Nat.le_trans (List.length_filter_le _ _) ?_
        rw [List.length_take]; omega
      refine t_ifO1 (b := !decide (k ∈ met)) g0 w2 (et_of (K := K) (g_opI (g_var rfl (Rp.mono ex2 _ _ hu2)) (g_var (i := 2) rfl (Rp.mono (e'.trans (e22.trans ex2)) _ _ hx)) rv_ninNs)) (fun hb F3 H3 w3 e3 => ?_) (fun hb F3 H3 w3 e3 => ?_)
      · refine t_appO1 (K := K) (R := Is (dNs (c ++ [k]))) 0 g0 w3 rfl (lo2.mono e3) rfl (EvG.is (g_opI (g_var rfl (Rp.mono (e22.trans e3) _ _ hu)) (g_lstI (gs_one (g_var rfl (Rp.mono e3 _ _ hu2))) (by show 1 ≤ 100000; omega)) (rv_cat (by rw [List.length_map]; show c.length + 1 ≤ 100000; omega))) (by show PyData.list _ = PyData.list ((c ++ [k]).map natD); rw [List.map_append]; rfl)) (by rw [List.length_map, List.length_append]; have := pre_le i; omega) fun d o3 F4 H4 hd4 w4 lo4 e4 => ?_
        refine hN2 _ F4 H4 _ ⟨⟨_, rfl⟩, e22.trans (e3.trans e4), o3, rfl, ?_⟩ w4 (e3.trans e4)
        rw [take_succA hk, List.filter_append, List.filter_cons, hb, if_pos rfl, List.filter_nil]
        rw [show d = _ from hd4] at lo4
        have ee : ∀ (A : List Ch) (X : List Nat), (A ++ (X ++ [k]).map fun j => c ++ [j]).map dNs = (A ++ X.map fun j => c ++ [j]).map dNs ++ [dNs (c ++ [k])] := fun A X => by
          rw [List.map_append (f := fun j => c ++ [j]), ← List.append_assoc, List.map_append (f := dNs)]; rfl
        rw [ee]
        exact lo4
      · refine hN2 _ F3 H3 _ ⟨⟨_, rfl⟩, e22.trans e3, o2, rfl, ?_⟩ w3 e3
        rw [take_succA hk, List.filter_append, List.filter_cons, hb, if_neg (by decide), List.filter_nil, List.append_nil]
        exact lo2.mono e3
    · subst hds
      obtain ⟨⟨b2, rfl⟩, e22, o2, rfl, lo2⟩ := hI
      rw [List.length_map, List.take_length] at lo2
      refine hN _ F2 H2 _ ⟨⟨_, _, rfl⟩, o2, rfl, ?_⟩ w2 e2
      rw [hnx]; exact lo2
  · subst hds
    obtain ⟨⟨a, b, rfl⟩, o, rfl, lo⟩ := hI
    rw [List.length_map, List.take_length] at lo
    obtain ⟨F2, s2, e2, dn⟩ := w'.done g0
    have hl2 : F2 l = some o := dn (l, o) (by simp)
    exact ⟨_, rfl, q (.ref l) F2 H' s2 ((lo.mono e2).rp hl2)⟩
end
end KJ
namespace KJ
open PySem PySem.Spec PyProof.Rows L2 L2H Fv Evl StX
section
variable {P : Program} {w : World} {K : PySem.W.Frag} {mg : Str → Option Value} {base : Heap}
variable {pt : Option Pt} {σ : L2.St} {F F' F0 H0 H : Hp} {te ta tb : TE} {ts tr : TA} {D : Ends} {tz : TS} {n : Nat}
theorem rv_eqNn {i j : Nat} : RvG K rEq (natD i) (natD j) (Is (.bool (decide (i = j)))) := rv_val fun F H x y _ hx hy => by
  rw [rp_int hx, rp_int hy]
  refine ⟨.bl (decide (V.int (i : Int) = V.int (j : Int))), fun Q q => ⟨rfl, q⟩, ?_⟩
  have : decide (V.int (i : Int) = V.int (j : Int)) = decide (i = j) := decide_eq_decide.mpr ⟨fun h => by injection h with h; omega, fun h => by rw [h]⟩
  rw [this]; exact .bl _
def spChains (K : PySem.W.Frag) : Sp := PSp K (fun i : List (List Nat) × Nat × Nat => [.list (i.1.map dNs), natD i.2.1, natD i.2.2]) (fun i => FewC i.1 i.2.1) (fun i => .list ((chainsTo i.1 i.2.1 i.2.2 i.1.length).map dNs))
theorem to_snoc {web : List (List Nat)} {s g t : Nat} (h : ∀ i < t, endsOf g (stAt web s i).1 = []) : chainsTo web s g t = [] ∧ (endsOf g (stAt web s t).1 ≠ [] → ∀ m, t < m → chainsTo web s g m = endsOf g (stAt web s t).1) := by
  have none_ : ∀ t, (∀ i < t, endsOf g (stAt web s i).1 = []) → (List.range t).find? (fun i => !(endsOf g (stAt web s i).1).isEmpty) = none := fun t h => by
    rw [List.find?_eq_none]
    intro i hi
    rw [h i (List.mem_range.mp hi)]
    decide
  refine ⟨?_, fun hne m hm => ?_⟩
  · unfold chainsTo
    rw [none_ t h]
  · unfold chainsTo
    have e : List.range m = List.range t ++ t :: (List.range (m - t - 1)).map (fun k => t + 1 + k) := by
      have h1 : m = t + (1 + (m - t - 1)) := by omega
      conv => lhs; rw [h1]
      rw [List.range_add, List.range_add (n := 1)]
      simp
      intro a _
      omega
    rw [e, List.find?_append, none_ t h, Option.none_or, List.find?_cons_of_pos (by
      cases hh : endsOf g (stAt web s t).1 with
      | nil => exact absurd hh hne
      | cons a b => rfl)]
theorem ok_chains {f fL : Addr} {fd fdL : FuncData} (Fn : Fun K "_law_chains" "_law_chains" s_law_chains f fd) (T : Tx mg)
    (F_law_longer_chains : Fun K "_law_longer_chains" "_law_longer_chains" s_law_longer_chains fL fdL) (b_law_longer_chains : Binds K fdL ["_law_web_here", "_law_chains_here", "_law_met"] []) (g_law_longer_chains : mg "_law_longer_chains" = some (.ref fL)) : FnOk P w K mg base CX0 2 f fd ["_law_web_here", "_law_start", "_law_goal"] (spChains K) := by
  have G_law_longer_chains : FnOk P w K mg base CX0 1 fL fdL ["_law_web_here", "_law_chains_here", "_law_met"] (spLonger K) := ok_longer F_law_longer_chains T
  refine Fn.ok sc_law_chains (PSp.len (fun _ => rfl)) (fun cdv A outer s0 H vs Q E hr h => ?_)
  obtain ⟨⟨web, s, g⟩, F, ⟨⟨hwl, hwr⟩, hfew⟩, e, ha, q⟩ := h
  dsimp only at hwl hwr hfew
  obtain ⟨y, v, x, rfl, hy, hv, hx⟩ := rpAll3 ha
  refine ⟨_, (pss_cons (ps_set (i := 3) sc_law_chains.nd rfl (by first | exact Or.inl rfl | exact Or.inr rfl) (pe_lst (pa_cons (pe_lst (pa_cons (pv 1) pa_nil)) pa_nil)))
    (pss_cons (ps_set (i := 4) sc_law_chains.nd rfl (by first | exact Or.inl rfl | exact Or.inr rfl) (pe_lst (pa_cons (pv 1) pa_nil)))
    (pss_cons (ps_for PassesOwn.never rfl (pi_range1 (by rfl) T.range (pa_cons (pe_callB (c_len (K := K)) (by rfl) T.len (by decide +kernel) (pa_cons (pv 0) pa_nil)) pa_nil)) (pg_name (i := 5) sc_law_chains.nd rfl (by first | exact Or.inl rfl | exact Or.inr rfl)) (pss_cons (ps_setLc (i := 6) (own := [("_law_chain", 7)]) (g := gName 7) rfl sc_law_chains.nd rfl rfl (sw_true rfl rfl rfl (by decide +kernel)) (i_list (K := K) (pv 3)) (blkOk_by (own := [("_law_chain", 7)]) (N := ["_law_web_here", "_law_start", "_law_goal", "_law_chains_here", "_law_met", "_law_turn", "_law_ends", "_law_chain"]) (sc := (defScope s_law_chains)) (by decide +kernel)) (fun _ _ _ _ _ => pg_name (i := 7) sc_law_chains.nd rfl (by first | exact Or.inl rfl | exact Or.inr rfl)) (fun _ _ _ _ _ => (pts_one (pt_cmpR op_eq (pe_ix (o_ixL (K := K)) (pv 7) (pe_un un_neg pe_int) (fun _ _ => rfl)) (pv 2) (nomark _)))) (fun _ _ _ _ _ => (pv 7)))
    (pss_cons (ps_if (e_truth (K := K) (pv 6)) (pss_one (ps_ret (pv 6))) pss_nil)
    (pss_cons (ps_set (i := 3) sc_law_chains.nd rfl (by first | exact Or.inl rfl | exact Or.inr rfl) (pe_call G_law_longer_chains (hr.mono (by decide)) (by rfl) g_law_longer_chains F_law_longer_chains.kp b_law_longer_chains .nil pass0 (pa_cons (pv 0) (pa_cons (pv 3) (pa_cons (pv 4) pa_nil)))))
    (pss_one (ps_set (i := 4) sc_law_chains.nd rfl (by first | exact Or.inl rfl | exact Or.inr rfl) (pe_op op_cat (pv 4) (pe_lc (own := [("_law_chain", 7)]) (g := gName 7) rfl sc_law_chains.nd (i_list (K := K) (pv 3)) (blkOk_by (own := [("_law_chain", 7)]) (N := ["_law_web_here", "_law_start", "_law_goal", "_law_chains_here", "_law_met", "_law_turn", "_law_ends", "_law_chain"]) (sc := (defScope s_law_chains)) (by decide +kernel)) (fun _ _ _ _ _ => pg_name (i := 7) sc_law_chains.nd rfl (by first | exact Or.inl rfl | exact Or.inr rfl)) (fun _ _ _ _ _ => pts_nil) (fun _ _ _ _ _ => (pe_ix (o_ixL (K := K)) (pv 7) (pe_un un_neg pe_int) (fun _ _ => rfl)))))))))))
    (pss_one (ps_ret (pe_lst pa_nil)))))), ?_⟩
  refine t_asgI (K := K) (d := .list ([[s]].map dNs)) (Step.refl e .nil) (g_lstI (gs_one (g_lstI (gs_one (g_var rfl hv)) (by show 1 ≤ 100000; omega))) (by show 1 ≤ 100000; omega)) fun cv F1 H1 s1 e1 hcv => ?_
  refine t_asgI (K := K) (d := dNs [s]) s1 (g_lstI (gs_one (g_var rfl (Rp.mono e1 _ _ hv))) (by show 1 ≤ 100000; omega)) fun mv F2 H2 s2 e2 hmv => ?_
  have e02 := e1.trans e2
  refine t_for (K := K) (ds := (List.range web.length).map natD) s2 (w_lenL (g_var rfl (Rp.mono e02 _ _ hy)) (by rw [List.length_map]) (by omega)) (fun t σ' F' => ∃ cv mv a b c, σ' = [some y, some v, some x, some cv, some mv, a, b, c] ∧ Rp K F' cv (.list ((stAt web s t).1.map dNs)) ∧ Rp K F' mv (dNs (stAt web s t).2) ∧ ∀ i < t, endsOf g (stAt web s i).1 = []) (fun F3 e3 => ⟨cv, mv, _, _, _, rfl, Rp.mono (e2.trans e3) _ _ hcv, Rp.mono e3 _ _ hmv, fun i hi => by omega⟩) (fun t d hd σ' F' H' u hI s' e' hu N hN => ?_) (fun σ' F' H' hI s' e' => ?_)
  · obtain ⟨cv, mv, a, b, c, rfl, hcv, hmv, hno⟩ := hI
    have ht : t < web.length := by
      have := (List.getElem?_eq_some_iff.mp hd).1
      rwa [List.length_map, List.length_range] at this
    obtain ⟨f1, f2, f3⟩ := hfew t (by omega)
    obtain ⟨k1, k2, k3⟩ := hfew (t + 1) (by omega)
    have e0' := e02.trans e'
    refine t_asgI (K := K) (d := .list ((endsOf g (stAt web s t).1).map dNs)) s' (g_lcE dNs (stAt web s t).1 (fun c => decide (lastN c = g)) dNs (w_listI (g_var rfl hcv)) (by omega) (fun _ => rfl) (fun c hc F3 e3 z hz => et_of (K := K) (g_opI (g_lastC (f3 c hc).1 (g_var rfl hz)) (g_var (i := 2) rfl (Rp.mono (e0'.trans e3) _ _ hx)) rv_eqNn)) (fun c hc _ F3 e3 z hz => g_var rfl hz)) fun ev F3 H3 s3 e3 hev => ?_
    refine t_when (b := !(((endsOf g (stAt web s t).1).map dNs).isEmpty)) s3 (et_truL (g_var rfl hev)) (fun hb F4 H4 s4 e4 => ?_) fun hb F4 H4 s4 e4 => ?_
    · refine t_retI (K := K) s4 (g_var rfl (Rp.mono e4 _ _ hev)) fun v' F5 H5 s5 hv5 => q v' F5 H5 s5 ?_
      have hne : endsOf g (stAt web s t).1 ≠ [] := fun z => by rw [z] at hb; exact Bool.noConfusion hb
      show Rp K F5 v' (.list ((chainsTo web s g web.length).map dNs))
      rw [(to_snoc hno).2 hne _ ht]; exact hv5
    · have hem : endsOf g (stAt web s t).1 = [] := by
        cases hh : endsOf g (stAt web s t).1 with
        | nil => rfl
        | cons a b => rw [hh] at hb; exact Bool.noConfusion hb
      have e04 := e0'.trans (e3.trans e4)
      refine t_asgI (K := K) (d := .list ((longerOf web (stAt web s t).2 (stAt web s t).1).map dNs)) s4 (g_call (web, (stAt web s t).1, (stAt web s t).2) (gs_consI (g_var rfl (Rp.mono e04 _ _ hy)) (gs_two (g_var rfl (Rp.mono (e3.trans e4) _ _ hcv)) (g_var rfl (Rp.mono (e3.trans e4) _ _ hmv)))) rfl ⟨⟨hwr, f3⟩, f1, k1⟩) fun cv2 F5 H5 s5 e5 hcv2 => ?_
      refine t_asg1 (K := K) (R := Is (dNs (stAt web s (t + 1)).2)) s5 (EvG.is (g_opI (g_var rfl (Rp.mono (e3.trans (e4.trans e5)) _ _ hmv)) (g_lcEM dNs (longerOf web (stAt web s t).2 (stAt web s t).1) (fun c => natD (lastN c)) (w_listI (g_var rfl hcv2)) (by have : (longerOf web (stAt web s t).2 (stAt web s t).1).length ≤ 10000 := k1; omega) (fun _ => rfl) (fun c hc F6 e6 z hz => g_lastC (k3 c hc).1 (g_var rfl hz))) (rv_cat (by
        rw [List.length_map, List.length_map]
        have : (longerOf web (stAt web s t).2 (stAt web s t).1).length ≤ 10000 := k1
        omega))) ?_) fun d2 mv2 F6 H6 hd2 s6 e6 hmv2 => ?_
      · show PyData.list _ = PyData.list (((stAt web s t).2 ++ (longerOf web (stAt web s t).2 (stAt web s t).1).map lastN).map natD)
        rw [List.map_append, List.map_map]; rfl
      · rw [show d2 = _ from hd2] at hmv2
        refine hN _ F6 H6 ⟨cv2, mv2, _, _, _, rfl, Rp.mono e6 _ _ hcv2, hmv2, fun i hi => ?_⟩ s6 (e3.trans (e4.trans (e5.trans e6)))
        rcases Nat.lt_succ_iff_lt_or_eq.mp hi with z | z
        · exact hno i z
        · rw [z]; exact hem
  · obtain ⟨cv, mv, a, b, c, rfl, hcv, hmv, hno⟩ := hI
    rw [List.length_map, List.length_range] at hno
    refine t_retI (K := K) (d := .list []) s' (g_lstI gs_nil (by show 0 ≤ 100000; omega)) fun v' F5 H5 s5 hv5 => q v' F5 H5 s5 ?_
    show Rp K F5 v' (.list ((chainsTo web s g web.length).map dNs))
    rw [(to_snoc hno).1]; exact hv5
end
end KJ
namespace KJ
open PySem PySem.Spec PyProof.Rows L2 L2H Fv Evl StX
abbrev s_law_walks : Stmt := topS 52
theorem sc_law_walks : FnScope ["_law_pot_here", "_law_n", "_law_m", "_law_lots_here", "_law_most", "_law_rows", "_law_turn", "_law_near_here", "_law_lot_here", "_law_house"] ["_law_pot_here", "_law_n", "_law_m", "_law_lots_here", "_law_most"] (defScope s_law_walks) := ⟨rfl, rfl, rfl, by decide +kernel, rfl, by decide +kernel, by decide +kernel⟩
section
variable {P : Program} {w : World} {K : PySem.W.Frag} {mg : Str → Option Value} {base : Heap}
variable {pt : Option Pt} {σ : L2.St} {F F' F0 H0 H : Hp} {te ta tb : TE} {ts tr : TA} {t : TT} {D : Ends} {tz : TS} {n : Nat} {L : List Own1} {R : PD}
theorem g_ifXR {b : Bool} (h : EtG pt t σ F (· = b)) (ha : b = true → EvG K pt ta σ F R) (hb : b = false → EvG K pt tb σ F R) : EvG K pt (tIf t ta tb) σ F R := fun H1 i g Q q => h H1 i g _ fun c F2 H2 hc s => by
  subst hc
  cases c with
  | true => exact (ha rfl).mono s.sub H2 s.inn s.good Q fun d v F3 H3 hd s3 hv => q d v F3 H3 hd (s.trans s3) hv
  | false => exact (hb rfl).mono s.sub H2 s.inn s.good Q fun d v F3 H3 hd s3 hv => q d v F3 H3 hd (s.trans s3) hv
theorem et_draw0 {S : Int → Prop} (h : EvG K pt te σ F (fun d => ∃ k : Int, d = .int k ∧ S k)) : EtG pt (tTest (tOp rEq te (tC (.int 0)))) σ F (fun _ => True) := fun H1 i g Q q => h H1 i g _ fun d v F2 H2 ⟨k, hd, _⟩ s hv => by
  subst hd
  rw [rp_int hv]
  exact ⟨rfl, _, rfl, q _ F2 H2 trivial s⟩
/-- x = [e], drawn -/
theorem t_new1O {i : Nat} (g0 : Good pt F0 H0) (w : Own pt F0 H0 F H L) (h : EvG K pt te σ F R) (q : ∀ d l o F2 H2, R d → Own pt F0 H0 F2 H2 (L ++ [(l, o)]) → LstO K F2 o [d] → Ex F F2 → tz D (σ.set i (some (.ref l))) H2) : tSeq (tAsg (tLst (tCons te tNil)) (gName i)) tz D σ H :=
  h H w.step.inn w.step.good _ fun d v F2 H2 hd s hv => ⟨sz_of (by show 1 ≤ 100000; omega), fun l hl => q d l _ F2 _ hd ((w.run g0 s).new hl fun ys z => by cases z) ⟨[v], rfl, .cons hv .nil⟩ s.sub⟩
/-- x = list(e), a row, e reads what is one's own -/
theorem t_listO {i : Nat} {S : List Int → Prop} (g0 : Good pt F0 H0) (w : Own pt F0 H0 F H L) (h : EvG K pt te σ (putAll L F) (fun d => ∃ r, d = dT r ∧ S r)) (q : ∀ r l F2 H2, S r → Own pt F0 H0 F2 H2 (L ++ [(l, .lst (r.map V.int))]) → Ex F F2 → tz D (σ.set i (some (.ref l))) H2) : tSeq (tAsg (tCB (rList K) (tCons te tNil)) (gName i)) tz D σ H :=
  t_evO (Q := fun v H1 => rList K [v] H1 fun z H2 => gName i z σ H2 (tz D)) g0 w h (fun d ⟨r, hd, _⟩ => by rw [hd]; exact nl_dT r) fun d v F2 H2 ⟨r, hd, hS⟩ w2 e2 hv => by
    subst hd
    obtain ⟨a, xs, rfl, hl, ha⟩ := rp_tup hv
    have e1 := rpAll_ints ha
    subst e1
    exact ⟨a, _, rfl, .inr (tx w2.step.inn hl), fun p hp => q r p F2 _ hS (w2.new hp fun ys z => by cases z) e2⟩
theorem w_rng0 {c : Int} (hc : c ≤ 100) (h : EvG K pt te σ F (fun d => ∃ k : Int, d = .int k ∧ 0 ≤ k ∧ k < c)) : WiG K pt (iRng1 (tCons te tNil)) σ F (fun l => l.length + 1 ≤ c.toNat) := fun H1 i g RR q =>
  w_rng1 (R0 := fun ds => ∃ k : Int, ds = [.int k] ∧ 0 ≤ k ∧ k < c) (fun H1 i g Q q => g_consR h H1 i g Q fun ds vs F2 H2 ⟨d, hd, k, hk, k0, k1⟩ s hv => q ds vs F2 H2 ⟨k, by rw [hd, hk], k0, k1⟩ s hv)
    (fun ds ⟨k, e, k0, k1⟩ => ⟨_, e, by omega, by omega⟩) H1 i g RR fun ds J F2 H2 ⟨n, ⟨k, e, k0, k1⟩, hl⟩ => q ds J F2 H2 (by
      show ds.length + 1 ≤ c.toNat
      rw [hl, rng_len]
      have : n = k := by simpa using e
      omega)
abbrev WalkOk (n m : Nat) (lots : List (List Int)) : Prop := (2 ≤ n ∧ n ≤ 5) ∧ (1 ≤ m ∧ m ≤ 4) ∧ lots.length ≤ 100 ∧ ∀ l ∈ lots, ∀ k ∈ l, 0 ≤ k ∧ k < (n : Int)
abbrev spWalks (K : PySem.W.Frag) : Sp := spQ K (fun i : Nat × Nat × List (List Int) => [.int i.1, .int i.2.1, dLT i.2.2, .int 7]) (fun i => WalkOk i.1 i.2.1 i.2.2) (fun i d => ∃ R : List (List Int), d = dLT R ∧ Asc R ∧ R.length ≤ 7 ∧ ∀ r ∈ R, Row i.1 i.2.1 r)
theorem ok_walks {f fD fE fU : Addr} {fd fdD fdE fdU : FuncData} (Fn : Fun K "_law_walks" "_law_walks" s_law_walks f fd) (T : Tx mg)
    (F_law_draw : Fun K "_law_draw" "_law_draw" s_law_draw fD fdD) (b_law_draw : Binds K fdD ["_law_pot_here", "_law_many_here"] []) (g_law_draw : mg "_law_draw" = some (.ref fD))
    (F_law_entry : Fun K "_law_entry" "_law_entry" s_law_entry fE fdE) (b_law_entry : Binds K fdE ["_law_pot_here", "_law_n", "_law_m"] []) (g_law_entry : mg "_law_entry" = some (.ref fE))
    (F_law_unlike : Fun K "_law_unlike" "_law_unlike" s_law_unlike fU fdU) (b_law_unlike : Binds K fdU ["_law_rows"] []) (g_law_unlike : mg "_law_unlike" = some (.ref fU)) :
    FnOk P w K mg base CX0 3 f fd ["_law_pot_here", "_law_n", "_law_m", "_law_lots_here", "_law_most"] (spWalks K) := by
  have G_law_draw : FnOk P w K mg base CX0 1 fD fdD ["_law_pot_here", "_law_many_here"] (spDraw K) := ok_draw F_law_draw T
  have G_law_entry : FnOk P w K mg base CX0 2 fE fdE ["_law_pot_here", "_law_n", "_law_m"] (spEntry K) := ok_entry F_law_entry T F_law_draw b_law_draw g_law_draw
  have G_law_unlike : FnOk P w K mg base CX0 1 fU fdU ["_law_rows"] (spUq K) := ok_uq F_law_unlike T
  refine Fn.ok sc_law_walks (spQ.len (n := 4) (fun _ => rfl)) (fun cdv A outer s0 H vs Q E hr h => ?_)
  obtain ⟨pq, ⟨n, m, lots⟩, F, as, rfl, ⟨hn, hm, hlots, hin⟩, e, g, ha, k⟩ := h
  obtain ⟨vn, vm, lv, v7, rfl, hvn, hvm, hlv, hv7⟩ := rpAll4 ha
  obtain rfl := rp_int hvn
  obtain rfl := rp_int hvm
  obtain rfl := rp_int hv7
  refine ⟨_, (pss_cons (ps_set (i := 5) sc_law_walks.nd rfl (by first | exact Or.inl rfl | exact Or.inr rfl) (pe_lst (pa_cons (pe_call G_law_entry (hr.mono (by decide)) (by rfl) g_law_entry F_law_entry.kp b_law_entry .nil pass0 (pa_cons (pv 0) (pa_cons (pv 1) (pa_cons (pv 2) pa_nil)))) pa_nil)))
    (pss_cons (ps_for PassesOwn.never rfl (pi_range1 (by rfl) T.range (pa_cons (pe_call G_law_draw (hr.mono (by decide)) (by rfl) g_law_draw F_law_draw.kp b_law_draw .nil pass0 (pa_cons (pv 0) (pa_cons (pv 4) pa_nil))) pa_nil)) (pg_name (i := 6) sc_law_walks.nd rfl (by first | exact Or.inl rfl | exact Or.inr rfl)) (pss_cons (ps_set (i := 7) sc_law_walks.nd rfl (by first | exact Or.inl rfl | exact Or.inr rfl) (pe_callTy (c_list (K := K)) (by rfl) T.list (by decide +kernel) (pa_cons (pe_ix (o_ixL (K := K)) (pv 5) (pe_call G_law_draw (hr.mono (by decide)) (by rfl) g_law_draw F_law_draw.kp b_law_draw .nil pass0 (pa_cons (pv 0) (pa_cons (pe_callB (c_len (K := K)) (by rfl) T.len (by decide +kernel) (pa_cons (pv 5) pa_nil)) pa_nil))) (fun _ _ => rfl)) pa_nil)))
    (pss_cons (ps_set (i := 8) sc_law_walks.nd rfl (by first | exact Or.inl rfl | exact Or.inr rfl) (pe_ifExp (e_truth (K := K) (pv 3)) (pe_ix (o_ixL (K := K)) (pv 3) (pe_call G_law_draw (hr.mono (by decide)) (by rfl) g_law_draw F_law_draw.kp b_law_draw .nil pass0 (pa_cons (pv 0) (pa_cons (pe_callB (c_len (K := K)) (by rfl) T.len (by decide +kernel) (pa_cons (pv 3) pa_nil)) pa_nil))) (fun _ _ => rfl)) (pe_tup pa_nil)))
    (pss_cons (ps_if (pt_cmpR op_eq (pe_call G_law_draw (hr.mono (by decide)) (by rfl) g_law_draw F_law_draw.kp b_law_draw .nil pass0 (pa_cons (pv 0) (pa_cons pe_int pa_nil))) pe_int (nomark _)) (pss_one (ps_set (i := 8) sc_law_walks.nd rfl (by first | exact Or.inl rfl | exact Or.inr rfl) (pe_tupRg rfl (by rfl) T.tuple (prg_1 (by rfl) T.range (pv 1))))) pss_nil)
    (pss_cons (ps_for PassesOwn.never rfl (i_tup (K := K) (pv 8)) (pg_name (i := 9) sc_law_walks.nd rfl (by first | exact Or.inl rfl | exact Or.inr rfl)) (pss_one (ps_asg (pe_call G_law_draw (hr.mono (by decide)) (by rfl) g_law_draw F_law_draw.kp b_law_draw .nil pass0 (pa_cons (pv 0) (pa_cons (pv 2) pa_nil))) (pg_sub (pv 7) (pv 9) set_list))))
    (pss_one (ps_expr (pe_bm PySem.F.plainAttrs_list PySem.F.slot_list_append PySem.F.type_list_append mt_append (pv 5) (pa_cons (pe_callTy (c_tup (K := K)) (by rfl) T.tuple (by decide +kernel) (pa_cons (pv 7) pa_nil)) pa_nil)))))))))
    (pss_cons (ps_if (pt_cmpR op_eq (pe_call G_law_draw (hr.mono (by decide)) (by rfl) g_law_draw F_law_draw.kp b_law_draw .nil pass0 (pa_cons (pv 0) (pa_cons pe_int pa_nil))) pe_int (nomark _)) (pss_one (ps_set (i := 5) sc_law_walks.nd rfl (by first | exact Or.inl rfl | exact Or.inr rfl) (pe_lst pa_nil))) pss_nil)
    (pss_one (ps_ret (pe_call G_law_unlike (hr.mono (by decide)) (by rfl) g_law_unlike F_law_unlike.kp b_law_unlike .nil pass0 (pa_cons (pv 5) pa_nil))))))), ?_⟩
  have drw : ∀ {σ : L2.St} {F : Hp} {c : Nat} {te : TE} {E : XK}, σ[0]? = some (some (.ref pq.p)) → EvG K (some pq) te σ F (Is (.int (c : Nat))) → 1 ≤ c → c ≤ 1000 → EvG K (some pq) (tCall (spDraw K) [] E (tCons (tVar 0) (tCons te tNil))) σ F (fun d => ∃ k : Int, d = .int k ∧ 0 ≤ k ∧ k < (c : Int)) := fun h0 h h1 h2 => g_callP h0 h ⟨by omega, by omega⟩
  obtain ⟨n2, n5⟩ := hn
  obtain ⟨m1, m4⟩ := hm
  dsimp only at n2 n5 m1 m4 hlots hin hlv
  have fin : ∀ (σ : L2.St) (F1 H1 : Hp) (l : Addr) (o : HO) (L : List Own1) (rs : List (List Int)) (E : XK), Own (some pq) F H F1 H1 L → (l, o) ∈ L → σ[5]? = some (some (.ref l)) → LstO K F1 o (rs.map dT) → rs.length ≤ 7 → (∀ r ∈ rs, Row n m r) → tRet (tCall (spUq K) [] E (tCons (tVar 5) tNil)) ({ nx := fun _ H' => Q .non H', rt := Q } : Ends) σ H1 := fun σ F1 H1 l o L rs E w1 hm0 h5 lo hz hrow => by
    obtain ⟨F2, s2, e2, dn⟩ := w1.done g
    exact ⟨_, h5, n, rs, F2, .ref l, rfl, ⟨by omega, by omega, fun r hr => (hrow r hr).bd m4⟩, s2.inn, (lo.mono e2).rp (dn _ hm0), fun R u F3 H3 hR hmem s3 hu => k _ u F3 H3 ⟨R, rfl, hR, Nat.le_trans (nd_le hR.nd fun r hr => (hmem r).mp hr) hz, fun r hr => hrow r ((hmem r).mp hr)⟩ (s2.trans (s3.lift s2.good)) hu⟩
  refine t_new1O (K := K) (R := fun d => ∃ r : List Int, d = dT r ∧ Row n m r) g (Own.nil (.refl e g)) ((g_callQ (n, m) rfl (gs_two (g_var (v := .int n) (i := 1) rfl (.int _)) (g_var (v := .int m) (i := 2) rfl (.int _))) rfl ⟨by show n ≤ 100; omega, m1, by show m ≤ 100; omega⟩).imp fun d ⟨r, hd, h1, h2⟩ => ⟨r, hd, h1, h2⟩) fun d0 ra oR F1 H1 ⟨r0, hd0, hr0⟩ w1 l1 e1 => ?_
  subst hd0
  refine t_forO (K := K) g w1 (w_rng0 (c := 7) (by omega) (drw (c := 7) rfl (g_var (v := .int 7) (i := 4) rfl (.int _)) (by omega) (by omega))) (fun ds t σ' F' L' => (∃ a b c d, σ' = [some (.ref pq.p), some (.int n), some (.int m), some lv, some (.int 7), some (.ref ra), a, b, c, d]) ∧ ∃ oR rows, L' = [(ra, oR)] ∧ LstO K F' oR (rows.map dT) ∧ rows ≠ [] ∧ rows.length ≤ t + 1 ∧ ∀ r ∈ rows, Row n m r) (fun ds hds F2 e2 => ⟨⟨_, _, _, _, rfl⟩, oR, [r0], rfl, l1.mono e2, by simp, by simp, fun r hr => by rw [List.mem_singleton.mp hr]; exact hr0⟩) (fun ds hds t d hd σ' F' H' L' u hI w' e' hu N hN => ?_) (fun ds hds σ' F' H' L' hI w' e' => ?_)
  · obtain ⟨⟨a, b, c, d', rfl⟩, oR, rows, rfl, lo, hne, hlen, hrows⟩ := hI
    have ht : t < 6 := by
      have h1 := (List.getElem?_eq_some_iff.mp hd).1
      have h2 : ds.length + 1 ≤ (7 : Int).toNat := hds
      have : (7 : Int).toNat = 7 := rfl
      omega
    have rpos : 1 ≤ rows.length := List.length_pos_iff.mpr hne
    have ex0 := Own.seeEx g w'
    have see : putAll [(ra, oR)] F' ra = some oR := Own.see (k := 0) w' rfl
    have hrp := (lo.mono ex0).rp see
    refine t_listO (K := K) (S := Row n m) g w' (g_pick (ds := rows.map dT) (c := rows.length) (g_var (i := 5) rfl hrp) (drw rfl ((g_cbI (gs_one (g_var (i := 5) rfl hrp)) rc_lenL).is (by rw [List.length_map])) rpos (by omega)) (by rw [List.length_map]; omega) fun d hd => by obtain ⟨r, hr, rfl⟩ := List.mem_map.mp hd; exact ⟨r, rfl, hrows r hr⟩) fun r na F2 H2 hr w2 e2 => ?_
    have e12 : Ex F F2 := e1.trans (e'.trans e2)
    have hlv2 := Rp.mono e12 _ _ hlv
    refine t_asgF (K := K) (R := fun d => ∃ l : List Int, d = dT l ∧ ∀ k ∈ l, 0 ≤ k ∧ k < (n : Int)) g w2 (g_ifXR (et_truL (g_var (i := 3) rfl hlv2)) (fun hb => ?_) (fun hb => ?_)) fun d lotv F3 H3 ⟨lot, hdl, hlot⟩ w3 e3 hlotv => ?_
    · have lpos : 1 ≤ lots.length := by
        rw [List.isEmpty_map] at hb
        cases lots with
        | nil => exact Bool.noConfusion hb
        | cons a b => simp
      exact g_pick (ds := lots.map dT) (c := lots.length) (g_var (i := 3) rfl hlv2) (drw rfl ((g_cbI (gs_one (g_var (i := 3) rfl hlv2)) rc_lenL).is (by rw [List.length_map])) lpos (by omega)) (by rw [List.length_map]; omega) fun d hd => by obtain ⟨l, hl, rfl⟩ := List.mem_map.mp hd; exact ⟨l, rfl, hin l hl⟩
    · exact (g_tupI gs_nil (by show 0 ≤ 100000; omega)).imp fun d hd => ⟨[], hd, fun k hk => (List.not_mem_nil hk).elim⟩
    subst hdl
    refine t_ifJO (fun σ3 F4 L4 => ∃ lot4 l4, σ3 = [some (.ref pq.p), some (.int n), some (.int m), some lv, some (.int 7), some (.ref ra), some u, some (.ref na), some lot4, d'] ∧ L4 = [(ra, oR), (na, .lst (r.map V.int))] ∧ Ex F3 F4 ∧ Rp K F4 lot4 (dT l4) ∧ ∀ k ∈ l4, 0 ≤ k ∧ k < (n : Int)) g w3 (et_draw0 (drw (c := 3) rfl g_int (by omega) (by omega))) (fun _ F4 H4 w4 e4 N4 hN4 => ?_) (fun _ F4 H4 w4 e4 N4 hN4 => ?_) fun σ3 F4 H4 L4 hJ w4 => ?_
    · refine t_asgF1 (K := K) (R := Is (dT (hs n))) g w4 ((g_tupR1 (n := (n : Int)) (g_var (v := .int n) (i := 1) rfl (.int _)) (by omega) (by omega)).is ?_) fun d5 v5 F5 H5 hd5 w5 e5 hv5 => hN4 _ F5 H5 _ ⟨v5, hs n, rfl, rfl, e4.trans e5, by rw [show d5 = _ from hd5] at hv5; exact hv5, fun k hk => by
        have hk2 : ∃ a, a < n ∧ ((a : Nat) : Int) = k := by simpa [hs] using hk
        obtain ⟨a, h1, rfl⟩ := hk2
        omega⟩ w5
      rw [show (n : Int).toNat = n by omega, rng_hs]
    · exact hN4 _ F4 H4 _ ⟨lotv, lot, rfl, rfl, e4, Rp.mono e4 _ _ hlotv, hlot⟩ w4
    obtain ⟨lot4, l4, rfl, rfl, e4, hl4, hin4⟩ := hJ
    refine t_forO (K := K) (RS := (· = l4.map PyData.int)) g w4 (w_tupI (g_var (i := 8) rfl hl4)) (fun ds j σ' F5 L' => (∃ d, σ' = [some (.ref pq.p), some (.int n), some (.int m), some lv, some (.int 7), some (.ref ra), some u, some (.ref na), some lot4, d]) ∧ Ex F4 F5 ∧ ∃ r, L' = [(ra, oR), (na, .lst (r.map V.int))] ∧ Row n m r) (fun ds hds F5 e5 => ⟨⟨_, rfl⟩, e5, r, rfl, hr⟩) (fun ds hds j d hd σ5 F5 H5 L5 hv hI w5 e5 hhv N5 hN5 => ?_) (fun ds hds σ5 F5 H5 L5 hI w5 e5 => ?_)
    · subst hds
      obtain ⟨⟨d5, rfl⟩, e45, r5, rfl, hr5⟩ := hI
      obtain ⟨hh, hhm, rfl⟩ := get_map hd
      obtain rfl := rp_int hhv
      obtain ⟨h0, h1⟩ := hin4 hh (List.mem_of_getElem? hhm)
      obtain ⟨jj, rfl⟩ : ∃ jj : Nat, hh = (jj : Int) := ⟨hh.toNat, by omega⟩
      refine t_setLO1 (K := K) (R := fun d => ∃ k : Int, d = .int k ∧ 0 ≤ k ∧ k < (m : Int)) (j := jj) 1 g w5 rfl rfl (drw rfl (g_var (v := .int m) (i := 2) rfl (.int _)) m1 (by omega)) (fun d ⟨k, hd, _⟩ => by rw [hd]; rfl) (g_var (v := .int (jj : Int)) (i := 9) rfl (.int _)) (by rw [List.length_map, hr5.1]; omega) fun d6 v6 F6 H6 ⟨kk, hd6, k0, k1⟩ w6 e6 hv6 => ?_
      subst hd6
      obtain rfl := rp_int hv6
      refine hN5 _ F6 H6 _ ⟨⟨_, rfl⟩, e45.trans e6, r5.set jj kk, ?_, by rw [List.length_set]; exact hr5.1, fun x hx => ?_⟩ w6 e6
      · show [(ra, oR), (na, HO.lst ((r5.map V.int).set jj (.int kk)))] = _
        rw [List.map_set]
      · rcases List.mem_or_eq_of_mem_set hx with h | h
        · exact hr5.2 x h
        · rw [h]; exact ⟨k0, k1⟩
    · subst hds
      obtain ⟨⟨d5, rfl⟩, e45, r5, rfl, hr5⟩ := hI
      have e35 := e3.trans (e4.trans e45)
      have ex5 := Own.seeEx g w5
      have see5 : putAll [(ra, oR), (na, HO.lst (r5.map V.int))] F5 na = some (.lst (r5.map V.int)) := Own.see (k := 1) w5 rfl
      refine t_appV1 (K := K) (R := Is (dT r5)) 0 g w5 rfl (lo.mono (e2.trans e35)) rfl (g_cbI (gs_one (g_var (i := 7) rfl (.lst see5 (rpAll_of_ints r5)))) rc_tupL) (fun d hd => by rw [show d = _ from hd]; exact nl_dT r5) (by rw [List.length_map]; omega) fun d6 o6 F6 H6 hd6 w6 l6 e6 => ?_
      obtain ⟨w7, ex7⟩ := w6.cut (L1 := [(na, HO.lst (r5.map V.int))]) (L2 := [(ra, o6)]) g (by
        have := w6.nd
        simp only [List.set_cons_zero, List.map_cons, List.map_nil, List.nodup_cons, List.mem_cons, List.cons_append, List.nil_append, List.not_mem_nil, not_false_eq_true, and_true, List.nodup_nil, or_false] at this ⊢
        exact fun e => this e.symm) (fun p hp => by simp at hp; subst hp; simp) (fun p hp => by simp at hp; subst hp; simp)
      refine hN _ _ H6 _ ⟨⟨_, _, _, _, rfl⟩, o6, rows ++ [r5], rfl, ?_, by simp, by rw [List.length_append]; show rows.length + 1 ≤ _; omega, fun r hr => ?_⟩ w7 (e2.trans (e35.trans (e6.trans ex7)))
      · rw [show d6 = _ from hd6] at l6
        rw [List.map_append]
        exact l6.mono ex7
      · rcases List.mem_append.mp hr with h | h
        · exact hrows r h
        · rw [List.mem_singleton.mp h]; exact hr5
  · obtain ⟨⟨a, b, c, d', rfl⟩, oR, rows, rfl, lo, hne, hlen, hrows⟩ := hI
    have h2 : ds.length + 1 ≤ (7 : Int).toNat := hds
    have h7 : (7 : Int).toNat = 7 := rfl
    refine t_ifJO (fun σ3 F4 L4 => ∃ l o rs, (l, o) ∈ L4 ∧ σ3[5]? = some (some (.ref l)) ∧ LstO K F4 o (rs.map dT) ∧ rs.length ≤ 7 ∧ ∀ r ∈ rs, Row n m r) g w' (et_draw0 (drw (c := 9) rfl g_int (by omega) (by omega))) (fun _ F4 H4 w4 e4 N4 hN4 => ?_) (fun _ F4 H4 w4 e4 N4 hN4 => ?_) fun σ3 F4 H4 L4 ⟨l, o, rs, h1, h5, lo4, hz, hrow⟩ w4 => fin σ3 F4 H4 l o L4 rs _ w4 h1 h5 lo4 hz hrow
    · exact ⟨Nat.zero_le _, fun l hl => hN4 _ F4 _ _ ⟨l, .lst [], [], by simp, rfl, ⟨[], rfl, .nil⟩, by simp, fun r hr => (List.not_mem_nil hr).elim⟩ (w4.new hl fun ys z => by cases z)⟩
    · exact hN4 _ F4 H4 _ ⟨ra, oR, rows, by simp, rfl, lo.mono e4, by omega, hrows⟩ w4
end
end KJ
namespace KJ
open PySem PySem.Spec PyProof.Rows L2 L2H Fv Evl StX
/-! ### the mathematics of ways -/
theorem lastN_snoc (c : Ch) (j : Nat) : lastN (c ++ [j]) = j := by unfold lastN; rw [List.getLast?_concat]; rfl
/-- a way from k, step by step beside one another -/
inductive WayN (web : List (List Nat)) (k : Nat) : Ch → Prop
  | one : WayN web k [k]
  | step {c : Ch} {j : Nat} : WayN web k c → j ∈ web.getD (lastN c) [] → WayN web k (c ++ [j])
theorem WayN.ne {web : List (List Nat)} {k : Nat} {c : Ch} (h : WayN web k c) : c ≠ [] := by cases h <;> simp
theorem mem_longer {web : List (List Nat)} {met : List Nat} {cs : List Ch} {x : Ch} : x ∈ longerOf web met cs ↔ ∃ c ∈ cs, ∃ j ∈ web.getD (lastN c) [], j ∉ met ∧ x = c ++ [j] := by
  unfold longerOf longer1
  simp only [List.mem_flatMap, List.mem_map, List.mem_filter]
  constructor
  · rintro ⟨c, hc, j, ⟨h1, h2⟩, rfl⟩
    exact ⟨c, hc, j, h1, by simpa using h2, rfl⟩
  · rintro ⟨c, hc, j, h1, h2, rfl⟩
    exact ⟨c, hc, j, ⟨h1, by simpa using h2⟩, rfl⟩
/-- what the chains of a turn are -/
theorem st_sound (web : List (List Nat)) (k : Nat) : ∀ t, (∀ c ∈ (stAt web k t).1, WayN web k c ∧ c.length = t + 1 ∧ c.Nodup ∧ ∀ x ∈ c, x ∈ (stAt web k t).2) ∧ ∀ x ∈ (stAt web k t).2, ∃ c, WayN web k c ∧ c.length ≤ t + 1 ∧ lastN c = x
  | 0 => ⟨fun c hc => by
      have : c = [k] := by simpa [stAt] using hc
      subst this
      exact ⟨.one, rfl, by simp, fun x hx => hx⟩, fun x hx => by
      have : x = k := by simpa [stAt] using hx
      subst this
      exact ⟨[x], .one, by simp, rfl⟩⟩
  | t + 1 => by
    obtain ⟨h1, h2⟩ := st_sound web k t
    have hc : ∀ c ∈ (stAt web k (t + 1)).1, WayN web k c ∧ c.length = t + 1 + 1 ∧ c.Nodup ∧ ∀ x ∈ c, x ∈ (stAt web k (t + 1)).2 := fun x hx => by
      obtain ⟨c, hc, j, hj, hnm, rfl⟩ := mem_longer.mp (show x ∈ longerOf web (stAt web k t).2 (stAt web k t).1 from hx)
      obtain ⟨a1, a2, a3, a4⟩ := h1 c hc
      refine ⟨.step a1 hj, by rw [List.length_append, a2]; rfl, ?_, fun y hy => ?_⟩
      · rw [List.nodup_append]
        exact ⟨a3, by simp, fun y hy z hz e => by
          have : z = j := by simpa using hz
          rw [this] at e; subst e
          exact hnm (a4 y hy)⟩
      · show y ∈ (stAt web k t).2 ++ (longerOf web (stAt web k t).2 (stAt web k t).1).map lastN
        rw [List.mem_append]
        rcases List.mem_append.mp hy with z | z
        · exact .inl (a4 y z)
        · have : y = j := by simpa using z
          subst this
          exact .inr (List.mem_map.mpr ⟨c ++ [y], hx, lastN_snoc c y⟩)
    refine ⟨hc, fun x hx => ?_⟩
    rcases List.mem_append.mp (show x ∈ (stAt web k t).2 ++ (longerOf web (stAt web k t).2 (stAt web k t).1).map lastN from hx) with z | z
    · obtain ⟨c, b1, b2, b3⟩ := h2 x z
      exact ⟨c, b1, by omega, b3⟩
    · obtain ⟨c, hc2, rfl⟩ := List.mem_map.mp z
      obtain ⟨b1, b2, _⟩ := hc c hc2
      exact ⟨c, b1, by omega, rfl⟩
/-- each shortest way is among them -/
theorem st_all (web : List (List Nat)) (k : Nat) : ∀ t c, WayN web k c → c.length = t + 1 → (∀ c', WayN web k c' → lastN c' = lastN c → t + 1 ≤ c'.length) → c ∈ (stAt web k t).1
  | 0, c, h, hl, _ => by
    cases h with
    | one => simp [stAt]
    | @step c j h1 h2 =>
      have := List.length_pos_iff.mpr h1.ne
      rw [List.length_append] at hl
      have h3 : [j].length = 1 := rfl
      omega
  | t + 1, c, h, hl, hm => by
    cases h with
    | one => simp at hl
    | @step c j h1 h2 =>
      rw [List.length_append] at hl
      have hl1 : c.length = t + 1 := by simpa using hl
      refine mem_longer.mpr ⟨c, st_all web k t c h1 hl1 fun c' hc' e => ?_, j, h2, fun hj => ?_, rfl⟩
      · have := hm (c' ++ [j]) (.step hc' (by rw [e]; exact h2)) (by rw [lastN_snoc, lastN_snoc])
        rw [List.length_append] at this
        simp at this
        omega
      · obtain ⟨c', b1, b2, b3⟩ := (st_sound web k t).2 j hj
        have := hm c' b1 (by rw [b3, lastN_snoc])
        omega
/-- a web of few -/
structure WebOk (web : List (List Nat)) : Prop where
  few : web.length ≤ 7
  row : ∀ r ∈ web, r.Nodup ∧ ∀ j ∈ r, j < web.length
theorem WebOk.get {web : List (List Nat)} (h : WebOk web) (i : Nat) : (web.getD i []).Nodup ∧ ∀ j ∈ web.getD i [], j < web.length := by
  by_cases z : i < web.length
  · rw [List.getD_eq_getElem?_getD, List.getElem?_eq_getElem z]
    exact h.row _ (List.getElem_mem z)
  · rw [List.getD_eq_getElem?_getD, List.getElem?_eq_none (by omega)]
    exact ⟨List.nodup_nil, fun j hj => by cases hj⟩
theorem WayN.lt {web : List (List Nat)} (ok : WebOk web) {k : Nat} (hk : k < web.length) {c : Ch} (h : WayN web k c) : ∀ x ∈ c, x < web.length := by
  induction h with
  | one => intro x hx; rw [List.mem_singleton.mp hx]; exact hk
  | @step c j h1 h2 ih =>
    intro x hx
    rcases List.mem_append.mp hx with z | z
    · exact ih x z
    · rw [List.mem_singleton.mp z]; exact (ok.get _).2 j h2
def cntB (N : Nat) : Nat → Nat
  | 0 => 1
  | t + 1 => cntB N t * (N - (t + 1))
theorem cnt_few : ∀ N ∈ List.range 8, ∀ t ∈ List.range 9, cntB N t ≤ 1000 := by decide +kernel
theorem st_count {web : List (List Nat)} (ok : WebOk web) {k : Nat} (hk : k < web.length) : ∀ t, (stAt web k t).1.length ≤ cntB web.length t
  | 0 => by simp [stAt, cntB]
  | t + 1 => by
    have ih := st_count ok hk t
    have each : ∀ c ∈ (stAt web k t).1, (longer1 web (stAt web k t).2 c).length ≤ web.length - (t + 1) := fun c hc => by
      obtain ⟨a1, a2, a3, a4⟩ := (st_sound web k t).1 c hc
      unfold longer1
      rw [List.length_map]
      have nd : ((web.getD (lastN c) []).filter (fun j => !decide (j ∈ (stAt web k t).2)) ++ c).Nodup := by
        rw [List.nodup_append]
        refine ⟨(ok.get _).1.filter _, a3, fun x hx y hy e => ?_⟩
        subst e
        have := (List.mem_filter.mp hx).2
        simp only [Bool.not_eq_true', decide_eq_false_iff_not] at this
        exact this (a4 x hy)
      have := nd_len nd (b := List.range web.length) fun x hx => by
        rw [List.mem_range]
        rcases List.mem_append.mp hx with z | z
        · exact (ok.get _).2 x (List.mem_filter.mp z).1
        · exact a1.lt ok hk x z
      rw [List.length_append, List.length_range, a2] at this
      omega
    have sum : ∀ cs : List Ch, (∀ c ∈ cs, (longer1 web (stAt web k t).2 c).length ≤ web.length - (t + 1)) → (longerOf web (stAt web k t).2 cs).length ≤ cs.length * (web.length - (t + 1)) := by
      intro cs
      induction cs with
      | nil => intro _; simp [longerOf]
      | cons c cs ihc =>
        intro h
        have h1 := h c List.mem_cons_self
        have h2 := ihc fun x hx => h x (List.mem_cons_of_mem _ hx)
        show ((c :: cs).flatMap _).length ≤ _
        rw [List.flatMap_cons, List.length_append, List.length_cons, Nat.succ_mul]
        have h2' : (cs.flatMap (longer1 web (stAt web k t).2)).length ≤ cs.length * (web.length - (t + 1)) := h2
        omega
    exact Nat.le_trans (sum _ each) (Nat.mul_le_mul_right _ ih)
theorem few_of {web : List (List Nat)} (ok : WebOk web) {k : Nat} (hk : k < web.length) : FewC web k := by
  have h7 := ok.few
  have one : ∀ t, t ≤ web.length → (stAt web k t).1.length ≤ 1000 := fun t ht => Nat.le_trans (st_count ok hk t) (cnt_few _ (List.mem_range.mpr (by omega)) _ (List.mem_range.mpr (by omega)))
  have met : ∀ t, t ≤ web.length → (stAt web k t).2.length ≤ 1 + 1000 * t := by
    intro t
    induction t with
    | zero => intro _; simp [stAt]
    | succ t ih =>
      intro ht
      have h1 := ih (by omega)
      have h2 : (longerOf web (stAt web k t).2 (stAt web k t).1).length ≤ 1000 := one (t + 1) ht
      show ((stAt web k t).2 ++ (longerOf web (stAt web k t).2 (stAt web k t).1).map lastN).length ≤ _
      rw [List.length_append, List.length_map]
      omega
  refine ⟨⟨by omega, fun r hr => ?_⟩, fun t ht => ⟨by have := one t ht; omega, by have := met t ht; omega, fun c hc => ?_⟩⟩
  · obtain ⟨h1, h2⟩ := ok.row r hr
    have := nd_len h1 (b := List.range web.length) fun x hx => List.mem_range.mpr (h2 x hx)
    rw [List.length_range] at this
    omega
  · obtain ⟨a1, a2, a3, a4⟩ := (st_sound web k t).1 c hc
    refine ⟨a1.ne, by omega, ?_⟩
    obtain ⟨pre, e⟩ := chain_last a1.ne
    exact a1.lt ok hk _ (by rw [e]; exact List.mem_append_right _ (by rw [← e]; simp))
/-- the chains to g: all shortest ways, or none -/
theorem mem_chainsTo {web : List (List Nat)} {k g d : Nat} (hd : d < web.length) {w0 : Ch} (hw : WayN web k w0) (hl : w0.length = d + 1) (hg : lastN w0 = g) (hmin : ∀ c, WayN web k c → lastN c = g → d + 1 ≤ c.length) (x : Ch) : x ∈ chainsTo web k g web.length ↔ WayN web k x ∧ x.length = d + 1 ∧ lastN x = g := by
  have before : ∀ i < d, endsOf g (stAt web k i).1 = [] := fun i hi => by
    rw [endsOf, List.filter_eq_nil_iff]
    intro c hc e
    obtain ⟨a1, a2, _⟩ := (st_sound web k i).1 c hc
    have := hmin c a1 (by simpa using e)
    omega
  have mem : ∀ x, x ∈ endsOf g (stAt web k d).1 ↔ WayN web k x ∧ x.length = d + 1 ∧ lastN x = g := fun x => by
    rw [endsOf, List.mem_filter]
    constructor
    · rintro ⟨h1, h2⟩
      obtain ⟨a1, a2, _⟩ := (st_sound web k d).1 x h1
      exact ⟨a1, a2, by simpa using h2⟩
    · rintro ⟨h1, h2, h3⟩
      exact ⟨st_all web k d x h1 h2 fun c' hc' e => hmin c' hc' (by rw [e, h3]), by simpa using h3⟩
  have hne : endsOf g (stAt web k d).1 ≠ [] := fun z => by
    have := (mem w0).mpr ⟨hw, hl, hg⟩
    rw [z] at this
    cases this
  rw [(to_snoc before).2 hne _ hd, mem]
theorem chainsTo_none {web : List (List Nat)} {k g : Nat} (h : ∀ c, WayN web k c → lastN c ≠ g) : chainsTo web k g web.length = [] :=
  (to_snoc fun i _ => by
    rw [endsOf, List.filter_eq_nil_iff]
    intro c hc e
    exact h c ((st_sound web k i).1 c hc).1 (by simpa using e)).1
end KJ
namespace KJ
open PySem PySem.Spec PyProof.Rows L2 L2H Fv Evl StX
theorem lastN_cons (i : Nat) {c : Ch} (h : c ≠ []) : lastN (i :: c) = lastN c := by
  unfold lastN
  rw [List.getLast?_cons_of_ne_nil h]
theorem WayN.cons {web : List (List Nat)} {i j : Nat} {c : Ch} (h : WayN web j c) (hj : j ∈ web.getD i []) : WayN web i (i :: c) := by
  induction h with
  | one => exact .step (c := [i]) .one hj
  | @step c x h1 h2 ih =>
    refine .step (c := i :: c) ih ?_
    rw [lastN_cons i h1.ne]; exact h2
theorem WayN.head {web : List (List Nat)} {k : Nat} {c : Ch} (h : WayN web k c) : c = [k] ∨ ∃ j c', c = k :: c' ∧ WayN web j c' ∧ j ∈ web.getD k [] := by
  induction h with
  | one => exact .inl rfl
  | @step c x h1 h2 ih =>
    rcases ih with rfl | ⟨j, c', rfl, h3, h4⟩
    · exact .inr ⟨x, [x], rfl, .one, h2⟩
    · refine .inr ⟨j, c' ++ [x], rfl, .step h3 ?_, h4⟩
      rw [lastN_cons k h3.ne] at h2
      exact h2
/-- the web of rows that are near one another -/
structure WebR (web : List (List Nat)) (R : List (List Int)) (adj : List Int → List (List Int)) : Prop where
  len : web.length = R.length
  mem : ∀ i j, i < R.length → (j ∈ web.getD i [] ↔ j < R.length ∧ R.getD j [] ∈ adj (R.getD i []))
  sym : ∀ a ∈ R, ∀ b ∈ adj a, a ∈ adj b
theorem getD_mem {R : List (List Int)} {i : Nat} (h : i < R.length) : R.getD i [] ∈ R := by
  rw [List.getD_eq_getElem?_getD, List.getElem?_eq_getElem h]
  exact List.getElem_mem h
section
variable {web : List (List Nat)} {R : List (List Int)} {adj : List Int → List (List Int)} {root : List Int} {ts : List TE3} {lv : Nat}
/-- a way is no shorter than the levels between -/
theorem way_dep (wr : WebR web R adj) (tI : TreeI adj root ts ts.length lv) {k : Nat} (hk : k < R.length) {c : Ch} (h : WayN web k c) : lastN c < R.length ∧ (R.getD (lastN c) [] ∈ rowsT ts → R.getD k [] ∈ rowsT ts ∧ depT ts (R.getD k []) + 1 ≤ depT ts (R.getD (lastN c) []) + c.length) := by
  induction h with
  | one => exact ⟨hk, fun h => ⟨h, by show _ + 1 ≤ depT ts (R.getD (lastN [k]) []) + 1; exact Nat.le_refl _⟩⟩
  | @step c j h1 h2 ih =>
    obtain ⟨a1, a2⟩ := ih
    obtain ⟨b1, b2⟩ := (wr.mem _ _ a1).mp h2
    rw [lastN_snoc]
    refine ⟨b1, fun hj => ?_⟩
    have hs := wr.sym _ (getD_mem a1) _ b2
    obtain ⟨c1, c2⟩ := tI.near hj hs
    obtain ⟨d1, d2⟩ := a2 c1
    refine ⟨d1, ?_⟩
    rw [List.length_append]
    show _ ≤ _ + (c.length + 1)
    omega
/-- the greedy way is one -/
theorem chain_way (wr : WebR web R adj) (tI : TreeI adj root ts ts.length lv) (tR : ∀ o ∈ rowsT ts, o ∈ R) {g : Nat} (hg : g < R.length) (eg : R.getD g [] = root) (nd : R.Nodup) : ∀ (d k : Nat), k < R.length → R.getD k [] ∈ rowsT ts → depT ts (R.getD k []) = d → ∃ c, WayN web k c ∧ c.length = d + 1 ∧ lastN c = g ∧ c.map (fun i => R.getD i []) = chainT adj ts d (R.getD k [])
  | 0, k, hk, hm, hd => by
    have e : R.getD k [] = root := Classical.byContradiction fun ne => by
      obtain ⟨r, _, _, h⟩ := tI.down hm ne
      omega
    have : k = g := getD_inj nd hk hg (e.trans eg.symm)
    exact ⟨[k], .one, rfl, this, rfl⟩
  | d + 1, k, hk, hm, hd => by
    obtain ⟨r2, h1, h2, h3, h4⟩ := onw_some tI tR wr.sym hm (by omega)
    obtain ⟨j, hj, ej⟩ := getD_of_mem (tR r2 h2)
    subst ej
    obtain ⟨c, c1, c2, c3, c4⟩ := chain_way wr tI tR hg eg nd d j hj h2 (by omega)
    refine ⟨k :: c, c1.cons ((wr.mem _ _ hk).mpr ⟨hj, h3⟩), by rw [List.length_cons, c2], by rw [lastN_cons k c1.ne, c3], ?_⟩
    rw [List.map_cons, c4]
    show _ = R.getD k [] :: chainT adj ts d ((onwT adj ts (R.getD k [])).getD (R.getD k []))
    rw [h1]; rfl
end
/-! which is the least -/
theorem lt_of_code {a b : List Int} (hl : a.length = b.length) (ha : TS.Bd 4 a) (hb : TS.Bd 4 b) (h : TS.code 4 a < TS.code 4 b) : a < b := Classical.byContradiction fun z => by
  have := code_le4 hl.symm hb ha z
  omega
theorem int_irr : ∀ a : List Int, ¬ a < a
  | [], h => by cases h
  | x :: a, h => by
    rcases List.cons_lt_cons_iff.mp h with z | ⟨_, z⟩
    · omega
    · exact int_irr a z
theorem int_asym : ∀ {a b : List Int}, a < b → ¬ b < a
  | [], [], h, _ => by cases h
  | [], _ :: _, _, h => by cases h
  | _ :: _, [], h, _ => by cases h
  | x :: a, y :: b, h, k => by
    rcases List.cons_lt_cons_iff.mp h with z | ⟨e, z⟩ <;> rcases List.cons_lt_cons_iff.mp k with u | ⟨f, u⟩
    · omega
    · omega
    · omega
    · exact int_asym z u
end KJ
namespace KJ
open PySem PySem.Spec PyProof.Rows L2 L2H Fv Evl StX
theorem first_least {L : List (List Int)} (hL : Asc L) {q : List Int → Bool} {a b : List Int} (h : L.find? q = some a) (hb : b ∈ L) (hq : q b = true) : a = b ∨ TS.code 4 a < TS.code 4 b := by
  obtain ⟨h1, as, bs, h2, h3⟩ := List.find?_eq_some_iff_append.mp h
  subst h2
  obtain ⟨_, hL2, _⟩ := List.pairwise_append.mp (show List.Pairwise (fun a b => TS.code 4 a < TS.code 4 b) (as ++ a :: bs) from hL)
  rw [List.pairwise_cons] at hL2
  rcases List.mem_append.mp hb with z | z
  · have := h3 b z
    rw [hq] at this
    cases this
  · rcases List.mem_cons.mp z with y | y
    · exact .inl y.symm
    · exact .inr (hL2.1 b y)
section
variable {web : List (List Nat)} {R : List (List Int)} {adj : List Int → List (List Int)} {root : List Int} {ts : List TE3} {lv : Nat}
/-- no shortest way comes ahead of the greedy one -/
theorem way_least {n : Nat} (wr : WebR web R adj) (tI : TreeI adj root ts ts.length lv) (tR : ∀ o ∈ rowsT ts, o ∈ R) (hrow : ∀ r ∈ R, r.length = n ∧ TS.Bd 4 r) (hadj : ∀ r, Asc (adj r)) (hsub : ∀ r ∈ R, ∀ o ∈ adj r, o ∈ R) {g : Nat} (eg : R.getD g [] = root) :
    ∀ (d k : Nat) (x : Ch), k < R.length → R.getD k [] ∈ rowsT ts → depT ts (R.getD k []) = d → WayN web k x → x.length = d + 1 → lastN x = g → ¬ x.map (fun i => R.getD i []) < chainT adj ts d (R.getD k [])
  | 0, k, x, hk, hm, hd, hx, hl, he => by
    rcases hx.head with rfl | ⟨j, c', rfl, h3, h4⟩
    · intro h
      rcases List.cons_lt_cons_iff.mp h with z | ⟨_, z⟩
      · exact int_irr _ z
      · cases z
    · have := List.length_pos_iff.mpr h3.ne
      rw [List.length_cons] at hl
      omega
  | d + 1, k, x, hk, hm, hd, hx, hl, he => by
    rcases hx.head with rfl | ⟨j, c', rfl, h3, h4⟩
    · simp at hl
    obtain ⟨r2, h1, h2, h5, h6⟩ := onw_some tI tR wr.sym hm (by omega)
    obtain ⟨j2, hj2, ej⟩ := getD_of_mem (tR r2 h2)
    subst ej
    obtain ⟨b1, b2⟩ := (wr.mem _ _ hk).mp h4
    obtain ⟨n1, n2⟩ := tI.near hm b2
    have hl2 : c'.length = d + 1 := by simpa using hl
    have he2 : lastN c' = g := by rw [← he, lastN_cons k h3.ne]
    have hroot := tI.dep0
    have hw := (way_dep wr tI b1 h3).2 (by rw [he2, eg]; exact hroot.1)
    rw [he2, eg, hroot.2] at hw
    have hdj : depT ts (R.getD j []) = d := by
      have hs := wr.sym _ (getD_mem hk) _ b2
      have := (tI.near n1 hs).2
      omega
    show ¬ R.getD k [] :: c'.map (fun i => R.getD i []) < R.getD k [] :: chainT adj ts d ((onwT adj ts (R.getD k [])).getD (R.getD k []))
    rw [h1]
    intro h
    have h' : c'.map (fun i => R.getD i []) < chainT adj ts d (R.getD j2 []) := by
      rcases List.cons_lt_cons_iff.mp h with z | ⟨_, z⟩
      · exact absurd z (int_irr _)
      · exact z
    have fl := first_least (hadj (R.getD k [])) h1 b2 (decide_eq_true (by omega))
    rcases fl with z | z
    · rw [z] at h'
      exact way_least wr tI tR hrow hadj hsub eg d j c' b1 n1 hdj h3 hl2 he2 h'
    · have hlt : R.getD j2 [] < R.getD j [] := lt_of_code ((hrow _ (getD_mem hj2)).1.trans (hrow _ (getD_mem b1)).1.symm) (hrow _ (getD_mem hj2)).2 (hrow _ (getD_mem b1)).2 z
      have hc1 : ∃ t1, c'.map (fun i => R.getD i []) = R.getD j [] :: t1 := by
        rcases h3.head with rfl | ⟨j3, c3, rfl, _, _⟩
        · exact ⟨[], rfl⟩
        · exact ⟨_, rfl⟩
      have hc2 : ∃ t2, chainT adj ts d (R.getD j2 []) = R.getD j2 [] :: t2 := by cases d <;> exact ⟨_, rfl⟩
      obtain ⟨t1, e1⟩ := hc1
      obtain ⟨t2, e2⟩ := hc2
      rw [e1, e2] at h'
      rcases List.cons_lt_cons_iff.mp h' with u | ⟨u, _⟩
      · exact int_asym hlt u
      · rw [u] at hlt; exact int_irr _ hlt
end
/-! sorted: the first -/
theorem rowsLt : ∀ {a b : List (List Int)}, a.length = b.length → PySem.W.rowLt (a.map dT) (b.map dT) = decide (a < b)
  | [], [], _ => by
    have e : PySem.W.rowLt [] [] = decide (([] : List Int) < []) := PySem.W.dataLt_ints [] []
    simpa using e
  | [], _ :: _, h => by simp at h
  | _ :: _, [], h => by simp at h
  | x :: a, y :: b, h => by
    have al : PySem.W.alike (dT x) (dT y) = true := by
      show PySem.W.alike (.tuple _) (.tuple _) = true
      rw [PySem.W.alike]; exact PySem.W.alike_ints x y
    have e : PySem.W.rowLt (dT x :: a.map dT) (dT y :: b.map dT) = if decide (x = y) = true then PySem.W.rowLt (a.map dT) (b.map dT) else decide (x < y) := by
      unfold PySem.W.rowLt
      rw [PySem.W.dataLt_cons al, eqv_dT, show PySem.W.dataLt (dT x) (dT y) = decide (x < y) from (PySem.W.dataLt_tuple _ _).trans (PySem.W.dataLt_ints x y)]
    show PySem.W.rowLt (dT x :: a.map dT) (dT y :: b.map dT) = _
    rw [e, rowsLt (by simpa using h)]
    by_cases z : x = y
    · rw [decide_eq_true z, if_pos rfl]
      subst z
      refine decide_eq_decide.mpr ⟨fun h => List.cons_lt_cons_iff.mpr (.inr ⟨rfl, h⟩), fun h => ?_⟩
      rcases List.cons_lt_cons_iff.mp h with u | ⟨_, u⟩
      · exact absurd u (int_irr _)
      · exact u
    · rw [decide_eq_false z, if_neg (by decide)]
      refine decide_eq_decide.mpr ⟨fun h => List.cons_lt_cons_iff.mpr (.inl h), fun h => ?_⟩
      rcases List.cons_lt_cons_iff.mp h with u | ⟨u, _⟩
      · exact u
      · exact absurd u z
def sortW (L : List (List (List Int))) : List (List (List Int)) := L.mergeSort fun a b => decide (¬ b < a)
theorem sortD_ways {L : List (List (List Int))} {d : Nat} (h : ∀ x ∈ L, x.length = d) : sortD (L.map dTT) = (sortW L).map dTT := by
  unfold sortD sortW
  refine (PySem.W.sort_maps (r := fun a b : List (List Int) => decide (¬ b < a)) (s := PySem.W.dataLe false id) (l := L) dTT fun a ha b hb => ?_).symm
  show decide (¬ b < a) = (!PySem.W.dataLt (dTT b) (dTT a))
  rw [show PySem.W.dataLt (dTT b) (dTT a) = decide (b < a) from (PySem.W.dataLt_tuple _ _).trans (rowsLt ((h b hb).trans (h a ha).symm)), decide_not]
theorem sortW_first {L : List (List (List Int))} {m : List (List Int)} (hm : m ∈ L) (h : ∀ x ∈ L, ¬ x < m) : ∃ t, sortW L = m :: t := by
  have pw : (sortW L).Pairwise fun a b => (fun p q : List (List Int) => decide (¬ q < p)) a b = true := by
    unfold sortW
    refine List.pairwise_mergeSort (fun a b c h k => ?_) (fun a b => ?_) L
    · simp only [decide_eq_true_eq] at h k ⊢
      exact (List.le_trans (show a ≤ b from h) (show b ≤ c from k) : a ≤ c)
    · simp only [Bool.or_eq_true, decide_eq_true_eq]
      exact List.le_total a b
  have pm : (sortW L).Perm L := List.mergeSort_perm _ _
  cases e : sortW L with
  | nil => have := pm.mem_iff.mpr hm; rw [e] at this; cases this
  | cons a t =>
    rw [e] at pw pm
    have ha : ¬ a < m := h a (pm.mem_iff.mp List.mem_cons_self)
    have hm2 := pm.mem_iff.mpr hm
    rcases List.mem_cons.mp hm2 with z | z
    · exact ⟨t, by rw [z]⟩
    · have := (List.pairwise_cons.mp pw).1 m z
      simp only [decide_eq_true_eq] at this
      exact ⟨t, by rw [show m = a from List.le_antisymm (show m ≤ a from ha) (show a ≤ m from this)]⟩
theorem canSort_ways {L : List (List (List Int))} (h : ∀ x ∈ L, x ≠ []) : CanSort (L.map dTT) := by
  refine ⟨PySem.W.AllAlike.of fun b b' => ?_, .inl fun d hd => ?_, fun d hd => ?_⟩
  · show PySem.W.alike (.tuple _) (.tuple _) = true
    rw [PySem.W.alike]; exact alikeAll_rows b b'
  · obtain ⟨g, hg, rfl⟩ := List.mem_map.mp hd
    cases g with
    | nil => exact absurd rfl (h _ hg)
    | cons a r => exact ⟨dT a, r.map dT, rfl⟩
  · obtain ⟨g, _, rfl⟩ := List.mem_map.mp hd
    have := depthAll_dT g
    simp only [dTT, PyData.depth]
    omega
end KJ
namespace KJ
open PySem Fv L2
/-! ### the mathematics -/
theorem all_in : ∀ n ∈ List.range 6, ∀ l ∈ allLots n, ∀ k ∈ l, 0 ≤ k ∧ k < (n : Int) := by decide +kernel
theorem mem_let {n : Nat} (hn : n ≤ 5) {ls : List (List Int)} {l : List Int} : l ∈ letOf n ls ↔ l ∈ allLots n ∧ (l = [] ∨ ∃ o ∈ ls, ∀ k ∈ l, k ∈ o) := by
  have h3 := all_in n (by rw [List.mem_range]; omega)
  unfold letOf
  rw [List.mem_filter]
  refine and_congr_right fun hl => ?_
  have wi : ∀ {a b : List Int}, within a b = true ↔ ∀ k ∈ a, k ∈ b := by intro a b; unfold within; simp
  rw [List.any_cons, Bool.or_eq_true, List.any_map, List.any_eq_true, wi]
  refine or_congr ?_ ?_
  · constructor
    · intro h
      cases l with
      | nil => rfl
      | cons k r => exact absurd (h k (by simp)) (by simp)
    · rintro rfl; simp
  · simp only [Function.comp_apply, wi]
    refine exists_congr fun o => and_congr_right fun ho => ?_
    refine forall_congr' fun k => forall_congr' fun hk => ?_
    rw [mem_lotOf]
    exact ⟨fun h => h.2, fun h => ⟨h3 l hl k hk, h⟩⟩
def boolLists : Nat → List (List Bool)
  | 0 => [[]]
  | n + 1 => (boolLists n).flatMap fun b => [b ++ [true], b ++ [false]]
theorem bool_all : ∀ (n : Nat) (b : List Bool), b.length = n → b ∈ boolLists n
  | 0, b, h => by rw [List.length_eq_zero_iff.mp h]; simp [boolLists]
  | n + 1, b, h => by
    obtain ⟨b0, k, rfl⟩ : ∃ b0 k, b = b0 ++ [k] := ⟨b.dropLast, b.getLast (by intro z; rw [z] at h; cases h), (List.dropLast_concat_getLast _).symm⟩
    refine List.mem_flatMap.mpr ⟨b0, bool_all n b0 (by simpa using h), ?_⟩
    cases k <;> simp
theorem sub_all : ∀ n ∈ List.range 6, ∀ b ∈ boolLists n, ((hs n).filter fun h => b.getD h.toNat false) ∈ allLots n := by decide +kernel
theorem filter_lot {n : Nat} (hn : n ≤ 5) (q : Int → Bool) : (hs n).filter q ∈ allLots n := by
  have h := sub_all n (by rw [List.mem_range]; omega) ((hs n).map q) (bool_all n _ (by rw [List.length_map, hs_len]))
  have e : (hs n).filter (fun h => ((hs n).map q).getD h.toNat false) = (hs n).filter q := by
    refine List.filter_congr fun h hh => ?_
    obtain ⟨h0, h1⟩ := hs_mem.mp hh
    have hj : h.toNat < (hs n).length := by rw [hs_len]; omega
    rw [List.getD_eq_getElem?_getD, List.getElem?_map, List.getElem?_eq_getElem hj]
    have : (hs n)[h.toNat] = h := by
      simp only [hs, List.getElem_map, List.getElem_range, Int.ofNat_eq_natCast]; omega
    rw [this]; rfl
  rw [← e]; exact h
theorem inLot_iff {a b : List Int} : inLot a b = true ↔ ∀ k ∈ a, k ∈ b := by unfold inLot; simp
theorem lets_iff {ls : List (List Int)} {l : List Int} : lets ls l = true ↔ (l = [] ∨ ∃ o ∈ ls, ∀ k ∈ l, k ∈ o) := by
  unfold lets
  rw [Bool.or_eq_true, List.isEmpty_iff, List.any_eq_true]
  simp only [inLot_iff]
/-! rows in order -/
end KJ
namespace KJ
open Fv
/-! ### the mathematics -/
theorem all_bits : ∀ n ∈ List.range 6, (∀ l ∈ allLots n, l ∈ (List.range (2 ^ n)).map fun b : Nat => bitLot n b) ∧ (∀ b ∈ List.range (2 ^ n), bitLot n b ∈ allLots n) ∧ ∀ l ∈ allLots n, coN n (coN n l) = l ∧ l.length ≤ n ∧ ∀ k ∈ l, 0 ≤ k ∧ k < (n : Int) := by decide +kernel
theorem all_longer : ∀ n ∈ List.range 6, ∀ l ∈ allLots n, ∀ o ∈ allLots n, within l o = true → l = o ∨ l.length < o.length := by decide +kernel
theorem within_iff {a b : List Int} : within a b = true ↔ ∀ k ∈ a, k ∈ b := by unfold within; simp
theorem both_iff {n : Nat} {a b : List Int} : both n a b = true ↔ ∀ k ∈ hs n, k ∈ a ∨ k ∈ b := by
  unfold both
  simp only [List.isEmpty_iff, List.filter_eq_nil_iff, Bool.and_eq_true, Bool.not_eq_true', decide_eq_false_iff_not, not_and, Decidable.not_not]
  constructor
  · intro h k hk
    by_cases z : k ∈ a
    · exact .inl z
    · exact .inr (h k hk z)
  · intro h k hk z
    exact (h k hk).resolve_left z
section
variable {n : Nat} {ls L : List (List Int)}
theorem mem_great {l : List Int} : l ∈ greatOf n ls ↔ l ∈ letOf n ls ∧ ∀ o ∈ letOf n ls, within l o = true → l = o := by
  unfold greatOf
  rw [List.mem_filter]
  refine and_congr_right fun hl => ?_
  rw [Bool.not_eq_true', List.any_eq_false]
  refine forall_congr' fun o => forall_congr' fun ho => ?_
  simp only [Bool.and_eq_true, Bool.not_eq_true', decide_eq_false_iff_not, not_and, Bool.not_eq_true]
  constructor
  · intro h hw
    by_cases z : l = o
    · exact z
    · rw [h z] at hw; cases hw
  · intro h z
    cases hw : within l o with
    | false => rfl
    | true => exact absurd (h hw) z
theorem mem_fam {l : List Int} : l ∈ famLots n ls ↔ l ∈ greatOf n ls := (sortL_perm _).mem_iff
theorem above (hn : n ≤ 5) : ∀ (j : Nat) (l : List Int), l ∈ letOf n ls → n - l.length ≤ j → ∃ g ∈ famLots n ls, ∀ k ∈ l, k ∈ g := by
  have hb := all_bits n (by rw [List.mem_range]; omega)
  have hL := all_longer n (by rw [List.mem_range]; omega)
  intro j
  induction j with
  | zero =>
    intro l hl hj
    refine ⟨l, mem_fam.mpr (mem_great.mpr ⟨hl, fun o ho hw => ?_⟩), fun k hk => hk⟩
    have h1 := ((mem_let hn).mp hl).1
    have h2 := ((mem_let hn).mp ho).1
    rcases hL l h1 o h2 hw with z | z
    · exact z
    · have := (hb.2.2 o h2).2.1; omega
  | succ j ih =>
    intro l hl hj
    by_cases z : l ∈ greatOf n ls
    · exact ⟨l, mem_fam.mpr z, fun k hk => hk⟩
    · rw [mem_great] at z
      have : ∃ o ∈ letOf n ls, within l o = true ∧ l ≠ o := by
        refine Classical.byContradiction fun c => z ⟨hl, fun o ho hw => ?_⟩
        refine Classical.byContradiction fun d => c ⟨o, ho, hw, d⟩
      obtain ⟨o, ho, hw, hne⟩ := this
      have h1 := ((mem_let hn).mp hl).1
      have h2 := ((mem_let hn).mp ho).1
      have hlt : l.length < o.length := (hL l h1 o h2 hw).resolve_left hne
      obtain ⟨g, hg, hk⟩ := ih o ho (by have := (hb.2.2 o h2).2.1; omega)
      exact ⟨g, hg, fun k h => hk k (within_iff.mp hw k h)⟩
theorem fam_let {l : List Int} (h : l ∈ famLots n ls) : l ∈ letOf n ls := (mem_great.mp (mem_fam.mp h)).1
theorem not_full (hn : 2 ≤ n ∧ n ≤ 5) (hg : GoodLots n ls) {l : List Int} (hl : l ∈ letOf n ls) : ∃ k ∈ hs n, k ∉ l := by
  rcases ((mem_let hn.2).mp hl).2 with rfl | ⟨o, ho, hk⟩
  · exact ⟨0, hs_mem.mpr ⟨by omega, by omega⟩, by simp⟩
  · have h3 := (hg.2 o ho).2.2
    refine Classical.byContradiction fun c => h3 ?_
    have all : ∀ k ∈ hs n, k ∈ o := fun k hk' => by
      refine Classical.byContradiction fun d => c ⟨k, hk', fun e => d (hk k e)⟩
    have : lotOf n o = hs n := by
      unfold lotOf
      exact List.filter_eq_self.mpr fun k hk' => by simpa using all k hk'
    rw [this, hs_len]
theorem cover_some {M : List (List Int)} {a b : List Int} (h : coverOf n M = some (a, b)) : a ∈ M ∧ b ∈ M ∧ ∀ k ∈ hs n, k ∈ a ∨ k ∈ b := by
  unfold coverOf at h
  obtain ⟨i, hi, hc⟩ := List.exists_of_findSome?_eq_some h
  unfold coverAt at hc
  rw [List.mem_range] at hi
  rw [Option.map_eq_some_iff] at hc
  obtain ⟨o, ho, e⟩ := hc
  injection e with e1 e2
  subst e1 e2
  have hget : M.getD i [] = M[i] := by rw [List.getD_eq_getElem?_getD, List.getElem?_eq_getElem hi]; rfl
  refine ⟨by rw [hget]; exact List.getElem_mem hi, List.mem_of_mem_drop (List.mem_of_find?_eq_some ho), fun k hk => ?_⟩
  have := List.find?_some ho
  exact List.mem_append.mp (within_iff.mp this k hk)
theorem cover_none {M : List (List Int)} (h : coverOf n M = none) {a b : List Int} (ha : a ∈ M) (hb : b ∈ M) (hne : a ≠ b) : ¬ ∀ k ∈ hs n, k ∈ a ∨ k ∈ b := by
  have key : ∀ i j, (hij : i < j) → (hj : j < M.length) → ¬ ∀ k ∈ hs n, k ∈ M[i]'(Nat.lt_trans hij hj) ∨ k ∈ M[j] := by
    intro i j hij hj hc
    unfold coverOf at h
    rw [List.findSome?_eq_none_iff] at h
    have hi := h i (by rw [List.mem_range]; omega)
    unfold coverAt at hi
    rw [Option.map_eq_none_iff, List.find?_eq_none] at hi
    have hget : M.getD i [] = M[i]'(by omega) := by rw [List.getD_eq_getElem?_getD, List.getElem?_eq_getElem (by omega)]; rfl
    refine hi M[j] ?_ ?_
    · have : (M.drop (i + 1))[j - (i + 1)]? = some M[j] := by
        rw [List.getElem?_drop, show i + 1 + (j - (i + 1)) = j by omega, List.getElem?_eq_getElem hj]
      exact List.mem_of_getElem? this
    · rw [hget, within_iff]
      exact fun k hk => List.mem_append.mpr (hc k hk)
  obtain ⟨i, hi, rfl⟩ := List.mem_iff_getElem.mp ha
  obtain ⟨j, hj, rfl⟩ := List.mem_iff_getElem.mp hb
  intro hc
  rcases Nat.lt_trichotomy i j with z | z | z
  · exact key i j z hj hc
  · subst z; exact hne rfl
  · exact key j i z hi fun k hk => (hc k hk).symm
end
end KJ
namespace KJ
open PySem PySem.Spec PyProof.Rows L2 L2H Fv Evl StX
theorem mem_lotOf {n : Nat} {l : List Int} {k : Int} : k ∈ lotOf n l ↔ k ∈ hs n ∧ k ∈ l := by
  show k ∈ (hs n).filter _ ↔ _
  rw [List.mem_filter]
  exact and_congr_right fun _ => decide_eq_true_iff
theorem covers_fam {n : Nat} {lots : List (List Int)} (hn : 2 ≤ n ∧ n ≤ 5) (hg : GoodLots n lots) : coversOf n lots = (coverOf n (famLots n lots)).isSome := by
  rw [Bool.eq_iff_iff]
  have e : coversOf n lots = true ↔ ∃ a ∈ lots, ∃ b ∈ lots, ∀ k ∈ hs n, k ∈ a ∨ k ∈ b := by
    unfold coversOf
    simp only [List.any_eq_true, both_iff]
  rw [e]
  have inlet : ∀ a ∈ lots, lotOf n a ∈ letOf n lots := fun a ha => (mem_let hn.2).mpr ⟨filter_lot hn.2 _, .inr ⟨a, ha, fun k hk => (mem_lotOf.mp hk).2⟩⟩
  constructor
  · rintro ⟨a, ha, b, hb, hc⟩
    obtain ⟨g, hg1, hg2⟩ := above hn.2 n _ (inlet a ha) (Nat.sub_le _ _)
    obtain ⟨g', hg1', hg2'⟩ := above hn.2 n _ (inlet b hb) (Nat.sub_le _ _)
    cases h : coverOf n (famLots n lots) with
    | some _ => rfl
    | none =>
      exfalso
      by_cases z : g = g'
      · subst z
        obtain ⟨k, hk, hk'⟩ := not_full hn hg (fam_let hg1)
        rcases hc k hk with y | y
        · exact hk' (hg2 k (mem_lotOf.mpr ⟨hk, y⟩))
        · exact hk' (hg2' k (mem_lotOf.mpr ⟨hk, y⟩))
      · exact cover_none h hg1 hg1' z fun k hk => (hc k hk).imp (fun y => hg2 k (mem_lotOf.mpr ⟨hk, y⟩)) fun y => hg2' k (mem_lotOf.mpr ⟨hk, y⟩)
  · intro h
    obtain ⟨⟨a, b⟩, h⟩ := Option.isSome_iff_exists.mp h
    obtain ⟨ha, hb, hc⟩ := cover_some h
    have la := fam_let ha
    have lb := fam_let hb
    rcases ((mem_let hn.2).mp la).2 with z | ⟨oa, ha1, ha2⟩
    · obtain ⟨k, hk, hk'⟩ := not_full hn hg lb
      rcases hc k hk with y | y
      · rw [z] at y; cases y
      · exact absurd y hk'
    rcases ((mem_let hn.2).mp lb).2 with z | ⟨ob, hb1, hb2⟩
    · obtain ⟨k, hk, hk'⟩ := not_full hn hg la
      rcases hc k hk with y | y
      · exact absurd y hk'
      · rw [z] at y; cases y
    exact ⟨oa, ha1, ob, hb1, fun k hk => (hc k hk).imp (ha2 k) (hb2 k)⟩
theorem mem_hs {n : Nat} {k : Int} : k ∈ hs n ↔ ∃ a : Nat, a < n ∧ (a : Int) = k := by unfold hs; simp
theorem shown_same {n : Nat} {a b lot : List Int} (ha : a.length = n) (hb : b.length = n) : shownV a (coN n lot) = shownV b (coN n lot) ↔ ∀ k ∈ differ a b, k ∈ lot := by
  have co : ∀ k : Nat, k < n → (((k : Int) ∈ coN n lot) ↔ (k : Int) ∉ lot) := fun k hk => by
    unfold coN
    rw [List.mem_filter]
    simp only [Bool.not_eq_true', decide_eq_false_iff_not]
    exact ⟨fun h => h.2, fun h => ⟨mem_hs.mpr ⟨k, hk, rfl⟩, h⟩⟩
  have dif : ∀ k : Nat, k < n → (((k : Int) ∈ differ a b) ↔ a.getD k 0 ≠ b.getD k 0) := fun k hk => by
    unfold differ at_
    rw [List.mem_filter, ha]
    simp only [Bool.not_eq_true', decide_eq_false_iff_not, Int.toNat_natCast]
    exact ⟨fun h => h.2, fun h => ⟨mem_hs.mpr ⟨k, hk, rfl⟩, h⟩⟩
  unfold shownV
  rw [ha, hb]
  constructor
  · intro h k hk
    have hkd := hk
    unfold differ at hk
    rw [List.mem_filter, ha] at hk
    obtain ⟨j, hj, rfl⟩ := mem_hs.mp hk.1
    refine Classical.byContradiction fun hn => ?_
    have h2 := congrArg (fun l => l[j]?) h
    simp only [List.getElem?_map, List.getElem?_range hj, Option.map_some, if_pos ((co j hj).mpr hn)] at h2
    exact (dif j hj).mp hkd (by injection h2 with h2; injection h2)
  · intro h
    refine List.map_congr_left fun k hk => ?_
    have hk := List.mem_range.mp hk
    by_cases z : (k : Int) ∈ lot
    · rw [if_neg (fun y => (co k hk).mp y z), if_neg (fun y => (co k hk).mp y z)]
    · rw [if_pos ((co k hk).mpr z), if_pos ((co k hk).mpr z)]
      by_cases y : a.getD k 0 = b.getD k 0
      · rw [y]
      · exact absurd (h k ((dif k hk).mpr y)) z
theorem fam_lets {n : Nat} {lots : List (List Int)} (hn : n ≤ 5) {D : List Int} (hD : D ∈ allLots n) : (∃ lot ∈ famLots n lots, ∀ k ∈ D, k ∈ lot) ↔ lets lots D = true := by
  rw [lets_iff]
  constructor
  · rintro ⟨lot, h1, h2⟩
    rcases ((mem_let hn).mp (fam_let h1)).2 with z | ⟨o, h3, h4⟩
    · left
      cases D with
      | nil => rfl
      | cons x D => have := h2 x List.mem_cons_self; rw [z] at this; cases this
    · exact .inr ⟨o, h3, fun k hk => h4 k (h2 k hk)⟩
  · intro h
    exact above hn n D ((mem_let hn).mpr ⟨hD, h⟩) (Nat.sub_le _ _)
/-- who is near whom: the program's circles and the law say the same -/
theorem near_same {mn : Str} {n m : Nat} {lots R : List (List Int)} (hn : 2 ≤ n ∧ n ≤ 5) (hg : GoodLots n lots) (hrow : ∀ r ∈ R, r.length = n) {a b : List Int} (ha : a ∈ R) (hb : b ∈ R) : nearB (circs (splitOf mn n lots) R (circlesOf n (famLots n lots) R)) a b = nearW mn lots a b := by
  rw [Bool.eq_iff_iff, nearB_iff, inC_circs]
  have la := hrow a ha
  have lb := hrow b hb
  have e1 : (∃ lot ∈ famLots n lots, shownV a (coN n lot) = shownV b (coN n lot)) ↔ lets lots (differ a b) = true := by
    rw [← fam_lets hn.2 (D := differ a b) (by unfold differ; rw [la]; exact filter_lot hn.2 _)]
    exact ⟨fun ⟨l, h1, h2⟩ => ⟨l, h1, (shown_same la lb).mp h2⟩, fun ⟨l, h1, h2⟩ => ⟨l, h1, (shown_same la lb).mpr h2⟩⟩
  have e2 : splitOf mn n lots = (decide (mn = ("letters" : Str)) && coversOf a.length lots) := by
    unfold splitOf
    rw [la, covers_fam hn hg]
  rw [e1, e2]
  unfold nearW
  simp only [Bool.and_eq_true, Bool.or_eq_true, Bool.not_eq_true', decide_eq_false_iff_not]
  constructor
  · rintro ⟨⟨_, _, h⟩, h2⟩
    exact ⟨fun e => h2 e.symm, h⟩
  · rintro ⟨h, h2⟩
    exact ⟨⟨ha, hb, h2⟩, fun e => h e.symm⟩
theorem web_len (mn : Str) (lots R : List (List Int)) : (webOf mn lots R).length = R.length := by unfold webOf; simp
theorem web_at {mn : Str} {lots R : List (List Int)} {i : Nat} (hi : i < R.length) : (webOf mn lots R).getD i [] = webRow mn lots R i := by
  unfold webOf
  rw [List.getD_eq_getElem?_getD, List.getElem?_map, List.getElem?_range hi]; rfl
theorem web_ok {mn : Str} {lots R : List (List Int)} (h7 : R.length ≤ 7) : WebOk (webOf mn lots R) := by
  refine ⟨by rw [web_len]; exact h7, fun r hr => ?_⟩
  obtain ⟨i, _, rfl⟩ := List.mem_map.mp hr
  unfold webRow
  refine ⟨List.nodup_range.filter _, fun j hj => ?_⟩
  rw [web_len]
  exact List.mem_range.mp (List.mem_filter.mp hj).1
theorem web_R {mn : Str} {n m : Nat} {lots R : List (List Int)} (hn : 2 ≤ n ∧ n ≤ 5) (hg : GoodLots n lots) (hrow : ∀ r ∈ R, r.length = n) : WebR (webOf mn lots R) R (adjC (circs (splitOf mn n lots) R (circlesOf n (famLots n lots) R)) R) := by
  refine ⟨web_len _ _ _, fun i j hi => ?_, fun a ha b hb => adjC_sym ha hb⟩
  rw [web_at hi]
  unfold webRow adjC
  rw [List.mem_filter, List.mem_range, List.mem_filter]
  constructor
  · rintro ⟨h1, h2⟩
    exact ⟨h1, getD_mem h1, by rw [near_same (m := m) hn hg hrow (getD_mem hi) (getD_mem h1)]; exact h2⟩
  · rintro ⟨h1, h2, h3⟩
    exact ⟨h1, by rw [near_same (m := m) hn hg hrow (getD_mem hi) (getD_mem h1)] at h3; exact h3⟩
/-- what the law's chains say of least_chain's answer -/
theorem chain_due {mn : Str} {n m : Nat} {lots R : List (List Int)} (hn : 2 ≤ n ∧ n ≤ 5) (hm : m ≤ 4) (hg : GoodLots n lots) (hrow : ∀ r ∈ R, Row n m r) (hasc : Asc R) (h7 : R.length ≤ 7) {k g : Nat} (hk : k < R.length) (hgl : g < R.length) {ts : List TE3} {lv : Nat}
    (tI : TreeI (adjC (circs (splitOf mn n lots) R (circlesOf n (famLots n lots) R)) R) (R.getD g []) ts ts.length lv) (tR : ∀ o ∈ rowsT ts, o ∈ R) :
    let cs := (chainsTo (webOf mn lots R) k g (webOf mn lots R).length).map fun c => c.map fun i => R.getD i []
    (∃ d, ∀ x ∈ cs, x.length = d + 1) ∧ cs.length ≤ 10000 ∧ chainD (adjC (circs (splitOf mn n lots) R (circlesOf n (famLots n lots) R)) R) ts (R.getD k []) = (if cs = [] then .none else dTT ((sortW cs).getD 0 [])) := by
  intro cs
  have hl : ∀ r ∈ R, r.length = n := fun r hr => (hrow r hr).1
  have wr := web_R (mn := mn) (m := m) hn hg hl
  have ok := web_ok (mn := mn) (lots := lots) h7
  have nd := hasc.nd
  have wl := web_len mn lots R
  have hadj : ∀ r, Asc (adjC (circs (splitOf mn n lots) R (circlesOf n (famLots n lots) R)) R r) := fun r => hasc.sublist List.filter_sublist
  have hsub : ∀ r ∈ R, ∀ o ∈ adjC (circs (splitOf mn n lots) R (circlesOf n (famLots n lots) R)) R r, o ∈ R := fun r _ o ho => (List.mem_filter.mp ho).1
  have few := few_of ok (k := k) (by rw [wl]; exact hk)
  have cslen : (chainsTo (webOf mn lots R) k g (webOf mn lots R).length).length ≤ 10000 := by
    unfold chainsTo
    split
    · rename_i i hi
      have hi2 := List.mem_range.mp (List.mem_of_find?_eq_some hi)
      exact Nat.le_trans (List.length_filter_le _ _) (few.2 i (by omega)).1
    · simp
  have cslen2 : cs.length ≤ 10000 := by show (List.map _ _).length ≤ _; rw [List.length_map]; exact cslen
  unfold chainD
  by_cases hin : R.getD k [] ∈ rowsT ts
  · rw [if_pos hin]
    obtain ⟨c0, c1, c2, c3, c4⟩ := chain_way wr tI tR hgl rfl nd _ k hk hin rfl
    have hroot := tI.dep0
    have hmin : ∀ c, WayN (webOf mn lots R) k c → lastN c = g → depT ts (R.getD k []) + 1 ≤ c.length := fun c hc e => by
      have := ((way_dep wr tI hk hc).2 (by rw [e]; exact hroot.1)).2
      rw [e, hroot.2] at this
      omega
    have hd : depT ts (R.getD k []) < (webOf mn lots R).length := by
      rw [wl]
      have h1 := TreeI.dep_lt tI hin
      have h2 := nd_le tI.nd tR
      rw [List.length_map] at h2
      omega
    have mem := mem_chainsTo hd c1 c2 c3 hmin
    have hne : cs ≠ [] := fun z => by
      have : c0 ∈ chainsTo (webOf mn lots R) k g (webOf mn lots R).length := (mem c0).mpr ⟨c1, c2, c3⟩
      have : c0.map (fun i => R.getD i []) ∈ cs := List.mem_map.mpr ⟨c0, this, rfl⟩
      rw [z] at this; cases this
    have hlen : ∀ x ∈ cs, x.length = depT ts (R.getD k []) + 1 := fun x hx => by
      obtain ⟨c, hc, rfl⟩ := List.mem_map.mp hx
      rw [List.length_map]
      exact ((mem c).mp hc).2.1
    refine ⟨⟨_, hlen⟩, cslen2, ?_⟩
    rw [if_neg hne]
    obtain ⟨t, ht⟩ := sortW_first (L := cs) (m := chainT _ ts (depT ts (R.getD k [])) (R.getD k [])) (by rw [← c4]; exact List.mem_map.mpr ⟨c0, (mem c0).mpr ⟨c1, c2, c3⟩, rfl⟩) fun x hx => by
      obtain ⟨c, hc, rfl⟩ := List.mem_map.mp hx
      obtain ⟨b1, b2, b3⟩ := (mem c).mp hc
      exact way_least wr tI tR (fun r hr => (hrow r hr).bd hm) hadj hsub rfl _ k c hk hin rfl b1 b2 b3
    rw [ht]; rfl
  · rw [if_neg hin]
    have he : cs = [] := by
      show List.map _ _ = []
      rw [chainsTo_none fun c hc e => hin ((way_dep wr tI hk hc).2 (by rw [e]; exact tI.dep0.1)).1]; rfl
    refine ⟨⟨0, fun x hx => by rw [he] at hx; cases hx⟩, cslen2, ?_⟩
    rw [if_pos he]
end KJ
namespace KJ
open PySem PySem.Spec PyProof.Rows L2 L2H Fv Evl StX
abbrev s_UnlikeHouses___init__ : Stmt := inClass (topS 9) 0
theorem sc_UnlikeHouses___init__ : FnScope ["self"] ["self"] (defScope s_UnlikeHouses___init__) := ⟨rfl, rfl, rfl, by decide +kernel, rfl, by decide +kernel, by decide +kernel⟩
abbrev s_BadManner___init__ : Stmt := inClass (topS 6) 0
theorem sc_BadManner___init__ : FnScope ["self", "manner"] ["self", "manner"] (defScope s_BadManner___init__) := ⟨rfl, rfl, rfl, by decide +kernel, rfl, by decide +kernel, by decide +kernel⟩
def badL : List PyData := [.str "", .str "Sure", .str "cell", .none, .int 0, .str "letters "]
theorem bad_factsL : ∀ d ∈ badL, SeqAt.shaped d = true ∧ (manD.any fun z => PyData.eqv z d) = false := by decide +kernel
section
variable {P : Program} {w : World} {K : PySem.W.Frag} {mg : Str → Option Value} {base : Heap} {CB CL CF CE CU CM fE tM : Addr} {mc : Value}
variable {pt : Option Pt} {σ : L2.St} {F F0 H0 H : Hp} {te ta tb : TE} {ts tr : TA} {D : Ends} {tz : TS}
/-- a maker that stores nothing -/
def spI0 (C : Addr) : Sp := fun vs H Q _ => ∃ a : Addr, vs = [.ref a] ∧ H a = some (exo a C none) ∧ Q .non H
theorem ok_unlE {fI : Addr} {fd : FuncData} (Fn : Fun K "__init__" "UnlikeHouses.__init__" s_UnlikeHouses___init__ fI fd) (FC : FirmC K mg CF mc) (EC : ErrC K mg CF CU fI "UnlikeHouses" []) : FnOk P w K mg base CX0 1 fI fd ["self"] (spI0 CU) := by
  refine Fn.ok sc_UnlikeHouses___init__ (fun vs H Q E ⟨_, h, _⟩ => by rw [h]; rfl) (fun cdv A outer s H vs Q E hr h => ?_)
  obtain ⟨a, rfl, ho, q⟩ := h
  refine ⟨_, (pss_one (ps_expr (pe_fminit (by rfl) FC.g FC.r FC.v (pa_cons (pv 0) (pa_cons pe_str pa_nil))))), ?_⟩
  exact ⟨_, rfl, a, CU, _, rfl, by decide, EC.T, ho, q⟩
theorem r_mk0 {C : Addr} {Q : XK} (q : Q (.ref C) none H) : tMk0 C (spI0 C) σ H Q := fun a ha => ⟨a, rfl, upd_same, rfl, upd_same, by
  have e : L2.del (upd H a (exo a C none)) a = H := by
    funext b
    by_cases z : b = a
    · rw [z, L2.del_same, ha]
    · rw [L2.del_ne z, upd_ne z]
  rw [e]; exact q⟩
theorem ok_badE {fI : Addr} {fd : FuncData} (Fn : Fun K "__init__" "BadManner.__init__" s_BadManner___init__ fI fd) (FC : FirmC K mg CF mc) (EC : ErrC K mg CF CM fI "BadManner" ["manner"]) : FnOk P w K mg base CX0 1 fI fd ["self", "manner"] (spIv CM "manner") := by
  refine Fn.ok sc_BadManner___init__ (fun vs H Q E ⟨_, _, h, _⟩ => by rw [h]; rfl) (fun cdv A outer s H vs Q E hr h => ?_)
  obtain ⟨a, x, rfl, ho, q⟩ := h
  refine ⟨_, (pss_cons (ps_expr (pe_fminit (by rfl) FC.g FC.r FC.v (pa_cons (pv 0) (pa_cons pe_str pa_nil)))) (pss_one (ps_ost (pv 0) (pv 1)))), ?_⟩
  exact ⟨_, rfl, ⟨a, CM, _, rfl, by simp, EC.T, ho, _, rfl, _, rfl, a, CM, rfl, EC.T, EC.no _ (by simp), .inl ⟨ho, fun dx h1 h2 => q dx h1 h2⟩⟩⟩
/-- book and family of unlike numbers of houses -/
def spMeetB (K : PySem.W.Frag) (CB CL CU : Addr) : Sp := fun vs H _ E => ∃ (x z : Addr) (n n2 m : Nat) (R ls : List (List Int)) (F : Hp), vs = [.ref x, .ref z] ∧ n ≠ n2 ∧ Ex F H ∧ Bk K CB F x n m R ∧ Fam K CL F z n2 ls ∧ ∀ F2 H2, Step none F H F2 H2 → E (.ref CU) none H2
theorem ok_meetB {f fU : Addr} {fd fdU : FuncData} (Fn : Fun K "check_meeting" "check_meeting" s_check_meeting f fd) (BC : BookC K CB) (LC : FallsC K CL) (FC : FirmC K mg CF mc) (E_UnlikeHouses : ErrC K mg CF CU fU "UnlikeHouses" []) (FI : Fun K "__init__" "UnlikeHouses.__init__" s_UnlikeHouses___init__ fU fdU) (bI_UnlikeHouses : Binds K fdU ["self"] []) :
    FnOk P w K mg base (L2.CX P w) 3 f fd ["book", "falls"] (spMeetB K CB CL CU) := by
  have GI_UnlikeHouses : FnOk P w K mg base CX0 1 fU fdU ["self"] (spI0 CU) := ok_unlE FI FC E_UnlikeHouses
  refine Fn.okX sc_check_meeting (fun vs H Q E ⟨_, _, _, _, _, _, _, _, h, _⟩ => by rw [h]; rfl) (fun cdv A outer s H vs Q E hr h => ?_)
  obtain ⟨x, z, n, n2, m, R, ls, F, rfl, hne, e, bk, fam, q⟩ := h
  obtain ⟨dx, it, dl, o1, o2, o3, o4⟩ := bk.ex
  obtain ⟨dz, lt, dd, p1, p2, p3, p4⟩ := fam.ex
  refine ⟨_, (pss_one (ps_if (pt_cmpR op_ne (e_fld (K := K) (pv 0) rfl) (e_fld (K := K) (pv 1) rfl) (nomark _)) (pss_one (ps_raise rfl (takes_of rfl rfl rfl rfl) (pmk_oex0 E_UnlikeHouses.T E_UnlikeHouses.iC E_UnlikeHouses.tI GI_UnlikeHouses (hr.mono (by decide)) bI_UnlikeHouses pass0 (by rfl) E_UnlikeHouses.g))) pss_nil)), ?_⟩
  exact t_if1 (b := true) (Step.refl e .nil) ((et_of (K := K) (g_opI (g_fld (K := K) rfl o1 BC.cl BC.nN rfl (.int _)) (g_fld (K := K) rfl p1 LC.cl LC.nN rfl (.int _)) rv_neI)).is (by simp; omega)) (fun _ F2 H2 s2 e2 => r_mk0 (q F2 H2 s2)) fun z => by cases z
/-- a manner that is none -/
def spManB (K : PySem.W.Frag) (CM : Addr) : Sp := fun vs H _ E => ∃ (d : PyData) (v : V) (F : Hp), vs = [v] ∧ d ∈ badL ∧ Ex F H ∧ Rp K F v d ∧ ∀ F2 H2 dx, Step none F H F2 H2 → (∃ u, F2 dx = some (.xd [("manner", u)]) ∧ Rp K F2 u d) → E (.ref CM) (some dx) H2
theorem ok_manB {f fM : Addr} {fd fdM : FuncData} (Fn : Fun K "check_manner" "check_manner" s_check_manner f fd) (hM : ManT K tM) (c_MANNERS : mg "MANNERS" = some (.ref tM)) (FC : FirmC K mg CF mc) (E_BadManner : ErrC K mg CF CM fM "BadManner" ["manner"]) (FI : Fun K "__init__" "BadManner.__init__" s_BadManner___init__ fM fdM) (bI_BadManner : Binds K fdM ["self", "manner"] []) :
    FnOk P w K mg base (L2.CX P w) 3 f fd ["manner"] (spManB K CM) := by
  have GI_BadManner : FnOk P w K mg base CX0 1 fM fdM ["self", "manner"] (spIv CM "manner") := ok_badE FI FC E_BadManner
  refine Fn.okX sc_check_manner (fun vs H Q E ⟨_, _, _, h, _⟩ => by rw [h]; rfl) (fun cdv A outer s H vs Q E hr h => ?_)
  obtain ⟨d, v, F, rfl, hd, e, hv, q⟩ := h
  obtain ⟨s1, s2⟩ := bad_factsL d hd
  refine ⟨_, (pss_cons (ps_if (pt_cmpR (o_ninU (K := K) (hu65 hr)) (pv 0) (pe_glob (v := .ref tM) (by rfl) c_MANNERS rfl) (by rfl)) (pss_one (ps_raise rfl (takes_of rfl rfl rfl rfl) (pmk_oex E_BadManner.T E_BadManner.iC E_BadManner.tI GI_BadManner (hr.mono (by decide)) bI_BadManner .nil pass0 (by rfl) E_BadManner.g (pa_cons (pv 0) pa_nil)))) pss_nil)
    (pss_one (ps_ret (pv 0)))), ?_⟩
  refine t_when (b := true) (Step.refl e .nil) ((et_man hM s1 (g_var rfl hv)).is (by rw [s2]; rfl)) (fun _ F2 H2 st e2 => ?_) (fun z => by cases z)
  exact r_mkv (K := K) (d := d) st.inn (gs_one (g_var rfl (Rp.mono e2 _ _ hv))) fun F4 H4 dx s4 h4 => q F4 H4 dx (st.trans s4) h4
def spChU (K : PySem.W.Frag) (CB CL CU : Addr) : Sp := fun vs H _ E => ∃ (x z : Addr) (n n2 m : Nat) (R ls : List (List Int)) (F : Hp) (v0 v1 v2 : V), vs = [.ref x, .ref z, v0, v1, v2] ∧ n ≠ n2 ∧ Ex F H ∧ Bk K CB F x n m R ∧ Fam K CL F z n2 ls ∧ ∀ F2 H2, Step none F H F2 H2 → E (.ref CU) none H2
theorem ok_chU {f fA fM fN fT fO fC : Addr} {fd fdA fdM fdN fdT fdO fdC : FuncData} (Fn : Fun K "least_chain" "least_chain" s_least_chain f fd) (T : Tx mg) (BC : BookC K CB) (GX_check_meeting : FnOk P w K mg base (L2.CX P w) 3 fA fdA ["book", "falls"] (spMeetB K CB CL CU))
    (c_contains : PySem.W.findIn K (.ref CB) "__contains__" = some (some (.ref fC))) (i_contains : PySem.W.isFn K (.ref fC) = true) (b_contains : Binds K fdC ["self", "thing"] []) (G_contains : FnOk P w K mg base CX0 3 fC fdC ["self", "thing"] (spCont K CB))
    (F_check_meeting : Fun K "check_meeting" "check_meeting" s_check_meeting fA fdA) (b_check_meeting : Binds K fdA ["book", "falls"] []) (g_check_meeting : mg "check_meeting" = some (.ref fA)) (G_check_meeting : FnOk P w K mg base CX0 1 fA fdA ["book", "falls"] (spMeet K CB CL))
    (F_check_manner : Fun K "check_manner" "check_manner" s_check_manner fM fdM) (b_check_manner : Binds K fdM ["manner"] []) (g_check_manner : mg "check_manner" = some (.ref fM)) (G_check_manner : FnOk P w K mg base CX0 1 fM fdM ["manner"] (spMan K))
    (F_near_inputs : Fun K "near_inputs" "near_inputs" s_near_inputs fN fdN) (b_near_inputs : Binds K fdN ["book", "falls", "manner"] []) (g_near_inputs : mg "near_inputs" = some (.ref fN)) (G_near_inputs : FnOk P w K mg base CX0 6 fN fdN ["book", "falls", "manner"] (spNear K CB CL))
    (F_steps_to : Fun K "_steps_to" "_steps_to" s_steps_to fT fdT) (b_steps_to : Binds K fdT ["near", "entry"] []) (g_steps_to : mg "_steps_to" = some (.ref fT)) (G_steps_to : FnOk P w K mg base CX0 2 fT fdT ["near", "entry"] (spSteps P w K))
    (F_first_onward : Fun K "_first_onward" "_first_onward" s_first_onward fO fdO) (b_first_onward : Binds K fdO ["near", "steps_left", "entry"] []) (g_first_onward : mg "_first_onward" = some (.ref fO)) :
    FnOk P w K mg base (L2.CX P w) 8 f fd ["book", "falls", "manner", "one", "other"] (spChU K CB CL CU) := by
  have G_first_onward : FnOk P w K mg base CX0 1 fO fdO ["near", "steps_left", "entry"] (spOnw P w K) := ok_onw F_first_onward
  refine Fn.okX sc_least_chain (fun vs H Q E ⟨_, _, _, _, _, _, _, _, _, _, _, h, _⟩ => by rw [h]; rfl) (fun cdv A outer s H vs Q E hr h => ?_)
  obtain ⟨x, z, n, n2, m, R, ls, F, v0, v1, v2, rfl, hne, e, bk, fam, q⟩ := h
  refine ⟨_, (pss_cons (ps_expr (pe_call GX_check_meeting (hr.mono (by decide)) (by rfl) g_check_meeting F_check_meeting.kp b_check_meeting .nil (passes_call (takes_of rfl rfl rfl rfl) fun _ _ _ _ h => h) (pa_cons (pv 0) (pa_cons (pv 1) pa_nil))))
    (pss_cons (ps_expr (pe_call G_check_manner (hr.mono (by decide)) (by rfl) g_check_manner F_check_manner.kp b_check_manner .nil pass0 (pa_cons (pv 2) pa_nil)))
    (pss_cons (ps_for (passes_of rfl) rfl (i_tup (K := K) (pe_tup (pa_cons (pv 3) (pa_cons (pv 4) pa_nil)))) (pg_name (i := 5) sc_least_chain.nd rfl (by first | exact Or.inl rfl | exact Or.inr rfl)) (pss_one (ps_if (pt_cmpR (op_notInI (KJ.fnCont G_contains) (hr.mono (by decide)) b_contains pass0 c_contains i_contains) (pv 5) (pv 0) (by rfl)) (pss_one ps_never) pss_nil)))
    (pss_cons (ps_set (i := 6) sc_least_chain.nd rfl (by first | exact Or.inl rfl | exact Or.inr rfl) (pe_call G_near_inputs (hr.mono (by decide)) (by rfl) g_near_inputs F_near_inputs.kp b_near_inputs .nil pass0 (pa_cons (pv 0) (pa_cons (pv 1) (pa_cons (pv 2) pa_nil)))))
    (pss_cons (ps_set (i := 7) sc_least_chain.nd rfl (by first | exact Or.inl rfl | exact Or.inr rfl) (pe_call G_steps_to (hr.mono (by decide)) (by rfl) g_steps_to F_steps_to.kp b_steps_to .nil pass0 (pa_cons (pv 6) (pa_cons (pe_callTy (c_tup (K := K)) (by rfl) T.tuple (by decide +kernel) (pa_cons (pv 4) pa_nil)) pa_nil))))
    (pss_cons (ps_if (pt_cmpR (o_ninN (P := P) (w := w) (K := K) (hu65 hr)) (pe_callTy (c_tup (K := K)) (by rfl) T.tuple (by decide +kernel) (pa_cons (pv 3) pa_nil)) (pv 7) (by rfl)) (pss_one (ps_ret pe_non)) pss_nil)
    (pss_cons (ps_set (i := 8) sc_least_chain.nd rfl (by first | exact Or.inl rfl | exact Or.inr rfl) (pe_lst (pa_cons (pe_callTy (c_tup (K := K)) (by rfl) T.tuple (by decide +kernel) (pa_cons (pv 3) pa_nil)) pa_nil)))
    (pss_cons (ps_while (passes_of rfl) (pt_cmpR op_gt (pe_dgetN (P := P) (w := w) (K := K) (hu65 hr) (pv 7) (pe_ix (o_ixL (K := K)) (pv 8) (pe_un un_neg pe_int) (fun _ _ => rfl)) (fun _ _ => rfl)) pe_int (nomark _)) (pss_one (ps_expr (pe_bm PySem.F.plainAttrs_list PySem.F.slot_list_append PySem.F.type_list_append mt_append (pv 8) (pa_cons (pe_call G_first_onward (hr.mono (by decide)) (by rfl) g_first_onward F_first_onward.kp b_first_onward .nil pass0 (pa_cons (pv 6) (pa_cons (pv 7) (pa_cons (pe_ix (o_ixL (K := K)) (pv 8) (pe_un un_neg pe_int) (fun _ _ => rfl)) pa_nil)))) pa_nil)))))
    (pss_one (ps_ret (pe_callTy (c_tup (K := K)) (by rfl) T.tuple (by decide +kernel) (pa_cons (pv 8) pa_nil)))))))))))), ?_⟩
  exact ⟨_, rfl, _, rfl, x, z, n, n2, m, R, ls, F, rfl, hne, e, bk, fam, q⟩
def spChM (K : PySem.W.Frag) (CB CL CM : Addr) : Sp := fun vs H _ E => ∃ (x z : Addr) (n m : Nat) (R ls : List (List Int)) (d : PyData) (F : Hp) (v0 v1 v2 : V), vs = [.ref x, .ref z, v0, v1, v2] ∧ d ∈ badL ∧ Ex F H ∧ Bk K CB F x n m R ∧ Fam K CL F z n ls ∧ Rp K F v0 d ∧ ∀ F2 H2 dx, Step none F H F2 H2 → (∃ u, F2 dx = some (.xd [("manner", u)]) ∧ Rp K F2 u d) → E (.ref CM) (some dx) H2
theorem ok_chM {f fA fM fN fT fO fC : Addr} {fd fdA fdM fdN fdT fdO fdC : FuncData} (Fn : Fun K "least_chain" "least_chain" s_least_chain f fd) (T : Tx mg) (BC : BookC K CB) (GX_check_manner : FnOk P w K mg base (L2.CX P w) 3 fM fdM ["manner"] (spManB K CM))
    (c_contains : PySem.W.findIn K (.ref CB) "__contains__" = some (some (.ref fC))) (i_contains : PySem.W.isFn K (.ref fC) = true) (b_contains : Binds K fdC ["self", "thing"] []) (G_contains : FnOk P w K mg base CX0 3 fC fdC ["self", "thing"] (spCont K CB))
    (F_check_meeting : Fun K "check_meeting" "check_meeting" s_check_meeting fA fdA) (b_check_meeting : Binds K fdA ["book", "falls"] []) (g_check_meeting : mg "check_meeting" = some (.ref fA)) (G_check_meeting : FnOk P w K mg base CX0 1 fA fdA ["book", "falls"] (spMeet K CB CL))
    (F_check_manner : Fun K "check_manner" "check_manner" s_check_manner fM fdM) (b_check_manner : Binds K fdM ["manner"] []) (g_check_manner : mg "check_manner" = some (.ref fM)) (G_check_manner : FnOk P w K mg base CX0 1 fM fdM ["manner"] (spMan K))
    (F_near_inputs : Fun K "near_inputs" "near_inputs" s_near_inputs fN fdN) (b_near_inputs : Binds K fdN ["book", "falls", "manner"] []) (g_near_inputs : mg "near_inputs" = some (.ref fN)) (G_near_inputs : FnOk P w K mg base CX0 6 fN fdN ["book", "falls", "manner"] (spNear K CB CL))
    (F_steps_to : Fun K "_steps_to" "_steps_to" s_steps_to fT fdT) (b_steps_to : Binds K fdT ["near", "entry"] []) (g_steps_to : mg "_steps_to" = some (.ref fT)) (G_steps_to : FnOk P w K mg base CX0 2 fT fdT ["near", "entry"] (spSteps P w K))
    (F_first_onward : Fun K "_first_onward" "_first_onward" s_first_onward fO fdO) (b_first_onward : Binds K fdO ["near", "steps_left", "entry"] []) (g_first_onward : mg "_first_onward" = some (.ref fO)) :
    FnOk P w K mg base (L2.CX P w) 8 f fd ["book", "falls", "manner", "one", "other"] (spChM K CB CL CM) := by
  have G_first_onward : FnOk P w K mg base CX0 1 fO fdO ["near", "steps_left", "entry"] (spOnw P w K) := ok_onw F_first_onward
  refine Fn.okX sc_least_chain (fun vs H Q E ⟨_, _, _, _, _, _, _, _, _, _, _, h, _⟩ => by rw [h]; rfl) (fun cdv A outer s H vs Q E hr h => ?_)
  obtain ⟨x, z, n, m, R, ls, d, F, v0, v1, v2, rfl, hd, e, bk, fam, hv, q⟩ := h
  refine ⟨_, (pss_cons (ps_expr (pe_call G_check_meeting (hr.mono (by decide)) (by rfl) g_check_meeting F_check_meeting.kp b_check_meeting .nil pass0 (pa_cons (pv 0) (pa_cons (pv 1) pa_nil))))
    (pss_cons (ps_expr (pe_call GX_check_manner (hr.mono (by decide)) (by rfl) g_check_manner F_check_manner.kp b_check_manner .nil (passes_call (takes_of rfl rfl rfl rfl) fun _ _ _ _ h => h) (pa_cons (pv 2) pa_nil)))
    (pss_cons (ps_for (passes_of rfl) rfl (i_tup (K := K) (pe_tup (pa_cons (pv 3) (pa_cons (pv 4) pa_nil)))) (pg_name (i := 5) sc_least_chain.nd rfl (by first | exact Or.inl rfl | exact Or.inr rfl)) (pss_one (ps_if (pt_cmpR (op_notInI (KJ.fnCont G_contains) (hr.mono (by decide)) b_contains pass0 c_contains i_contains) (pv 5) (pv 0) (by rfl)) (pss_one ps_never) pss_nil)))
    (pss_cons (ps_set (i := 6) sc_least_chain.nd rfl (by first | exact Or.inl rfl | exact Or.inr rfl) (pe_call G_near_inputs (hr.mono (by decide)) (by rfl) g_near_inputs F_near_inputs.kp b_near_inputs .nil pass0 (pa_cons (pv 0) (pa_cons (pv 1) (pa_cons (pv 2) pa_nil)))))
    (pss_cons (ps_set (i := 7) sc_least_chain.nd rfl (by first | exact Or.inl rfl | exact Or.inr rfl) (pe_call G_steps_to (hr.mono (by decide)) (by rfl) g_steps_to F_steps_to.kp b_steps_to .nil pass0 (pa_cons (pv 6) (pa_cons (pe_callTy (c_tup (K := K)) (by rfl) T.tuple (by decide +kernel) (pa_cons (pv 4) pa_nil)) pa_nil))))
    (pss_cons (ps_if (pt_cmpR (o_ninN (P := P) (w := w) (K := K) (hu65 hr)) (pe_callTy (c_tup (K := K)) (by rfl) T.tuple (by decide +kernel) (pa_cons (pv 3) pa_nil)) (pv 7) (by rfl)) (pss_one (ps_ret pe_non)) pss_nil)
    (pss_cons (ps_set (i := 8) sc_least_chain.nd rfl (by first | exact Or.inl rfl | exact Or.inr rfl) (pe_lst (pa_cons (pe_callTy (c_tup (K := K)) (by rfl) T.tuple (by decide +kernel) (pa_cons (pv 3) pa_nil)) pa_nil)))
    (pss_cons (ps_while (passes_of rfl) (pt_cmpR op_gt (pe_dgetN (P := P) (w := w) (K := K) (hu65 hr) (pv 7) (pe_ix (o_ixL (K := K)) (pv 8) (pe_un un_neg pe_int) (fun _ _ => rfl)) (fun _ _ => rfl)) pe_int (nomark _)) (pss_one (ps_expr (pe_bm PySem.F.plainAttrs_list PySem.F.slot_list_append PySem.F.type_list_append mt_append (pv 8) (pa_cons (pe_call G_first_onward (hr.mono (by decide)) (by rfl) g_first_onward F_first_onward.kp b_first_onward .nil pass0 (pa_cons (pv 6) (pa_cons (pv 7) (pa_cons (pe_ix (o_ixL (K := K)) (pv 8) (pe_un un_neg pe_int) (fun _ _ => rfl)) pa_nil)))) pa_nil)))))
    (pss_one (ps_ret (pe_callTy (c_tup (K := K)) (by rfl) T.tuple (by decide +kernel) (pa_cons (pv 8) pa_nil)))))))))))), ?_⟩
  exact ⟨_, rfl, _, rfl, x, z, n, m, R, ls, F, rfl, e, bk, fam, fun F1 H1 s1 => ⟨_, rfl, d, v0, F1, rfl, hd, s1.inn, Rp.mono s1.sub _ _ hv, fun F2 H2 dx s2 h2 => q F2 H2 dx (s1.trans s2) h2⟩⟩
def spChN (K : PySem.W.Frag) (CB CL CE : Addr) : Sp := fun vs H _ E => ∃ (x z : Addr) (n m : Nat) (mn : Str) (R ls : List (List Int)) (one bad : List Int) (d2 : PyData) (F : Hp) (v1 v2 : V), vs = [.ref x, .ref z, .str mn, v1, v2] ∧ mn ∈ mans ∧ (one.length ≤ 1000 ∧ bad.length ≤ 1000) ∧ (bad = one ∧ one ∉ R ∨ one ∈ R ∧ bad ∉ R ∧ d2 = dT bad) ∧ Ex F H ∧ Bk K CB F x n m R ∧ Fam K CL F z n ls ∧ Rp K F v1 (dT one) ∧ Rp K F v2 d2 ∧
  ∀ F2 H2 dx, Step none F H F2 H2 → (∃ u, F2 dx = some (.xd [("entry", u)]) ∧ Rp K F2 u (dT bad)) → E (.ref CE) (some dx) H2
theorem ok_chN {f fA fM fN fT fO fC fE : Addr} {fd fdA fdM fdN fdT fdO fdC fdE : FuncData} (Fn : Fun K "least_chain" "least_chain" s_least_chain f fd) (T : Tx mg) (BC : BookC K CB) (FM : FirmC K mg CF mc) (E_NotInBook : ErrC K mg CF CE fE "NotInBook" ["entry"]) (FI : Fun K "__init__" "NotInBook.__init__" s_NotInBook___init__ fE fdE) (bI_NotInBook : Binds K fdE ["self", "entry"] [])
    (c_contains : PySem.W.findIn K (.ref CB) "__contains__" = some (some (.ref fC))) (i_contains : PySem.W.isFn K (.ref fC) = true) (b_contains : Binds K fdC ["self", "thing"] []) (G_contains : FnOk P w K mg base CX0 3 fC fdC ["self", "thing"] (spCont K CB))
    (F_check_meeting : Fun K "check_meeting" "check_meeting" s_check_meeting fA fdA) (b_check_meeting : Binds K fdA ["book", "falls"] []) (g_check_meeting : mg "check_meeting" = some (.ref fA)) (G_check_meeting : FnOk P w K mg base CX0 1 fA fdA ["book", "falls"] (spMeet K CB CL))
    (F_check_manner : Fun K "check_manner" "check_manner" s_check_manner fM fdM) (b_check_manner : Binds K fdM ["manner"] []) (g_check_manner : mg "check_manner" = some (.ref fM)) (G_check_manner : FnOk P w K mg base CX0 1 fM fdM ["manner"] (spMan K))
    (F_near_inputs : Fun K "near_inputs" "near_inputs" s_near_inputs fN fdN) (b_near_inputs : Binds K fdN ["book", "falls", "manner"] []) (g_near_inputs : mg "near_inputs" = some (.ref fN)) (G_near_inputs : FnOk P w K mg base CX0 6 fN fdN ["book", "falls", "manner"] (spNear K CB CL))
    (F_steps_to : Fun K "_steps_to" "_steps_to" s_steps_to fT fdT) (b_steps_to : Binds K fdT ["near", "entry"] []) (g_steps_to : mg "_steps_to" = some (.ref fT)) (G_steps_to : FnOk P w K mg base CX0 2 fT fdT ["near", "entry"] (spSteps P w K))
    (F_first_onward : Fun K "_first_onward" "_first_onward" s_first_onward fO fdO) (b_first_onward : Binds K fdO ["near", "steps_left", "entry"] []) (g_first_onward : mg "_first_onward" = some (.ref fO)) :
    FnOk P w K mg base (L2.CX P w) 8 f fd ["book", "falls", "manner", "one", "other"] (spChN K CB CL CE) := by
  have G_first_onward : FnOk P w K mg base CX0 1 fO fdO ["near", "steps_left", "entry"] (spOnw P w K) := ok_onw F_first_onward
  have GI_NotInBook : FnOk P w K mg base CX0 1 fE fdE ["self", "entry"] (spIv CE "entry") := ok_outE FI FM E_NotInBook
  refine Fn.okX sc_least_chain (fun vs H Q E ⟨_, _, _, _, _, _, _, _, _, _, _, _, _, h, _⟩ => by rw [h]; rfl) (fun cdv A outer s H vs Q E hr h => ?_)
  obtain ⟨x, z, n, m, mn, R, ls, one, bad, d2, F, v1, v2, rfl, hm, ⟨hl1, hl2⟩, hor, e, bk, fam, hv1, hv2, q⟩ := h
  refine ⟨_, (pss_cons (ps_expr (pe_call G_check_meeting (hr.mono (by decide)) (by rfl) g_check_meeting F_check_meeting.kp b_check_meeting .nil pass0 (pa_cons (pv 0) (pa_cons (pv 1) pa_nil))))
    (pss_cons (ps_expr (pe_call G_check_manner (hr.mono (by decide)) (by rfl) g_check_manner F_check_manner.kp b_check_manner .nil pass0 (pa_cons (pv 2) pa_nil)))
    (pss_cons (ps_for (passes_of rfl) rfl (i_tup (K := K) (pe_tup (pa_cons (pv 3) (pa_cons (pv 4) pa_nil)))) (pg_name (i := 5) sc_least_chain.nd rfl (by first | exact Or.inl rfl | exact Or.inr rfl)) (pss_one (ps_if (pt_cmpR (op_notInI (KJ.fnCont G_contains) (hr.mono (by decide)) b_contains pass0 c_contains i_contains) (pv 5) (pv 0) (by rfl)) (pss_one (ps_raise rfl (takes_of rfl rfl rfl rfl) (pmk_oex E_NotInBook.T E_NotInBook.iC E_NotInBook.tI GI_NotInBook (hr.mono (by decide)) bI_NotInBook .nil pass0 (by rfl) E_NotInBook.g (pa_cons (pv 5) pa_nil)))) pss_nil)))
    (pss_cons (ps_set (i := 6) sc_least_chain.nd rfl (by first | exact Or.inl rfl | exact Or.inr rfl) (pe_call G_near_inputs (hr.mono (by decide)) (by rfl) g_near_inputs F_near_inputs.kp b_near_inputs .nil pass0 (pa_cons (pv 0) (pa_cons (pv 1) (pa_cons (pv 2) pa_nil)))))
    (pss_cons (ps_set (i := 7) sc_least_chain.nd rfl (by first | exact Or.inl rfl | exact Or.inr rfl) (pe_call G_steps_to (hr.mono (by decide)) (by rfl) g_steps_to F_steps_to.kp b_steps_to .nil pass0 (pa_cons (pv 6) (pa_cons (pe_callTy (c_tup (K := K)) (by rfl) T.tuple (by decide +kernel) (pa_cons (pv 4) pa_nil)) pa_nil))))
    (pss_cons (ps_if (pt_cmpR (o_ninN (P := P) (w := w) (K := K) (hu65 hr)) (pe_callTy (c_tup (K := K)) (by rfl) T.tuple (by decide +kernel) (pa_cons (pv 3) pa_nil)) (pv 7) (by rfl)) (pss_one (ps_ret pe_non)) pss_nil)
    (pss_cons (ps_set (i := 8) sc_least_chain.nd rfl (by first | exact Or.inl rfl | exact Or.inr rfl) (pe_lst (pa_cons (pe_callTy (c_tup (K := K)) (by rfl) T.tuple (by decide +kernel) (pa_cons (pv 3) pa_nil)) pa_nil)))
    (pss_cons (ps_while (passes_of rfl) (pt_cmpR op_gt (pe_dgetN (P := P) (w := w) (K := K) (hu65 hr) (pv 7) (pe_ix (o_ixL (K := K)) (pv 8) (pe_un un_neg pe_int) (fun _ _ => rfl)) (fun _ _ => rfl)) pe_int (nomark _)) (pss_one (ps_expr (pe_bm PySem.F.plainAttrs_list PySem.F.slot_list_append PySem.F.type_list_append mt_append (pv 8) (pa_cons (pe_call G_first_onward (hr.mono (by decide)) (by rfl) g_first_onward F_first_onward.kp b_first_onward .nil pass0 (pa_cons (pv 6) (pa_cons (pv 7) (pa_cons (pe_ix (o_ixL (K := K)) (pv 8) (pe_un un_neg pe_int) (fun _ _ => rfl)) pa_nil)))) pa_nil)))))
    (pss_one (ps_ret (pe_callTy (c_tup (K := K)) (by rfl) T.tuple (by decide +kernel) (pa_cons (pv 8) pa_nil)))))))))))), ?_⟩
  refine ⟨_, rfl, _, rfl, x, z, n, m, R, ls, F, rfl, e, bk, fam, fun F1 H1 s1 => ?_⟩
  dsimp only
  refine g_call (K := K) (F := F1) (pt := none) mn (gs_one (g_var (v := .str mn) (σ := [some (.ref x), some (.ref z), some (.str mn), some v1, some v2, none, none, none, none]) (i := 2) rfl (.str _))) rfl hm H1 s1.inn .nil _ fun d u F2 H2 hd s2 hu => ?_
  have s12 := s1.trans s2
  have e2 := s12.sub
  dsimp only
  refine t_for (K := K) (ds := [dT one, d2]) s12 (w_tupI (g_tupI (gs_two (g_var (i := 3) rfl (Rp.mono e2 _ _ hv1)) (g_var (i := 4) rfl (Rp.mono e2 _ _ hv2))) (by show 2 ≤ 100000; omega))) (fun i σ' F' => (∃ a, σ' = [some (.ref x), some (.ref z), some (.str mn), some v1, some v2, a, none, none, none]) ∧ (1 ≤ i → one ∈ R) ∧ i ≤ 1) (fun F3 e3 => ⟨⟨_, rfl⟩, fun h => by omega, by omega⟩) (fun i d hd σ' F' H' u hI s' e' hu N hN => ?_) (fun σ' F' H' hI s' e' => ?_)
  · obtain ⟨⟨a, rfl⟩, h1, h2⟩ := hI
    have bk' := bk.mono (e2.trans e')
    by_cases z : i = 0
    · subst z
      obtain rfl : dT one = d := Option.some.inj hd
      by_cases y : one ∈ R
      · exact t_if1 (b := false) s' ((et_notIn (CB := CB) (n := n) (m := m) (R := R) (b := false) (r := one) rfl bk' hl1 (g_var rfl hu)).is (by simp [y])) (fun z => by cases z) fun _ F3 H3 s3 e3 => hN _ F3 H3 ⟨⟨_, rfl⟩, fun _ => y, Nat.le_refl _⟩ s3 e3
      · obtain rfl : bad = one := by
          rcases hor with ⟨h, _⟩ | ⟨h, _⟩
          · exact h
          · exact absurd h y
        exact t_if1 (b := true) s' ((et_notIn (CB := CB) (n := n) (m := m) (R := R) (b := false) (r := bad) rfl bk' hl1 (g_var rfl hu)).is (by simp [y])) (fun _ F3 H3 s3 e3 => r_mkv (K := K) (d := dT bad) s3.inn (gs_one (g_var rfl (Rp.mono e3 _ _ hu))) fun F4 H4 dx s4 h4 => q F4 H4 dx (s3.trans s4) h4) fun z => by cases z
    · obtain rfl : i = 1 := by omega
      obtain rfl : d2 = d := Option.some.inj hd
      rcases hor with ⟨_, h⟩ | ⟨_, h, hd2⟩
      · exact absurd (h1 (Nat.le_refl _)) h
      · subst hd2
        exact t_if1 (b := true) s' ((et_notIn (CB := CB) (n := n) (m := m) (R := R) (b := false) (r := bad) rfl bk' hl2 (g_var rfl hu)).is (by simp [h])) (fun _ F3 H3 s3 e3 => r_mkv (K := K) (d := dT bad) s3.inn (gs_one (g_var rfl (Rp.mono e3 _ _ hu))) fun F4 H4 dx s4 h4 => q F4 H4 dx (s3.trans s4) h4) fun z => by cases z
  · exact absurd hI.2.2 (by show ¬ 2 ≤ 1; decide)
/-- least_chain, refused -/
def spChX (K : PySem.W.Frag) (CB CL CU CM CE : Addr) : Sp := fun vs H Q E => spChU K CB CL CU vs H Q E ∨ spChM K CB CL CM vs H Q E ∨ spChN K CB CL CE vs H Q E
theorem ok_chX {f fA fM fN fT fO fC fE : Addr} {fd fdA fdM fdN fdT fdO fdC fdE : FuncData} (Fn : Fun K "least_chain" "least_chain" s_least_chain f fd) (T : Tx mg) (BC : BookC K CB) (FM : FirmC K mg CF mc) (E_NotInBook : ErrC K mg CF CE fE "NotInBook" ["entry"]) (FI : Fun K "__init__" "NotInBook.__init__" s_NotInBook___init__ fE fdE) (bI_NotInBook : Binds K fdE ["self", "entry"] [])
    (GX_check_meeting : FnOk P w K mg base (L2.CX P w) 3 fA fdA ["book", "falls"] (spMeetB K CB CL CU)) (GX_check_manner : FnOk P w K mg base (L2.CX P w) 3 fM fdM ["manner"] (spManB K CM))
    (c_contains : PySem.W.findIn K (.ref CB) "__contains__" = some (some (.ref fC))) (i_contains : PySem.W.isFn K (.ref fC) = true) (b_contains : Binds K fdC ["self", "thing"] []) (G_contains : FnOk P w K mg base CX0 3 fC fdC ["self", "thing"] (spCont K CB))
    (F_check_meeting : Fun K "check_meeting" "check_meeting" s_check_meeting fA fdA) (b_check_meeting : Binds K fdA ["book", "falls"] []) (g_check_meeting : mg "check_meeting" = some (.ref fA)) (G_check_meeting : FnOk P w K mg base CX0 1 fA fdA ["book", "falls"] (spMeet K CB CL))
    (F_check_manner : Fun K "check_manner" "check_manner" s_check_manner fM fdM) (b_check_manner : Binds K fdM ["manner"] []) (g_check_manner : mg "check_manner" = some (.ref fM)) (G_check_manner : FnOk P w K mg base CX0 1 fM fdM ["manner"] (spMan K))
    (F_near_inputs : Fun K "near_inputs" "near_inputs" s_near_inputs fN fdN) (b_near_inputs : Binds K fdN ["book", "falls", "manner"] []) (g_near_inputs : mg "near_inputs" = some (.ref fN)) (G_near_inputs : FnOk P w K mg base CX0 6 fN fdN ["book", "falls", "manner"] (spNear K CB CL))
    (F_steps_to : Fun K "_steps_to" "_steps_to" s_steps_to fT fdT) (b_steps_to : Binds K fdT ["near", "entry"] []) (g_steps_to : mg "_steps_to" = some (.ref fT)) (G_steps_to : FnOk P w K mg base CX0 2 fT fdT ["near", "entry"] (spSteps P w K))
    (F_first_onward : Fun K "_first_onward" "_first_onward" s_first_onward fO fdO) (b_first_onward : Binds K fdO ["near", "steps_left", "entry"] []) (g_first_onward : mg "_first_onward" = some (.ref fO)) :
    FnOk P w K mg base (L2.CX P w) 8 f fd ["book", "falls", "manner", "one", "other"] (spChX K CB CL CU CM CE) :=
  Fv.FnOk.or (ok_chU Fn T BC GX_check_meeting c_contains i_contains b_contains G_contains F_check_meeting b_check_meeting g_check_meeting G_check_meeting F_check_manner b_check_manner g_check_manner G_check_manner F_near_inputs b_near_inputs g_near_inputs G_near_inputs F_steps_to b_steps_to g_steps_to G_steps_to F_first_onward b_first_onward g_first_onward)
    (Fv.FnOk.or (ok_chM Fn T BC GX_check_manner c_contains i_contains b_contains G_contains F_check_meeting b_check_meeting g_check_meeting G_check_meeting F_check_manner b_check_manner g_check_manner G_check_manner F_near_inputs b_near_inputs g_near_inputs G_near_inputs F_steps_to b_steps_to g_steps_to G_steps_to F_first_onward b_first_onward g_first_onward)
      (ok_chN Fn T BC FM E_NotInBook FI bI_NotInBook c_contains i_contains b_contains G_contains F_check_meeting b_check_meeting g_check_meeting G_check_meeting F_check_manner b_check_manner g_check_manner G_check_manner F_near_inputs b_near_inputs g_near_inputs G_near_inputs F_steps_to b_steps_to g_steps_to G_steps_to F_first_onward b_first_onward g_first_onward))
end
end KJ
namespace KJ
open PySem PySem.Spec PyProof.Rows L2 Fv Evl StX
def rows4 : Nat → List (List Int)
  | 0 => [[]]
  | n + 1 => (rows4 n).flatMap fun r => [r ++ [0], r ++ [1], r ++ [2], r ++ [3]]
def shownOk (d : PyData) : Bool := d.showable && !d.hasDict && decide (d.shown.length ≤ 100) && decide (d.depth ≤ 60)
theorem rows4_ok : ∀ n ∈ List.range 6, ∀ r ∈ rows4 n, shownOk (dT r) = true := by decide +kernel
theorem rows4_all : ∀ (n : Nat) (r : List Int), r.length = n → (∀ k ∈ r, 0 ≤ k ∧ k < 4) → r ∈ rows4 n
  | 0, r, h, _ => by rw [List.length_eq_zero_iff.mp h]; simp [rows4]
  | n + 1, r, h, hk => by
    have hne : r ≠ [] := fun z => by rw [z] at h; simp at h
    have e := (List.dropLast_concat_getLast hne).symm
    have h1 := rows4_all n r.dropLast (by rw [List.length_dropLast, h]; rfl) fun k hk2 => hk k ((List.dropLast_sublist r).subset hk2)
    have h2 := hk (r.getLast hne) (List.getLast_mem hne)
    rw [e]
    refine List.mem_flatMap.mpr ⟨r.dropLast, h1, ?_⟩
    have h3 : r.getLast hne = 0 ∨ r.getLast hne = 1 ∨ r.getLast hne = 2 ∨ r.getLast hne = 3 := by omega
    rcases h3 with z | z | z | z <;> rw [z] <;> simp
theorem row_shown {n m : Nat} {r : List Int} (h : Row n m r) (hn : n ≤ 5) (hm : m ≤ 4) : (dT r).showable = true ∧ (dT r).hasDict = false ∧ (dT r).shown.length ≤ 100 ∧ (dT r).depth ≤ 60 := by
  have := rows4_ok n (List.mem_range.mpr (by omega)) r (rows4_all n r h.1 fun k hk => by have := h.2 k hk; omega)
  unfold shownOk at this
  simp only [Bool.and_eq_true, Bool.not_eq_true', decide_eq_true_eq] at this
  exact ⟨this.1.1.1, this.1.1.2, this.1.2, this.2⟩
end KJ
namespace Fv
open PySem PySem.Spec PyProof.Rows L2 Evl StX
/-- a def, where nothing is being shown around it -/
theorem okG {P : Program} {w : World} {K : PySem.W.Frag} {mg : Str → Option Value} {base : Heap} {x ql : Str} {st : Stmt} {f : Addr} {fd : FuncData} {N ps : List Str} {k : Nat} {sp : Sp} (Fn : Fun K x ql st f fd) (S : FnScope N ps (defScope st)) (ln : ∀ vs H Q E, sp vs H Q E → vs.length = ps.length)
    (hb : ∀ (cv : Value) (A : Around) (out : List Env) (s : Shared) (H : Hp) (vs : List V) (Q : VK) (E : XK), Calmly A → Room k (A.deeper (envOfC ql (defScope st) s.heap.objs.size f cv)) → sp vs H Q E → ∃ t, PSs (cxOf CX0 P w K mg base N ql (defScope st) f cv A out s H E) (defBody st) t ∧ t { nx := fun _ H2 => Q .non H2, rt := Q } (start N vs) H) :
    FnG P w K mg base CX0 (k + 1) f fd ps sp := by
  obtain ⟨oc, od, kV, doc, pm, an, cdv, ct, osl, rfl, lk, hc⟩ := Fn.ex
  exact gfn_mk lk hc S ln fun A out s H vs Q E cm room hs => hb cdv A out s H vs Q E cm room hs
section
variable {K : PySem.W.Frag} {pt : Option Pt} {σ : L2.St} {F : Hp} {te : TE} {d : PyData} {a C dd : Addr} {cls : Value}
theorem g_isY {i : Nat} {c : V} {cv : Value} (h0 : σ[i]? = some (some (.ref a))) (hc : ∀ u, RelV c u → u = cv) (hk : PySem.W.kitOne K cls cv = some true) : EvG K pt (tCB (rIsY K cls a) (tCons (tVar i) (tCons (tC c) tNil))) σ F (Is (.bool true)) := fun H1 e g Q q =>
  ⟨_, h0, c, cv, rfl, hc, hk, q _ _ F H1 rfl (.refl e g) (.bl true)⟩
theorem g_xf {i : Nat} {n : Str} {fs : List (Str × V)} {v : V} (h0 : σ[i]? = some (some (.ref a))) (hd : F dd = some (.xd fs)) (hl : fs.lookup n = some v) (hv : Rp K F v d) : EvG K pt (tXf a (.ref C) (some dd) C n (tVar i)) σ F (Is d) := fun H1 e g Q q =>
  ⟨_, h0, rfl, rfl, dd, fs, v, rfl, e _ _ hd, hl, q _ v F H1 rfl (.refl e g) hv⟩
theorem g_repr (h : EvG K pt te σ F (Is d)) (h1 : d.showable = true) (h2 : d.hasDict = false) (h3 : d.shown.length ≤ 100) (h4 : d.depth ≤ 60) : EvG K pt (tCB (rRepr K) (tCons te tNil)) σ F (Is (.str d.shown)) := fun H1 e g Q q =>
  h H1 e g _ fun d' v F2 H2 hd s hv => by
    subst hd
    exact ⟨v, d', rfl, Rp.dp _ _ (Rp.mono s.inn _ _ hv), h1, h2, Nat.le_trans h3 (by decide), h4, q _ _ F2 H2 rfl s (.str _)⟩
end
end Fv
namespace KJ
open PySem PySem.Spec PyProof.Rows L2 Fv Evl StX
abbrev s_law_refused : Stmt := topS 62
theorem sc_law_refused : FnScope ["_law_book", "_law_falls", "_law_manner", "_law_one", "_law_other", "raised"] ["_law_book", "_law_falls", "_law_manner", "_law_one", "_law_other"] (defScope s_law_refused) := ⟨rfl, rfl, rfl, by decide +kernel, rfl, by decide +kernel, by decide +kernel⟩
abbrev s_law_door : Stmt := topS 63
theorem sc_law_door : FnScope ["_law_book", "_law_falls", "_law_manner", "_law_one", "raised"] ["_law_book", "_law_falls", "_law_manner", "_law_one"] (defScope s_law_door) := ⟨rfl, rfl, rfl, by decide +kernel, rfl, by decide +kernel, by decide +kernel⟩
/-- what is asked of the caught errors -/
structure DoorE (K : PySem.W.Frag) (CF CU CM CE : Addr) : Prop where
  xU : PySem.W.exmOne K (.ref CU) (.ref CF) = some true
  xM : PySem.W.exmOne K (.ref CM) (.ref CF) = some true
  xE : PySem.W.exmOne K (.ref CE) (.ref CF) = some true
  cM : L2.ExcC K CM
  cE : L2.ExcC K CE
  UU : PySem.W.kitOne K (.ref CU) (.ref CU) = some true
  MU : PySem.W.kitOne K (.ref CM) (.ref CU) = some false
  MM : PySem.W.kitOne K (.ref CM) (.ref CM) = some true
  EU : PySem.W.kitOne K (.ref CE) (.ref CU) = some false
  EM : PySem.W.kitOne K (.ref CE) (.ref CM) = some false
  EE : PySem.W.kitOne K (.ref CE) (.ref CE) = some true
section
variable {P : Program} {w : World} {K : PySem.W.Frag} {mg : Str → Option Value} {base : Heap} {CB CL CF CE CU CM fE fU fM : Addr} {mc : Value}
def spDoorG (K : PySem.W.Frag) (CB CL : Addr) : Sp := fun vs H Q _ => ∃ (x z : Addr) (n m : Nat) (mn : Str) (R ls : List (List Int)) (one : List Int) (F : Hp) (v1 : V), vs = [.ref x, .ref z, .str mn, v1] ∧ ((1 ≤ n ∧ n ≤ 5) ∧ mn ∈ mans ∧ R.length ≤ 300 ∧ (∀ r ∈ R, r.length = n ∧ TS.Bd 4 r) ∧ Asc R) ∧ one ∈ R ∧ Ex F H ∧ Bk K CB F x n m R ∧ Fam K CL F z n ls ∧ Rp K F v1 (dT one) ∧ ∀ u F2 H2, Step none F H F2 H2 → Rp K F2 u (.tuple [.str "good"]) → Q u H2
theorem ok_doorG {f fL : Addr} {fd fdL : FuncData} (Fn : Fun K "_law_door" "_law_door" s_law_door f fd) (T : Tx mg)
    (F_least_chain : Fun K "least_chain" "least_chain" s_least_chain fL fdL) (b_least_chain : Binds K fdL ["book", "falls", "manner", "one", "other"] []) (g_least_chain : mg "least_chain" = some (.ref fL)) (G_least_chain : FnOk P w K mg base CX0 7 fL fdL ["book", "falls", "manner", "one", "other"] (spChain K CB CL)) :
    FnOk P w K mg base CX0 8 f fd ["_law_book", "_law_falls", "_law_manner", "_law_one"] (spDoorG K CB CL) := by
  refine Fn.ok sc_law_door (fun vs H Q E ⟨_, _, _, _, _, _, _, _, _, _, h, _⟩ => by rw [h]; rfl) (fun cdv A outer s H vs Q E hr h => ?_)
  obtain ⟨x, z, n, m, mn, R, ls, one, F, v1, rfl, hb, hone, e, bk, fam, hv, q⟩ := h
  refine ⟨_, (pss_cons (ps_try_thru0 (pss_one (ps_expr (pe_call G_least_chain (hr.mono (by decide)) (by rfl) g_least_chain F_least_chain.kp b_least_chain .nil pass0 (pa_cons (pv 0) (pa_cons (pv 1) (pa_cons (pv 2) (pa_cons (pv 3) (pa_cons (pv 3) pa_nil)))))))))
    (pss_one (ps_ret (pe_tup (pa_cons pe_str pa_nil))))), ?_⟩
  refine ⟨_, rfl, _, rfl, _, rfl, _, rfl, _, rfl, x, z, n, m, mn, R, ls, false, false, one, one, F, v1, v1, rfl, hb, ⟨hone, hone⟩, e, bk, fam, hv, hv, fun ts lv v' F2 H2 s2 _ _ _ => ?_⟩
  exact t_retI (K := K) (σ := [some (.ref x), some (.ref z), some (.str mn), some v1, none]) s2 (g_tupI (gs_one g_str) (by show 1 ≤ 100000; omega)) q
def spDoorU (K : PySem.W.Frag) (CB CL : Addr) : Sp := fun vs H Q _ => ∃ (x z : Addr) (n n2 m : Nat) (R ls : List (List Int)) (F : Hp) (v0 v1 : V), vs = [.ref x, .ref z, v0, v1] ∧ n ≠ n2 ∧ Ex F H ∧ Bk K CB F x n m R ∧ Fam K CL F z n2 ls ∧ ∀ u F2 H2, Step none F H F2 H2 → Rp K F2 u (.tuple [.str "houses"]) → Q u H2
theorem ok_doorU {f fL : Addr} {fd fdL : FuncData} (Fn : Fun K "_law_door" "_law_door" s_law_door f fd) (T : Tx mg) (FM : FirmC K mg CF mc) (EU : ErrC K mg CF CU fU "UnlikeHouses" []) (EM : ErrC K mg CF CM fM "BadManner" ["manner"]) (EN : ErrC K mg CF CE fE "NotInBook" ["entry"]) (DE : DoorE K CF CU CM CE)
    (F_least_chain : Fun K "least_chain" "least_chain" s_least_chain fL fdL) (b_least_chain : Binds K fdL ["book", "falls", "manner", "one", "other"] []) (g_least_chain : mg "least_chain" = some (.ref fL)) (GX_least_chain : FnOk P w K mg base (L2.CX P w) 8 fL fdL ["book", "falls", "manner", "one", "other"] (spChX K CB CL CU CM CE)) :
    FnOk P w K mg base CX0 9 f fd ["_law_book", "_law_falls", "_law_manner", "_law_one"] (spDoorU K CB CL) := by
  refine Fn.ok sc_law_door (fun vs H Q E ⟨_, _, _, _, _, _, _, _, _, _, h, _⟩ => by rw [h]; rfl) (fun cdv A outer s H vs Q E hr h => ?_)
  obtain ⟨x, z, n, n2, m, R, ls, F, v0, v1, rfl, hne, e, bk, fam, q⟩ := h
  refine ⟨_, (pss_cons (ps_try_as (i := 4) rfl rfl sc_law_door.nd rfl rfl ⟨by rfl, by decide, .inl FM.g⟩ takes0 (fun W pn xe tkW po => (pss_one (ps_expr (pe_callS GX_least_chain (hr.mono (by decide)) (by rfl) g_least_chain F_least_chain.kp b_least_chain (fun σ => passAt tkW σ) (pa_cons (pv 0) (pa_cons (pv 1) (pa_cons (pv 2) (pa_cons (pv 3) (pa_cons (pv 3) pa_nil))))))))) (fun a oe cls d pn hz hf => (pss_cons (ps_if (pt_val (pe_callB (c_isY (K := K) hz) (by rfl) T.isinstance (by decide +kernel) (pa_cons (pv 4) (pa_cons (pe_glob (v := .ref CU) (by rfl) EU.g rfl) pa_nil)))) (pss_one (ps_ret (pe_tup (pa_cons pe_str pa_nil)))) pss_nil) (pss_cons (ps_if (pt_val (pe_callB (c_isY (K := K) hz) (by rfl) T.isinstance (by decide +kernel) (pa_cons (pv 4) (pa_cons (pe_glob (v := .ref CM) (by rfl) EM.g rfl) pa_nil)))) (pss_one (ps_ret (pe_tup (pa_cons pe_str (pa_cons (pe_xf EM.xf (EM.no "manner" (by simp)) hz hf (pv 4)) pa_nil))))) pss_nil) (pss_one (ps_ret (pe_ifExp (pt_val (pe_callB (c_isY (K := K) hz) (by rfl) T.isinstance (by decide +kernel) (pa_cons (pv 4) (pa_cons (pe_glob (v := .ref CE) (by rfl) EN.g rfl) pa_nil)))) (pe_tup (pa_cons pe_str pa_nil)) (pe_tup (pa_cons pe_str pa_nil)))))))))
    (pss_one (ps_ret (pe_tup (pa_cons pe_str pa_nil))))), ?_⟩
  refine ⟨_, rfl, _, rfl, _, rfl, _, rfl, _, rfl, .inl ⟨x, z, n, n2, m, R, ls, F, v0, v1, v1, rfl, hne, e, bk, fam, fun F2 H2 s2 => ⟨true, DE.xU, fun _ a ha => ?_, fun z => by cases z⟩⟩⟩
  exact t_when (b := true) s2 (et_B (g_isY rfl (fun u h => h) DE.UU)) (fun _ F3 H3 s3 e3 => t_retI (K := K) s3 (g_tupI (gs_one g_str) (by show 1 ≤ 100000; omega)) q) fun z => by cases z
def spDoorM (K : PySem.W.Frag) (CB CL : Addr) : Sp := fun vs H Q _ => ∃ (x z : Addr) (n m : Nat) (R ls : List (List Int)) (d : PyData) (F : Hp) (v0 v1 : V), vs = [.ref x, .ref z, v0, v1] ∧ d ∈ badL ∧ Ex F H ∧ Bk K CB F x n m R ∧ Fam K CL F z n ls ∧ Rp K F v0 d ∧ ∀ u F2 H2, Step none F H F2 H2 → Rp K F2 u (.tuple [.str "manner", d]) → Q u H2
theorem ok_doorM {f fL : Addr} {fd fdL : FuncData} (Fn : Fun K "_law_door" "_law_door" s_law_door f fd) (T : Tx mg) (FM : FirmC K mg CF mc) (EU : ErrC K mg CF CU fU "UnlikeHouses" []) (EM : ErrC K mg CF CM fM "BadManner" ["manner"]) (EN : ErrC K mg CF CE fE "NotInBook" ["entry"]) (DE : DoorE K CF CU CM CE)
    (F_least_chain : Fun K "least_chain" "least_chain" s_least_chain fL fdL) (b_least_chain : Binds K fdL ["book", "falls", "manner", "one", "other"] []) (g_least_chain : mg "least_chain" = some (.ref fL)) (GX_least_chain : FnOk P w K mg base (L2.CX P w) 8 fL fdL ["book", "falls", "manner", "one", "other"] (spChX K CB CL CU CM CE)) :
    FnOk P w K mg base CX0 9 f fd ["_law_book", "_law_falls", "_law_manner", "_law_one"] (spDoorM K CB CL) := by
  refine Fn.ok sc_law_door (fun vs H Q E ⟨_, _, _, _, _, _, _, _, _, _, h, _⟩ => by rw [h]; rfl) (fun cdv A outer s H vs Q E hr h => ?_)
  obtain ⟨x, z, n, m, R, ls, d, F, v0, v1, rfl, hd, e, bk, fam, hv, q⟩ := h
  refine ⟨_, (pss_cons (ps_try_as (i := 4) rfl rfl sc_law_door.nd rfl rfl ⟨by rfl, by decide, .inl FM.g⟩ takes0 (fun W pn xe tkW po => (pss_one (ps_expr (pe_callS GX_least_chain (hr.mono (by decide)) (by rfl) g_least_chain F_least_chain.kp b_least_chain (fun σ => passAt tkW σ) (pa_cons (pv 0) (pa_cons (pv 1) (pa_cons (pv 2) (pa_cons (pv 3) (pa_cons (pv 3) pa_nil))))))))) (fun a oe cls d pn hz hf => (pss_cons (ps_if (pt_val (pe_callB (c_isX (K := K) hz hf) (by rfl) T.isinstance (by decide +kernel) (pa_cons (pv 4) (pa_cons (pe_glob (v := .ref CU) (by rfl) EU.g rfl) pa_nil)))) (pss_one (ps_ret (pe_tup (pa_cons pe_str pa_nil)))) pss_nil) (pss_cons (ps_if (pt_val (pe_callB (c_isX (K := K) hz hf) (by rfl) T.isinstance (by decide +kernel) (pa_cons (pv 4) (pa_cons (pe_glob (v := .ref CM) (by rfl) EM.g rfl) pa_nil)))) (pss_one (ps_ret (pe_tup (pa_cons pe_str (pa_cons (pe_xf EM.xf (EM.no "manner" (by simp)) hz hf (pv 4)) pa_nil))))) pss_nil) (pss_one (ps_ret (pe_ifExp (pt_val (pe_callB (c_isX (K := K) hz hf) (by rfl) T.isinstance (by decide +kernel) (pa_cons (pv 4) (pa_cons (pe_glob (v := .ref CE) (by rfl) EN.g rfl) pa_nil)))) (pe_tup (pa_cons pe_str pa_nil)) (pe_tup (pa_cons pe_str pa_nil)))))))))
    (pss_one (ps_ret (pe_tup (pa_cons pe_str pa_nil))))), ?_⟩
  refine ⟨_, rfl, _, rfl, _, rfl, _, rfl, _, rfl, .inr (.inl ⟨x, z, n, m, R, ls, d, F, v0, v1, v1, rfl, hd, e, bk, fam, hv, fun F2 H2 dd s2 ⟨uu, hdd, huu⟩ => ⟨true, DE.xM, fun _ a ha => ?_, fun z => by cases z⟩⟩)⟩
  refine t_when (b := false) s2 (et_B (g_isX DE.cM rfl hdd (fun u h => h) DE.MU)) (fun z => by cases z) fun _ F3 H3 s3 e3 => ?_
  refine t_when (b := true) s3 (et_B (g_isX DE.cM rfl (e3 _ _ hdd) (fun u h => h) DE.MM)) (fun _ F4 H4 s4 e4 => ?_) (fun z => by cases z)
  exact t_retI (K := K) s4 (g_tupI (gs_two g_str (g_xf (i := 4) rfl (e4 _ _ (e3 _ _ hdd)) rfl (Rp.mono (e3.trans e4) _ _ huu))) (by show 2 ≤ 100000; omega)) q
def spDoorN (K : PySem.W.Frag) (CB CL : Addr) : Sp := fun vs H Q _ => ∃ (x z : Addr) (n m : Nat) (mn : Str) (R ls : List (List Int)) (one : List Int) (F : Hp) (v1 : V), vs = [.ref x, .ref z, .str mn, v1] ∧ mn ∈ mans ∧ one.length ≤ 1000 ∧ one ∉ R ∧ Ex F H ∧ Bk K CB F x n m R ∧ Fam K CL F z n ls ∧ Rp K F v1 (dT one) ∧ ∀ u F2 H2, Step none F H F2 H2 → Rp K F2 u (.tuple [.str "absent"]) → Q u H2
theorem ok_doorN {f fL : Addr} {fd fdL : FuncData} (Fn : Fun K "_law_door" "_law_door" s_law_door f fd) (T : Tx mg) (FM : FirmC K mg CF mc) (EU : ErrC K mg CF CU fU "UnlikeHouses" []) (EM : ErrC K mg CF CM fM "BadManner" ["manner"]) (EN : ErrC K mg CF CE fE "NotInBook" ["entry"]) (DE : DoorE K CF CU CM CE)
    (F_least_chain : Fun K "least_chain" "least_chain" s_least_chain fL fdL) (b_least_chain : Binds K fdL ["book", "falls", "manner", "one", "other"] []) (g_least_chain : mg "least_chain" = some (.ref fL)) (GX_least_chain : FnOk P w K mg base (L2.CX P w) 8 fL fdL ["book", "falls", "manner", "one", "other"] (spChX K CB CL CU CM CE)) :
    FnOk P w K mg base CX0 9 f fd ["_law_book", "_law_falls", "_law_manner", "_law_one"] (spDoorN K CB CL) := by
  refine Fn.ok sc_law_door (fun vs H Q E ⟨_, _, _, _, _, _, _, _, _, _, h, _⟩ => by rw [h]; rfl) (fun cdv A outer s H vs Q E hr h => ?_)
  obtain ⟨x, z, n, m, mn, R, ls, one, F, v1, rfl, hm, hl, hno, e, bk, fam, hv, q⟩ := h
  refine ⟨_, (pss_cons (ps_try_as (i := 4) rfl rfl sc_law_door.nd rfl rfl ⟨by rfl, by decide, .inl FM.g⟩ takes0 (fun W pn xe tkW po => (pss_one (ps_expr (pe_callS GX_least_chain (hr.mono (by decide)) (by rfl) g_least_chain F_least_chain.kp b_least_chain (fun σ => passAt tkW σ) (pa_cons (pv 0) (pa_cons (pv 1) (pa_cons (pv 2) (pa_cons (pv 3) (pa_cons (pv 3) pa_nil))))))))) (fun a oe cls d pn hz hf => (pss_cons (ps_if (pt_val (pe_callB (c_isX (K := K) hz hf) (by rfl) T.isinstance (by decide +kernel) (pa_cons (pv 4) (pa_cons (pe_glob (v := .ref CU) (by rfl) EU.g rfl) pa_nil)))) (pss_one (ps_ret (pe_tup (pa_cons pe_str pa_nil)))) pss_nil) (pss_cons (ps_if (pt_val (pe_callB (c_isX (K := K) hz hf) (by rfl) T.isinstance (by decide +kernel) (pa_cons (pv 4) (pa_cons (pe_glob (v := .ref CM) (by rfl) EM.g rfl) pa_nil)))) (pss_one (ps_ret (pe_tup (pa_cons pe_str (pa_cons (pe_xf EM.xf (EM.no "manner" (by simp)) hz hf (pv 4)) pa_nil))))) pss_nil) (pss_one (ps_ret (pe_ifExp (pt_val (pe_callB (c_isX (K := K) hz hf) (by rfl) T.isinstance (by decide +kernel) (pa_cons (pv 4) (pa_cons (pe_glob (v := .ref CE) (by rfl) EN.g rfl) pa_nil)))) (pe_tup (pa_cons pe_str pa_nil)) (pe_tup (pa_cons pe_str pa_nil)))))))))
    (pss_one (ps_ret (pe_tup (pa_cons pe_str pa_nil))))), ?_⟩
  refine ⟨_, rfl, _, rfl, _, rfl, _, rfl, _, rfl, .inr (.inr ⟨x, z, n, m, mn, R, ls, one, one, dT one, F, v1, v1, rfl, hm, ⟨hl, hl⟩, .inl ⟨rfl, hno⟩, e, bk, fam, hv, hv, fun F2 H2 dd s2 ⟨uu, hdd, huu⟩ => ⟨true, DE.xE, fun _ a ha => ?_, fun z => by cases z⟩⟩)⟩
  refine t_when (b := false) s2 (et_B (g_isX DE.cE rfl hdd (fun u h => h) DE.EU)) (fun z => by cases z) fun _ F3 H3 s3 e3 => ?_
  refine t_when (b := false) s3 (et_B (g_isX DE.cE rfl (e3 _ _ hdd) (fun u h => h) DE.EM)) (fun z => by cases z) fun _ F4 H4 s4 e4 => ?_
  exact t_retI (K := K) s4 (g_if (b := true) (et_B (g_isX DE.cE rfl (e4 _ _ (e3 _ _ hdd)) (fun u h => h) DE.EE)) (fun _ => g_tupI (gs_one g_str) (by show 1 ≤ 100000; omega)) fun z => by cases z) q
def spRefN (K : PySem.W.Frag) (CB CL : Addr) : Sp := fun vs H Q _ => ∃ (x z : Addr) (n m : Nat) (mn : Str) (R ls : List (List Int)) (one bad : List Int) (d2 : PyData) (F : Hp) (v1 v2 : V), vs = [.ref x, .ref z, .str mn, v1, v2] ∧ mn ∈ mans ∧ (one.length ≤ 1000 ∧ bad.length ≤ 1000) ∧ (bad = one ∧ one ∉ R ∨ one ∈ R ∧ bad ∉ R ∧ d2 = dT bad) ∧ ((n ≤ 5 ∧ m ≤ 4) ∧ Row n m bad) ∧ Ex F H ∧ Bk K CB F x n m R ∧ Fam K CL F z n ls ∧ Rp K F v1 (dT one) ∧ Rp K F v2 d2 ∧ ∀ u F2 H2, Step none F H F2 H2 → Rp K F2 u (.tuple [.str "absent", .str (dT bad).shown]) → Q u H2
theorem ok_refN {f fL : Addr} {fd fdL : FuncData} (Fn : Fun K "_law_refused" "_law_refused" s_law_refused f fd) (T : Tx mg) (FM : FirmC K mg CF mc) (EN : ErrC K mg CF CE fE "NotInBook" ["entry"]) (DE : DoorE K CF CU CM CE)
    (F_least_chain : Fun K "least_chain" "least_chain" s_least_chain fL fdL) (b_least_chain : Binds K fdL ["book", "falls", "manner", "one", "other"] []) (g_least_chain : mg "least_chain" = some (.ref fL)) (GX_least_chain : FnOk P w K mg base (L2.CX P w) 8 fL fdL ["book", "falls", "manner", "one", "other"] (spChX K CB CL CU CM CE)) :
    FnG P w K mg base CX0 9 f fd ["_law_book", "_law_falls", "_law_manner", "_law_one", "_law_other"] (spRefN K CB CL) := by
  refine okG Fn sc_law_refused (fun vs H Q E ⟨_, _, _, _, _, _, _, _, _, _, _, _, _, h, _⟩ => by rw [h]; rfl) (fun cdv A outer s H vs Q E cm hr h => ?_)
  obtain ⟨x, z, n, m, mn, R, ls, one, bad, d2, F, v1, v2, rfl, hm, hl, hor, ⟨⟨hn5, hm4⟩, hbad⟩, e, bk, fam, hv1, hv2, q⟩ := h
  obtain ⟨f3, f4, f5, f6⟩ := row_shown hbad hn5 hm4
  have hu := hu65 hr
  refine ⟨_, (pss_one (ps_try_as (i := 5) rfl rfl sc_law_refused.nd rfl rfl ⟨by rfl, by decide, .inl FM.g⟩ takes0 (fun W pn xe tkW po => (pss_one (ps_ret (pe_tup (pa_cons pe_str (pa_cons (pe_cmpR op_isN (pe_callS GX_least_chain (hr.mono (by decide)) (by rfl) g_least_chain F_least_chain.kp b_least_chain (fun σ => passAt tkW σ) (pa_cons (pv 0) (pa_cons (pv 1) (pa_cons (pv 2) (pa_cons (pv 3) (pa_cons (pv 4) pa_nil)))))) pe_non (nomark _)) pa_nil)))))) (fun a oe cls d pn hz hf => (pss_one (ps_ret (pe_ifExp (pt_val (pe_callB (c_isX (K := K) hz hf) (by rfl) T.isinstance (by decide +kernel) (pa_cons (pv 5) (pa_cons (pe_glob (v := .ref CE) (by rfl) EN.g rfl) pa_nil)))) (pe_tup (pa_cons pe_str (pa_cons (pe_callB (c_repr (K := K) ((cm.deeper _).mark _) hu) (by rfl) T.repr (by decide +kernel) (pa_cons (pe_xf EN.xf (EN.no "entry" (by simp)) hz hf (pv 5)) pa_nil)) pa_nil))) (pe_tup (pa_cons pe_str pa_nil)))))))), ?_⟩
  refine ⟨_, rfl, _, rfl, _, rfl, _, rfl, _, rfl, .inr (.inr ⟨x, z, n, m, mn, R, ls, one, bad, d2, F, v1, v2, rfl, hm, hl, hor, e, bk, fam, hv1, hv2, fun F2 H2 dd s2 ⟨uu, hdd, huu⟩ => ⟨true, DE.xE, fun _ a ha => ?_, fun z => by cases z⟩⟩)⟩
  exact t_retI (K := K) s2 (g_if (b := true) (et_B (g_isX DE.cE rfl hdd (fun u h => h) DE.EE)) (fun _ => g_tupI (gs_two g_str (g_repr (g_xf (i := 5) rfl hdd rfl huu) f3 f4 f5 f6)) (by show 2 ≤ 100000; omega)) fun z => by cases z) q
end
end KJ
namespace KJ
open PySem PySem.Spec PyProof.Rows L2 Fv Evl StX
abbrev s_law_doors : Stmt := topS 64
theorem sc_law_doors : FnScope ["_law_pot_here", "_law_book", "_law_falls", "_law_n", "_law_manner", "_law_one", "_law_is_there", "_law_other", "_law_bad"] ["_law_pot_here", "_law_book", "_law_falls", "_law_n", "_law_manner", "_law_one", "_law_is_there"] (defScope s_law_doors) := ⟨rfl, rfl, rfl, by decide +kernel, rfl, by decide +kernel, by decide +kernel⟩
section
variable {P : Program} {w : World} {K : PySem.W.Frag} {mg : Str → Option Value} {base : Heap} {CB CL CF CE CU CM fE fU fM : Addr} {mc : Value}
variable {pt : Option Pt} {σ : L2.St} {F F0 H0 H : Hp} {te ta tb : TE} {ts tr : TA} {D : Ends} {tz : TS}
def spDoor (K : PySem.W.Frag) (CB CL : Addr) : Sp := fun vs H Q E => spDoorU K CB CL vs H Q E ∨ spDoorM K CB CL vs H Q E ∨ spDoorN K CB CL vs H Q E ∨ spDoorG K CB CL vs H Q E
theorem ok_door {f fL : Addr} {fd fdL : FuncData} (Fn : Fun K "_law_door" "_law_door" s_law_door f fd) (T : Tx mg) (FM : FirmC K mg CF mc) (EU : ErrC K mg CF CU fU "UnlikeHouses" []) (EM : ErrC K mg CF CM fM "BadManner" ["manner"]) (EN : ErrC K mg CF CE fE "NotInBook" ["entry"]) (DE : DoorE K CF CU CM CE)
    (F_least_chain : Fun K "least_chain" "least_chain" s_least_chain fL fdL) (b_least_chain : Binds K fdL ["book", "falls", "manner", "one", "other"] []) (g_least_chain : mg "least_chain" = some (.ref fL)) (G_least_chain : FnOk P w K mg base CX0 7 fL fdL ["book", "falls", "manner", "one", "other"] (spChain K CB CL)) (GX_least_chain : FnOk P w K mg base (L2.CX P w) 8 fL fdL ["book", "falls", "manner", "one", "other"] (spChX K CB CL CU CM CE)) :
    FnOk P w K mg base CX0 9 f fd ["_law_book", "_law_falls", "_law_manner", "_law_one"] (spDoor K CB CL) :=
  Fv.FnOk.or (ok_doorU Fn T FM EU EM EN DE F_least_chain b_least_chain g_least_chain GX_least_chain) (Fv.FnOk.or (ok_doorM Fn T FM EU EM EN DE F_least_chain b_least_chain g_least_chain GX_least_chain) (Fv.FnOk.or (ok_doorN Fn T FM EU EM EN DE F_least_chain b_least_chain g_least_chain GX_least_chain) (Fv.FnOk.up (ok_doorG Fn T F_least_chain b_least_chain g_least_chain G_least_chain) (by decide))))
theorem t_asgCallE {i : Nat} {sp : Sp} {E : XK} {ds : List PyData} (h : EvsG K pt ts σ F (· = ds)) (e : Ex F H) (g : Good pt F H) (q : ∀ vs F1 H1, Step pt F H F1 H1 → RpAll K F1 vs ds → sp (vs ++ []) H1 (fun v H2 => tz D (σ.set i (some v)) H2) E) : tSeq (tAsg (tCall sp [] E ts) (gName i)) tz D σ H := h H e g _ fun ds' vs F1 H1 hd s hv => by
  subst hd
  exact q vs F1 H1 s hv
theorem bad_same : ∀ d ∈ badL, SeqAt.shaped (.tuple [.str "manner", d]) = true ∧ PyData.eqv (.tuple [.str "manner", d]) (.tuple [.str "manner", d]) = true := by decide +kernel
theorem word_same : (SeqAt.shaped (.tuple [.str "houses"]) = true ∧ PyData.eqv (.tuple [.str "houses"]) (.tuple [.str "houses"]) = true) ∧ (SeqAt.shaped (.tuple [.str "good"]) = true ∧ PyData.eqv (.tuple [.str "good"]) (.tuple [.str "good"]) = true) ∧ SeqAt.shaped (.tuple [.str "absent"]) = true ∧ PyData.eqv (.tuple [.str "absent"]) (.tuple [.str "absent"]) = true := by decide +kernel
def spDoors (K : PySem.W.Frag) (CB CL : Addr) : Sp := fun vs H Q _ => ∃ (q : Pt) (x z : Addr) (n m : Nat) (mn : Str) (R ls : List (List Int)) (one : List Int) (F : Hp) (v1 : V), vs = [.ref q.p, .ref x, .ref z, .int n, .str mn, v1, .bl (decide (one ∈ R))] ∧ ((2 ≤ n ∧ n ≤ 5) ∧ mn ∈ mans ∧ R.length ≤ 300 ∧ (∀ r ∈ R, r.length = n ∧ TS.Bd 4 r) ∧ Asc R) ∧ one.length ≤ 1000 ∧ Ex F H ∧ Good (some q) F H ∧ Bk K CB F x n m R ∧ Fam K CL F z n ls ∧ Rp K F v1 (dT one) ∧ ∀ F2 H2, Step (some q) F H F2 H2 → Q (.bl true) H2
theorem ok_doors {f fD fF fR : Addr} {fd fdD fdF fdR : FuncData} (Fn : Fun K "_law_doors" "_law_doors" s_law_doors f fd) (T : Tx mg)
    (F_law_draw : Fun K "_law_draw" "_law_draw" s_law_draw fD fdD) (b_law_draw : Binds K fdD ["_law_pot_here", "_law_many_here"] []) (g_law_draw : mg "_law_draw" = some (.ref fD))
    (F_law_family : Fun K "_law_family" "_law_family" s_law_family fF fdF) (b_law_family : Binds K fdF ["_law_n", "_law_lots_here"] []) (g_law_family : mg "_law_family" = some (.ref fF)) (G_law_family : FnOk P w K mg base CX0 6 fF fdF ["_law_n", "_law_lots_here"] (spFamily K CL))
    (F_law_door : Fun K "_law_door" "_law_door" s_law_door fR fdR) (b_law_door : Binds K fdR ["_law_book", "_law_falls", "_law_manner", "_law_one"] []) (g_law_door : mg "_law_door" = some (.ref fR)) (G_law_door : FnOk P w K mg base CX0 9 fR fdR ["_law_book", "_law_falls", "_law_manner", "_law_one"] (spDoor K CB CL)) :
    FnOk P w K mg base CX0 10 f fd ["_law_pot_here", "_law_book", "_law_falls", "_law_n", "_law_manner", "_law_one", "_law_is_there"] (spDoors K CB CL) := by
  have G_law_draw : FnOk P w K mg base CX0 1 fD fdD ["_law_pot_here", "_law_many_here"] (spDraw K) := ok_draw F_law_draw T
  refine Fn.ok sc_law_doors (fun vs H Q E ⟨_, _, _, _, _, _, _, _, _, _, _, h, _⟩ => by rw [h]; rfl) (fun cdv A outer s H vs Q E hr h => ?_)
  obtain ⟨pq, x, z, n, m, mn, R, ls, one, F, v1, rfl, ⟨⟨n2, n5⟩, hm, hR, hrow, hasc⟩, hl, e, g, bk, fam, hv, q⟩ := h
  refine ⟨_, (pss_cons (ps_set (i := 7) sc_law_doors.nd rfl (by first | exact Or.inl rfl | exact Or.inr rfl) (pe_call G_law_family (hr.mono (by decide)) (by rfl) g_law_family F_law_family.kp b_law_family .nil pass0 (pa_cons (pe_ifExp (pt_cmpR op_lt (pv 3) pe_int (nomark _)) pe_int pe_int) (pa_cons (pe_lst pa_nil) pa_nil))))
    (pss_cons (ps_set (i := 8) sc_law_doors.nd rfl (by first | exact Or.inl rfl | exact Or.inr rfl) (pe_ix (o_ixL (K := K)) (pe_lst (pa_cons pe_str (pa_cons pe_str (pa_cons pe_str (pa_cons pe_non (pa_cons pe_int (pa_cons pe_str pa_nil))))))) (pe_call G_law_draw (hr.mono (by decide)) (by rfl) g_law_draw F_law_draw.kp b_law_draw .nil pass0 (pa_cons (pv 0) (pa_cons pe_int pa_nil))) (fun _ _ => rfl)))
    (pss_cons (ps_if (PW.pt (pw_or (pt_cmpR (o_neD (K := K) hr.units) (pe_call G_law_door (hr.mono (by decide)) (by rfl) g_law_door F_law_door.kp b_law_door .nil pass0 (pa_cons (pv 1) (pa_cons (pv 7) (pa_cons (pv 8) (pa_cons (pv 5) pa_nil))))) (pe_tup (pa_cons pe_str pa_nil)) (nomark _)) (pw_or1 (pt_cmpR (o_neD (K := K) hr.units) (pe_call G_law_door (hr.mono (by decide)) (by rfl) g_law_door F_law_door.kp b_law_door .nil pass0 (pa_cons (pv 1) (pa_cons (pv 7) (pa_cons (pv 4) (pa_cons (pv 5) pa_nil))))) (pe_tup (pa_cons pe_str pa_nil)) (nomark _))))) (pss_one (ps_ret pe_bl)) pss_nil)
    (pss_cons (ps_if (pt_cmpR (o_neD (K := K) hr.units) (pe_call G_law_door (hr.mono (by decide)) (by rfl) g_law_door F_law_door.kp b_law_door .nil pass0 (pa_cons (pv 1) (pa_cons (pv 2) (pa_cons (pv 8) (pa_cons (pv 5) pa_nil))))) (pe_tup (pa_cons pe_str (pa_cons (pv 8) pa_nil))) (nomark _)) (pss_one (ps_ret pe_bl)) pss_nil)
    (pss_one (ps_ret (pe_cmpR (o_eqD (K := K) hr.units) (pe_call G_law_door (hr.mono (by decide)) (by rfl) g_law_door F_law_door.kp b_law_door .nil pass0 (pa_cons (pv 1) (pa_cons (pv 2) (pa_cons (pv 4) (pa_cons (pv 5) pa_nil))))) (pe_ifExp (pt_val (pv 6)) (pe_tup (pa_cons pe_str pa_nil)) (pe_tup (pa_cons pe_str pa_nil))) (nomark _)))))))), ?_⟩
  have fam2 : ∀ n' : Nat, GoodLots n' [] := fun n' => ⟨by simp, fun l hl => (List.not_mem_nil hl).elim⟩
  -- another family
  have ht : EtG (some pq) (tTest (tOp (rI0 fun i j => .bl (decide (i < j))) (tVar 3) (tC (.int 5)))) [some (.ref pq.p), some (.ref x), some (.ref z), some (.int n), some (.str mn), some v1, some (.bl (decide (one ∈ R))), none, none] F (· = decide (n < 5)) := (et_of (K := K) (g_opI (g_var (v := .int n) rfl (.int _)) g_int (rv_bl (g := fun i j => decide (i < j))))).is (decide_eq_decide.mpr (by omega))
  have g5 : ∀ (σ : L2.St) (F : Hp), EvG K (some pq) (tC (.int 5)) σ F (Is (.int 5)) := fun _ _ => g_int
  have g4 : ∀ (σ : L2.St) (F : Hp), EvG K (some pq) (tC (.int 4)) σ F (Is (.int 4)) := fun _ _ => g_int
  refine t_asgCallE (gs_two (K := K) (g_ifX (K := K) (d := .int ((if n < 5 then 5 else 4 : Nat) : Int)) ht (fun hb => (g5 _ _).is (by rw [if_pos (of_decide_eq_true hb)]; rfl)) (fun hb => (g4 _ _).is (by rw [if_neg (of_decide_eq_false hb)]; rfl))) (g_lstI gs_nil (by show 0 ≤ 100000; omega))) e g fun vs F1 H1 s1 hvs => ?_
  obtain ⟨w1, w2, rfl, hw1, hw2⟩ := rpAll2' hvs
  obtain rfl := rp_int hw1
  refine ⟨(if n < 5 then 5 else 4), [], F1, w2, rfl, ⟨by split <;> omega, fam2 _, by simp⟩, s1.inn, hw2, fun z2 F2 H2 s2 fm2 => ?_⟩
  have s12 := s1.trans (s2.lift s1.good)
  have e2 := s12.sub
  have hne : n ≠ (if n < 5 then 5 else 4) := by split <;> omega
  dsimp only
  -- a manner that is none
  refine t_asg (K := K) (R := fun d => d ∈ badL) s12 (g_pick (ds := badL) (c := 6) (g_lstI (gs_consI g_str (gs_consI g_str (gs_consI g_str (gs_consI g_non (gs_int (gs_consI g_str gs_nil)))))) (by decide)) (g_callP (m := 6) rfl g_int (by decide)) (by decide) fun d hd => hd) fun d bv F3 H3 hd s3 e3 hbv => ?_
  have e03 := e2.trans e3
  have bk3 := bk.mono e03
  have fm3 := fm2.mono e3
  have hv3 := Rp.mono e03 _ _ hv
  obtain ⟨⟨wh1, wh2⟩, ⟨wg1, wg2⟩, wa1, wa2⟩ := word_same
  obtain ⟨bs1, bs2⟩ := bad_same d hd
  -- unlike houses
  refine t_skip s3 ((et_or (a := false) (b := false) ((et_of (K := K) (g_opI (fun H9 i9 g9 Q9 q9 => ⟨_, rfl, _, rfl, _, rfl, _, rfl, .inl ⟨x, z2, n, _, m, R, [], F3, bv, v1, rfl, hne, i9, bk3, fm3, fun u F8 H8 s8 hu => q9 _ u F8 H8 rfl (s8.lift g9) hu⟩⟩ : EvG K (some pq) _ _ F3 (Is (.tuple [.str "houses"]))) (g_tupI (gs_one g_str) (by show 1 ≤ 100000; omega)) (rv_neD wh1 wh1))).is (by rw [wh2]; rfl)) fun _ => (et_of (K := K) (g_opI (fun H9 i9 g9 Q9 q9 => ⟨_, rfl, _, rfl, _, rfl, _, rfl, .inl ⟨x, z2, n, _, m, R, [], F3, .str mn, v1, rfl, hne, i9, bk3, fm3, fun u F8 H8 s8 hu => q9 _ u F8 H8 rfl (s8.lift g9) hu⟩⟩ : EvG K (some pq) _ _ F3 (Is (.tuple [.str "houses"]))) (g_tupI (gs_one g_str) (by show 1 ≤ 100000; omega)) (rv_neD wh1 wh1))).is (by rw [wh2]; rfl)).is rfl) fun F4 H4 s4 e4 => ?_
  have e04 := e03.trans e4
  -- a bad manner
  refine t_skip s4 ((et_of (K := K) (g_opI (fun H9 i9 g9 Q9 q9 => ⟨_, rfl, _, rfl, _, rfl, _, rfl, .inr (.inl ⟨x, z, n, m, R, ls, d, F4, bv, v1, rfl, hd, i9, bk.mono e04, fam.mono e04, Rp.mono e4 _ _ hbv, fun u F8 H8 s8 hu => q9 _ u F8 H8 rfl (s8.lift g9) hu⟩)⟩ : EvG K (some pq) _ _ F4 (Is (.tuple [.str "manner", d]))) (g_tupI (gs_two g_str (g_var (i := 8) rfl (Rp.mono e4 _ _ hbv))) (by show 2 ≤ 100000; omega)) (rv_neD bs1 bs1))).is (by rw [bs2]; rfl)) fun F5 H5 s5 e5 => ?_
  have e05 := e04.trans e5
  -- there, or not
  by_cases y : one ∈ R
  · refine t_retI (K := K) (d := .bool true) s5 ((g_opI (fun H9 i9 g9 Q9 q9 => ⟨_, rfl, _, rfl, _, rfl, _, rfl, .inr (.inr (.inr ⟨x, z, n, m, mn, R, ls, one, F5, v1, rfl, ⟨⟨by omega, n5⟩, hm, hR, hrow, hasc⟩, y, i9, bk.mono e05, fam.mono e05, Rp.mono e05 _ _ hv, fun u F8 H8 s8 hu => q9 _ u F8 H8 rfl (s8.lift g9) hu⟩))⟩ : EvG K (some pq) _ _ F5 (Is (.tuple [.str "good"]))) (g_ifX (K := K) (d := .tuple [.str "good"]) (b := true) (et_B (K := K) ((g_var (v := .bl (decide (one ∈ R))) (i := 6) rfl (.bl _)).is (by rw [decide_eq_true y]))) (fun _ => g_tupI (gs_one g_str) (by show 1 ≤ 100000; omega)) fun z => by cases z) (rv_eqD wg1 wg1)).is (by rw [wg2])) fun v6 F6 H6 s6 hv6 => ?_
    obtain rfl := rp_bool hv6
    exact q F6 H6 s6
  · refine t_retI (K := K) (d := .bool true) s5 ((g_opI (fun H9 i9 g9 Q9 q9 => ⟨_, rfl, _, rfl, _, rfl, _, rfl, .inr (.inr (.inl ⟨x, z, n, m, mn, R, ls, one, F5, v1, rfl, hm, hl, y, i9, bk.mono e05, fam.mono e05, Rp.mono e05 _ _ hv, fun u F8 H8 s8 hu => q9 _ u F8 H8 rfl (s8.lift g9) hu⟩))⟩ : EvG K (some pq) _ _ F5 (Is (.tuple [.str "absent"]))) (g_ifX (K := K) (d := .tuple [.str "absent"]) (b := false) (et_B (K := K) ((g_var (v := .bl (decide (one ∈ R))) (i := 6) rfl (.bl _)).is (by rw [decide_eq_false y]))) (fun z => by cases z) fun _ => g_tupI (gs_one g_str) (by show 1 ≤ 100000; omega)) (rv_eqD wa1 wa1)).is (by rw [wa2])) fun v6 F6 H6 s6 hv6 => ?_
    obtain rfl := rp_bool hv6
    exact q F6 H6 s6
end
end KJ
namespace KJ
open PySem PySem.Spec PyProof.Rows L2 L2H Fv Evl StX
/-- an atom, or a tuple of such as p says -/
def upS (p : PyData → Prop) (d : PyData) : Prop := atom d = true ∨ ∃ ds, d = .tuple ds ∧ ds.length ≤ 1000 ∧ ∀ x ∈ ds, p x
def two2 : PyData → Prop := upS (upS fun d => atom d = true)
section
variable {P : Program} {w : World} {K : PySem.W.Frag} {mg : Str → Option Value} {base : Heap}
abbrev spSm (K : PySem.W.Frag) (p : PyData → Prop) : Sp := PSp K (fun d : PyData => [d, d]) p (fun _ => .bool true)
theorem same_up {k : Nat} {p : PyData → Prop} {f : Addr} {fd : FuncData} (F_law_same : Fun K "_law_same" "_law_same" s_law_same f fd) (T : Tx mg) (b_law_same : Binds K fd ["_law_told", "_law_due"] []) (g_law_same : mg "_law_same" = some (.ref f)) (G_law_same : FnOk P w K mg base CX0 k f fd ["_law_told", "_law_due"] (spSm K p)) : FnOk P w K mg base CX0 (k + 1) f fd ["_law_told", "_law_due"] (spSm K (upS p)) := by
  refine Fun.ok F_law_same sc_law_same (PSp.len (fun _ => rfl)) (fun cdv A outer s H vs Q E hr h => ?_)
  obtain ⟨d, F, hd, e, ha, q⟩ := h
  obtain ⟨x, y, rfl, hx, hy⟩ := rpAll2 ha
  refine ⟨_, (pss_cons (ps_if (pt_val (pe_callB (c_isi (K := K)) (by rfl) T.isinstance (by decide +kernel) (pa_cons (pv 1) (pa_cons (pe_bltn (v := .ty "tuple") (by rfl) T.tuple (by decide +kernel) rfl) pa_nil)))) (pss_cons (ps_if (PW.pt (pw_or (pt_not (pt_val (pe_callB (c_isi (K := K)) (by rfl) T.isinstance (by decide +kernel) (pa_cons (pv 0) (pa_cons (pe_bltn (v := .ty "tuple") (by rfl) T.tuple (by decide +kernel) rfl) pa_nil))))) (pw_or1 (pt_cmpR op_ne (pe_callB (c_len (K := K)) (by rfl) T.len (by decide +kernel) (pa_cons (pv 0) pa_nil)) (pe_callB (c_len (K := K)) (by rfl) T.len (by decide +kernel) (pa_cons (pv 1) pa_nil)) (nomark _))))) (pss_one (ps_ret pe_bl)) pss_nil)
    (pss_one (ps_ret (pe_cmpR (o_eqD (K := K) hr.units) (pe_lc (own := [("_law_k", 2)]) (g := gName 2) rfl sc_law_same.nd (pi_range1 (by rfl) T.range (pa_cons (pe_callB (c_len (K := K)) (by rfl) T.len (by decide +kernel) (pa_cons (pv 1) pa_nil)) pa_nil)) (blkOk_by (own := [("_law_k", 2)]) (N := ["_law_told", "_law_due", "_law_k"]) (sc := (defScope s_law_same)) (by decide +kernel)) (fun _ _ _ _ _ => pg_name (i := 2) sc_law_same.nd rfl (by first | exact Or.inl rfl | exact Or.inr rfl)) (fun _ _ _ _ _ => (pts_one (pt_not (pt_val (pe_call G_law_same (hr.mono (Nat.le_refl _)) (by rfl) g_law_same F_law_same.kp b_law_same .nil pass0 (pa_cons (pe_ix (o_ixT (K := K)) (pv 0) (pv 2) (fun _ _ => rfl)) (pa_cons (pe_ix (o_ixT (K := K)) (pv 1) (pv 2) (fun _ _ => rfl)) pa_nil))))))) (fun _ _ _ _ _ => (pv 2))) (pe_lst pa_nil) (nomark _))))) pss_nil)
    (pss_cons (ps_if (pt_cmpR op_isN (pv 1) pe_non (nomark _)) (pss_one (ps_ret (pe_cmpR op_isN (pv 0) pe_non (nomark _)))) pss_nil)
    (pss_cons (ps_if (pt_val (pe_callB (c_isi (K := K)) (by rfl) T.isinstance (by decide +kernel) (pa_cons (pv 1) (pa_cons (pe_bltn (v := .ty "bool") (by rfl) T.bool (by decide +kernel) rfl) pa_nil)))) (pss_one (ps_ret (pe_ifExp (pt_val (pv 1)) (pe_cmpR op_isBl (pv 0) pe_bl (nomark _)) (pe_cmpR op_isBl (pv 0) pe_bl (nomark _))))) pss_nil)
    (pss_cons (ps_if (pt_val (pe_callB (c_isi (K := K)) (by rfl) T.isinstance (by decide +kernel) (pa_cons (pv 1) (pa_cons (pe_bltn (v := .ty "str") (by rfl) T.str (by decide +kernel) rfl) pa_nil)))) (pss_one (ps_ret (pe_and (pe_callB (c_isi (K := K)) (by rfl) T.isinstance (by decide +kernel) (pa_cons (pv 0) (pa_cons (pe_bltn (v := .ty "str") (by rfl) T.str (by decide +kernel) rfl) pa_nil))) (pe_one (pe_cmpR op_eq (pv 0) (pv 1) (nomark _)))))) pss_nil)
    (pss_one (ps_ret (pe_and (pe_callB (c_isi (K := K)) (by rfl) T.isinstance (by decide +kernel) (pa_cons (pv 0) (pa_cons (pe_bltn (v := .ty "int") (by rfl) T.int (by decide +kernel) rfl) pa_nil))) (pe_and (pe_not (pe_callB (c_isi (K := K)) (by rfl) T.isinstance (by decide +kernel) (pa_cons (pv 0) (pa_cons (pe_bltn (v := .ty "bool") (by rfl) T.bool (by decide +kernel) rfl) pa_nil)))) (pe_one (pe_cmpR op_eq (pv 0) (pv 1) (nomark _))))))))))), ?_⟩
  refine t_when (b := isT d) (Step.refl e .nil) (et_B (g_isi (g_var rfl hy) (kit_tuple d))) (fun hb F2 H2 s2 e2 => ?_) (fun hb F2 H2 s2 e2 => ?_)
  · obtain ⟨ds, rfl⟩ : ∃ ds, d = .tuple ds := by cases d <;> simp_all [isT]
    obtain ⟨hz, hat⟩ : ds.length ≤ 1000 ∧ ∀ d ∈ ds, p d := by
      rcases hd with h | ⟨ds2, h1, h2⟩
      · cases h
      · cases h1; exact h2
    have hx2 := Rp.mono e2 _ _ hx
    have hy2 := Rp.mono e2 _ _ hy
    refine t_skip s2 ((et_or (a := false) (b := false) ((et_not (b := true) (et_B (g_isi (g_var rfl hx2) (kit_tuple _)))).is rfl) fun _ => (et_of (g_opI (g_cbI (gs_one (g_var rfl hx2)) rc_lenT) (g_cbI (gs_one (g_var rfl hy2)) rc_lenT) rv_neI)).is (by simp)).is rfl) fun F3 H3 s3 e3 => ?_
    have hx3 := Rp.mono e3 _ _ hx2
    have hy3 := Rp.mono e3 _ _ hy2
    refine t_retI (K := K) s3 ((g_opI (g_lcE PyData.int (hs ds.length) (fun _ => false) PyData.int ?_ (by rw [hs_len]; omega) (fun _ => rfl) (fun h hh F' e' u hu => ?_) (fun h _ hf => by cases hf)) (g_lstI gs_nil (by simp)) (rv_eqNil ?_)).is ?_) q
    · have := w_rng1I (K := K) (pt := none) (σ := start ["_law_told", "_law_due", "_law_k"] [x, y]) (F := F3) (n := ((ds.length : Nat) : Int)) (gs_one (g_cbI (gs_one (g_var (i := 1) rfl hy3)) rc_lenT)) (by omega) (by omega)
      rw [show ((ds.length : Nat) : Int).toNat = ds.length by omega, rng_hs] at this
      exact this
    · obtain ⟨h0, h1⟩ := hs_mem.mp hh
      obtain ⟨j, rfl⟩ : ∃ j : Nat, h = (j : Int) := ⟨h.toNat, by omega⟩
      have hj : j < ds.length := by omega
      have hi : atI ds (j : Int) = some ds[j] := atI_nat (List.getElem?_eq_getElem hj)
      exact (et_not (b := true) (et_B (g_call ds[j] (gs_two (g_opI (g_var rfl (Rp.mono e' _ _ hx3)) (g_var rfl hu) (rv_ixT hi)) (g_opI (g_var rfl (Rp.mono e' _ _ hy3)) (g_var rfl hu) (rv_ixT hi))) rfl (hat _ (List.getElem_mem hj))))).is rfl
    · have : (hs ds.length).filter (fun _ => false) = [] := by simp
      rw [this]; decide
    · have : (hs ds.length).filter (fun _ => false) = [] := by simp
      rw [this]; rfl
  · refine same_atom s2 ?_ (Rp.mono e2 _ _ hx) (Rp.mono e2 _ _ hy) q
    rcases hd with h | ⟨ds2, h1, h2⟩
    · exact h
    · rw [h1] at hb; cases hb
theorem ok_same2 {f : Addr} {fd : FuncData} (F_law_same : Fun K "_law_same" "_law_same" s_law_same f fd) (T : Tx mg) (b_law_same : Binds K fd ["_law_told", "_law_due"] []) (g_law_same : mg "_law_same" = some (.ref f)) : FnOk P w K mg base CX0 3 f fd ["_law_told", "_law_due"] (spSm K two2) :=
  same_up F_law_same T b_law_same g_law_same (same_up F_law_same T b_law_same g_law_same (ok_same0 F_law_same T b_law_same g_law_same))
end
end KJ
namespace Fv
open PySem PySem.Spec PyProof.Rows L2 Evl StX
theorem okG0 {P : Program} {w : World} {K : PySem.W.Frag} {mg : Str → Option Value} {base : Heap} {x ql : Str} {st : Stmt} {f : Addr} {fd : FuncData} {N ps : List Str} {k : Nat} {sp : Sp} (Fn : Fun K x ql st f fd) (S : FnScope N ps (defScope st)) (ln : ∀ vs H Q E, sp vs H Q E → vs.length = ps.length)
    (hb : ∀ (cv : Value) (A : Around) (out : List Env) (s : Shared) (H : Hp) (vs : List V) (Q : VK) (E : XK), Calmly A → Room k (A.deeper (envOfC ql (defScope st) s.heap.objs.size f cv)) → sp vs H Q E → ∃ t, PSs (cxOf CX0 P w K mg base N ql (defScope st) f cv A out s H E).nox (defBody st) t ∧ t { nx := fun _ H2 => Q .non H2, rt := Q } (start N vs) H) :
    FnG P w K mg base CX0 (k + 1) f fd ps sp := okG Fn S ln fun cv A out s H vs Q E cm room hs => by
  obtain ⟨t, h, q⟩ := hb cv A out s H vs Q E cm room hs
  exact ⟨t, h.nox, q⟩
end Fv
namespace KJ
open PySem PySem.Spec PyProof.Rows L2 L2H Fv Evl StX
abbrev s_law : Stmt := topS 65
theorem sc_law : FnScope ["_law_script", "_law_pot_here", "_law_n", "_law_m", "_law_lots_here", "_law_falls", "_law_manner", "_law_due", "_law_book", "_law_web_here", "_law_k", "_law_j", "_law_chains_here", "_law_chain", "_law_i", "_law_told", "_law_strange"] ["_law_script"] (defScope s_law) := ⟨rfl, rfl, rfl, by decide +kernel, rfl, by decide +kernel, by decide +kernel⟩
section
variable {P : Program} {w : World} {K : PySem.W.Frag} {mg : Str → Option Value} {base : Heap} {CB CL : Addr}
variable {pt : Option Pt} {σ : L2.St} {F F' F0 H0 H F2 H2 : Hp} {te ta tb ty td : TE} {ts : TA}
theorem x_bookE {E : XK} {n m : Nat} {src : PyData} {rs : List (List Int)} (h : EvsG K pt ts σ F (· = [.int (n : Int), .int (m : Int), src])) (h1 : RowsD src rs) (hn : 2 ≤ n ∧ n ≤ 5) (hm : 1 ≤ m ∧ m ≤ 4) (hl : rs.length < 64) (hr : ∀ r ∈ rs, Row n m r) :
    EvX pt (tMake CB (spBook K CB) [] E ts) σ F (fun v F2 => ∃ x R, v = .ref x ∧ Asc R ∧ (∀ r, r ∈ R ↔ r ∈ rs) ∧ Bk K CB F2 x n m R) := fun H1 i g Q q =>
  h H1 i g _ fun ds vs F2 H2 hd s hv => by
    subst hd
    obtain ⟨a, b, v, rfl, ha, hb, hv⟩ := rpAll3 hv
    rw [rp_int ha, rp_int hb]
    intro x dx hx hdx hne
    have fr : ∀ {a : Addr}, H2 a = none → F2 a = none := fun {a} h => by
      cases w : F2 a with
      | none => rfl
      | some o => rw [s.inn _ _ w] at h; cases h
    have n1 : (upd H2 dx (.own x)) x = none := by rw [upd_ne hne.symm]; exact hx
    have e1 : Ex H2 (upd (upd H2 dx (.own x)) x (.ins CB dx [])) := (Ex.new hdx).trans (Ex.new n1)
    refine ⟨x, dx, n, m, src, rs, F2, v, rfl, upd_same, by rw [upd_ne hne]; exact upd_same, hne, fr hx, fr hdx, s.inn.trans e1, hv, h1, hn, hm, hl, hr, fun F3 H3 R s3 ha' hm' bk => ⟨rfl, ?_⟩⟩
    have back : Fv.del (Fv.del (upd (upd H2 dx (.own x)) x (.ins CB dx [])) x) dx = H2 := by
      funext b
      by_cases z : b = dx
      · rw [z, Fv.del_same, hdx]
      · rw [Fv.del_ne z]
        by_cases y : b = x
        · rw [y, Fv.del_same, hx]
        · rw [Fv.del_ne y, upd_ne y, upd_ne z]
    rw [back] at s3
    exact q _ F3 H3 ⟨x, R, rfl, ha', hm', bk⟩ (s.trans (s3.lift s.good))
theorem x_family {E : XK} {n : Nat} {ls : List (List Int)} (h : EvsG K pt ts σ F (· = [.int (n : Int), dLT ls])) (hp : (2 ≤ n ∧ n ≤ 5) ∧ GoodLots n ls ∧ ls.length ≤ 32) :
    EvX pt (tCall (spFamily K CL) [] E ts) σ F (fun v F2 => ∃ x, v = .ref x ∧ Fam K CL F2 x n ls) := fun H1 i g Q k => h H1 i g _ fun ds vs F2 H2 hd s hv => by
  subst hd
  obtain ⟨a, v, rfl, ha, hv2⟩ := rpAll2 hv
  obtain rfl := rp_int ha
  exact ⟨n, ls, F2, v, rfl, hp, s.inn, hv2, fun x F3 H3 s3 fam => k _ F3 H3 ⟨x, rfl, fam⟩ (s.trans (s3.lift s.good))⟩
theorem chains_way {web : List (List Nat)} {k g : Nat} {t : Nat} {c : Ch} (h : c ∈ chainsTo web k g t) : WayN web k c ∧ c.length ≤ t := by
  unfold chainsTo at h
  split at h
  · rename_i i hi
    have h1 := List.mem_range.mp (List.mem_of_find?_eq_some hi)
    obtain ⟨a1, a2, _⟩ := (st_sound web k i).1 c (List.mem_filter.mp h).1
    exact ⟨a1, by omega⟩
  · cases h
theorem chains_len (web : List (List Nat)) (k g t : Nat) : ∃ d, ∀ c ∈ chainsTo web k g t, c.length = d + 1 := by
  unfold chainsTo
  split
  · rename_i i hi
    exact ⟨i, fun c hc => ((st_sound web k i).1 c (List.mem_filter.mp hc).1).2.1⟩
  · exact ⟨0, fun c hc => by cases hc⟩
theorem two_rows {rs : List (List Int)} (h1 : rs.length ≤ 1000) (h2 : ∀ r ∈ rs, r.length ≤ 1000) : two2 (dTT rs) := .inr ⟨_, rfl, by rw [List.length_map]; exact h1, fun x hx => by
  obtain ⟨r, hr, rfl⟩ := List.mem_map.mp hx
  exact .inr ⟨_, rfl, by rw [List.length_map]; exact h2 r hr, fun y hy => by obtain ⟨k, _, rfl⟩ := List.mem_map.mp hy; rfl⟩⟩
theorem two_words (a b : Str) : two2 (.tuple [.str a, .str b]) := .inr ⟨_, rfl, by simp, fun x hx => .inl (by
  rcases List.mem_cons.mp hx with rfl | h
  · rfl
  · rw [List.mem_singleton.mp h]; rfl)⟩
def spLaw (K : PySem.W.Frag) : Sp := fun vs H Q _ => ∃ (a : Addr) (ns : List Int), vs = [.ref a] ∧ SqL K H a (ns.map V.int) ∧ ∀ H', Q (.bl true) H'
theorem ok_law {f fP fD fA fW fL fY fI fV fB fC fZ fX fS fN fR fO fQ : Addr} {fd fdP fdD fdA fdW fdL fdY fdI fdV fdB fdC fdZ fdX fdS fdN fdR fdO fdQ : FuncData} (Fn : Fun K "law" "law" s_law f fd) (T : Tx mg)
    (M_Book : Mk K CB fQ) (g_Book : mg "Book" = some (.ref CB)) (b_Book : Binds K fdQ ["self", "houses", "values", "inputs"] []) (G_Book : FnOk P w K mg base CX0 4 fQ fdQ ["self", "houses", "values", "inputs"] (spBook K CB))
    (F_law_pot : Fun K "_law_pot" "_law_pot" s_law_pot fP fdP) (b_law_pot : Binds K fdP ["_law_script", "_law_salt"] []) (g_law_pot : mg "_law_pot" = some (.ref fP))
    (F_law_draw : Fun K "_law_draw" "_law_draw" s_law_draw fD fdD) (b_law_draw : Binds K fdD ["_law_pot_here", "_law_many_here"] []) (g_law_draw : mg "_law_draw" = some (.ref fD))
    (F_law_many : Fun K "_law_many" "_law_many" s_law_many fA fdA) (b_law_many : Binds K fdA ["_law_pot_here"] []) (g_law_many : mg "_law_many" = some (.ref fA)) (G_law_many : FnOk P w K mg base CX0 2 fA fdA ["_law_pot_here"] (spMany K))
    (F_law_worths : Fun K "_law_worths" "_law_worths" s_law_worths fW fdW) (b_law_worths : Binds K fdW ["_law_pot_here", "_law_n"] []) (g_law_worths : mg "_law_worths" = some (.ref fW)) (G_law_worths : FnOk P w K mg base CX0 2 fW fdW ["_law_pot_here", "_law_n"] (spWorths K))
    (F_law_lots : Fun K "_law_lots" "_law_lots" s_law_lots fL fdL) (b_law_lots : Binds K fdL ["_law_pot_here", "_law_n"] []) (g_law_lots : mg "_law_lots" = some (.ref fL)) (G_law_lots : FnOk P w K mg base CX0 3 fL fdL ["_law_pot_here", "_law_n"] (spLawLots K))
    (F_law_family : Fun K "_law_family" "_law_family" s_law_family fY fdY) (b_law_family : Binds K fdY ["_law_n", "_law_lots_here"] []) (g_law_family : mg "_law_family" = some (.ref fY)) (G_law_family : FnOk P w K mg base CX0 6 fY fdY ["_law_n", "_law_lots_here"] (spFamily K CL))
    (F_law_fine : Fun K "_law_fine" "_law_fine" s_law_fine fI fdI) (b_law_fine : Binds K fdI ["_law_pot_here"] []) (g_law_fine : mg "_law_fine" = some (.ref fI)) (G_law_fine : FnOk P w K mg base CX0 2 fI fdI ["_law_pot_here"] (spFine K))
    (F_law_walks : Fun K "_law_walks" "_law_walks" s_law_walks fV fdV) (b_law_walks : Binds K fdV ["_law_pot_here", "_law_n", "_law_m", "_law_lots_here", "_law_most"] []) (g_law_walks : mg "_law_walks" = some (.ref fV)) (G_law_walks : FnOk P w K mg base CX0 3 fV fdV ["_law_pot_here", "_law_n", "_law_m", "_law_lots_here", "_law_most"] (spWalks K))
    (F_law_web : Fun K "_law_web" "_law_web" s_law_web fB fdB) (b_law_web : Binds K fdB ["_law_rows", "_law_lots_here", "_law_manner"] []) (g_law_web : mg "_law_web" = some (.ref fB)) (G_law_web : FnOk P w K mg base CX0 3 fB fdB ["_law_rows", "_law_lots_here", "_law_manner"] (spWeb K))
    (F_law_chains : Fun K "_law_chains" "_law_chains" s_law_chains fC fdC) (b_law_chains : Binds K fdC ["_law_web_here", "_law_start", "_law_goal"] []) (g_law_chains : mg "_law_chains" = some (.ref fC)) (G_law_chains : FnOk P w K mg base CX0 2 fC fdC ["_law_web_here", "_law_start", "_law_goal"] (spChains K))
    (F_least_chain : Fun K "least_chain" "least_chain" s_least_chain fZ fdZ) (b_least_chain : Binds K fdZ ["book", "falls", "manner", "one", "other"] []) (g_least_chain : mg "least_chain" = some (.ref fZ)) (G_least_chain : FnOk P w K mg base CX0 7 fZ fdZ ["book", "falls", "manner", "one", "other"] (spChain K CB CL))
    (F_law_way : Fun K "_law_way" "_law_way" s_law_way fX fdX) (b_law_way : Binds K fdX ["_law_pot_here", "_law_row"] []) (g_law_way : mg "_law_way" = some (.ref fX)) (G_law_way : FnOk P w K mg base CX0 2 fX fdX ["_law_pot_here", "_law_row"] (spWay K))
    (F_law_same : Fun K "_law_same" "_law_same" s_law_same fS fdS) (b_law_same : Binds K fdS ["_law_told", "_law_due"] []) (g_law_same : mg "_law_same" = some (.ref fS))
    (F_law_entry : Fun K "_law_entry" "_law_entry" s_law_entry fN fdN) (b_law_entry : Binds K fdN ["_law_pot_here", "_law_n", "_law_m"] []) (g_law_entry : mg "_law_entry" = some (.ref fN)) (G_law_entry : FnOk P w K mg base CX0 2 fN fdN ["_law_pot_here", "_law_n", "_law_m"] (spEntry K))
    (F_law_refused : Fun K "_law_refused" "_law_refused" s_law_refused fR fdR) (b_law_refused : Binds K fdR ["_law_book", "_law_falls", "_law_manner", "_law_one", "_law_other"] []) (g_law_refused : mg "_law_refused" = some (.ref fR)) (G_law_refused : FnG P w K mg base CX0 9 fR fdR ["_law_book", "_law_falls", "_law_manner", "_law_one", "_law_other"] (spRefN K CB CL))
    (F_law_doors : Fun K "_law_doors" "_law_doors" s_law_doors fO fdO) (b_law_doors : Binds K fdO ["_law_pot_here", "_law_book", "_law_falls", "_law_n", "_law_manner", "_law_one", "_law_is_there"] []) (g_law_doors : mg "_law_doors" = some (.ref fO)) (G_law_doors : FnOk P w K mg base CX0 10 fO fdO ["_law_pot_here", "_law_book", "_law_falls", "_law_n", "_law_manner", "_law_one", "_law_is_there"] (spDoors K CB CL)) :
    FnG P w K mg base CX0 11 f fd ["_law_script"] (spLaw K) := by
  have G_law_pot : FnOk P w K mg base CX0 1 fP fdP ["_law_script", "_law_salt"] (spPot K) := ok_pot F_law_pot T
  have G_law_draw : FnOk P w K mg base CX0 1 fD fdD ["_law_pot_here", "_law_many_here"] (spDraw K) := ok_draw F_law_draw T
  have G_law_same : FnOk P w K mg base CX0 3 fS fdS ["_law_told", "_law_due"] (spSm K two2) := ok_same2 F_law_same T b_law_same g_law_same
  refine okG0 Fn sc_law (fun vs H Q E ⟨_, _, h, _⟩ => by rw [h]; rfl) (fun cdv A outer s H vs Q E cm hr h => ?_)
  obtain ⟨a, ns, rfl, hS, q⟩ := h
  refine ⟨_, (pss_cons (ps_set (i := 1) sc_law.nd rfl (by first | exact Or.inl rfl | exact Or.inr rfl) (pe_call G_law_pot (hr.mono (by decide)) (by rfl) g_law_pot F_law_pot.kp b_law_pot .nil pass0 (pa_cons (pv 0) (pa_cons pe_int pa_nil))))
    (pss_cons (ps_set (i := 2) sc_law.nd rfl (by first | exact Or.inl rfl | exact Or.inr rfl) (pe_call G_law_many (hr.mono (by decide)) (by rfl) g_law_many F_law_many.kp b_law_many .nil pass0 (pa_cons (pv 1) pa_nil)))
    (pss_cons (ps_set (i := 3) sc_law.nd rfl (by first | exact Or.inl rfl | exact Or.inr rfl) (pe_call G_law_worths (hr.mono (by decide)) (by rfl) g_law_worths F_law_worths.kp b_law_worths .nil pass0 (pa_cons (pv 1) (pa_cons (pv 2) pa_nil))))
    (pss_cons (ps_set (i := 4) sc_law.nd rfl (by first | exact Or.inl rfl | exact Or.inr rfl) (pe_call G_law_lots (hr.mono (by decide)) (by rfl) g_law_lots F_law_lots.kp b_law_lots .nil pass0 (pa_cons (pv 1) (pa_cons (pv 2) pa_nil))))
    (pss_cons (ps_set (i := 5) sc_law.nd rfl (by first | exact Or.inl rfl | exact Or.inr rfl) (pe_call G_law_family (hr.mono (by decide)) (by rfl) g_law_family F_law_family.kp b_law_family .nil pass0 (pa_cons (pv 2) (pa_cons (pv 4) pa_nil))))
    (pss_cons (ps_set (i := 6) sc_law.nd rfl (by first | exact Or.inl rfl | exact Or.inr rfl) (pe_call G_law_fine (hr.mono (by decide)) (by rfl) g_law_fine F_law_fine.kp b_law_fine .nil pass0 (pa_cons (pv 1) pa_nil)))
    (pss_cons (ps_set (i := 7) sc_law.nd rfl (by first | exact Or.inl rfl | exact Or.inr rfl) (pe_call G_law_walks (hr.mono (by decide)) (by rfl) g_law_walks F_law_walks.kp b_law_walks .nil pass0 (pa_cons (pv 1) (pa_cons (pv 2) (pa_cons (pv 3) (pa_cons (pv 4) (pa_cons pe_int pa_nil)))))))
    (pss_cons (ps_set (i := 8) sc_law.nd rfl (by first | exact Or.inl rfl | exact Or.inr rfl) (pe_make M_Book G_Book (hr.mono (by decide)) (by rfl) g_Book b_Book .nil pass0 (pa_cons (pv 2) (pa_cons (pv 3) (pa_cons (pv 7) pa_nil)))))
    (pss_cons (ps_set (i := 9) sc_law.nd rfl (by first | exact Or.inl rfl | exact Or.inr rfl) (pe_call G_law_web (hr.mono (by decide)) (by rfl) g_law_web F_law_web.kp b_law_web .nil pass0 (pa_cons (pv 7) (pa_cons (pv 4) (pa_cons (pv 6) pa_nil)))))
    (pss_cons (ps_for PassesOwn.never rfl (pi_range1 (by rfl) T.range (pa_cons (pe_callB (c_len (K := K)) (by rfl) T.len (by decide +kernel) (pa_cons (pv 7) pa_nil)) pa_nil)) (pg_name (i := 10) sc_law.nd rfl (by first | exact Or.inl rfl | exact Or.inr rfl)) (pss_one (ps_for PassesOwn.never rfl (pi_range1 (by rfl) T.range (pa_cons (pe_callB (c_len (K := K)) (by rfl) T.len (by decide +kernel) (pa_cons (pv 7) pa_nil)) pa_nil)) (pg_name (i := 11) sc_law.nd rfl (by first | exact Or.inl rfl | exact Or.inr rfl)) (pss_cons (ps_setLc (i := 12) (own := [("_law_chain", 13)]) (g := gName 13) rfl sc_law.nd rfl rfl (sw_true rfl rfl rfl (by decide +kernel)) (i_list (K := K) (pe_call G_law_chains (hr.mono (by decide)) (by rfl) g_law_chains F_law_chains.kp b_law_chains .nil pass0 (pa_cons (pv 9) (pa_cons (pv 10) (pa_cons (pv 11) pa_nil))))) (blkOk_by (own := [("_law_chain", 13)]) (N := ["_law_script", "_law_pot_here", "_law_n", "_law_m", "_law_lots_here", "_law_falls", "_law_manner", "_law_due", "_law_book", "_law_web_here", "_law_k", "_law_j", "_law_chains_here", "_law_chain", "_law_i", "_law_told", "_law_strange"]) (sc := (defScope s_law)) (by decide +kernel)) (fun _ _ _ _ _ => pg_name (i := 13) sc_law.nd rfl (by first | exact Or.inl rfl | exact Or.inr rfl)) (fun _ _ _ _ _ => pts_nil) (fun _ _ _ _ _ => (pe_callTy (c_tup (K := K)) (by rfl) T.tuple (by decide +kernel) (pa_cons (pe_lc (own := [("_law_i", 14)]) (g := gName 14) rfl sc_law.nd (i_list (K := K) (pv 13)) (blkOk_by (own := [("_law_i", 14)]) (N := ["_law_script", "_law_pot_here", "_law_n", "_law_m", "_law_lots_here", "_law_falls", "_law_manner", "_law_due", "_law_book", "_law_web_here", "_law_k", "_law_j", "_law_chains_here", "_law_chain", "_law_i", "_law_told", "_law_strange"]) (by rfl)) (fun _ _ _ _ _ => pg_name (i := 14) sc_law.nd rfl (by first | exact Or.inl rfl | exact Or.inr rfl)) (fun _ _ _ _ _ => pts_nil) (fun _ _ _ _ _ => (pe_ix (o_ixL (K := K)) (pv 7) (pv 14) (fun _ _ => rfl)))) pa_nil))))
    (pss_cons (ps_set (i := 15) sc_law.nd rfl (by first | exact Or.inl rfl | exact Or.inr rfl) (pe_call G_least_chain (hr.mono (by decide)) (by rfl) g_least_chain F_least_chain.kp b_least_chain .nil pass0 (pa_cons (pv 8) (pa_cons (pv 5) (pa_cons (pv 6) (pa_cons (pe_call G_law_way (hr.mono (by decide)) (by rfl) g_law_way F_law_way.kp b_law_way .nil pass0 (pa_cons (pv 1) (pa_cons (pe_ix (o_ixL (K := K)) (pv 7) (pv 10) (fun _ _ => rfl)) pa_nil))) (pa_cons (pe_ix (o_ixL (K := K)) (pv 7) (pv 11) (fun _ _ => rfl)) pa_nil)))))))
    (pss_one (ps_if (pt_not (pt_val (pe_call G_law_same (hr.mono (by decide)) (by rfl) g_law_same F_law_same.kp b_law_same .nil pass0 (pa_cons (pv 15) (pa_cons (pe_ifExp (e_truth (K := K) (pv 12)) (pe_ix (o_ixL (K := K)) (pe_callB (c_sortG (K := K) (hu65 hr)) (by rfl) T.sorted (by decide +kernel) (pa_cons (pv 12) pa_nil)) pe_int (fun _ _ => rfl)) pe_non) pa_nil))))) (pss_one (ps_ret pe_bl)) pss_nil)))))))
    (pss_cons (ps_set (i := 16) sc_law.nd rfl (by first | exact Or.inl rfl | exact Or.inr rfl) (pe_call G_law_entry (hr.mono (by decide)) (by rfl) g_law_entry F_law_entry.kp b_law_entry .nil pass0 (pa_cons (pv 1) (pa_cons (pv 2) (pa_cons (pv 3) pa_nil)))))
    (pss_cons (ps_if (pt_cmpR (o_notInD (K := K) (hu65 hr)) (pv 16) (pv 7) (by rfl)) (pss_cons (ps_if (pt_not (pt_val (pe_call G_law_same (hr.mono (by decide)) (by rfl) g_law_same F_law_same.kp b_law_same .nil pass0 (pa_cons (pe_callG G_law_refused (cm.deeper _) (hr.mono (by decide)) (by rfl) g_law_refused F_law_refused.kp b_law_refused .nil pass0 (pa_cons (pv 8) (pa_cons (pv 5) (pa_cons (pv 6) (pa_cons (pv 16) (pa_cons pe_non pa_nil)))))) (pa_cons (pe_tup (pa_cons pe_str (pa_cons (pe_callB (c_repr (K := K) (cm.deeper _) (hu65 hr)) (by rfl) T.repr (by decide +kernel) (pa_cons (pv 16) pa_nil)) pa_nil))) pa_nil))))) (pss_one (ps_ret pe_bl)) pss_nil)
    (pss_one (ps_if (PW.pt (pw_and (e_truth (K := K) (pv 7)) (pw_and1 (pt_not (pt_val (pe_call G_law_same (hr.mono (by decide)) (by rfl) g_law_same F_law_same.kp b_law_same .nil pass0 (pa_cons (pe_callG G_law_refused (cm.deeper _) (hr.mono (by decide)) (by rfl) g_law_refused F_law_refused.kp b_law_refused .nil pass0 (pa_cons (pv 8) (pa_cons (pv 5) (pa_cons (pv 6) (pa_cons (pe_ix (o_ixL (K := K)) (pv 7) (pe_un un_neg pe_int) (fun _ _ => rfl)) (pa_cons (pv 16) pa_nil)))))) (pa_cons (pe_tup (pa_cons pe_str (pa_cons (pe_callB (c_repr (K := K) (cm.deeper _) (hu65 hr)) (by rfl) T.repr (by decide +kernel) (pa_cons (pv 16) pa_nil)) pa_nil))) pa_nil)))))))) (pss_one (ps_ret pe_bl)) pss_nil))) pss_nil)
    (pss_one (ps_ret (pe_call G_law_doors (hr.mono (by decide)) (by rfl) g_law_doors F_law_doors.kp b_law_doors .nil pass0 (pa_cons (pv 1) (pa_cons (pv 8) (pa_cons (pv 5) (pa_cons (pv 2) (pa_cons (pv 6) (pa_cons (pv 16) (pa_cons (pe_cmpR (o_inD (K := K) (hu65 hr)) (pv 16) (pv 7) (by rfl)) pa_nil)))))))))))))))))))))), ?_⟩
  refine ⟨_, rfl, ⟨a, ns, 1412, H, rfl, hS, by decide, by decide, Ex.refl H, fun pq F1 H1 s0 g1 _ => ?_⟩⟩
  have s1 : Step (some pq) F1 H1 F1 H1 := Step.refl s0.inn g1
  refine t_asg (K := K) (R := HouseN) s1 (g_callQ (ι := Unit) (A := fun _ => []) (P := fun _ => True) (R := fun _ => HouseN) () rfl gs_nil rfl trivial) fun d v F2 H2 hd s2 e2 hv => ?_
  obtain ⟨n, rfl, n2, n5⟩ := hd
  obtain rfl := rp_int hv
  have toN : (n : Int).toNat = n := by omega
  refine t_asg (K := K) (R := fun d => ∃ m : Nat, d = .int m ∧ 1 ≤ m ∧ m ≤ capN n) s2 (g_callQ n rfl (gs_one (g_var (v := .int n) rfl (.int _))) rfl ⟨n2, n5⟩) fun d v F3 H3 hd s3 e3 hv => ?_
  obtain ⟨m, rfl, m1, mc⟩ := hd
  obtain rfl := rp_int hv
  have m4 : m ≤ 4 := Nat.le_trans mc (cap_few n2 n5).2
  refine t_asg (K := K) (R := RL n 20) s3 ((g_callP (P := NOk) (R := fun m => RL m.toNat 20) (m := n) rfl (g_var (v := .int n) (d := .int n) rfl (.int _)) ⟨by omega, by omega⟩).imp fun d hd => by
    obtain ⟨l, h1, h2, h3⟩ := hd
    exact ⟨l, h1, by rw [toN] at h2; exact h2, h3⟩) fun d lv F4 H4 hd s4 e4 hlv => ?_
  obtain ⟨lots, rfl, hg0, hl0⟩ := hd
  have hg : GoodLots n lots := ⟨by omega, hg0⟩
  refine t_asgX s4 (x_family (K := K) (CL := CL) (n := n) (ls := lots) (gs_two (g_var (v := .int n) rfl (.int _)) (g_var rfl hlv)) ⟨⟨n2, n5⟩, hg, by omega⟩) fun v F5 H5 ⟨z, ez, fam5⟩ s5 e5 => ?_
  subst ez
  refine t_asg (K := K) (R := fun d => ∃ mn, d = .str mn ∧ mn ∈ mans) s5 (g_callQ (ι := Unit) (A := fun _ => []) (P := fun _ => True) (R := fun _ d => ∃ mn, d = .str mn ∧ mn ∈ mans) () rfl gs_nil rfl trivial) fun d v F6 H6 hd s6 e6 hv => ?_
  obtain ⟨mn, rfl, hmn⟩ := hd
  obtain rfl := rp_str hv
  have hlv6 := Rp.mono (e5.trans e6) _ _ hlv
  refine t_asg (K := K) (R := fun d => ∃ R : List (List Int), d = dLT R ∧ Asc R ∧ R.length ≤ 7 ∧ ∀ r ∈ R, Row n m r) s6 (g_callQ (n, m, lots) rfl (gs_consI (g_var (v := .int n) rfl (.int _)) (gs_consI (g_var (v := .int m) rfl (.int _)) (gs_two (g_var rfl hlv6) g_int))) rfl ⟨⟨n2, n5⟩, ⟨m1, m4⟩, by show lots.length ≤ 100; omega, fun l hl => (hg0 l hl).2.1⟩) fun d dv F7 H7 hd s7 e7 hdv => ?_
  obtain ⟨R, rfl, hasc, h7, hrow⟩ := hd
  have hrl : ∀ r ∈ R, r.length = n := fun r hr => (hrow r hr).1
  have hbd : ∀ r ∈ R, r.length = n ∧ TS.Bd 4 r := fun r hr => (hrow r hr).bd m4
  refine t_asgX s7 (x_bookE (K := K) (CB := CB) (n := n) (m := m) (rs := R) (gs_three (g_var (v := .int n) rfl (.int _)) (g_var (v := .int m) rfl (.int _)) (g_var rfl hdv)) (.inl rfl) ⟨n2, n5⟩ ⟨m1, m4⟩ (by omega) hrow) fun v F8 H8 ⟨x, R2, ex, hasc2, hmem, bk8⟩ s8 e8 => ?_
  subst ex
  obtain rfl := asc_ext hasc2 hasc hmem
  have hlv8 := Rp.mono (e7.trans e8) _ _ hlv6
  have hdv8 := Rp.mono e8 _ _ hdv
  have fam8 := fam5.mono (e6.trans (e7.trans e8))
  refine t_asgI (K := K) (d := .list ((webOf mn lots R2).map dNs)) s8 (g_call (R2, lots, mn) (gs_three (g_var rfl hdv8) (g_var rfl hlv8) (g_var (v := .str mn) rfl (.str _))) rfl ⟨n, n5, by show R2.length ≤ 300; omega, hrl⟩) fun wv F9 H9 s9 e9 hwv => ?_
  have hdv9 := Rp.mono e9 _ _ hdv8
  have wl := web_len mn lots R2
  have ok := web_ok (mn := mn) (lots := lots) h7
  refine t_for (K := K) (ds := (List.range R2.length).map natD) s9 (w_lenL (g_var rfl hdv9) (by rw [List.length_map]) (by omega)) (fun i σ' F' => ∃ z10 z11 z12 z13 z14 z15 z16, σ' = [some (.ref a), some (.ref pq.p), some (.int n), some (.int m), some lv, some (.ref z), some (.str mn), some dv, some (.ref x), some wv, z10, z11, z12, z13, z14, z15, z16]) (fun F' e' => ⟨_, _, _, _, _, _, _, rfl⟩) (fun k d hd σ' F' H' u hI s' e' hu N hN => ?_) (fun σ' F' H' hI s' e' => ?_)
  · obtain ⟨z10, z11, z12, z13, z14, z15, z16, rfl⟩ := hI
    obtain ⟨k0, hk0, rfl⟩ := get_map hd
    have hk : k0 < R2.length := List.mem_range.mp (List.mem_of_getElem? hk0)
    refine t_for1 (K := K) (ds := (List.range R2.length).map natD) s' (w_lenL (g_var rfl (Rp.mono e' _ _ hdv9)) (by rw [List.length_map]) (by omega)) (fun i σ' F' => ∃ z11 z12 z13 z14 z15 z16, σ' = [some (.ref a), some (.ref pq.p), some (.int n), some (.int m), some lv, some (.ref z), some (.str mn), some dv, some (.ref x), some wv, some u, z11, z12, z13, z14, z15, z16]) (fun F' e' => ⟨_, _, _, _, _, _, rfl⟩) (fun j d hd σ2 F2' H2' u2 hI s2' e2' hu2 N2 hN2 => ?_) (fun σ2 F2' H2' hI s2' e2' => ?_)
    · obtain ⟨z11, z12, z13, z14, z15, z16, rfl⟩ := hI
      obtain ⟨j0, hj0, rfl⟩ := get_map hd
      have hj : j0 < R2.length := List.mem_range.mp (List.mem_of_getElem? hj0)
      have e29 := e'.trans e2'
      have hdv2 := Rp.mono e29 _ _ hdv9
      have few := few_of ok (k := k0) (by rw [wl]; exact hk)
      let cs := (chainsTo (webOf mn lots R2) k0 j0 (webOf mn lots R2).length).map fun c => c.map fun i => R2.getD i []
      have cl : cs.length ≤ 10000 := by
        show (List.map _ _).length ≤ _
        rw [List.length_map]
        unfold chainsTo
        split
        · rename_i i hi
          have hi2 := List.mem_range.mp (List.mem_of_find?_eq_some hi)
          exact Nat.le_trans (List.length_filter_le _ _) (few.2 i (by omega)).1
        · simp
      refine t_asgI (K := K) (d := .list (cs.map dTT)) s2' (EvG.is (g_lcEM dNs (chainsTo (webOf mn lots R2) k0 j0 (webOf mn lots R2).length) (fun c => dTT (c.map fun i => R2.getD i [])) (w_listI (g_call (webOf mn lots R2, k0, j0) (gs_three (g_var rfl (Rp.mono e29 _ _ hwv)) (g_var rfl (Rp.mono e2' _ _ hu)) (g_var rfl hu2)) rfl few)) (by have : cs.length = _ := List.length_map _; omega) (fun _ => rfl) fun c hc F3 e3 y hy => ?_) (congrArg PyData.list (List.map_map (g := dTT)).symm)) fun cv F3 H3 s3 e3 hcv => ?_
      · obtain ⟨hw1, hw2⟩ := chains_way hc
        refine EvG.is (g_cbI (gs_one (g_lcEM natD c (fun i => dT (R2.getD i [])) (w_listI (g_var rfl hy)) (by rw [wl] at hw2; omega) (fun _ => rfl) fun i hi F4 e4 y4 hy4 => g_ixRow (g_var rfl (Rp.mono (e3.trans e4) _ _ hdv2)) (g_var rfl hy4) (by have := hw1.lt ok (by rw [wl]; exact hk) i hi; rwa [wl] at this))) rc_tupL) (congrArg PyData.tuple (List.map_map (g := dT)).symm)
      have clen : ∃ d, ∀ y ∈ cs, y.length = d + 1 := by
        obtain ⟨d, hd⟩ := chains_len (webOf mn lots R2) k0 j0 (webOf mn lots R2).length
        exact ⟨d, fun y hy => by
          obtain ⟨c, hc, rfl⟩ := List.mem_map.mp hy
          rw [List.length_map]; exact hd c hc⟩
      obtain ⟨dl, hdl⟩ := clen
      have cne : ∀ y ∈ cs, y ≠ [] := fun y hy e => by have := hdl y hy; rw [e] at this; cases this
      let DD : PyData := if cs = [] then .none else dTT ((sortW cs).getD 0 [])
      have first : cs ≠ [] → ∃ y t, sortW cs = y :: t ∧ y ∈ cs := fun hne => by
        have pm : (sortW cs).Perm cs := List.mergeSort_perm _ _
        cases hs : sortW cs with
        | nil => rw [hs] at pm; exact absurd pm.nil_eq.symm hne
        | cons y t => exact ⟨y, t, rfl, pm.mem_iff.mp (by rw [hs]; exact List.mem_cons_self)⟩
      have hD2 : two2 DD := by
        by_cases hne : cs = []
        · show two2 (if cs = [] then .none else _)
          rw [if_pos hne]; exact .inl rfl
        · show two2 (if cs = [] then .none else _)
          rw [if_neg hne]
          obtain ⟨y, t, h1, h2⟩ := first hne
          rw [h1]
          obtain ⟨c, hc, e⟩ := List.mem_map.mp h2
          obtain ⟨hw1, hw2⟩ := chains_way hc
          show two2 (dTT y)
          rw [← e]
          refine two_rows (by rw [List.length_map]; rw [wl] at hw2; omega) fun r hr => ?_
          obtain ⟨i, hi, rfl⟩ := List.mem_map.mp hr
          have hi2 := hw1.lt ok (by rw [wl]; exact hk) i hi
          rw [wl] at hi2
          rw [hrl _ (getD_mem hi2)]; omega
      have e39 := e29.trans e3
      have hu3 := Rp.mono (e2'.trans e3) _ _ hu
      have hu23 := Rp.mono e3 _ _ hu2
      have hdv3 := Rp.mono e3 _ _ hdv2
      refine t_asgI (K := K) (d := DD) s3 (fun H4 i4 g4 Q4 q4 => ⟨_, rfl, _, rfl, _, rfl, (g_callQ (ι := List Int) (A := fun r => [dT r]) (P := fun r => r.length ≤ 1000) (R := fun r d => ∃ b, d = rowS b r) (R2.getD k0 []) rfl (gs_one (g_ixRow (g_var (i := 7) rfl hdv3) (g_var (i := 10) rfl hu3) hk)) rfl (by show (R2.getD k0 []).length ≤ 1000; rw [hrl _ (getD_mem hk)]; omega)) H4 i4 g4 _ fun d v F5 H5 ⟨b, hd⟩ s5 hv => (g_ixRow (K := K) (g_var (i := 7) rfl hdv3) (g_var (i := 11) rfl hu23) hj).mono s5.sub H5 s5.inn s5.good _ fun d2 v2 F6 H6 hd2 s6 hv2 => ?_⟩) fun tv F4 H4 s4 e4 htv => ?_
      · subst hd
        rw [show d2 = _ from hd2] at hv2
        have e69 := e39.trans (s5.sub.trans s6.sub)
        refine ⟨x, z, n, m, mn, R2, lots, b, false, R2.getD k0 [], R2.getD j0 [], F6, v, v2, rfl, ⟨⟨by omega, n5⟩, hmn, by omega, hbd, hasc⟩, ⟨getD_mem hk, getD_mem hj⟩, s6.inn, bk8.mono (e9.trans e69), fam8.mono (e9.trans e69), Rp.mono s6.sub _ _ hv, hv2, fun ts lvl v' F7 H7 s7 tI tR hv' => q4 _ v' F7 H7 rfl ((s5.trans s6).trans (s7.lift s6.good)) ?_⟩
        have hcd := (chain_due (m := m) ⟨n2, n5⟩ m4 hg hrow hasc h7 hk hj tI tR).2.2
        rw [hcd] at hv'
        exact hv'
      · have hcv4 := Rp.mono e4 _ _ hcv
        refine t_if1 (b := false) s4 ((et_not (b := true) (et_B (g_call DD (gs_two (g_var (i := 15) rfl htv) (g_ifX (K := K) (d := DD) (b := !((cs.map dTT).isEmpty)) (et_truL (g_var (i := 12) rfl hcv4)) (fun hb => ?_) (fun hb => ?_))) rfl hD2))).is rfl) (fun zz => by cases zz) fun _ F5 H5 s5 e5 => hN2 _ F5 H5 ⟨_, _, _, _, _, _, rfl⟩ s5 (e3.trans (e4.trans e5))
        · have hne : cs ≠ [] := fun e => by rw [e] at hb; exact Bool.noConfusion hb
          obtain ⟨y, t, h1, h2⟩ := first hne
          refine EvG.is (g_opI (EvG.is (g_sortG (g_var (i := 12) rfl hcv4) (canSort_ways cne)) (congrArg PyData.list (sortD_ways hdl))) g_int (rv_ixL (d := dTT y) (by rw [h1]; show atI _ ((0 : Nat) : Int) = _; exact atI_nat rfl))) ?_
          show dTT y = if cs = [] then .none else dTT ((sortW cs).getD 0 [])
          rw [if_neg hne, h1]; rfl
        · have hem : cs = [] := by
            cases hcs : cs with
            | nil => rfl
            | cons y t => rw [hcs] at hb; exact Bool.noConfusion hb
          refine g_non.is ?_
          show PyData.none = if cs = [] then .none else dTT ((sortW cs).getD 0 [])
          rw [if_pos hem]
    · obtain ⟨z11, z12, z13, z14, z15, z16, rfl⟩ := hI
      exact hN _ F2' H2' ⟨_, _, _, _, _, _, _, rfl⟩ s2' e2'
  obtain ⟨z10, z11, z12, z13, z14, z15, z16, rfl⟩ := hI
  have hdv10 := Rp.mono e' _ _ hdv9
  refine t_asg (K := K) (R := fun d => ∃ r : List Int, d = dT r ∧ r.length = n ∧ ∀ k ∈ r, 0 ≤ k ∧ k < (m : Int)) s' (g_callQ (n, m) rfl (gs_two (g_var (v := .int n) (i := 2) rfl (.int _)) (g_var (v := .int m) (i := 3) rfl (.int _))) rfl ⟨by show n ≤ 100; omega, m1, by show m ≤ 100; omega⟩) fun d sv F10 H10 hd s10 e10 hsv => ?_
  obtain ⟨r, rfl, hr1, hr2⟩ := hd
  obtain ⟨f3, f4, f5, f6⟩ := row_shown (n := n) (m := m) ⟨hr1, hr2⟩ n5 m4
  refine t_when (b := !decide (r ∈ R2)) s10 (et_of (K := K) (g_opI (g_var (i := 16) rfl hsv) (g_var (i := 7) rfl (Rp.mono e10 _ _ hdv10)) rv_ninD)) (fun hb F11 H11 s11 e11 => ?_) (fun hb F11 H11 s11 e11 => ?_)
  · have hno : r ∉ R2 := by simpa using hb
    have e0 := (e9.trans e').trans (e10.trans e11)
    refine t_skip s11 ((et_not (b := true) (et_B (g_call (.tuple [.str "absent", .str (dT r).shown]) (gs_two (fun H9 i9 g9 Q9 q9 => ⟨_, rfl, _, rfl, _, rfl, _, rfl, x, z, n, m, mn, R2, lots, r, r, .none, F11, sv, .non, rfl, hmn, ⟨by rw [hr1]; omega, by rw [hr1]; omega⟩, .inl ⟨rfl, hno⟩, ⟨⟨n5, m4⟩, hr1, hr2⟩, i9, bk8.mono e0, fam8.mono e0, Rp.mono e11 _ _ hsv, .non, fun u F2 H2 s2 hu => q9 _ u F2 H2 rfl (s2.lift g9) hu⟩) (g_tupI (gs_two g_str (g_repr (g_var (i := 16) rfl (Rp.mono e11 _ _ hsv)) f3 f4 f5 f6)) (by show 2 ≤ 100000; omega))) rfl (two_words _ _)))).is rfl) fun F12 H12 s12 e12 => ?_
    have hdv12 := Rp.mono (e10.trans (e11.trans e12)) _ _ hdv10
    refine t_if1 (b := false) s12 ((et_and (a := !((R2.map dT).isEmpty)) (b := false) (et_truL (g_var (i := 7) rfl hdv12)) fun ha => (et_not (b := true) (et_B (g_call (.tuple [.str "absent", .str (dT r).shown]) (gs_two (fun H9 i9 g9 Q9 q9 => ?_) (g_tupI (gs_two g_str (g_repr (g_var (i := 16) rfl (Rp.mono (e11.trans e12) _ _ hsv)) f3 f4 f5 f6)) (by show 2 ≤ 100000; omega))) rfl (two_words _ _)))).is rfl).is (by simp)) (fun zz => by cases zz) fun _ F13 H13 s13 e13 => ?_
    · have hne : R2 ≠ [] := fun e => by rw [e] at ha; exact Bool.noConfusion ha
      obtain ⟨pre, lst, hpl⟩ : ∃ pre lst, R2 = pre ++ [lst] := ⟨R2.dropLast, R2.getLast hne, (List.dropLast_concat_getLast hne).symm⟩
      have hlm : lst ∈ R2 := by rw [hpl]; simp
      have hmp : R2.map dT = pre.map dT ++ [dT lst] := by rw [hpl, List.map_append]; rfl
      refine ⟨_, rfl, _, rfl, _, rfl, (g_opI (K := K) (g_var (i := 7) rfl hdv12) (g_negI g_int) (rv_ixL (d := dT lst) (by rw [hmp]; exact atI_last))) H9 i9 g9 _ fun d9 v9 F9' H9' hd9 s9' hv9 => ?_⟩
      rw [show d9 = _ from hd9] at hv9
      have e00 := (e0.trans e12).trans s9'.sub
      exact ⟨_, rfl, x, z, n, m, mn, R2, lots, lst, r, dT r, F9', v9, sv, rfl, hmn, ⟨by rw [hrl _ hlm]; omega, by rw [hr1]; omega⟩, .inr ⟨hlm, hno, rfl⟩, ⟨⟨n5, m4⟩, hr1, hr2⟩, s9'.inn, bk8.mono e00, fam8.mono e00, hv9, Rp.mono ((e11.trans e12).trans s9'.sub) _ _ hsv, fun u F2 H2 s2 hu => q9 _ u F2 H2 rfl (s9'.trans (s2.lift s9'.good)) hu⟩
    have ee := e11.trans (e12.trans e13)
    unfold tNext
    dsimp only
    refine t_retI (K := K) (d := .bool true) s13 (fun H9 i9 g9 Q9 q9 => ⟨_, rfl, _, rfl, _, rfl, _, rfl, _, rfl, _, rfl, (g_opI (K := K) (g_var (i := 16) rfl (Rp.mono ee _ _ hsv)) (g_var (i := 7) rfl (Rp.mono (e10.trans ee) _ _ hdv10)) rv_inD) H9 i9 g9 _ fun d9 v9 F9' H9' hd9 s9' hv9 => by
      rw [show d9 = _ from hd9] at hv9
      obtain rfl := rp_bool hv9
      have ex9 := (e9.trans e').trans (e10.trans (ee.trans s9'.sub))
      exact ⟨pq, x, z, n, m, mn, R2, lots, r, F9', sv, rfl, ⟨⟨n2, n5⟩, hmn, by omega, hbd, hasc⟩, by rw [hr1]; omega, s9'.inn, s9'.good, bk8.mono ex9, fam8.mono ex9, Rp.mono (ee.trans s9'.sub) _ _ hsv, fun F2 H2 s2 => q9 _ (.bl true) F2 H2 rfl (s9'.trans s2) (.bl true)⟩⟩) fun v6 F6 H6 s6 hv6 => (by obtain rfl := rp_bool hv6; exact q H6)
  · refine t_retI (K := K) (d := .bool true) s11 (fun H9 i9 g9 Q9 q9 => ⟨_, rfl, _, rfl, _, rfl, _, rfl, _, rfl, _, rfl, (g_opI (K := K) (g_var (i := 16) rfl (Rp.mono e11 _ _ hsv)) (g_var (i := 7) rfl (Rp.mono (e10.trans e11) _ _ hdv10)) rv_inD) H9 i9 g9 _ fun d9 v9 F9' H9' hd9 s9' hv9 => by
      rw [show d9 = _ from hd9] at hv9
      obtain rfl := rp_bool hv9
      have ex9 := (e9.trans e').trans (e10.trans (e11.trans s9'.sub))
      exact ⟨pq, x, z, n, m, mn, R2, lots, r, F9', sv, rfl, ⟨⟨n2, n5⟩, hmn, by omega, hbd, hasc⟩, by rw [hr1]; omega, s9'.inn, s9'.good, bk8.mono ex9, fam8.mono ex9, Rp.mono (e11.trans s9'.sub) _ _ hsv, fun F2 H2 s2 => q9 _ (.bl true) F2 H2 rfl (s9'.trans s2) (.bl true)⟩⟩) fun v6 F6 H6 s6 hv6 => (by obtain rfl := rp_bool hv6; exact q H6)
end
end KJ
namespace KJ
open PySem PySem.Spec PyProof.Rows L2 Fv Evl StX
theorem kit_no {K : PySem.W.Frag} {S B : Addr} (hc : PySem.W.isClsIn K B = true) (ht : PySem.W.typeIn K (.ref B) = some (.type "type")) (h1 : PySem.W.subIn K (.ref S) (.ref B) = some false) (h2 : PySem.W.subIn K (.ref B) (.ref B) = some true) : PySem.W.kitOne K (.ref S) (.ref B) = some false :=
  Fv.kit_own hc ht h1 fun h => by subst h; rw [h1] at h2; cases h2
theorem binds_whole {K : PySem.W.Frag} {f : Addr} {fd : FuncData} (F : FunW K f fd) : Binds K fd ["thing", "low", "high"] [] := by
  obtain ⟨ds, hv, hb⟩ := L2.FunD.binds1 F (ps := ["thing", "low", "high"]) 3 2 (by simp) rfl fun T kV doc pm an cdv ct us its hl hi => match us, its, hl, hi with | [_, _, _], [_, _], _, _ => ⟨_, rfl, rfl⟩
  cases hv
  exact hb
theorem exm_is {K : PySem.W.Frag} {S B : Addr} {r : Bool} (hb : PySem.W.subIn K (.ref B) (.type "BaseException") = some true) (hc : PySem.W.isClsIn K B = true) (ht : PySem.W.typeIn K (.ref B) = some (.type "type")) (hs : PySem.W.subIn K (.ref S) (.ref B) = some r) : PySem.W.exmOne K (.ref S) (.ref B) = some r := by
  have hc' : (PySem.W.clsIn K B).isSome = true := hc
  unfold PySem.W.exmOne PySem.W.kitCls
  simp only [hb, hc', ht, hs, beq_self_eq_true, Bool.and_self, if_true]
theorem kit_ref {K : PySem.W.Frag} {S B : Addr} (hc : PySem.W.isClsIn K B = true) (ht : PySem.W.typeIn K (.ref B) = some (.type "type")) (hs : PySem.W.subIn K (.ref S) (.ref B) = some true) : PySem.W.kitOne K (.ref S) (.ref B) = some true := by
  have hc' : (PySem.W.clsIn K B).isSome = true := hc
  unfold PySem.W.kitOne PySem.W.kitCls
  simp [hc', ht, hs]
theorem kit_VE {K : PySem.W.Frag} {S : Addr} (hs : PySem.W.subIn K (.ref S) (.type "ValueError") = some true) : PySem.W.kitOne K (.ref S) (.type "ValueError") = some true := by
  have hk : PySem.W.kitMeta "ValueError" = true := by decide +kernel
  unfold PySem.W.kitOne PySem.W.kitCls
  simp [hk, hs]
section
variable {P : Program} {w : World} {K : PySem.W.Frag} {mg : Str → Option Value}
theorem all_mk {l : PySem.W.OpenLaw} {h : Heap} {fa : Addr} (X : K.In h) (G : h.Ns mainGlobals mg) (hfa : mg "law" = some (.ref fa))
    {CB : Addr}
    {CL : Addr}
    {f0 : Addr} {od0 an0 : Option Addr} {sl0 : Array (Option Value)} {oc0 kV0 dc0 pm0 cd0 ct0 : Value}
    {f1 : Addr} {od1 an1 : Option Addr} {sl1 : Array (Option Value)} {oc1 kV1 dc1 pm1 cd1 ct1 : Value}
    {f2 : Addr} {od2 an2 : Option Addr} {sl2 : Array (Option Value)} {oc2 kV2 dc2 pm2 cd2 ct2 : Value}
    {f3 : Addr} {od3 an3 : Option Addr} {sl3 : Array (Option Value)} {oc3 kV3 dc3 pm3 cd3 ct3 : Value}
    {f4 : Addr} {od4 an4 : Option Addr} {sl4 : Array (Option Value)} {oc4 kV4 dc4 pm4 cd4 ct4 : Value}
    {f5 : Addr} {od5 an5 : Option Addr} {sl5 : Array (Option Value)} {oc5 kV5 dc5 pm5 cd5 ct5 : Value}
    {f6 : Addr} {od6 an6 : Option Addr} {sl6 : Array (Option Value)} {oc6 kV6 dc6 pm6 cd6 ct6 : Value}
    {f7 : Addr} {od7 an7 : Option Addr} {sl7 : Array (Option Value)} {oc7 kV7 dc7 pm7 cd7 ct7 : Value}
    {f8 : Addr} {od8 an8 : Option Addr} {sl8 : Array (Option Value)} {oc8 kV8 dc8 pm8 cd8 ct8 : Value}
    {f9 : Addr} {od9 an9 : Option Addr} {sl9 : Array (Option Value)} {oc9 kV9 dc9 pm9 cd9 ct9 : Value}
    {f10 : Addr} {od10 an10 : Option Addr} {sl10 : Array (Option Value)} {oc10 kV10 dc10 pm10 cd10 ct10 : Value}
    {f11 : Addr} {od11 an11 : Option Addr} {sl11 : Array (Option Value)} {oc11 kV11 dc11 pm11 cd11 ct11 : Value}
    {f12 : Addr} {od12 an12 : Option Addr} {sl12 : Array (Option Value)} {oc12 kV12 dc12 pm12 cd12 ct12 : Value}
    {f13 : Addr} {od13 an13 : Option Addr} {sl13 : Array (Option Value)} {oc13 kV13 dc13 pm13 cd13 ct13 : Value}
    {f14 : Addr} {od14 an14 : Option Addr} {sl14 : Array (Option Value)} {oc14 kV14 dc14 pm14 cd14 ct14 : Value}
    {f15 : Addr} {od15 an15 : Option Addr} {sl15 : Array (Option Value)} {oc15 kV15 dc15 pm15 cd15 ct15 : Value}
    {f16 : Addr} {od16 an16 : Option Addr} {sl16 : Array (Option Value)} {oc16 kV16 dc16 pm16 cd16 ct16 : Value}
    {f17 : Addr} {od17 an17 : Option Addr} {sl17 : Array (Option Value)} {oc17 kV17 dc17 pm17 cd17 ct17 : Value}
    {f18 : Addr} {od18 an18 : Option Addr} {sl18 : Array (Option Value)} {oc18 kV18 dc18 pm18 cd18 ct18 : Value}
    {f19 : Addr} {od19 an19 : Option Addr} {sl19 : Array (Option Value)} {oc19 kV19 dc19 pm19 cd19 ct19 : Value}
    {f20 : Addr} {od20 an20 : Option Addr} {sl20 : Array (Option Value)} {oc20 kV20 dc20 pm20 cd20 ct20 : Value}
    {f21 : Addr} {od21 an21 : Option Addr} {sl21 : Array (Option Value)} {oc21 kV21 dc21 pm21 cd21 ct21 : Value}
    {f22 : Addr} {od22 an22 : Option Addr} {sl22 : Array (Option Value)} {oc22 kV22 dc22 pm22 cd22 ct22 : Value}
    {f23 : Addr} {od23 an23 : Option Addr} {sl23 : Array (Option Value)} {oc23 kV23 dc23 pm23 cd23 ct23 : Value}
    {f24 : Addr} {od24 an24 : Option Addr} {sl24 : Array (Option Value)} {oc24 kV24 dc24 pm24 cd24 ct24 : Value}
    {f25 : Addr} {od25 an25 : Option Addr} {sl25 : Array (Option Value)} {oc25 kV25 dc25 pm25 cd25 ct25 : Value}
    {f26 : Addr} {od26 an26 : Option Addr} {sl26 : Array (Option Value)} {oc26 kV26 dc26 pm26 cd26 ct26 : Value}
    {f27 : Addr} {od27 an27 : Option Addr} {sl27 : Array (Option Value)} {oc27 kV27 dc27 pm27 cd27 ct27 : Value}
    {f28 : Addr} {od28 an28 : Option Addr} {sl28 : Array (Option Value)} {oc28 kV28 dc28 pm28 cd28 ct28 : Value}
    {f29 : Addr} {od29 an29 : Option Addr} {sl29 : Array (Option Value)} {oc29 kV29 dc29 pm29 cd29 ct29 : Value}
    {f30 : Addr} {od30 an30 : Option Addr} {sl30 : Array (Option Value)} {oc30 kV30 dc30 pm30 cd30 ct30 : Value}
    {f31 : Addr} {od31 an31 : Option Addr} {sl31 : Array (Option Value)} {oc31 kV31 dc31 pm31 cd31 ct31 : Value}
    {f32 : Addr} {od32 an32 : Option Addr} {sl32 : Array (Option Value)} {oc32 kV32 dc32 pm32 cd32 ct32 : Value}
    {f33 : Addr} {od33 an33 : Option Addr} {sl33 : Array (Option Value)} {oc33 kV33 dc33 pm33 cd33 ct33 : Value}
    {f34 : Addr} {od34 an34 : Option Addr} {sl34 : Array (Option Value)} {oc34 kV34 dc34 pm34 cd34 ct34 : Value}
    {f35 : Addr} {od35 an35 : Option Addr} {sl35 : Array (Option Value)} {oc35 kV35 dc35 pm35 cd35 ct35 : Value}
    {f36 : Addr} {od36 an36 : Option Addr} {sl36 : Array (Option Value)} {oc36 kV36 dc36 pm36 cd36 ct36 : Value}
    {f37 : Addr} {od37 an37 : Option Addr} {sl37 : Array (Option Value)} {oc37 kV37 dc37 pm37 cd37 ct37 : Value}
    {f38 : Addr} {od38 an38 : Option Addr} {sl38 : Array (Option Value)} {oc38 kV38 dc38 pm38 cd38 ct38 : Value}
    {f39 : Addr} {od39 an39 : Option Addr} {sl39 : Array (Option Value)} {oc39 kV39 dc39 pm39 cd39 ct39 : Value}
    {f40 : Addr} {od40 an40 : Option Addr} {sl40 : Array (Option Value)} {oc40 kV40 dc40 pm40 cd40 ct40 : Value}
    {f41 : Addr} {od41 an41 : Option Addr} {sl41 : Array (Option Value)} {oc41 kV41 dc41 pm41 cd41 ct41 : Value}
    {f42 : Addr} {od42 an42 : Option Addr} {sl42 : Array (Option Value)} {oc42 kV42 dc42 pm42 cd42 ct42 : Value}
    {f43 : Addr} {od43 an43 : Option Addr} {sl43 : Array (Option Value)} {oc43 kV43 dc43 pm43 cd43 ct43 : Value}
    {TW : Addr} {ocT : Value} {odT : Option Addr} {nT : Nat} {slT : Array (Option Value)}
    {f44 : Addr} {od44 an44 : Option Addr} {sl44 : Array (Option Value)} {oc44 kV44 dc44 pm44 cd44 ct44 : Value}
    {f45 : Addr} {od45 an45 : Option Addr} {sl45 : Array (Option Value)} {oc45 kV45 dc45 pm45 cd45 ct45 : Value}
    {f46 : Addr} {od46 an46 : Option Addr} {sl46 : Array (Option Value)} {oc46 kV46 dc46 pm46 cd46 ct46 : Value}
    {f47 : Addr} {od47 an47 : Option Addr} {sl47 : Array (Option Value)} {oc47 kV47 dc47 pm47 cd47 ct47 : Value}
    {p48 : Addr} {rest48 : List Value}
    {f48 : Addr} {od48 an48 : Option Addr} {sl48 : Array (Option Value)} {oc48 kV48 dc48 pm48 cd48 ct48 : Value}
    {CF : Addr}
    {f49 : Addr} {od49 an49 : Option Addr} {sl49 : Array (Option Value)} {oc49 kV49 dc49 pm49 cd49 ct49 : Value}
    {CU NU : Addr} {nmU qU : Str} {bsU bmU subU : List Value} {snU : List Str} {abU : Bool} {coU : Option Bool} {ddU : Option Addr} {x0U x1U x2U x3U x5U : Option Value}
    {f50 : Addr} {od50 an50 : Option Addr} {sl50 : Array (Option Value)} {oc50 kV50 dc50 pm50 cd50 ct50 : Value}
    {CM NM : Addr} {nmM qM : Str} {bsM bmM subM : List Value} {snM : List Str} {abM : Bool} {coM : Option Bool} {ddM : Option Addr} {x0M x1M x2M x3M x5M : Option Value}
    {f51 : Addr} {od51 an51 : Option Addr} {sl51 : Array (Option Value)} {oc51 kV51 dc51 pm51 cd51 ct51 : Value}
    {CE NE : Addr} {nmE qE : Str} {bsE bmE subE : List Value} {snE : List Str} {abE : Bool} {coE : Option Bool} {ddE : Option Addr} {x0E x1E x2E x3E x5E : Option Value}
    {tL : Tok}
    {tO : Tok}
    {tM : Addr} {odM : Option Addr} {nM : Nat} {slM : Array (Option Value)} {tk1 tk2 tk3 : Tok}
    (aCB : PySem.W.nsIn K mainGlobals "Book" = some (some (.ref CB)))
    (aCL : PySem.W.nsIn K mainGlobals "Falls" = some (some (.ref CL)))
    (a0 : PySem.W.nsIn K mainGlobals "is_sequence" = some (some (.ref f0)))
    (l0 : K.lookup f0 = some ⟨oc0, od0, .func (PySem.W.fnOf "is_sequence" "is_sequence" (defArgs s_is_sequence) (defBody s_is_sequence) (defScope s_is_sequence) .none kV0 dc0 pm0 an0 cd0 ct0), sl0⟩)
    (c0 : PySem.W.codeIn K cd0 "is_sequence" = true)
    (k0 : PySem.W.keepIn K (.ref f0) = true)
    (a1 : PySem.W.nsIn K mainGlobals "is_whole_row" = some (some (.ref f1)))
    (l1 : K.lookup f1 = some ⟨oc1, od1, .func (PySem.W.fnOf "is_whole_row" "is_whole_row" (defArgs s_is_whole_row) (defBody s_is_whole_row) (defScope s_is_whole_row) .none kV1 dc1 pm1 an1 cd1 ct1), sl1⟩)
    (c1 : PySem.W.codeIn K cd1 "is_whole_row" = true)
    (k1 : PySem.W.keepIn K (.ref f1) = true)
    (a2 : PySem.W.nsIn K mainGlobals "check_entry" = some (some (.ref f2)))
    (l2 : K.lookup f2 = some ⟨oc2, od2, .func (PySem.W.fnOf "check_entry" "check_entry" (defArgs s_check_entry) (defBody s_check_entry) (defScope s_check_entry) .none kV2 dc2 pm2 an2 cd2 ct2), sl2⟩)
    (c2 : PySem.W.codeIn K cd2 "check_entry" = true)
    (k2 : PySem.W.keepIn K (.ref f2) = true)
    (a3 : PySem.W.nsIn K mainGlobals "shown_view" = some (some (.ref f3)))
    (l3 : K.lookup f3 = some ⟨oc3, od3, .func (PySem.W.fnOf "shown_view" "shown_view" (defArgs s_shown_view) (defBody s_shown_view) (defScope s_shown_view) .none kV3 dc3 pm3 an3 cd3 ct3), sl3⟩)
    (c3 : PySem.W.codeIn K cd3 "shown_view" = true)
    (k3 : PySem.W.keepIn K (.ref f3) = true)
    (a4 : PySem.W.nsIn K mainGlobals "check_lot" = some (some (.ref f4)))
    (l4 : K.lookup f4 = some ⟨oc4, od4, .func (PySem.W.fnOf "check_lot" "check_lot" (defArgs s_check_lot) (defBody s_check_lot) (defScope s_check_lot) .none kV4 dc4 pm4 an4 cd4 ct4), sl4⟩)
    (c4 : PySem.W.codeIn K cd4 "check_lot" = true)
    (k4 : PySem.W.keepIn K (.ref f4) = true)
    (a5 : PySem.W.nsIn K mainGlobals "lot_within" = some (some (.ref f5)))
    (l5 : K.lookup f5 = some ⟨oc5, od5, .func (PySem.W.fnOf "lot_within" "lot_within" (defArgs s_lot_within) (defBody s_lot_within) (defScope s_lot_within) .none kV5 dc5 pm5 an5 cd5 ct5), sl5⟩)
    (c5 : PySem.W.codeIn K cd5 "lot_within" = true)
    (k5 : PySem.W.keepIn K (.ref f5) = true)
    (a6 : PySem.W.nsIn K mainGlobals "lots_of_size" = some (some (.ref f6)))
    (l6 : K.lookup f6 = some ⟨oc6, od6, .func (PySem.W.fnOf "lots_of_size" "lots_of_size" (defArgs s_lots_of_size) (defBody s_lots_of_size) (defScope s_lots_of_size) .none kV6 dc6 pm6 an6 cd6 ct6), sl6⟩)
    (c6 : PySem.W.codeIn K cd6 "lots_of_size" = true)
    (k6 : PySem.W.keepIn K (.ref f6) = true)
    (a7 : PySem.W.nsIn K mainGlobals "_lots_by_size" = some (some (.ref f7)))
    (l7 : K.lookup f7 = some ⟨oc7, od7, .func (PySem.W.fnOf "_lots_by_size" "_lots_by_size" (defArgs s_lots_by_size) (defBody s_lots_by_size) (defScope s_lots_by_size) .none kV7 dc7 pm7 an7 cd7 ct7), sl7⟩)
    (c7 : PySem.W.codeIn K cd7 "_lots_by_size" = true)
    (k7 : PySem.W.keepIn K (.ref f7) = true)
    (a8 : PySem.W.nsIn K mainGlobals "_checked_lots" = some (some (.ref f8)))
    (l8 : K.lookup f8 = some ⟨oc8, od8, .func (PySem.W.fnOf "_checked_lots" "_checked_lots" (defArgs s_checked_lots) (defBody s_checked_lots) (defScope s_checked_lots) .none kV8 dc8 pm8 an8 cd8 ct8), sl8⟩)
    (c8 : PySem.W.codeIn K cd8 "_checked_lots" = true)
    (k8 : PySem.W.keepIn K (.ref f8) = true)
    (a9 : PySem.W.nsIn K mainGlobals "check_manner" = some (some (.ref f9)))
    (l9 : K.lookup f9 = some ⟨oc9, od9, .func (PySem.W.fnOf "check_manner" "check_manner" (defArgs s_check_manner) (defBody s_check_manner) (defScope s_check_manner) .none kV9 dc9 pm9 an9 cd9 ct9), sl9⟩)
    (c9 : PySem.W.codeIn K cd9 "check_manner" = true)
    (k9 : PySem.W.keepIn K (.ref f9) = true)
    (a10 : PySem.W.nsIn K mainGlobals "check_meeting" = some (some (.ref f10)))
    (l10 : K.lookup f10 = some ⟨oc10, od10, .func (PySem.W.fnOf "check_meeting" "check_meeting" (defArgs s_check_meeting) (defBody s_check_meeting) (defScope s_check_meeting) .none kV10 dc10 pm10 an10 cd10 ct10), sl10⟩)
    (c10 : PySem.W.codeIn K cd10 "check_meeting" = true)
    (k10 : PySem.W.keepIn K (.ref f10) = true)
    (a11 : PySem.W.nsIn K mainGlobals "is_split" = some (some (.ref f11)))
    (l11 : K.lookup f11 = some ⟨oc11, od11, .func (PySem.W.fnOf "is_split" "is_split" (defArgs s_is_split) (defBody s_is_split) (defScope s_is_split) .none kV11 dc11 pm11 an11 cd11 ct11), sl11⟩)
    (c11 : PySem.W.codeIn K cd11 "is_split" = true)
    (k11 : PySem.W.keepIn K (.ref f11) = true)
    (a12 : PySem.W.nsIn K mainGlobals "inputs_by_view" = some (some (.ref f12)))
    (l12 : K.lookup f12 = some ⟨oc12, od12, .func (PySem.W.fnOf "inputs_by_view" "inputs_by_view" (defArgs s_inputs_by_view) (defBody s_inputs_by_view) (defScope s_inputs_by_view) .none kV12 dc12 pm12 an12 cd12 ct12), sl12⟩)
    (c12 : PySem.W.codeIn K cd12 "inputs_by_view" = true)
    (k12 : PySem.W.keepIn K (.ref f12) = true)
    (a13 : PySem.W.nsIn K mainGlobals "near_inputs" = some (some (.ref f13)))
    (l13 : K.lookup f13 = some ⟨oc13, od13, .func (PySem.W.fnOf "near_inputs" "near_inputs" (defArgs s_near_inputs) (defBody s_near_inputs) (defScope s_near_inputs) .none kV13 dc13 pm13 an13 cd13 ct13), sl13⟩)
    (c13 : PySem.W.codeIn K cd13 "near_inputs" = true)
    (k13 : PySem.W.keepIn K (.ref f13) = true)
    (a14 : PySem.W.nsIn K mainGlobals "_circles" = some (some (.ref f14)))
    (l14 : K.lookup f14 = some ⟨oc14, od14, .func (PySem.W.fnOf "_circles" "_circles" (defArgs s_circles) (defBody s_circles) (defScope s_circles) .none kV14 dc14 pm14 an14 cd14 ct14), sl14⟩)
    (c14 : PySem.W.codeIn K cd14 "_circles" = true)
    (k14 : PySem.W.keepIn K (.ref f14) = true)
    (a15 : PySem.W.nsIn K mainGlobals "tree_from" = some (some (.ref f15)))
    (l15 : K.lookup f15 = some ⟨oc15, od15, .func (PySem.W.fnOf "tree_from" "tree_from" (defArgs s_tree_from) (defBody s_tree_from) (defScope s_tree_from) .none kV15 dc15 pm15 an15 cd15 ct15), sl15⟩)
    (c15 : PySem.W.codeIn K cd15 "tree_from" = true)
    (k15 : PySem.W.keepIn K (.ref f15) = true)
    (a16 : PySem.W.nsIn K mainGlobals "least_chain" = some (some (.ref f16)))
    (l16 : K.lookup f16 = some ⟨oc16, od16, .func (PySem.W.fnOf "least_chain" "least_chain" (defArgs s_least_chain) (defBody s_least_chain) (defScope s_least_chain) .none kV16 dc16 pm16 an16 cd16 ct16), sl16⟩)
    (c16 : PySem.W.codeIn K cd16 "least_chain" = true)
    (k16 : PySem.W.keepIn K (.ref f16) = true)
    (a17 : PySem.W.nsIn K mainGlobals "_steps_to" = some (some (.ref f17)))
    (l17 : K.lookup f17 = some ⟨oc17, od17, .func (PySem.W.fnOf "_steps_to" "_steps_to" (defArgs s_steps_to) (defBody s_steps_to) (defScope s_steps_to) .none kV17 dc17 pm17 an17 cd17 ct17), sl17⟩)
    (c17 : PySem.W.codeIn K cd17 "_steps_to" = true)
    (k17 : PySem.W.keepIn K (.ref f17) = true)
    (a18 : PySem.W.nsIn K mainGlobals "_first_onward" = some (some (.ref f18)))
    (l18 : K.lookup f18 = some ⟨oc18, od18, .func (PySem.W.fnOf "_first_onward" "_first_onward" (defArgs s_first_onward) (defBody s_first_onward) (defScope s_first_onward) .none kV18 dc18 pm18 an18 cd18 ct18), sl18⟩)
    (c18 : PySem.W.codeIn K cd18 "_first_onward" = true)
    (k18 : PySem.W.keepIn K (.ref f18) = true)
    (a19 : PySem.W.nsIn K mainGlobals "_checked_inputs" = some (some (.ref f19)))
    (l19 : K.lookup f19 = some ⟨oc19, od19, .func (PySem.W.fnOf "_checked_inputs" "_checked_inputs" (defArgs s_checked_inputs) (defBody s_checked_inputs) (defScope s_checked_inputs) .none kV19 dc19 pm19 an19 cd19 ct19), sl19⟩)
    (c19 : PySem.W.codeIn K cd19 "_checked_inputs" = true)
    (k19 : PySem.W.keepIn K (.ref f19) = true)
    (a20 : PySem.W.nsIn K mainGlobals "_law_pot" = some (some (.ref f20)))
    (l20 : K.lookup f20 = some ⟨oc20, od20, .func (PySem.W.fnOf "_law_pot" "_law_pot" (defArgs s_law_pot) (defBody s_law_pot) (defScope s_law_pot) .none kV20 dc20 pm20 an20 cd20 ct20), sl20⟩)
    (c20 : PySem.W.codeIn K cd20 "_law_pot" = true)
    (k20 : PySem.W.keepIn K (.ref f20) = true)
    (a21 : PySem.W.nsIn K mainGlobals "_law_draw" = some (some (.ref f21)))
    (l21 : K.lookup f21 = some ⟨oc21, od21, .func (PySem.W.fnOf "_law_draw" "_law_draw" (defArgs s_law_draw) (defBody s_law_draw) (defScope s_law_draw) .none kV21 dc21 pm21 an21 cd21 ct21), sl21⟩)
    (c21 : PySem.W.codeIn K cd21 "_law_draw" = true)
    (k21 : PySem.W.keepIn K (.ref f21) = true)
    (a22 : PySem.W.nsIn K mainGlobals "_law_many" = some (some (.ref f22)))
    (l22 : K.lookup f22 = some ⟨oc22, od22, .func (PySem.W.fnOf "_law_many" "_law_many" (defArgs s_law_many) (defBody s_law_many) (defScope s_law_many) .none kV22 dc22 pm22 an22 cd22 ct22), sl22⟩)
    (c22 : PySem.W.codeIn K cd22 "_law_many" = true)
    (k22 : PySem.W.keepIn K (.ref f22) = true)
    (a23 : PySem.W.nsIn K mainGlobals "_law_worths" = some (some (.ref f23)))
    (l23 : K.lookup f23 = some ⟨oc23, od23, .func (PySem.W.fnOf "_law_worths" "_law_worths" (defArgs s_law_worths) (defBody s_law_worths) (defScope s_law_worths) .none kV23 dc23 pm23 an23 cd23 ct23), sl23⟩)
    (c23 : PySem.W.codeIn K cd23 "_law_worths" = true)
    (k23 : PySem.W.keepIn K (.ref f23) = true)
    (a24 : PySem.W.nsIn K mainGlobals "_law_lot" = some (some (.ref f24)))
    (l24 : K.lookup f24 = some ⟨oc24, od24, .func (PySem.W.fnOf "_law_lot" "_law_lot" (defArgs s_law_lot) (defBody s_law_lot) (defScope s_law_lot) .none kV24 dc24 pm24 an24 cd24 ct24), sl24⟩)
    (c24 : PySem.W.codeIn K cd24 "_law_lot" = true)
    (k24 : PySem.W.keepIn K (.ref f24) = true)
    (a25 : PySem.W.nsIn K mainGlobals "_law_lots" = some (some (.ref f25)))
    (l25 : K.lookup f25 = some ⟨oc25, od25, .func (PySem.W.fnOf "_law_lots" "_law_lots" (defArgs s_law_lots) (defBody s_law_lots) (defScope s_law_lots) .none kV25 dc25 pm25 an25 cd25 ct25), sl25⟩)
    (c25 : PySem.W.codeIn K cd25 "_law_lots" = true)
    (k25 : PySem.W.keepIn K (.ref f25) = true)
    (a26 : PySem.W.nsIn K mainGlobals "_law_family" = some (some (.ref f26)))
    (l26 : K.lookup f26 = some ⟨oc26, od26, .func (PySem.W.fnOf "_law_family" "_law_family" (defArgs s_law_family) (defBody s_law_family) (defScope s_law_family) .none kV26 dc26 pm26 an26 cd26 ct26), sl26⟩)
    (c26 : PySem.W.codeIn K cd26 "_law_family" = true)
    (k26 : PySem.W.keepIn K (.ref f26) = true)
    (a27 : PySem.W.nsIn K mainGlobals "_law_fine" = some (some (.ref f27)))
    (l27 : K.lookup f27 = some ⟨oc27, od27, .func (PySem.W.fnOf "_law_fine" "_law_fine" (defArgs s_law_fine) (defBody s_law_fine) (defScope s_law_fine) .none kV27 dc27 pm27 an27 cd27 ct27), sl27⟩)
    (c27 : PySem.W.codeIn K cd27 "_law_fine" = true)
    (k27 : PySem.W.keepIn K (.ref f27) = true)
    (a28 : PySem.W.nsIn K mainGlobals "_law_entry" = some (some (.ref f28)))
    (l28 : K.lookup f28 = some ⟨oc28, od28, .func (PySem.W.fnOf "_law_entry" "_law_entry" (defArgs s_law_entry) (defBody s_law_entry) (defScope s_law_entry) .none kV28 dc28 pm28 an28 cd28 ct28), sl28⟩)
    (c28 : PySem.W.codeIn K cd28 "_law_entry" = true)
    (k28 : PySem.W.keepIn K (.ref f28) = true)
    (a29 : PySem.W.nsIn K mainGlobals "_law_unlike" = some (some (.ref f29)))
    (l29 : K.lookup f29 = some ⟨oc29, od29, .func (PySem.W.fnOf "_law_unlike" "_law_unlike" (defArgs s_law_unlike) (defBody s_law_unlike) (defScope s_law_unlike) .none kV29 dc29 pm29 an29 cd29 ct29), sl29⟩)
    (c29 : PySem.W.codeIn K cd29 "_law_unlike" = true)
    (k29 : PySem.W.keepIn K (.ref f29) = true)
    (a30 : PySem.W.nsIn K mainGlobals "_law_walks" = some (some (.ref f30)))
    (l30 : K.lookup f30 = some ⟨oc30, od30, .func (PySem.W.fnOf "_law_walks" "_law_walks" (defArgs s_law_walks) (defBody s_law_walks) (defScope s_law_walks) .none kV30 dc30 pm30 an30 cd30 ct30), sl30⟩)
    (c30 : PySem.W.codeIn K cd30 "_law_walks" = true)
    (k30 : PySem.W.keepIn K (.ref f30) = true)
    (a31 : PySem.W.nsIn K mainGlobals "_law_covers" = some (some (.ref f31)))
    (l31 : K.lookup f31 = some ⟨oc31, od31, .func (PySem.W.fnOf "_law_covers" "_law_covers" (defArgs s_law_covers) (defBody s_law_covers) (defScope s_law_covers) .none kV31 dc31 pm31 an31 cd31 ct31), sl31⟩)
    (c31 : PySem.W.codeIn K cd31 "_law_covers" = true)
    (k31 : PySem.W.keepIn K (.ref f31) = true)
    (a32 : PySem.W.nsIn K mainGlobals "_law_lets" = some (some (.ref f32)))
    (l32 : K.lookup f32 = some ⟨oc32, od32, .func (PySem.W.fnOf "_law_lets" "_law_lets" (defArgs s_law_lets) (defBody s_law_lets) (defScope s_law_lets) .none kV32 dc32 pm32 an32 cd32 ct32), sl32⟩)
    (c32 : PySem.W.codeIn K cd32 "_law_lets" = true)
    (k32 : PySem.W.keepIn K (.ref f32) = true)
    (a33 : PySem.W.nsIn K mainGlobals "_law_differ" = some (some (.ref f33)))
    (l33 : K.lookup f33 = some ⟨oc33, od33, .func (PySem.W.fnOf "_law_differ" "_law_differ" (defArgs s_law_differ) (defBody s_law_differ) (defScope s_law_differ) .none kV33 dc33 pm33 an33 cd33 ct33), sl33⟩)
    (c33 : PySem.W.codeIn K cd33 "_law_differ" = true)
    (k33 : PySem.W.keepIn K (.ref f33) = true)
    (a34 : PySem.W.nsIn K mainGlobals "_law_near" = some (some (.ref f34)))
    (l34 : K.lookup f34 = some ⟨oc34, od34, .func (PySem.W.fnOf "_law_near" "_law_near" (defArgs s_law_near) (defBody s_law_near) (defScope s_law_near) .none kV34 dc34 pm34 an34 cd34 ct34), sl34⟩)
    (c34 : PySem.W.codeIn K cd34 "_law_near" = true)
    (k34 : PySem.W.keepIn K (.ref f34) = true)
    (a35 : PySem.W.nsIn K mainGlobals "_law_web" = some (some (.ref f35)))
    (l35 : K.lookup f35 = some ⟨oc35, od35, .func (PySem.W.fnOf "_law_web" "_law_web" (defArgs s_law_web) (defBody s_law_web) (defScope s_law_web) .none kV35 dc35 pm35 an35 cd35 ct35), sl35⟩)
    (c35 : PySem.W.codeIn K cd35 "_law_web" = true)
    (k35 : PySem.W.keepIn K (.ref f35) = true)
    (a36 : PySem.W.nsIn K mainGlobals "_law_way" = some (some (.ref f36)))
    (l36 : K.lookup f36 = some ⟨oc36, od36, .func (PySem.W.fnOf "_law_way" "_law_way" (defArgs s_law_way) (defBody s_law_way) (defScope s_law_way) .none kV36 dc36 pm36 an36 cd36 ct36), sl36⟩)
    (c36 : PySem.W.codeIn K cd36 "_law_way" = true)
    (k36 : PySem.W.keepIn K (.ref f36) = true)
    (a37 : PySem.W.nsIn K mainGlobals "_law_same" = some (some (.ref f37)))
    (l37 : K.lookup f37 = some ⟨oc37, od37, .func (PySem.W.fnOf "_law_same" "_law_same" (defArgs s_law_same) (defBody s_law_same) (defScope s_law_same) .none kV37 dc37 pm37 an37 cd37 ct37), sl37⟩)
    (c37 : PySem.W.codeIn K cd37 "_law_same" = true)
    (k37 : PySem.W.keepIn K (.ref f37) = true)
    (a38 : PySem.W.nsIn K mainGlobals "_law_chains" = some (some (.ref f38)))
    (l38 : K.lookup f38 = some ⟨oc38, od38, .func (PySem.W.fnOf "_law_chains" "_law_chains" (defArgs s_law_chains) (defBody s_law_chains) (defScope s_law_chains) .none kV38 dc38 pm38 an38 cd38 ct38), sl38⟩)
    (c38 : PySem.W.codeIn K cd38 "_law_chains" = true)
    (k38 : PySem.W.keepIn K (.ref f38) = true)
    (a39 : PySem.W.nsIn K mainGlobals "_law_longer_chains" = some (some (.ref f39)))
    (l39 : K.lookup f39 = some ⟨oc39, od39, .func (PySem.W.fnOf "_law_longer_chains" "_law_longer_chains" (defArgs s_law_longer_chains) (defBody s_law_longer_chains) (defScope s_law_longer_chains) .none kV39 dc39 pm39 an39 cd39 ct39), sl39⟩)
    (c39 : PySem.W.codeIn K cd39 "_law_longer_chains" = true)
    (k39 : PySem.W.keepIn K (.ref f39) = true)
    (a40 : PySem.W.nsIn K mainGlobals "_law_refused" = some (some (.ref f40)))
    (l40 : K.lookup f40 = some ⟨oc40, od40, .func (PySem.W.fnOf "_law_refused" "_law_refused" (defArgs s_law_refused) (defBody s_law_refused) (defScope s_law_refused) .none kV40 dc40 pm40 an40 cd40 ct40), sl40⟩)
    (c40 : PySem.W.codeIn K cd40 "_law_refused" = true)
    (k40 : PySem.W.keepIn K (.ref f40) = true)
    (a41 : PySem.W.nsIn K mainGlobals "_law_door" = some (some (.ref f41)))
    (l41 : K.lookup f41 = some ⟨oc41, od41, .func (PySem.W.fnOf "_law_door" "_law_door" (defArgs s_law_door) (defBody s_law_door) (defScope s_law_door) .none kV41 dc41 pm41 an41 cd41 ct41), sl41⟩)
    (c41 : PySem.W.codeIn K cd41 "_law_door" = true)
    (k41 : PySem.W.keepIn K (.ref f41) = true)
    (a42 : PySem.W.nsIn K mainGlobals "_law_doors" = some (some (.ref f42)))
    (l42 : K.lookup f42 = some ⟨oc42, od42, .func (PySem.W.fnOf "_law_doors" "_law_doors" (defArgs s_law_doors) (defBody s_law_doors) (defScope s_law_doors) .none kV42 dc42 pm42 an42 cd42 ct42), sl42⟩)
    (c42 : PySem.W.codeIn K cd42 "_law_doors" = true)
    (k42 : PySem.W.keepIn K (.ref f42) = true)
    (a43 : PySem.W.nsIn K mainGlobals "law" = some (some (.ref f43)))
    (l43 : K.lookup f43 = some ⟨oc43, od43, .func (PySem.W.fnOf "law" "law" (defArgs s_law) (defBody s_law) (defScope s_law) .none kV43 dc43 pm43 an43 cd43 ct43), sl43⟩)
    (c43 : PySem.W.codeIn K cd43 "law" = true)
    (k43 : PySem.W.keepIn K (.ref f43) = true)
    (a44 : PySem.W.nsIn K mainGlobals "is_whole" = some (some (.ref f44)))
    (l44 : K.lookup f44 = some ⟨oc44, od44, .func (PySem.W.fnOf "is_whole" "is_whole" (defArgs s_is_whole) (defBody s_is_whole) (defScope s_is_whole) (.ref TW) kV44 dc44 pm44 an44 cd44 ct44), sl44⟩)
    (c44 : PySem.W.codeIn K cd44 "is_whole" = true)
    (k44 : PySem.W.keepIn K (.ref f44) = true)
    (lT : K.lookup TW = some ⟨ocT, odT, .seq [Value.none, Value.none].toArray nT, slT⟩)
    (a45 : PySem.W.findIn K (.ref CB) "__init__" = some (some (.ref f45)))
    (i45 : PySem.W.isFn K (.ref f45) = true)
    (l45 : K.lookup f45 = some ⟨oc45, od45, .func (PySem.W.fnOf "__init__" "Book.__init__" (defArgs s_Book___init__) (defBody s_Book___init__) (defScope s_Book___init__) .none kV45 dc45 pm45 an45 cd45 ct45), sl45⟩)
    (c45 : PySem.W.codeIn K cd45 "Book.__init__" = true)
    (k45 : PySem.W.keepIn K (.ref f45) = true)
    (a46 : PySem.W.findIn K (.ref CB) "__contains__" = some (some (.ref f46)))
    (i46 : PySem.W.isFn K (.ref f46) = true)
    (l46 : K.lookup f46 = some ⟨oc46, od46, .func (PySem.W.fnOf "__contains__" "Book.__contains__" (defArgs s_Book___contains__) (defBody s_Book___contains__) (defScope s_Book___contains__) .none kV46 dc46 pm46 an46 cd46 ct46), sl46⟩)
    (c46 : PySem.W.codeIn K cd46 "Book.__contains__" = true)
    (k46 : PySem.W.keepIn K (.ref f46) = true)
    (a47 : PySem.W.findIn K (.ref CL) "__init__" = some (some (.ref f47)))
    (i47 : PySem.W.isFn K (.ref f47) = true)
    (l47 : K.lookup f47 = some ⟨oc47, od47, .func (PySem.W.fnOf "__init__" "Falls.__init__" (defArgs s_Falls___init__) (defBody s_Falls___init__) (defScope s_Falls___init__) .none kV47 dc47 pm47 an47 cd47 ct47), sl47⟩)
    (c47 : PySem.W.codeIn K cd47 "Falls.__init__" = true)
    (k47 : PySem.W.keepIn K (.ref f47) = true)
    (a48 : PySem.W.findIn K (.ref CL) "covering" = some (some (.ref p48)))
    (s48 : PySem.W.specialIn K (.ref p48) "__get__" = some (some (.builtin "property.__get__")))
    (t48 : PySem.W.takesIn K (.ref p48) = some true)
    (r48 : PySem.W.recIn K p48 "property" = some (.ref f48 :: rest48))
    (l48 : K.lookup f48 = some ⟨oc48, od48, .func (PySem.W.fnOf "covering" "Falls.covering" (defArgs s_Falls_covering) (defBody s_Falls_covering) (defScope s_Falls_covering) .none kV48 dc48 pm48 an48 cd48 ct48), sl48⟩)
    (c48 : PySem.W.codeIn K cd48 "Falls.covering" = true)
    (k48 : PySem.W.keepIn K (.ref f48) = true)
    (aF : PySem.W.nsIn K mainGlobals "FirmError" = some (some (.ref CF)))
    (rdF : PySem.W.readsIn K CF (.type "type") = true)
    (gaF : PySem.W.specialIn K (.ref CF) "__getattribute__" = some (some (.builtin "type.__getattribute__")))
    (vF : PySem.W.findCls K (.ref CF) (.type "type") "__init__" = some (.val (.builtin "ValueError.__init__")))
    (iF : PySem.W.isClsIn K CF = true)
    (yF : PySem.W.typeIn K (.ref CF) = some (.type "type"))
    (aaU : PySem.W.nsIn K mainGlobals "UnlikeHouses" = some (some (.ref CU)))
    (a49 : PySem.W.findIn K (.ref CU) "__init__" = some (some (.ref f49)))
    (tIU : PySem.W.typeIn K (.ref f49) = some (.type "function"))
    (l49 : K.lookup f49 = some ⟨oc49, od49, .func (PySem.W.fnOf "__init__" "UnlikeHouses.__init__" (defArgs s_UnlikeHouses___init__) (defBody s_UnlikeHouses___init__) (defScope s_UnlikeHouses___init__) .none kV49 dc49 pm49 an49 cd49 ct49), sl49⟩)
    (c49 : PySem.W.codeIn K cd49 "UnlikeHouses.__init__" = true)
    (k49 : PySem.W.keepIn K (.ref f49) = true)
    (lEU : K.lookup CU = some (excClassObj nmU qU CU NU bsU bmU true snU subU abU coU ddU x0U x1U x2U x3U x5U "ValueError.__new__"))
    (vEU : PySem.HandSPX.refsVE bmU = true)
    (sEU : PySem.W.findIn K (.ref CU) "__setattr__" = some (some (.builtin "object.__setattr__")))
    (eEU : PySem.W.subIn K (.ref CU) (.type "BaseException") = some true)
    (yEU : PySem.W.typeIn K (.ref CU) = some (.type "type"))
    (kEU : PySem.W.keepIn K (.ref CU) = true)
    (iEU : PySem.W.isClsIn K CU = true)
    (xgU : PySem.W.findIn K (.ref CU) "__getattribute__" = some (some (.builtin "BaseException.__getattribute__")))
    (xhU : PySem.W.findIn K (.ref CU) "__getattr__" = some none)
    (hEU : PySem.W.hasDictIn K CU = true)
    (ssU : PySem.W.subIn K (.ref CU) (.ref CU) = some true)
    (sfU : PySem.W.subIn K (.ref CU) (.ref CF) = some true)
    (svU : PySem.W.subIn K (.ref CU) (.type "ValueError") = some true)
    (aaM : PySem.W.nsIn K mainGlobals "BadManner" = some (some (.ref CM)))
    (a50 : PySem.W.findIn K (.ref CM) "__init__" = some (some (.ref f50)))
    (tIM : PySem.W.typeIn K (.ref f50) = some (.type "function"))
    (l50 : K.lookup f50 = some ⟨oc50, od50, .func (PySem.W.fnOf "__init__" "BadManner.__init__" (defArgs s_BadManner___init__) (defBody s_BadManner___init__) (defScope s_BadManner___init__) .none kV50 dc50 pm50 an50 cd50 ct50), sl50⟩)
    (c50 : PySem.W.codeIn K cd50 "BadManner.__init__" = true)
    (k50 : PySem.W.keepIn K (.ref f50) = true)
    (lEM : K.lookup CM = some (excClassObj nmM qM CM NM bsM bmM true snM subM abM coM ddM x0M x1M x2M x3M x5M "ValueError.__new__"))
    (vEM : PySem.HandSPX.refsVE bmM = true)
    (sEM : PySem.W.findIn K (.ref CM) "__setattr__" = some (some (.builtin "object.__setattr__")))
    (eEM : PySem.W.subIn K (.ref CM) (.type "BaseException") = some true)
    (yEM : PySem.W.typeIn K (.ref CM) = some (.type "type"))
    (kEM : PySem.W.keepIn K (.ref CM) = true)
    (iEM : PySem.W.isClsIn K CM = true)
    (xgM : PySem.W.findIn K (.ref CM) "__getattribute__" = some (some (.builtin "BaseException.__getattribute__")))
    (xhM : PySem.W.findIn K (.ref CM) "__getattr__" = some none)
    (hEM : PySem.W.hasDictIn K CM = true)
    (ssM : PySem.W.subIn K (.ref CM) (.ref CM) = some true)
    (sfM : PySem.W.subIn K (.ref CM) (.ref CF) = some true)
    (svM : PySem.W.subIn K (.ref CM) (.type "ValueError") = some true)
    (nM_manner : PySem.W.findIn K (.ref CM) "manner" = some none)
    (aaE : PySem.W.nsIn K mainGlobals "NotInBook" = some (some (.ref CE)))
    (a51 : PySem.W.findIn K (.ref CE) "__init__" = some (some (.ref f51)))
    (tIE : PySem.W.typeIn K (.ref f51) = some (.type "function"))
    (l51 : K.lookup f51 = some ⟨oc51, od51, .func (PySem.W.fnOf "__init__" "NotInBook.__init__" (defArgs s_NotInBook___init__) (defBody s_NotInBook___init__) (defScope s_NotInBook___init__) .none kV51 dc51 pm51 an51 cd51 ct51), sl51⟩)
    (c51 : PySem.W.codeIn K cd51 "NotInBook.__init__" = true)
    (k51 : PySem.W.keepIn K (.ref f51) = true)
    (lEE : K.lookup CE = some (excClassObj nmE qE CE NE bsE bmE true snE subE abE coE ddE x0E x1E x2E x3E x5E "ValueError.__new__"))
    (vEE : PySem.HandSPX.refsVE bmE = true)
    (sEE : PySem.W.findIn K (.ref CE) "__setattr__" = some (some (.builtin "object.__setattr__")))
    (eEE : PySem.W.subIn K (.ref CE) (.type "BaseException") = some true)
    (yEE : PySem.W.typeIn K (.ref CE) = some (.type "type"))
    (kEE : PySem.W.keepIn K (.ref CE) = true)
    (iEE : PySem.W.isClsIn K CE = true)
    (xgE : PySem.W.findIn K (.ref CE) "__getattribute__" = some (some (.builtin "BaseException.__getattribute__")))
    (xhE : PySem.W.findIn K (.ref CE) "__getattr__" = some none)
    (hEE : PySem.W.hasDictIn K CE = true)
    (ssE : PySem.W.subIn K (.ref CE) (.ref CE) = some true)
    (sfE : PySem.W.subIn K (.ref CE) (.ref CF) = some true)
    (svE : PySem.W.subIn K (.ref CE) (.type "ValueError") = some true)
    (nE_entry : PySem.W.findIn K (.ref CE) "entry" = some none)
    (z_isinstance : PySem.W.nsIn K mainGlobals "isinstance" = some none)
    (z_list : PySem.W.nsIn K mainGlobals "list" = some none)
    (z_tuple : PySem.W.nsIn K mainGlobals "tuple" = some none)
    (z_bool : PySem.W.nsIn K mainGlobals "bool" = some none)
    (z_int : PySem.W.nsIn K mainGlobals "int" = some none)
    (z_str : PySem.W.nsIn K mainGlobals "str" = some none)
    (z_all : PySem.W.nsIn K mainGlobals "all" = some none)
    (z_any : PySem.W.nsIn K mainGlobals "any" = some none)
    (z_range : PySem.W.nsIn K mainGlobals "range" = some none)
    (z_sorted : PySem.W.nsIn K mainGlobals "sorted" = some none)
    (z_set : PySem.W.nsIn K mainGlobals "set" = some none)
    (z_max : PySem.W.nsIn K mainGlobals "max" = some none)
    (z_len : PySem.W.nsIn K mainGlobals "len" = some none)
    (z_min : PySem.W.nsIn K mainGlobals "min" = some none)
    (z_repr : PySem.W.nsIn K mainGlobals "repr" = some none)
    (pgCB : PySem.W.plainGet K CB Str.empty = true)
    (hdCB : PySem.W.hasDictIn K CB = true)
    (poCB : PySem.W.plainOver K CB = true)
    (saCB : PySem.W.findIn K (.ref CB) "__setattr__" = some (some (.builtin "object.__setattr__")))
    (mkCB : PySem.W.makesIn K CB = true)
    (kcCB : PySem.W.keepIn K (.ref CB) = true)
    (noCB_n : PySem.W.findIn K (.ref CB) "n" = some none)
    (noCB_m : PySem.W.findIn K (.ref CB) "m" = some none)
    (noCB_inputs : PySem.W.findIn K (.ref CB) "inputs" = some none)
    (noCB_held : PySem.W.findIn K (.ref CB) "_held" = some none)
    (pgCL : PySem.W.plainGet K CL Str.empty = true)
    (hdCL : PySem.W.hasDictIn K CL = true)
    (poCL : PySem.W.plainOver K CL = true)
    (saCL : PySem.W.findIn K (.ref CL) "__setattr__" = some (some (.builtin "object.__setattr__")))
    (mkCL : PySem.W.makesIn K CL = true)
    (kcCL : PySem.W.keepIn K (.ref CL) = true)
    (noCL_n : PySem.W.findIn K (.ref CL) "n" = some none)
    (noCL_lots : PySem.W.findIn K (.ref CL) "lots" = some none)
    (noCL_let : PySem.W.findIn K (.ref CL) "_let" = some none)
    (ml0 : PySem.W.nsIn K mainGlobals "MOST_INPUTS" = some (some (.int 256 tL)))
    (ml1 : PySem.W.nsIn K mainGlobals "MOST_LOTS" = some (some (.int 32 tO)))
    (ml2 : PySem.W.nsIn K mainGlobals "MANNERS" = some (some (.ref tM)))
    (eF : PySem.W.subIn K (.ref CF) (.type "BaseException") = some true)
    (lM : K.lookup tM = some ⟨.type "tuple", odM, .seq [Value.str "sure" tk1, Value.str "cells" tk2, Value.str "letters" tk3].toArray nM, slM⟩)
    (spT : PySem.W.specialIn K (.builtin "object.__class__") "__get__" = some (some (.builtin "getset_descriptor.__get__")))
    (tkT : PySem.W.takesIn K (.builtin "object.__class__") = some true)
    (ciM : PySem.W.findIn K (.ref CM) "__class__" = some (some (.builtin "object.__class__")))
    (moM : PySem.W.mroIn K CM (.type "object") = some true)
    (ciE : PySem.W.findIn K (.ref CE) "__class__" = some (some (.builtin "object.__class__")))
    (moE : PySem.W.mroIn K CE (.type "object") = some true)
    (sbMU : PySem.W.subIn K (.ref CM) (.ref CU) = some false)
    (sbEU : PySem.W.subIn K (.ref CE) (.ref CU) = some false)
    (sbEM : PySem.W.subIn K (.ref CE) (.ref CM) = some false) :
    ∃ fd : FuncData, (∀ (s : Shared) (v : Value), BindsTo s fd ⟨[v], []⟩ [("_law_script", v)]) ∧ ∀ base : Heap, K.In base → base.Ns mainGlobals mg → Fv.FnG l.prog w K mg base CX0 11 fa fd ["_law_script"] (spLaw K) := by
  have e := hfa.symm.trans (PySem.W.mg_of X G a43)
  cases e
  have T : Tx mg := ⟨PySem.W.mg_none_of X G z_isinstance, PySem.W.mg_none_of X G z_list, PySem.W.mg_none_of X G z_tuple, PySem.W.mg_none_of X G z_bool, PySem.W.mg_none_of X G z_int, PySem.W.mg_none_of X G z_str, PySem.W.mg_none_of X G z_all, PySem.W.mg_none_of X G z_any, PySem.W.mg_none_of X G z_range, PySem.W.mg_none_of X G z_sorted, PySem.W.mg_none_of X G z_set, PySem.W.mg_none_of X G z_max, PySem.W.mg_none_of X G z_len, PySem.W.mg_none_of X G z_min, PySem.W.mg_none_of X G z_repr⟩
  have F0 := fun_mk (st := s_is_sequence) l0 c0 k0
  have b0 := F0.binds (ps := ["thing"]) fun _ _ _ _ _ _ us hl => match us, hl with | [_], _ => rfl
  have g0 := PySem.W.mg_of X G a0
  have F1 := fun_mk (st := s_is_whole_row) l1 c1 k1
  have b1 := F1.binds (ps := ["thing"]) fun _ _ _ _ _ _ us hl => match us, hl with | [_], _ => rfl
  have g1 := PySem.W.mg_of X G a1
  have F2 := fun_mk (st := s_check_entry) l2 c2 k2
  have b2 := F2.binds (ps := ["houses", "values", "entry"]) fun _ _ _ _ _ _ us hl => match us, hl with | [_, _, _], _ => rfl
  have g2 := PySem.W.mg_of X G a2
  have F3 := fun_mk (st := s_shown_view) l3 c3 k3
  have b3 := F3.binds (ps := ["entry", "lot"]) fun _ _ _ _ _ _ us hl => match us, hl with | [_, _], _ => rfl
  have g3 := PySem.W.mg_of X G a3
  have F4 := fun_mk (st := s_check_lot) l4 c4 k4
  have b4 := F4.binds (ps := ["houses", "lot"]) fun _ _ _ _ _ _ us hl => match us, hl with | [_, _], _ => rfl
  have g4 := PySem.W.mg_of X G a4
  have F5 := fun_mk (st := s_lot_within) l5 c5 k5
  have b5 := F5.binds (ps := ["one", "other"]) fun _ _ _ _ _ _ us hl => match us, hl with | [_, _], _ => rfl
  have g5 := PySem.W.mg_of X G a5
  have F6 := fun_mk (st := s_lots_of_size) l6 c6 k6
  have b6 := F6.binds (ps := ["houses", "size"]) fun _ _ _ _ _ _ us hl => match us, hl with | [_, _], _ => rfl
  have g6 := PySem.W.mg_of X G a6
  have F7 := fun_mk (st := s_lots_by_size) l7 c7 k7
  have b7 := F7.binds (ps := ["houses"]) fun _ _ _ _ _ _ us hl => match us, hl with | [_], _ => rfl
  have g7 := PySem.W.mg_of X G a7
  have F8 := fun_mk (st := s_checked_lots) l8 c8 k8
  have b8 := F8.binds (ps := ["houses", "lots"]) fun _ _ _ _ _ _ us hl => match us, hl with | [_, _], _ => rfl
  have g8 := PySem.W.mg_of X G a8
  have F9 := fun_mk (st := s_check_manner) l9 c9 k9
  have b9 := F9.binds (ps := ["manner"]) fun _ _ _ _ _ _ us hl => match us, hl with | [_], _ => rfl
  have g9 := PySem.W.mg_of X G a9
  have F10 := fun_mk (st := s_check_meeting) l10 c10 k10
  have b10 := F10.binds (ps := ["book", "falls"]) fun _ _ _ _ _ _ us hl => match us, hl with | [_, _], _ => rfl
  have g10 := PySem.W.mg_of X G a10
  have F11 := fun_mk (st := s_is_split) l11 c11 k11
  have b11 := F11.binds (ps := ["falls", "manner"]) fun _ _ _ _ _ _ us hl => match us, hl with | [_, _], _ => rfl
  have g11 := PySem.W.mg_of X G a11
  have F12 := fun_mk (st := s_inputs_by_view) l12 c12 k12
  have b12 := F12.binds (ps := ["book", "lot"]) fun _ _ _ _ _ _ us hl => match us, hl with | [_, _], _ => rfl
  have g12 := PySem.W.mg_of X G a12
  have F13 := fun_mk (st := s_near_inputs) l13 c13 k13
  have b13 := F13.binds (ps := ["book", "falls", "manner"]) fun _ _ _ _ _ _ us hl => match us, hl with | [_, _, _], _ => rfl
  have g13 := PySem.W.mg_of X G a13
  have F14 := fun_mk (st := s_circles) l14 c14 k14
  have b14 := F14.binds (ps := ["book", "falls", "manner"]) fun _ _ _ _ _ _ us hl => match us, hl with | [_, _, _], _ => rfl
  have g14 := PySem.W.mg_of X G a14
  have F15 := fun_mk (st := s_tree_from) l15 c15 k15
  have b15 := F15.binds (ps := ["near", "entry"]) fun _ _ _ _ _ _ us hl => match us, hl with | [_, _], _ => rfl
  have g15 := PySem.W.mg_of X G a15
  have F16 := fun_mk (st := s_least_chain) l16 c16 k16
  have b16 := F16.binds (ps := ["book", "falls", "manner", "one", "other"]) fun _ _ _ _ _ _ us hl => match us, hl with | [_, _, _, _, _], _ => rfl
  have g16 := PySem.W.mg_of X G a16
  have F17 := fun_mk (st := s_steps_to) l17 c17 k17
  have b17 := F17.binds (ps := ["near", "entry"]) fun _ _ _ _ _ _ us hl => match us, hl with | [_, _], _ => rfl
  have g17 := PySem.W.mg_of X G a17
  have F18 := fun_mk (st := s_first_onward) l18 c18 k18
  have b18 := F18.binds (ps := ["near", "steps_left", "entry"]) fun _ _ _ _ _ _ us hl => match us, hl with | [_, _, _], _ => rfl
  have g18 := PySem.W.mg_of X G a18
  have F19 := fun_mk (st := s_checked_inputs) l19 c19 k19
  have b19 := F19.binds (ps := ["houses", "values", "inputs"]) fun _ _ _ _ _ _ us hl => match us, hl with | [_, _, _], _ => rfl
  have g19 := PySem.W.mg_of X G a19
  have F20 := fun_mk (st := s_law_pot) l20 c20 k20
  have b20 := F20.binds (ps := ["_law_script", "_law_salt"]) fun _ _ _ _ _ _ us hl => match us, hl with | [_, _], _ => rfl
  have g20 := PySem.W.mg_of X G a20
  have F21 := fun_mk (st := s_law_draw) l21 c21 k21
  have b21 := F21.binds (ps := ["_law_pot_here", "_law_many_here"]) fun _ _ _ _ _ _ us hl => match us, hl with | [_, _], _ => rfl
  have g21 := PySem.W.mg_of X G a21
  have F22 := fun_mk (st := s_law_many) l22 c22 k22
  have b22 := F22.binds (ps := ["_law_pot_here"]) fun _ _ _ _ _ _ us hl => match us, hl with | [_], _ => rfl
  have g22 := PySem.W.mg_of X G a22
  have F23 := fun_mk (st := s_law_worths) l23 c23 k23
  have b23 := F23.binds (ps := ["_law_pot_here", "_law_n"]) fun _ _ _ _ _ _ us hl => match us, hl with | [_, _], _ => rfl
  have g23 := PySem.W.mg_of X G a23
  have F24 := fun_mk (st := s_law_lot) l24 c24 k24
  have b24 := F24.binds (ps := ["_law_pot_here", "_law_n"]) fun _ _ _ _ _ _ us hl => match us, hl with | [_, _], _ => rfl
  have g24 := PySem.W.mg_of X G a24
  have F25 := fun_mk (st := s_law_lots) l25 c25 k25
  have b25 := F25.binds (ps := ["_law_pot_here", "_law_n"]) fun _ _ _ _ _ _ us hl => match us, hl with | [_, _], _ => rfl
  have g25 := PySem.W.mg_of X G a25
  have F26 := fun_mk (st := s_law_family) l26 c26 k26
  have b26 := F26.binds (ps := ["_law_n", "_law_lots_here"]) fun _ _ _ _ _ _ us hl => match us, hl with | [_, _], _ => rfl
  have g26 := PySem.W.mg_of X G a26
  have F27 := fun_mk (st := s_law_fine) l27 c27 k27
  have b27 := F27.binds (ps := ["_law_pot_here"]) fun _ _ _ _ _ _ us hl => match us, hl with | [_], _ => rfl
  have g27 := PySem.W.mg_of X G a27
  have F28 := fun_mk (st := s_law_entry) l28 c28 k28
  have b28 := F28.binds (ps := ["_law_pot_here", "_law_n", "_law_m"]) fun _ _ _ _ _ _ us hl => match us, hl with | [_, _, _], _ => rfl
  have g28 := PySem.W.mg_of X G a28
  have F29 := fun_mk (st := s_law_unlike) l29 c29 k29
  have b29 := F29.binds (ps := ["_law_rows"]) fun _ _ _ _ _ _ us hl => match us, hl with | [_], _ => rfl
  have g29 := PySem.W.mg_of X G a29
  have F30 := fun_mk (st := s_law_walks) l30 c30 k30
  have b30 := F30.binds (ps := ["_law_pot_here", "_law_n", "_law_m", "_law_lots_here", "_law_most"]) fun _ _ _ _ _ _ us hl => match us, hl with | [_, _, _, _, _], _ => rfl
  have g30 := PySem.W.mg_of X G a30
  have F31 := fun_mk (st := s_law_covers) l31 c31 k31
  have b31 := F31.binds (ps := ["_law_n", "_law_lots_here"]) fun _ _ _ _ _ _ us hl => match us, hl with | [_, _], _ => rfl
  have g31 := PySem.W.mg_of X G a31
  have F32 := fun_mk (st := s_law_lets) l32 c32 k32
  have b32 := F32.binds (ps := ["_law_lots_here", "_law_lot_here"]) fun _ _ _ _ _ _ us hl => match us, hl with | [_, _], _ => rfl
  have g32 := PySem.W.mg_of X G a32
  have F33 := fun_mk (st := s_law_differ) l33 c33 k33
  have b33 := F33.binds (ps := ["_law_one", "_law_other"]) fun _ _ _ _ _ _ us hl => match us, hl with | [_, _], _ => rfl
  have g33 := PySem.W.mg_of X G a33
  have F34 := fun_mk (st := s_law_near) l34 c34 k34
  have b34 := F34.binds (ps := ["_law_one", "_law_other", "_law_lots_here", "_law_manner"]) fun _ _ _ _ _ _ us hl => match us, hl with | [_, _, _, _], _ => rfl
  have g34 := PySem.W.mg_of X G a34
  have F35 := fun_mk (st := s_law_web) l35 c35 k35
  have b35 := F35.binds (ps := ["_law_rows", "_law_lots_here", "_law_manner"]) fun _ _ _ _ _ _ us hl => match us, hl with | [_, _, _], _ => rfl
  have g35 := PySem.W.mg_of X G a35
  have F36 := fun_mk (st := s_law_way) l36 c36 k36
  have b36 := F36.binds (ps := ["_law_pot_here", "_law_row"]) fun _ _ _ _ _ _ us hl => match us, hl with | [_, _], _ => rfl
  have g36 := PySem.W.mg_of X G a36
  have F37 := fun_mk (st := s_law_same) l37 c37 k37
  have b37 := F37.binds (ps := ["_law_told", "_law_due"]) fun _ _ _ _ _ _ us hl => match us, hl with | [_, _], _ => rfl
  have g37 := PySem.W.mg_of X G a37
  have F38 := fun_mk (st := s_law_chains) l38 c38 k38
  have b38 := F38.binds (ps := ["_law_web_here", "_law_start", "_law_goal"]) fun _ _ _ _ _ _ us hl => match us, hl with | [_, _, _], _ => rfl
  have g38 := PySem.W.mg_of X G a38
  have F39 := fun_mk (st := s_law_longer_chains) l39 c39 k39
  have b39 := F39.binds (ps := ["_law_web_here", "_law_chains_here", "_law_met"]) fun _ _ _ _ _ _ us hl => match us, hl with | [_, _, _], _ => rfl
  have g39 := PySem.W.mg_of X G a39
  have F40 := fun_mk (st := s_law_refused) l40 c40 k40
  have b40 := F40.binds (ps := ["_law_book", "_law_falls", "_law_manner", "_law_one", "_law_other"]) fun _ _ _ _ _ _ us hl => match us, hl with | [_, _, _, _, _], _ => rfl
  have g40 := PySem.W.mg_of X G a40
  have F41 := fun_mk (st := s_law_door) l41 c41 k41
  have b41 := F41.binds (ps := ["_law_book", "_law_falls", "_law_manner", "_law_one"]) fun _ _ _ _ _ _ us hl => match us, hl with | [_, _, _, _], _ => rfl
  have g41 := PySem.W.mg_of X G a41
  have F42 := fun_mk (st := s_law_doors) l42 c42 k42
  have b42 := F42.binds (ps := ["_law_pot_here", "_law_book", "_law_falls", "_law_n", "_law_manner", "_law_one", "_law_is_there"]) fun _ _ _ _ _ _ us hl => match us, hl with | [_, _, _, _, _, _, _], _ => rfl
  have g42 := PySem.W.mg_of X G a42
  have F43 := fun_mk (st := s_law) l43 c43 k43
  have b43 := F43.binds (ps := ["_law_script"]) fun _ _ _ _ _ _ us hl => match us, hl with | [_], _ => rfl
  have g43 := PySem.W.mg_of X G a43
  have F44 : FunW K f44 _ := ⟨⟨oc44, od44, .ref TW, kV44, dc44, pm44, an44, cd44, ct44, sl44, rfl, l44, c44, .inr ⟨by simp, TW, _, [.none, .none], nT, rfl, lT, rfl, .cons rfl (.cons rfl .nil)⟩, .inl rfl⟩, k44⟩
  have b44 := binds_whole F44
  have g44 := PySem.W.mg_of X G a44
  have F45 := fun_mk (st := s_Book___init__) l45 c45 k45
  have b45 := F45.binds (ps := ["self", "houses", "values", "inputs"]) fun _ _ _ _ _ _ us hl => match us, hl with | [_, _, _, _], _ => rfl
  have F46 := fun_mk (st := s_Book___contains__) l46 c46 k46
  have b46 := F46.binds (ps := ["self", "thing"]) fun _ _ _ _ _ _ us hl => match us, hl with | [_, _], _ => rfl
  have F47 := fun_mk (st := s_Falls___init__) l47 c47 k47
  have b47 := F47.binds (ps := ["self", "houses", "lots"]) fun _ _ _ _ _ _ us hl => match us, hl with | [_, _, _], _ => rfl
  have F48 := fun_mk (st := s_Falls_covering) l48 c48 k48
  have b48 := F48.binds (ps := ["self"]) fun _ _ _ _ _ _ us hl => match us, hl with | [_], _ => rfl
  have FM : FirmC K mg CF (.type "type") := ⟨PySem.W.mg_of X G aF, ⟨rdF, gaF⟩, vF⟩
  have F49 := fun_mk (st := s_UnlikeHouses___init__) l49 c49 k49
  have b49 := F49.binds (ps := ["self"]) fun _ _ _ _ _ _ us hl => match us, hl with | [_], _ => rfl
  have ECU : ErrC K mg CF CU f49 "UnlikeHouses" [] := ⟨⟨⟨_, _, _, _, _, _, _, _, _, _, _, _, _, _, _, lEU, vEU⟩, sEU, eEU, yEU, kEU⟩, a49, tIU, (fun f hf => by cases hf), PySem.W.mg_of X G aaU, ⟨xgU, xhU, eEU, hEU⟩, exm_is eEU iEU yEU ssU, kit_ref iF yF sfU, kit_VE svU⟩
  have F50 := fun_mk (st := s_BadManner___init__) l50 c50 k50
  have b50 := F50.binds (ps := ["self", "manner"]) fun _ _ _ _ _ _ us hl => match us, hl with | [_, _], _ => rfl
  have ECM : ErrC K mg CF CM f50 "BadManner" ["manner"] := ⟨⟨⟨_, _, _, _, _, _, _, _, _, _, _, _, _, _, _, lEM, vEM⟩, sEM, eEM, yEM, kEM⟩, a50, tIM, (List.forall_mem_singleton.mpr nM_manner), PySem.W.mg_of X G aaM, ⟨xgM, xhM, eEM, hEM⟩, exm_is eEM iEM yEM ssM, kit_ref iF yF sfM, kit_VE svM⟩
  have F51 := fun_mk (st := s_NotInBook___init__) l51 c51 k51
  have b51 := F51.binds (ps := ["self", "entry"]) fun _ _ _ _ _ _ us hl => match us, hl with | [_, _], _ => rfl
  have ECE : ErrC K mg CF CE f51 "NotInBook" ["entry"] := ⟨⟨⟨_, _, _, _, _, _, _, _, _, _, _, _, _, _, _, lEE, vEE⟩, sEE, eEE, yEE, kEE⟩, a51, tIE, (List.forall_mem_singleton.mpr nE_entry), PySem.W.mg_of X G aaE, ⟨xgE, xhE, eEE, hEE⟩, exm_is eEE iEE yEE ssE, kit_ref iF yF sfE, kit_VE svE⟩
  have gCB := PySem.W.mg_of X G aCB
  have clCB : Cls K CB := ⟨pgCB, hdCB, poCB, saCB⟩
  have gCL := PySem.W.mg_of X G aCL
  have clCL : Cls K CL := ⟨pgCL, hdCL, poCL, saCL⟩
  have BC : BookC K CB := ⟨clCB, noCB_n, noCB_m, noCB_inputs, noCB_held⟩
  have LC : FallsC K CL := ⟨clCL, noCL_n, noCL_lots, noCL_let⟩
  have hM : ManT K tM := ⟨fun H => .inr ⟨_, _, _, lM, rfl, rfl, (by show 3 ≤ _; decide), .cons ⟨_, rfl⟩ (.cons ⟨_, rfl⟩ (.cons ⟨_, rfl⟩ .nil))⟩, _, lM, rfl⟩
  have DE : DoorE K CF CU CM CE := ⟨exm_is eF iF yF sfU, exm_is eF iF yF sfM, exm_is eF iF yF sfE, ⟨xgM, xhM, eEM, hEM, ciM, spT, tkT, moM⟩, ⟨xgE, xhE, eEE, hEE, ciE, spT, tkT, moE⟩, kit_ref iEU yEU ssU, kit_no iEU yEU sbMU ssU, kit_ref iEM yEM ssM, kit_no iEU yEU sbEU ssU, kit_no iEM yEM sbEM ssM, kit_ref iEE yEE ssE⟩
  refine ⟨PySem.W.fnOf "law" "law" (defArgs s_law) (defBody s_law) (defScope s_law) .none kV43 dc43 pm43 an43 cd43 ct43, fun s v => .of_eq rfl, fun base _ _ => ?_⟩
  have Obook := ok_book (P := l.prog) (w := w) (base := base) (mg := mg) F45 T BC (PySem.W.mg_of X G ml0) F0 b0 g0 F44 b44 g44 F2 b2 g2 F19 b19 g19
  have Oinit := ok_init (P := l.prog) (w := w) (base := base) (mg := mg) F47 T LC (PySem.W.mg_of X G ml1) F0 b0 g0 F44 b44 g44 F4 b4 g4 F8 b8 g8 F5 b5 g5 F6 b6 g6 F7 b7 g7
  have Ocov := ok_cover (P := l.prog) (w := w) (base := base) (mg := mg) F48 T LC F5 b5 g5
  have Oman := ok_man (P := l.prog) (w := w) (base := base) (mg := mg) F9 hM (PySem.W.mg_of X G ml2)
  have OmanB := ok_manB (P := l.prog) (w := w) (base := base) (mg := mg) F9 hM (PySem.W.mg_of X G ml2) FM ECM F50 b50
  have Omeet := ok_meet (P := l.prog) (w := w) (base := base) (mg := mg) F10 BC LC
  have OmeetB := ok_meetB (P := l.prog) (w := w) (base := base) (mg := mg) F10 BC LC FM ECU F49 b49
  have Osplit := ok_split (P := l.prog) (w := w) (base := base) (mg := mg) F11 T LC F9 b9 g9 Oman (⟨a48, s48, t48, ⟨rest48, r48⟩⟩ : PropOf K CL "covering" p48 f48) b48 Ocov
  have Oby := ok_by (P := l.prog) (w := w) (base := base) (mg := mg) F12 T BC F3 b3 g3
  have Ocirc := ok_circ (P := l.prog) (w := w) (base := base) (mg := mg) F14 T BC LC F11 b11 g11 Osplit F12 b12 g12 Oby
  have Onear := ok_near (P := l.prog) (w := w) (base := base) (mg := mg) F13 T BC F14 b14 g14 Ocirc
  have Osteps := ok_steps (P := l.prog) (w := w) (base := base) (mg := mg) F17 T F15 b15 g15
  have Ocont := ok_cont (P := l.prog) (w := w) (base := base) (mg := mg) F46 T BC F1 b1 g1 F0 b0 g0 F44 g44
  have Ochain := ok_chain (P := l.prog) (w := w) (base := base) (mg := mg) F16 T BC a46 i46 b46 Ocont F10 b10 g10 Omeet F9 b9 g9 Oman F13 b13 g13 Onear F17 b17 g17 Osteps F18 b18 g18
  have OchX := ok_chX (P := l.prog) (w := w) (base := base) (mg := mg) F16 T BC FM ECE F51 b51 OmeetB OmanB a46 i46 b46 Ocont F10 b10 g10 Omeet F9 b9 g9 Oman F13 b13 g13 Onear F17 b17 g17 Osteps F18 b18 g18
  have Omany := ok_many (P := l.prog) (w := w) (base := base) (mg := mg) F22 T F21 b21 g21
  have Oworths := ok_worths (P := l.prog) (w := w) (base := base) (mg := mg) F23 T F21 b21 g21
  have Olots := ok_law_lots (P := l.prog) (w := w) (base := base) (mg := mg) F25 T F21 b21 g21 F24 b24 g24
  have Ofam := ok_family (P := l.prog) (w := w) (base := base) (mg := mg) F26 T (⟨mkCL, a47, i47, kcCL⟩ : Mk K CL f47) gCL Oinit b47
  have Ofine := ok_fine (P := l.prog) (w := w) (base := base) (mg := mg) F27 T F21 b21 g21
  have Owalks := ok_walks (P := l.prog) (w := w) (base := base) (mg := mg) F30 T F21 b21 g21 F28 b28 g28 F29 b29 g29
  have OnearW := ok_nearW (P := l.prog) (w := w) (base := base) (mg := mg) F34 T F31 b31 g31 F33 b33 g33 F32 b32 g32
  have Oweb := ok_web (P := l.prog) (w := w) (base := base) (mg := mg) F35 T F34 b34 g34 OnearW
  have Ochains := ok_chains (P := l.prog) (w := w) (base := base) (mg := mg) F38 T F39 b39 g39
  have Oway := ok_way (P := l.prog) (w := w) (base := base) (mg := mg) F36 T F21 b21 g21
  have Oentry := ok_entry (P := l.prog) (w := w) (base := base) (mg := mg) F28 T F21 b21 g21
  have OrefN := ok_refN (P := l.prog) (w := w) (base := base) (mg := mg) F40 T FM ECE DE F16 b16 g16 OchX
  have Odoor := ok_door (P := l.prog) (w := w) (base := base) (mg := mg) F41 T FM ECU ECM ECE DE F16 b16 g16 Ochain OchX
  have Odoors := ok_doors (P := l.prog) (w := w) (base := base) (mg := mg) F42 T F21 b21 g21 F26 b26 g26 Ofam F41 b41 g41 Odoor
  exact ok_law F43 T (⟨mkCB, a45, i45, kcCB⟩ : Mk K CB f45) gCB b45 Obook F20 b20 g20 F21 b21 g21 F22 b22 g22 Omany F23 b23 g23 Oworths F25 b25 g25 Olots F26 b26 g26 Ofam F27 b27 g27 Ofine F30 b30 g30 Owalks F35 b35 g35 Oweb F38 b38 g38 Ochains F16 b16 g16 Ochain F36 b36 g36 Oway F37 b37 g37 F28 b28 g28 Oentry F40 b40 g40 OrefN F42 b42 g42 Odoors
end
theorem walk {l : PySem.W.OpenLaw} {q : Program} {loose : List Str} {XP : (Str → Option Value) → Heap → Prop} {YP : World → Heap → Prop} {d : DefRec} {K : Params → PySem.W.Frag} (hn : l.most = some 63) (hdf : d.params.defaults = [])
    (hY : ∀ (w : World) (h : Heap), YP w h → (K w.params).In h)
    (F : ∀ (w : World) (mg : Str → Option Value) (fa : Addr) (h : Heap), (K w.params).In h → h.Ns mainGlobals mg → mg d.name = some (.ref fa) →
      ∃ fd : FuncData, (∀ (s : Shared) (u : Value), BindsTo s fd ⟨[u], []⟩ [("_law_script", u)]) ∧ ∀ base : Heap, (K w.params).In base → base.Ns mainGlobals mg → Fv.FnG l.prog w (K w.params) mg base CX0 11 fa fd ["_law_script"] (spLaw (K w.params))) :
    PySem.W.WalkO q loose XP YP l.row.toRowW d [] (fun f vs => PySem.call f vs) :=
  Fv.walkG (n := 63) (k := 11) (x := "_law_script") (CX := fun _ => CX0) (sp := fun w => spLaw (K w.params)) hn (by decide) hdf ⟨rfl, by decide, by decide⟩ hY F (fun _ _ a ns _ _ hS => ⟨a, ns, rfl, hS, fun _ => rfl⟩) fun _ _ _ _ _ z => z
end KJ
open PySem PySem.W PyProof.Rows
set_option maxRecDepth 100000 in
set_option maxHeartbeats 0 in
theorem PySem.Challenge.cw_firmvalues_k12_whole_least_chains_holds : PySem.Challenge.rw_firmvalues_k12_whole_least_chains.Holds := by
  w_on; o_law; k_head; (case hw => w_witness2)
  k_fill
  refine KJ.walk (l := PySem.Challenge.rw_firmvalues_k12_whole_least_chains) rfl rfl (fun w h Y => PySem.W.kIn_of Y) ?F
  case F =>
    intro w mg fa h KX G hmg
    refine' KJ.all_mk KX G hmg ?aCB ?aCL ?a0 ?l0 ?c0 ?k0 ?a1 ?l1 ?c1 ?k1 ?a2 ?l2 ?c2 ?k2 ?a3 ?l3 ?c3 ?k3 ?a4 ?l4 ?c4 ?k4 ?a5 ?l5 ?c5 ?k5 ?a6 ?l6 ?c6 ?k6 ?a7 ?l7 ?c7 ?k7 ?a8 ?l8 ?c8 ?k8 ?a9 ?l9 ?c9 ?k9 ?a10 ?l10 ?c10 ?k10 ?a11 ?l11 ?c11 ?k11 ?a12 ?l12 ?c12 ?k12 ?a13 ?l13 ?c13 ?k13 ?a14 ?l14 ?c14 ?k14 ?a15 ?l15 ?c15 ?k15 ?a16 ?l16 ?c16 ?k16 ?a17 ?l17 ?c17 ?k17 ?a18 ?l18 ?c18 ?k18 ?a19 ?l19 ?c19 ?k19 ?a20 ?l20 ?c20 ?k20 ?a21 ?l21 ?c21 ?k21 ?a22 ?l22 ?c22 ?k22 ?a23 ?l23 ?c23 ?k23 ?a24 ?l24 ?c24 ?k24 ?a25 ?l25 ?c25 ?k25 ?a26 ?l26 ?c26 ?k26 ?a27 ?l27 ?c27 ?k27 ?a28 ?l28 ?c28 ?k28 ?a29 ?l29 ?c29 ?k29 ?a30 ?l30 ?c30 ?k30 ?a31 ?l31 ?c31 ?k31 ?a32 ?l32 ?c32 ?k32 ?a33 ?l33 ?c33 ?k33 ?a34 ?l34 ?c34 ?k34 ?a35 ?l35 ?c35 ?k35 ?a36 ?l36 ?c36 ?k36 ?a37 ?l37 ?c37 ?k37 ?a38 ?l38 ?c38 ?k38 ?a39 ?l39 ?c39 ?k39 ?a40 ?l40 ?c40 ?k40 ?a41 ?l41 ?c41 ?k41 ?a42 ?l42 ?c42 ?k42 ?a43 ?l43 ?c43 ?k43 ?a44 ?l44 ?c44 ?k44 ?lT ?a45 ?i45 ?l45 ?c45 ?k45 ?a46 ?i46 ?l46 ?c46 ?k46 ?a47 ?i47 ?l47 ?c47 ?k47 ?a48 ?s48 ?t48 ?r48 ?l48 ?c48 ?k48 ?aF ?rdF ?gaF ?vF ?iF ?yF ?aaU ?a49 ?tIU ?l49 ?c49 ?k49 ?lEU ?vEU ?sEU ?eEU ?yEU ?kEU ?iEU ?xgU ?xhU ?hEU ?ssU ?sfU ?svU ?aaM ?a50 ?tIM ?l50 ?c50 ?k50 ?lEM ?vEM ?sEM ?eEM ?yEM ?kEM ?iEM ?xgM ?xhM ?hEM ?ssM ?sfM ?svM ?nM_manner ?aaE ?a51 ?tIE ?l51 ?c51 ?k51 ?lEE ?vEE ?sEE ?eEE ?yEE ?kEE ?iEE ?xgE ?xhE ?hEE ?ssE ?sfE ?svE ?nE_entry ?z_isinstance ?z_list ?z_tuple ?z_bool ?z_int ?z_str ?z_all ?z_any ?z_range ?z_sorted ?z_set ?z_max ?z_len ?z_min ?z_repr ?pgCB ?hdCB ?poCB ?saCB ?mkCB ?kcCB ?noCB_n ?noCB_m ?noCB_inputs ?noCB_held ?pgCL ?hdCL ?poCL ?saCL ?mkCL ?kcCL ?noCL_n ?noCL_lots ?noCL_let ?ml0 ?ml1 ?ml2 ?eF ?lM ?spT ?tkT ?ciM ?moM ?ciE ?moE ?sbMU ?sbEU ?sbEM
    (case aCB => k_is)
    (case aCL => k_is)
    (case a0 => k_is)
    (case l0 => k_is)
    (case c0 => k_is)
    (case k0 => k_is)
    (case a1 => k_is)
    (case l1 => k_is)
    (case c1 => k_is)
    (case k1 => k_is)
    (case a2 => k_is)
    (case l2 => k_is)
    (case c2 => k_is)
    (case k2 => k_is)
    (case a3 => k_is)
    (case l3 => k_is)
    (case c3 => k_is)
    (case k3 => k_is)
    (case a4 => k_is)
    (case l4 => k_is)
    (case c4 => k_is)
    (case k4 => k_is)
    (case a5 => k_is)
    (case l5 => k_is)
    (case c5 => k_is)
    (case k5 => k_is)
    (case a6 => k_is)
    (case l6 => k_is)
    (case c6 => k_is)
    (case k6 => k_is)
    (case a7 => k_is)
    (case l7 => k_is)
    (case c7 => k_is)
    (case k7 => k_is)
    (case a8 => k_is)
    (case l8 => k_is)
    (case c8 => k_is)
    (case k8 => k_is)
    (case a9 => k_is)
    (case l9 => k_is)
    (case c9 => k_is)
    (case k9 => k_is)
    (case a10 => k_is)
    (case l10 => k_is)
    (case c10 => k_is)
    (case k10 => k_is)
    (case a11 => k_is)
    (case l11 => k_is)
    (case c11 => k_is)
    (case k11 => k_is)
    (case a12 => k_is)
    (case l12 => k_is)
    (case c12 => k_is)
    (case k12 => k_is)
    (case a13 => k_is)
    (case l13 => k_is)
    (case c13 => k_is)
    (case k13 => k_is)
    (case a14 => k_is)
    (case l14 => k_is)
    (case c14 => k_is)
    (case k14 => k_is)
    (case a15 => k_is)
    (case l15 => k_is)
    (case c15 => k_is)
    (case k15 => k_is)
    (case a16 => k_is)
    (case l16 => k_is)
    (case c16 => k_is)
    (case k16 => k_is)
    (case a17 => k_is)
    (case l17 => k_is)
    (case c17 => k_is)
    (case k17 => k_is)
    (case a18 => k_is)
    (case l18 => k_is)
    (case c18 => k_is)
    (case k18 => k_is)
    (case a19 => k_is)
    (case l19 => k_is)
    (case c19 => k_is)
    (case k19 => k_is)
    (case a20 => k_is)
    (case l20 => k_is)
    (case c20 => k_is)
    (case k20 => k_is)
    (case a21 => k_is)
    (case l21 => k_is)
    (case c21 => k_is)
    (case k21 => k_is)
    (case a22 => k_is)
    (case l22 => k_is)
    (case c22 => k_is)
    (case k22 => k_is)
    (case a23 => k_is)
    (case l23 => k_is)
    (case c23 => k_is)
    (case k23 => k_is)
    (case a24 => k_is)
    (case l24 => k_is)
    (case c24 => k_is)
    (case k24 => k_is)
    (case a25 => k_is)
    (case l25 => k_is)
    (case c25 => k_is)
    (case k25 => k_is)
    (case a26 => k_is)
    (case l26 => k_is)
    (case c26 => k_is)
    (case k26 => k_is)
    (case a27 => k_is)
    (case l27 => k_is)
    (case c27 => k_is)
    (case k27 => k_is)
    (case a28 => k_is)
    (case l28 => k_is)
    (case c28 => k_is)
    (case k28 => k_is)
    (case a29 => k_is)
    (case l29 => k_is)
    (case c29 => k_is)
    (case k29 => k_is)
    (case a30 => k_is)
    (case l30 => k_is)
    (case c30 => k_is)
    (case k30 => k_is)
    (case a31 => k_is)
    (case l31 => k_is)
    (case c31 => k_is)
    (case k31 => k_is)
    (case a32 => k_is)
    (case l32 => k_is)
    (case c32 => k_is)
    (case k32 => k_is)
    (case a33 => k_is)
    (case l33 => k_is)
    (case c33 => k_is)
    (case k33 => k_is)
    (case a34 => k_is)
    (case l34 => k_is)
    (case c34 => k_is)
    (case k34 => k_is)
    (case a35 => k_is)
    (case l35 => k_is)
    (case c35 => k_is)
    (case k35 => k_is)
    (case a36 => k_is)
    (case l36 => k_is)
    (case c36 => k_is)
    (case k36 => k_is)
    (case a37 => k_is)
    (case l37 => k_is)
    (case c37 => k_is)
    (case k37 => k_is)
    (case a38 => k_is)
    (case l38 => k_is)
    (case c38 => k_is)
    (case k38 => k_is)
    (case a39 => k_is)
    (case l39 => k_is)
    (case c39 => k_is)
    (case k39 => k_is)
    (case a40 => k_is)
    (case l40 => k_is)
    (case c40 => k_is)
    (case k40 => k_is)
    (case a41 => k_is)
    (case l41 => k_is)
    (case c41 => k_is)
    (case k41 => k_is)
    (case a42 => k_is)
    (case l42 => k_is)
    (case c42 => k_is)
    (case k42 => k_is)
    (case a43 => k_is)
    (case l43 => k_is)
    (case c43 => k_is)
    (case k43 => k_is)
    (case a44 => k_is)
    (case l44 => k_is)
    (case c44 => k_is)
    (case k44 => k_is)
    (case lT => k_is)
    (case a45 => k_is)
    (case i45 => k_is)
    (case l45 => k_is)
    (case c45 => k_is)
    (case k45 => k_is)
    (case a46 => k_is)
    (case i46 => k_is)
    (case l46 => k_is)
    (case c46 => k_is)
    (case k46 => k_is)
    (case a47 => k_is)
    (case i47 => k_is)
    (case l47 => k_is)
    (case c47 => k_is)
    (case k47 => k_is)
    (case a48 => k_is)
    (case s48 => k_is)
    (case t48 => k_is)
    (case r48 => k_is)
    (case l48 => k_is)
    (case c48 => k_is)
    (case k48 => k_is)
    (case aF => k_is)
    (case rdF => k_is)
    (case gaF => k_is)
    (case vF => k_is)
    (case iF => k_is)
    (case yF => k_is)
    (case aaU => k_is)
    (case a49 => k_is)
    (case tIU => k_is)
    (case l49 => k_is)
    (case c49 => k_is)
    (case k49 => k_is)
    (case lEU => k_is)
    (case vEU => decide +kernel)
    (case sEU => k_is)
    (case eEU => k_is)
    (case yEU => k_is)
    (case kEU => k_is)
    (case iEU => k_is)
    (case xgU => k_is)
    (case xhU => k_is)
    (case hEU => k_is)
    (case ssU => k_is)
    (case sfU => k_is)
    (case svU => k_is)
    (case aaM => k_is)
    (case a50 => k_is)
    (case tIM => k_is)
    (case l50 => k_is)
    (case c50 => k_is)
    (case k50 => k_is)
    (case lEM => k_is)
    (case vEM => decide +kernel)
    (case sEM => k_is)
    (case eEM => k_is)
    (case yEM => k_is)
    (case kEM => k_is)
    (case iEM => k_is)
    (case xgM => k_is)
    (case xhM => k_is)
    (case hEM => k_is)
    (case ssM => k_is)
    (case sfM => k_is)
    (case svM => k_is)
    (case nM_manner => k_is)
    (case aaE => k_is)
    (case a51 => k_is)
    (case tIE => k_is)
    (case l51 => k_is)
    (case c51 => k_is)
    (case k51 => k_is)
    (case lEE => k_is)
    (case vEE => decide +kernel)
    (case sEE => k_is)
    (case eEE => k_is)
    (case yEE => k_is)
    (case kEE => k_is)
    (case iEE => k_is)
    (case xgE => k_is)
    (case xhE => k_is)
    (case hEE => k_is)
    (case ssE => k_is)
    (case sfE => k_is)
    (case svE => k_is)
    (case nE_entry => k_is)
    (case z_isinstance => k_is)
    (case z_list => k_is)
    (case z_tuple => k_is)
    (case z_bool => k_is)
    (case z_int => k_is)
    (case z_str => k_is)
    (case z_all => k_is)
    (case z_any => k_is)
    (case z_range => k_is)
    (case z_sorted => k_is)
    (case z_set => k_is)
    (case z_max => k_is)
    (case z_len => k_is)
    (case z_min => k_is)
    (case z_repr => k_is)
    (case pgCB => k_is)
    (case hdCB => k_is)
    (case poCB => k_is)
    (case saCB => k_is)
    (case mkCB => k_is)
    (case kcCB => k_is)
    (case noCB_n => k_is)
    (case noCB_m => k_is)
    (case noCB_inputs => k_is)
    (case noCB_held => k_is)
    (case pgCL => k_is)
    (case hdCL => k_is)
    (case poCL => k_is)
    (case saCL => k_is)
    (case mkCL => k_is)
    (case kcCL => k_is)
    (case noCL_n => k_is)
    (case noCL_lots => k_is)
    (case noCL_let => k_is)
    (case ml0 => k_is)
    (case ml1 => k_is)
    (case ml2 => k_is)
    (case eF => k_is)
    (case lM => k_is)
    (case spT => k_is)
    (case tkT => k_is)
    (case ciM => k_is)
    (case moM => k_is)
    (case ciE => k_is)
    (case moE => k_is)
    (case sbMU => k_is)
    (case sbEU => k_is)
    (case sbEM => k_is)
