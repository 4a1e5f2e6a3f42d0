import PyProof.Rows.All
import Wide.All
import OpenK.AllK
import Wide.FinOn
import HandS.ForMost
import HandS.Base
import HandS.Call
import HandS.List
import HandS.Comp
import HandS.Ends
import HandS.Evl
import HandS.Words
import HandS.IsInst
import HandS.Deep
import HandS.Conv
import HandS.Flow
import HandS.Star
import HandS.TupAny
import HandS.SetFor
import HandS.SortKw
import HandS.Strs
import KE.DataMinMax
import KE.SortData
import HandS.Dict
import HandS.DictComp
import KE.SortCalls
import HandS.ClsMeth
import HandS.Property
import HandS.Style
import HandS.ExcInit
import HandS.ExcField
import HandS.ExcIs
import PyProof.ReprRoads
import PyProof.ReprReads
import HandS.ExcOwn
import KE.KIsAll
import KE.KMatchCls
import HandS.Small
import PyProof.Rows.TupMore
import HandS.HotCalls
import HandS.Text
import HandS.More
import HandS.SuiteRaise
import HandS.RaiseFrom
import HandS.ExcInitHot
import HandS.TupSets
import HandS.OwnEq
import KE.SortKeyHeap
import KE.FramesApart
import HandS.SetKeys
import PyProof.DictMoreH
import KE.KDictSum
import KE.KeyNested
import KE.KDictKeyed
import HandS.Iter
import HandS.TupLen
import PyProof.DictTruth
import HandS.WordsList
import HandS.Exc
import HandS.WordsExc
import HandS.Defaults
import PySem.Challenge.RW_firmvalues_k78_whole_deciding_sooner_is
import HandS.FStr
import HandS.Wide
import HandS.SortInts
import HandS.TupMul
import PyProof.DictDisplay
set_option Elab.async false
set_option linter.all false
set_option maxRecDepth 100000
set_option maxHeartbeats 8000000
/-! fv: what an expression evaluates to, over a part of the heap that stays -/
namespace Fv
open PySem L2 Evl

/-! ### data in the heap: lists stand in the heap itself, tuples are read -/
mutual
inductive Rp (K : PySem.W.Frag) (H : Hp) : V → PyData → Prop
  | non : Rp K H .non .none
  | bl (b : Bool) : Rp K H (.bl b) (.bool b)
  | int (i : Int) : Rp K H (.int i) (.int i)
  | str (x : Str) : Rp K H (.str x) (.str x)
  | lst {a : Addr} {xs : List V} {ds : List PyData} : H a = some (.lst xs) → RpAll K H xs ds → Rp K H (.ref a) (.list ds)
  | tup {a : Addr} {xs : List V} {ds : List PyData} : H a = some (.tup xs) → RpAll K H xs ds → Rp K H (.ref a) (.tuple ds)
inductive RpAll (K : PySem.W.Frag) (H : Hp) : List V → List PyData → Prop
  | nil : RpAll K H [] []
  | cons {v : V} {vs : List V} {d : PyData} {ds : List PyData} : Rp K H v d → RpAll K H vs ds → RpAll K H (v :: vs) (d :: ds)
end
section
variable {K : PySem.W.Frag} {H H' : Hp}
mutual
theorem Rp.mono (e : Ex H H') : ∀ (d : PyData) (v : V), Rp K H v d → Rp K H' v d
  | .none, _, h => by cases h; exact .non
  | .bool b, _, h => by cases h; exact .bl b
  | .int i, _, h => by cases h; exact .int i
  | .str x, _, h => by cases h; exact .str x
  | .list ds, _, h => by
    cases h with
    | lst hs ha => exact .lst (e _ _ hs) (RpAll.mono e ds _ ha)
  | .tuple ds, _, h => by
    cases h with
    | tup hs ha => exact .tup (e _ _ hs) (RpAll.mono e ds _ ha)
  | .dict _, _, h => by cases h
theorem RpAll.mono (e : Ex H H') : ∀ (ds : List PyData) (vs : List V), RpAll K H vs ds → RpAll K H' vs ds
  | [], _, h => by cases h; exact .nil
  | d :: ds, _, h => by
    cases h with
    | cons h1 h2 => exact .cons (Rp.mono e d _ h1) (RpAll.mono e ds _ h2)
end
mutual
theorem Rp.dp : ∀ (d : PyData) (v : V), Rp K H v d → Dp K H v d
  | .none, _, h => by cases h; exact .non
  | .bool b, _, h => by cases h; exact .bl b
  | .int i, _, h => by cases h; exact .int i
  | .str x, _, h => by cases h; exact .str x
  | .list ds, _, h => by
    cases h with
    | lst hs ha => exact .lst (.inl (.inl hs)) (RpAll.dp ds _ ha)
  | .tuple ds, _, h => by
    cases h with
    | tup hs ha => exact .tup (st_of hs) (RpAll.dp ds _ ha)
  | .dict _, _, h => by cases h
theorem RpAll.dp : ∀ (ds : List PyData) (vs : List V), RpAll K H vs ds → DpAll K H vs ds
  | [], _, h => by cases h; exact .nil
  | d :: ds, _, h => by
    cases h with
    | cons h1 h2 => exact .cons (Rp.dp d _ h1) (RpAll.dp ds _ h2)
end
theorem RpAll.length : ∀ {ds : List PyData} {vs : List V}, RpAll K H vs ds → vs.length = ds.length
  | [], _, h => by cases h; rfl
  | d :: ds, _, h => by
    cases h with
    | cons h1 h2 => simp [RpAll.length h2]
theorem RpAll.append : ∀ {ds es : List PyData} {vs ws : List V}, RpAll K H vs ds → RpAll K H ws es → RpAll K H (vs ++ ws) (ds ++ es)
  | [], _, _, _, h, k => by cases h; exact k
  | d :: ds, _, _, _, h, k => by
    cases h with
    | cons h1 h2 => exact .cons h1 (RpAll.append h2 k)
theorem RpAll.get : ∀ {ds : List PyData} {vs : List V} {i : Nat} {v : V}, RpAll K H vs ds → vs[i]? = some v → ∃ d, ds[i]? = some d ∧ Rp K H v d
  | [], _, _, _, h, e => by cases h; simp at e
  | d :: ds, _, 0, _, h, e => by
    cases h with
    | cons h1 h2 => simp at e; subst e; exact ⟨d, rfl, h1⟩
  | d :: ds, _, i + 1, _, h, e => by
    cases h with
    | cons h1 h2 =>
      obtain ⟨d', e1, r⟩ := RpAll.get h2 (by simpa using e)
      exact ⟨d', by simpa using e1, r⟩
theorem RpAll.getD : ∀ {ds : List PyData} {vs : List V} {i : Nat} {d : PyData}, RpAll K H vs ds → ds[i]? = some d → ∃ v, vs[i]? = some v ∧ Rp K H v d
  | [], _, _, _, h, e => by simp at e
  | d :: ds, _, 0, _, h, e => by
    cases h with
    | cons h1 h2 => simp at e; subst e; exact ⟨_, rfl, h1⟩
  | d :: ds, _, i + 1, _, h, e => by
    cases h with
    | cons h1 h2 =>
      obtain ⟨v, e1, r⟩ := RpAll.getD h2 (by simpa using e)
      exact ⟨v, by simpa using e1, r⟩
theorem RpAll.one {v : V} {d : PyData} (h : Rp K H v d) : RpAll K H [v] [d] := .cons h .nil
theorem rp_int {v : V} {i : Int} (h : Rp K H v (.int i)) : v = .int i := by cases h; rfl
theorem rp_bool {v : V} {b : Bool} (h : Rp K H v (.bool b)) : v = .bl b := by cases h; rfl
theorem rp_none {v : V} (h : Rp K H v .none) : v = .non := by cases h; rfl
theorem rp_str {v : V} {x : Str} (h : Rp K H v (.str x)) : v = .str x := by cases h; rfl
theorem rp_tup {v : V} {ds : List PyData} (h : Rp K H v (.tuple ds)) : ∃ a xs, v = .ref a ∧ H a = some (.tup xs) ∧ RpAll K H xs ds := by
  cases h with
  | tup hs ha => exact ⟨_, _, rfl, hs, ha⟩
theorem rp_lst {v : V} {ds : List PyData} (h : Rp K H v (.list ds)) : ∃ a xs, v = .ref a ∧ H a = some (.lst xs) ∧ RpAll K H xs ds := by
  cases h with
  | lst hs ha => exact ⟨_, _, rfl, hs, ha⟩
theorem rpAll_ints : ∀ {ns : List Int} {vs : List V}, RpAll K H vs (ns.map PyData.int) → vs = ns.map V.int
  | [], _, h => by cases h; rfl
  | n :: ns, _, h => by
    cases h with
    | cons h1 h2 => rw [rp_int h1, rpAll_ints h2]; rfl
theorem rpAll_of_ints : ∀ (ns : List Int), RpAll K H (ns.map V.int) (ns.map PyData.int)
  | [] => .nil
  | n :: ns => .cons (.int n) (rpAll_of_ints ns)
theorem rpAll_bools : ∀ {bs : List Bool} {vs : List V}, RpAll K H vs (bs.map PyData.bool) → vs = bs.map V.bl
  | [], _, h => by cases h; rfl
  | b :: bs, _, h => by
    cases h with
    | cons h1 h2 => rw [rp_bool h1, rpAll_bools h2]; rfl
end

theorem tx {K : PySem.W.Frag} {H H' : Hp} {a : Addr} {xs : List V} (e : Ex H H') (h : H a = some (.tup xs)) : SqT K H' a xs := st_of (e _ _ h)
/-! ### the part that stays, and what may change -/
/-- what F2 has more than F was not there before -/
def New (F H F2 : Hp) : Prop := ∀ a, F a = none → (∃ o, H a = some o ∧ ∀ ys, o ≠ .tup ys) → F2 a = none
theorem loose_ne {H : Hp} {a b : Addr} (h : ∃ o, H a = some o ∧ ∀ ys, o ≠ .tup ys) (h0 : H b = none) : a ≠ b := fun z => by
  obtain ⟨o, h1, _⟩ := h
  rw [z, h0] at h1; cases h1
/-- the law's pot: three numbers and a list of numbers, which stays -/
structure Pt where
  p : Addr
  l : Addr
  ns : List Int
structure PotAt (H : Hp) (q : Pt) : Prop where
  ne : q.l ≠ q.p
  ls : H q.l = some (.lst (q.ns.map V.int))
  few : q.ns.length ≤ 60
  ex : ∃ (a b c : Int), H q.p = some (.lst [.int a, .int b, .int c, .ref q.l]) ∧ 0 ≤ a ∧ 0 ≤ b ∧ b < 2147483647 ∧ 0 ≤ c ∧ c ≤ q.ns.length
def Keep (pt : Option Pt) (H H' : Hp) : Prop := ∀ a o, (∀ q, pt = some q → a ≠ q.p) → H a = some o → H' a = some o
def Good (pt : Option Pt) (F H : Hp) : Prop := ∀ q, pt = some q → F q.p = none ∧ PotAt H q
theorem PotAt.some {H : Hp} {q : Pt} (h : PotAt H q) : H q.p ≠ none := by
  obtain ⟨a, b, c, e, _⟩ := h.ex
  rw [e]; simp
theorem PotAt.loose {H : Hp} {q : Pt} (h : PotAt H q) : ∃ o : HO, H q.p = Option.some o ∧ ∀ ys, o ≠ HO.tup ys := by
  obtain ⟨a, b, c, e, _⟩ := h.ex
  rw [e]; simp
theorem Keep.refl (pt : Option Pt) (H : Hp) : Keep pt H H := fun _ _ _ h => h
theorem Keep.trans {pt : Option Pt} {H H1 H2 : Hp} (a : Keep pt H H1) (b : Keep pt H1 H2) : Keep pt H H2 := fun x o n h => b x o n (a x o n h)
theorem Keep.of {pt : Option Pt} {H H1 : Hp} (a : Ex H H1) : Keep pt H H1 := fun x o _ h => a x o h
theorem Keep.ex {H H1 : Hp} (a : Keep none H H1) : Ex H H1 := fun x o h => a x o (fun _ z => by cases z) h
theorem Good.nil {F H : Hp} : Good none F H := fun _ h => by cases h
theorem PotAt.mono {H H' : Hp} {q : Pt} (h : PotAt H q) (e : Ex H H') : PotAt H' q := by
  obtain ⟨a, b, c, h1, r⟩ := h.ex
  exact ⟨h.ne, e _ _ h.ls, h.few, a, b, c, e _ _ h1, r⟩
theorem Good.less {pt : Option Pt} {F F' H : Hp} (g : Good pt F' H) (e : Ex F F') : Good pt F H := fun p hp => by
  refine ⟨?_, (g p hp).2⟩
  cases w : F p.p with
  | none => rfl
  | some o =>
    have h := (g p hp).1
    rw [e p.p o w] at h
    cases h
/-- what F knows stays where only the pot changes -/
theorem Keep.sub {pt : Option Pt} {F H H1 : Hp} (k : Keep pt H H1) (g : Good pt F H) (e : Ex F H) : Ex F H1 := fun a o h => by
  refine k a o (fun q z w => ?_) (e a o h)
  have := (g q z).1
  rw [← w, h] at this
  cases this
theorem New.refl (F H : Hp) : New F H F := fun _ h _ => h
/-- there before -/
theorem Keep.there {pt : Option Pt} {H H1 : Hp} (k : Keep pt H H1) {F F1 : Hp} (g : Good pt F1 H1) {a : Addr} (h : H a ≠ none) : H1 a ≠ none := by
  cases e : H a with
  | none => exact absurd e h
  | some o =>
    by_cases z : ∃ q, pt = some q ∧ a = q.p
    · obtain ⟨q, z1, z2⟩ := z
      rw [z2]; exact (g q z1).2.some
    · rw [k a o (fun q w1 w2 => z ⟨q, w1, w2⟩) e]; simp
theorem Keep.loose {pt : Option Pt} {H H1 : Hp} (k : Keep pt H H1) {F1 : Hp} (g : Good pt F1 H1) {a : Addr} (h : ∃ o, H a = some o ∧ ∀ ys, o ≠ .tup ys) : ∃ o, H1 a = some o ∧ ∀ ys, o ≠ .tup ys := by
  obtain ⟨o, e, n⟩ := h
  by_cases z : ∃ q, pt = some q ∧ a = q.p
  · obtain ⟨q, z1, z2⟩ := z
    rw [z2]; exact (g q z1).2.loose
  · exact ⟨o, k a o (fun q w1 w2 => z ⟨q, w1, w2⟩) e, n⟩
/-- what a piece leaves: F grew to F2, H became H2 -/
structure Step (pt : Option Pt) (F H F2 H2 : Hp) : Prop where
  sub : Ex F F2
  inn : Ex F2 H2
  keep : Keep pt H H2
  good : Good pt F2 H2
  new : New F H F2
theorem Step.refl {pt : Option Pt} {F H : Hp} (e : Ex F H) (g : Good pt F H) : Step pt F H F H := ⟨Ex.refl F, e, Keep.refl pt H, g, New.refl F H⟩
theorem Step.trans {pt : Option Pt} {F H F1 H1 F2 H2 : Hp} (a : Step pt F H F1 H1) (b : Step pt F1 H1 F2 H2) : Step pt F H F2 H2 :=
  ⟨a.sub.trans b.sub, b.inn, a.keep.trans b.keep, b.good, fun x h1 h2 => b.new x (a.new x h1 h2) (a.keep.loose a.good h2)⟩
/-- two parts together -/
def join (F G : Hp) : Hp := fun a => match F a with | some o => some o | none => G a
theorem join_l {F G : Hp} : Ex F (join F G) := fun a o h => by unfold join; rw [h]
theorem join_r {F G H : Hp} (f : Ex F H) (g : Ex G H) : Ex G (join F G) := fun a o h => by
  unfold join
  cases e : F a with
  | none => exact h
  | some u =>
    have h1 := f a u e
    rw [g a o h] at h1
    exact h1.symm
theorem join_in {F G H : Hp} (f : Ex F H) (g : Ex G H) : Ex (join F G) H := fun a o h => by
  unfold join at h
  cases e : F a with
  | none =>
    rw [e] at h
    exact g a o h
  | some u =>
    rw [e] at h
    have z := f a u e
    rw [z]
    exact h
theorem join_none {F G : Hp} {a : Addr} (f : F a = none) (g : G a = none) : join F G a = none := by unfold join; rw [f]; exact g
/-- the same piece seen from a greater part -/
theorem Step.wide {pt : Option Pt} {F F' H F2 H2 : Hp} (e : Ex F F') (e' : Ex F' H) (g : Good pt F' H) (s : Step pt F H F2 H2) : Step pt F' H (join F2 F') H2 := by
  have k : Ex F' H2 := s.keep.sub g e'
  refine ⟨join_r s.inn k, join_in s.inn k, s.keep, fun p hp => ⟨join_none (s.good p hp).1 (g p hp).1, (s.good p hp).2⟩, fun a h1 h2 => join_none (s.new a ?_ h2) h1⟩
  cases q : F a with
  | none => rfl
  | some o => rw [e a o q] at h1; cases h1
/-- a piece that changes nothing, where a pot stands -/
theorem Step.lift {pt : Option Pt} {F H F2 H2 : Hp} (g : Good pt F H) (s : Step none F H F2 H2) : Step pt F H F2 H2 :=
  ⟨s.sub, s.inn, Keep.of s.keep.ex, fun p hp => ⟨s.new p.p (g p hp).1 (g p hp).2.loose, (g p hp).2.mono s.keep.ex⟩, s.new⟩
/-- a new object is laid and stays -/
theorem Step.laid {pt : Option Pt} {F H : Hp} {p : Addr} {o : HO} (e : Ex F H) (g : Good pt F H) (hp : H p = none) : Step pt F H (upd F p o) (upd H p o) := by
  have fp : F p = none := by
    cases q : F p with
    | none => rfl
    | some u => rw [e p u q] at hp; cases hp
  refine ⟨Ex.new fp, fun a u h => ?_, Keep.of (Ex.new hp), fun x hx => ?_, fun a h1 h2 => ?_⟩
  · by_cases z : a = p
    · rw [z, upd_same] at h ⊢; exact h
    · rw [upd_ne z] at h ⊢; exact e a _ h
  · obtain ⟨q1, q2⟩ := g x hx
    have hxp : x.p ≠ p := fun z => q2.some (by rw [z]; exact hp)
    exact ⟨by rw [upd_ne hxp]; exact q1, q2.mono (Ex.new hp)⟩
  · have z : a ≠ p := loose_ne h2 hp
    rw [upd_ne z]; exact h1

/-- tuples that stand are taken among what stays -/
theorem Step.tups {pt : Option Pt} {F G H : Hp} (e : Ex F H) (g : Good pt F H) (k : ∀ b o, G b = some o → H b = some o ∧ ∃ ys, o = .tup ys) : Step pt F H (join F G) H := by
  have gi : Ex G H := fun b o h => (k b o h).1
  refine ⟨join_l, join_in e gi, Keep.refl pt H, fun q hq => ⟨join_none (g q hq).1 ?_, (g q hq).2⟩, fun a h1 h2 => join_none h1 ?_⟩
  · cases w : G q.p with
    | none => rfl
    | some o =>
      obtain ⟨h1, ys, rfl⟩ := k _ _ w
      obtain ⟨o, h2, n⟩ := (g q hq).2.loose
      rw [h1] at h2
      exact absurd (Option.some.inj h2).symm (n ys)
  · cases w : G a with
    | none => rfl
    | some o =>
      obtain ⟨h3, ys, rfl⟩ := k _ _ w
      obtain ⟨o, h4, n⟩ := h2
      rw [h3] at h4
      exact absurd (Option.some.inj h4).symm (n ys)
/-! ### what evaluates to what -/
abbrev PD := PyData → Prop
def EvG (K : PySem.W.Frag) (pt : Option Pt) (te : TE) (σ : L2.St) (F : Hp) (R : PD) : Prop :=
  ∀ H1, Ex F H1 → Good pt F H1 → ∀ Q : VK, (∀ d v F2 H2, R d → Step pt F H1 F2 H2 → Rp K F2 v d → Q v H2) → te σ H1 Q
def EvsG (K : PySem.W.Frag) (pt : Option Pt) (ta : TA) (σ : L2.St) (F : Hp) (R : List PyData → Prop) : Prop :=
  ∀ H1, Ex F H1 → Good pt F H1 → ∀ Q : List V → Hp → Prop, (∀ ds vs F2 H2, R ds → Step pt F H1 F2 H2 → RpAll K F2 vs ds → Q vs H2) → ta σ H1 Q
def EtG (pt : Option Pt) (tt : TT) (σ : L2.St) (F : Hp) (R : Bool → Prop) : Prop :=
  ∀ H1, Ex F H1 → Good pt F H1 → ∀ Q : Bool → Hp → Prop, (∀ b F2 H2, R b → Step pt F H1 F2 H2 → Q b H2) → tt σ H1 Q
/-- operations on values -/
def RvG (K : PySem.W.Frag) (r : L2.R2) (d e : PyData) (R : PD) : Prop := ∀ F H x y, Ex F H → Rp K F x d → Rp K F y e → ∀ Q : VK, (∀ z v F2 H2, R z → Step none F H F2 H2 → Rp K F2 v z → Q v H2) → r x y H Q
def RcG (K : PySem.W.Frag) (r : List V → Hp → VK → Prop) (ds : List PyData) (R : PD) : Prop := ∀ F H vs, Ex F H → RpAll K F vs ds → ∀ Q : VK, (∀ z v F2 H2, R z → Step none F H F2 H2 → Rp K F2 v z → Q v H2) → r vs H Q
/-- the same d -/
abbrev Is (d : PyData) : PD := fun x => x = d
section
variable {K : PySem.W.Frag} {pt : Option Pt} {σ : L2.St} {F F' : Hp} {te ta tb : TE} {ts tr : TA} {t u : TT} {R R1 S2 R3 : PD} {d e z : PyData} {r : L2.R2}
theorem EvG.mono (h : EvG K pt te σ F R) (e : Ex F F') : EvG K pt te σ F' R := fun H1 i g Q q =>
  h H1 (e.trans i) (g.less e) Q fun d v F2 H2 hr s hv => q d v _ H2 hr (s.wide e i g) (Rp.mono join_l _ _ hv)
theorem EvG.lift (h : EvG K none te σ F R) : EvG K pt te σ F R := fun H1 i g Q q => h H1 i .nil Q fun d v F2 H2 hr s hv => q d v F2 H2 hr (s.lift g) hv
theorem EvG.imp (h : EvG K pt te σ F R) (k : ∀ d, R d → R1 d) : EvG K pt te σ F R1 := fun H1 i g Q q => h H1 i g Q fun d v F2 H2 hr s hv => q d v F2 H2 (k d hr) s hv
theorem EvG.is (h : EvG K pt te σ F (Is d)) (k : d = e) : EvG K pt te σ F (Is e) := k ▸ h
theorem EtG.mono {R : Bool → Prop} (h : EtG pt t σ F R) (e : Ex F F') : EtG pt t σ F' R := fun H1 i g Q q =>
  h H1 (e.trans i) (g.less e) Q fun b F2 H2 hr s => q b _ H2 hr (s.wide e i g)
theorem EtG.lift {R : Bool → Prop} (h : EtG none t σ F R) : EtG pt t σ F R := fun H1 i g Q q => h H1 i .nil Q fun b F2 H2 hr s => q b F2 H2 hr (s.lift g)
theorem EtG.is {b c : Bool} (h : EtG pt t σ F (· = b)) (k : b = c) : EtG pt t σ F (· = c) := k ▸ h
theorem EvsG.mono {R : List PyData → Prop} (h : EvsG K pt ts σ F R) (e : Ex F F') : EvsG K pt ts σ F' R := fun H1 i g Q q =>
  h H1 (e.trans i) (g.less e) Q fun d v F2 H2 hr s hv => q d v _ H2 hr (s.wide e i g) (RpAll.mono join_l _ _ hv)

theorem g_var {i : Nat} {v : V} (h : σ[i]? = some (some v)) (hr : Rp K F v d) : EvG K pt (tVar i) σ F (Is d) := fun H1 e g Q q => ⟨v, h, q d v F H1 rfl (.refl e g) hr⟩
theorem g_int {i : Int} : EvG K pt (tC (.int i)) σ F (Is (.int i)) := fun H1 e g Q q => q _ _ F H1 rfl (.refl e g) (.int i)
theorem g_bl {b : Bool} : EvG K pt (tC (.bl b)) σ F (Is (.bool b)) := fun H1 e g Q q => q _ _ F H1 rfl (.refl e g) (.bl b)
theorem g_non : EvG K pt (tC .non) σ F (Is .none) := fun H1 e g Q q => q _ _ F H1 rfl (.refl e g) .non
theorem g_str {x : Str} : EvG K pt (tC (.str x)) σ F (Is (.str x)) := fun H1 e g Q q => q _ _ F H1 rfl (.refl e g) (.str x)
/-- two parts, one after the other; the second may know the first's value -/
theorem g_op (ha : EvG K pt ta σ F R1) (hb : EvG K pt tb σ F S2) (hr : ∀ d e, R1 d → S2 e → RvG K r d e R3) : EvG K pt (tOp r ta tb) σ F R3 := fun H1 i g Q q =>
  ha H1 i g _ fun d v F2 H2 hd s hv => hb.mono s.sub H2 s.inn s.good _ fun e w F3 H3 he s3 hw =>
    hr d e hd he F3 H3 v w s3.inn (Rp.mono s3.sub _ _ hv) hw Q fun z x F4 H4 hz s4 hx => q z x F4 H4 hz ((s.trans s3).trans (s4.lift s3.good)) hx
theorem gs_nil : EvsG K pt tNil σ F (· = []) := fun H1 i g Q q => q [] [] F H1 rfl (.refl i g) .nil
theorem gs_cons {R2 : List PyData → Prop} (ha : EvG K pt ta σ F R1) (hb : EvsG K pt tr σ F R2) : EvsG K pt (tCons ta tr) σ F (fun l => ∃ d ds, l = d :: ds ∧ R1 d ∧ R2 ds) := fun H1 i g Q q =>
  ha H1 i g _ fun d v F2 H2 hd s hv => hb.mono s.sub H2 s.inn s.good _ fun ds vs F3 H3 hds s3 hvs => q (d :: ds) (v :: vs) F3 H3 ⟨d, ds, rfl, hd, hds⟩ (s.trans s3) (.cons (Rp.mono s3.sub _ _ hv) hvs)
theorem gs_consI {ds : List PyData} (ha : EvG K pt ta σ F (Is d)) (hb : EvsG K pt tr σ F (· = ds)) : EvsG K pt (tCons ta tr) σ F (· = d :: ds) := fun H1 i g Q q =>
  gs_cons ha hb H1 i g Q fun l vs F2 H2 h s hv => by
    obtain ⟨d', ds', e, h1, h2⟩ := h
    exact q l vs F2 H2 (by rw [e, h1, h2]) s hv
theorem g_tup {R : List PyData → Prop} (h : EvsG K pt ts σ F R) (hz : ∀ ds, R ds → ds.length ≤ 100000) : EvG K pt (tTup ts) σ F (fun x => ∃ ds, x = .tuple ds ∧ R ds) := fun H1 i g Q q =>
  h H1 i g _ fun ds vs F2 H2 hd s hv => ⟨by rw [hv.length]; exact sz_of (hz ds hd), fun p hp => by
    have s3 : Step pt F2 H2 (upd F2 p (.tup vs)) (upd H2 p (.tup vs)) := .laid s.inn s.good hp
    exact q (.tuple ds) _ _ _ ⟨ds, rfl, hd⟩ (s.trans s3) (.tup upd_same (RpAll.mono s3.sub _ _ hv))⟩
theorem g_lst {R : List PyData → Prop} (h : EvsG K pt ts σ F R) (hz : ∀ ds, R ds → ds.length ≤ 100000) : EvG K pt (tLst ts) σ F (fun x => ∃ ds, x = .list ds ∧ R ds) := fun H1 i g Q q =>
  h H1 i g _ fun ds vs F2 H2 hd s hv => ⟨by rw [hv.length]; exact sz_of (hz ds hd), fun p hp => by
    have s3 : Step pt F2 H2 (upd F2 p (.lst vs)) (upd H2 p (.lst vs)) := .laid s.inn s.good hp
    exact q (.list ds) _ _ _ ⟨ds, rfl, hd⟩ (s.trans s3) (.lst upd_same (RpAll.mono s3.sub _ _ hv))⟩
theorem g_tupI {ds : List PyData} (h : EvsG K pt ts σ F (· = ds)) (hz : ds.length ≤ 100000) : EvG K pt (tTup ts) σ F (Is (.tuple ds)) := (g_tup h fun _ e => by rw [e]; exact hz).imp fun _ ⟨_, e, e2⟩ => by rw [e, e2]
theorem g_lstI {ds : List PyData} (h : EvsG K pt ts σ F (· = ds)) (hz : ds.length ≤ 100000) : EvG K pt (tLst ts) σ F (Is (.list ds)) := (g_lst h fun _ e => by rw [e]; exact hz).imp fun _ ⟨_, e, e2⟩ => by rw [e, e2]
/-- tests -/
theorem et_of {b : Bool} (h : EvG K pt te σ F (Is (.bool b))) : EtG pt (tTest te) σ F (· = b) := fun H1 i g Q q => h H1 i g _ fun d v F2 H2 hd s hv => by
  subst hd
  exact ⟨b, rp_bool hv, q b F2 H2 rfl s⟩
theorem et_B {b : Bool} (h : EvG K pt te σ F (Is (.bool b))) : EtG pt (tB te) σ F (· = b) := fun H1 i g Q q => h H1 i g _ fun d v F2 H2 hd s hv => by
  subst hd
  exact ⟨b, rp_bool hv, q b F2 H2 rfl s⟩
theorem et_yes : EtG pt tYes σ F (· = true) := fun H1 i g Q q => q true F H1 rfl (.refl i g)
theorem et_not {b : Bool} (h : EtG pt t σ F (· = b)) : EtG pt (tNot t) σ F (· = !b) := fun H1 i g Q q => h H1 i g _ fun c F2 H2 hc s => by
  subst hc
  exact q _ F2 H2 rfl s
theorem et_and {a b : Bool} (h1 : EtG pt t σ F (· = a)) (h2 : a = true → EtG pt u σ F (· = b)) : EtG pt (tAnd t u) σ F (· = (a && b)) := fun H1 i g Q q => h1 H1 i g _ fun c F2 H2 hc s => by
  subst hc
  cases c with
  | true => exact (h2 rfl).mono s.sub H2 s.inn s.good Q fun b' F3 H3 hb s3 => q b' F3 H3 (by rw [hb]; rfl) (s.trans s3)
  | false => exact q false F2 H2 rfl s
theorem et_or {a b : Bool} (h1 : EtG pt t σ F (· = a)) (h2 : a = false → EtG pt u σ F (· = b)) : EtG pt (tOr t u) σ F (· = (a || b)) := fun H1 i g Q q => h1 H1 i g _ fun c F2 H2 hc s => by
  subst hc
  cases c with
  | false => exact (h2 rfl).mono s.sub H2 s.inn s.good Q fun b' F3 H3 hb s3 => q b' F3 H3 (by rw [hb]; rfl) (s.trans s3)
  | true => exact q true F2 H2 rfl s
theorem g_andV {a b : Bool} (h1 : EvG K pt ta σ F (Is (.bool a))) (h2 : a = true → EvG K pt tb σ F (Is (.bool b))) : EvG K pt (tAndV ta tb) σ F (Is (.bool (a && b))) := fun H1 i g Q q => h1 H1 i g _ fun d v F2 H2 hd s hv => by
  subst hd
  refine ⟨a, rp_bool hv, ?_⟩
  cases a with
  | true => exact (h2 rfl).mono s.sub H2 s.inn s.good Q fun d' v' F3 H3 hd' s3 hv' => q d' v' F3 H3 hd' (s.trans s3) hv'
  | false => exact q _ _ F2 H2 rfl s (.bl false)
theorem g_orV {a b : Bool} (h1 : EvG K pt ta σ F (Is (.bool a))) (h2 : a = false → EvG K pt tb σ F (Is (.bool b))) : EvG K pt (tOrV ta tb) σ F (Is (.bool (a || b))) := fun H1 i g Q q => h1 H1 i g _ fun d v F2 H2 hd s hv => by
  subst hd
  refine ⟨a, rp_bool hv, ?_⟩
  cases a with
  | false => exact (h2 rfl).mono s.sub H2 s.inn s.good Q fun d' v' F3 H3 hd' s3 hv' => q d' v' F3 H3 hd' (s.trans s3) hv'
  | true => exact q _ _ F2 H2 rfl s (.bl true)
theorem g_notV {a : Bool} (h : EvG K pt ta σ F (Is (.bool a))) : EvG K pt (tNotV ta) σ F (Is (.bool (!a))) := fun H1 i g Q q => h H1 i g _ fun d v F2 H2 hd s hv => by
  subst hd
  exact ⟨a, rp_bool hv, q _ _ F2 H2 rfl s (.bl _)⟩
theorem g_if {b : Bool} (h : EtG pt t σ F (· = b)) (h1 : b = true → EvG K pt ta σ F R) (h2 : b = false → EvG K pt tb σ F R) : EvG K pt (tIf t ta tb) σ F R := fun H1 i g Q q => h H1 i g _ fun c F2 H2 hc s => by
  subst hc
  cases c with
  | true => exact (h1 rfl).mono s.sub H2 s.inn s.good Q fun d' v' F3 H3 hd' s3 hv' => q d' v' F3 H3 hd' (s.trans s3) hv'
  | false => exact (h2 rfl).mono s.sub H2 s.inn s.good Q fun d' v' F3 H3 hd' s3 hv' => q d' v' F3 H3 hd' (s.trans s3) hv'
/-- a value from an operation that lays nothing -/
theorem rv_val (h : ∀ F H x y, Ex F H → Rp K F x d → Rp K F y e → ∃ v, (∀ Q : VK, Q v H → r x y H Q) ∧ Rp K F v z) : RvG K r d e (Is z) := fun F H x y i hx hy Q q => by
  obtain ⟨v, k, hv⟩ := h F H x y i hx hy
  exact k Q (q z v F H rfl (.refl i .nil) hv)
theorem rc_val {r : List V → Hp → VK → Prop} {ds : List PyData} (h : ∀ F H vs, Ex F H → RpAll K F vs ds → ∃ v, (∀ Q : VK, Q v H → r vs H Q) ∧ Rp K F v z) : RcG K r ds (Is z) := fun F H vs i hx Q q => by
  obtain ⟨v, k, hv⟩ := h F H vs i hx
  exact k Q (q z v F H rfl (.refl i .nil) hv)
theorem rv_I0 {g : Int → Int → V} {f : Int → Int → PyData} {i j : Int} (hg : ∀ F, Rp K F (g i j) (f i j)) : RvG K (rI0 g) (.int i) (.int j) (Is (f i j)) := rv_val fun F H x y _ hx hy => ⟨g i j, fun Q q => ⟨i, j, rp_int hx, rp_int hy, q⟩, hg F⟩
theorem rv_I {C : Int → Int → Prop} {g : Int → Int → V} {f : Int → Int → PyData} {i j : Int} (hc : C i j) (hg : ∀ F, Rp K F (g i j) (f i j)) : RvG K (rI C g) (.int i) (.int j) (Is (f i j)) := rv_val fun F H x y _ hx hy => ⟨g i j, fun Q q => ⟨i, j, rp_int hx, rp_int hy, hc, q⟩, hg F⟩
theorem rv_eqD (hd : SeqAt.shaped d = true) (he : SeqAt.shaped e = true) : RvG K (rEqD K) d e (Is (.bool (PyData.eqv d e))) := rv_val fun F H x y i hx hy => ⟨_, fun Q q => ⟨d, e, Rp.dp _ _ (Rp.mono i _ _ hx), Rp.dp _ _ (Rp.mono i _ _ hy), hd, he, q⟩, .bl _⟩
theorem rv_neD (hd : SeqAt.shaped d = true) (he : SeqAt.shaped e = true) : RvG K (rNeD K) d e (Is (.bool (!PyData.eqv d e))) := rv_val fun F H x y i hx hy => ⟨_, fun Q q => ⟨d, e, Rp.dp _ _ (Rp.mono i _ _ hx), Rp.dp _ _ (Rp.mono i _ _ hy), hd, he, q⟩, .bl _⟩
theorem g_cb {r : List V → Hp → VK → Prop} {R1 : List PyData → Prop} (h : EvsG K pt ts σ F R1) (hr : ∀ ds, R1 ds → RcG K r ds R) : EvG K pt (tCB r ts) σ F R := fun H1 i g Q q =>
  h H1 i g _ fun ds vs F2 H2 hd s hv => hr ds hd F2 H2 vs s.inn hv Q fun z v F3 H3 hz s3 hv' => q z v F3 H3 hz (s.trans (s3.lift s.good)) hv'
end
end Fv

namespace Fv
open PySem L2 Evl
/-! ### what is walked -/
structure Yields (K : PySem.W.Frag) (J : It) (F : Hp) (ds : List PyData) : Prop where
  go : ∀ i H, Ex F H → i < ds.length → J.go i H
  stop : ∀ H, Ex F H → J.stop ds.length H
  yld : ∀ i H x H', Ex F H → i < ds.length → J.yld i H x H' → H' = H ∧ ∃ d, ds[i]? = some d ∧ Rp K F x d
def WiG (K : PySem.W.Frag) (pt : Option Pt) (wi : TI) (σ : L2.St) (F : Hp) (R : List PyData → Prop) : Prop :=
  ∀ H1, Ex F H1 → Good pt F H1 → ∀ RR : It → Hp → Prop, (∀ ds J F2 H2, R ds → Step pt F H1 F2 H2 → Yields K J F2 ds → RR J H2) → wi σ H1 RR
section
variable {K : PySem.W.Frag} {pt : Option Pt} {σ : L2.St} {F F' : Hp} {te ta tb : TE} {ts tr : TA} {t u : TT} {R R1 S2 R3 : PD} {d e z : PyData} {r : L2.R2} {wi wi1 : TI}
theorem rd_inj {H : Hp} {a : Addr} {u v : HO} (h : H a = some u) (h' : H a = some v) : u = v := Option.some.inj (h.symm.trans h')
theorem w_listI {ds : List PyData} (h : EvG K pt te σ F (Is (.list ds))) : WiG K pt (iList K te) σ F (· = ds) := fun H1 i g RR q =>
  h H1 i g _ fun d v F2 H2 hd s hv => by
    subst hd
    obtain ⟨a, xs, rfl, hl, ha⟩ := rp_lst hv
    refine ⟨a, rfl, ⟨xs, sq_of (s.inn _ _ hl)⟩, q ds _ F2 H2 rfl s ⟨fun i H e hi => ?_, fun H e => ⟨xs, sq_of (e _ _ hl), Nat.le_of_eq ha.length⟩, fun i H x H' e hi y => ?_⟩⟩
    · have hi' : i < xs.length := by rw [ha.length]; exact hi
      exact ⟨xs, xs[i], sq_of (e _ _ hl), List.getElem?_eq_getElem hi'⟩
    · exact ⟨y.1, ha.get (y.2 xs (sq_of (e _ _ hl)))⟩
theorem w_tupI {ds : List PyData} (h : EvG K pt te σ F (Is (.tuple ds))) : WiG K pt (iTup K te) σ F (· = ds) := fun H1 i g RR q =>
  h H1 i g _ fun d v F2 H2 hd s hv => by
    subst hd
    obtain ⟨a, xs, rfl, hl, ha⟩ := rp_tup hv
    refine ⟨a, rfl, ⟨xs, tx s.inn hl⟩, q ds _ F2 H2 rfl s ⟨fun i H e hi => ?_, fun H e => ⟨xs, tx e hl, Nat.le_of_eq ha.length⟩, fun i H x H' e hi y => ?_⟩⟩
    · have hi' : i < xs.length := by rw [ha.length]; exact hi
      exact ⟨xs, xs[i], tx e hl, List.getElem?_eq_getElem hi'⟩
    · exact ⟨y.1, ha.get (y.2 xs (tx e hl))⟩
/-- the numbers lo, lo + 1, .. -/
def rng (lo : Int) (n : Nat) : List PyData := (List.range n).map fun (k : Nat) => PyData.int (lo + (k : Int))
theorem rng_len (lo : Int) (n : Nat) : (rng lo n).length = n := by unfold rng; simp
theorem rng_get {lo : Int} {n i : Nat} (h : i < n) : (rng lo n)[i]? = some (.int (lo + (i : Int))) := by unfold rng; rw [List.getElem?_map, List.getElem?_range h]; rfl
theorem y_rng (lo : Int) (n : Nat) (F : Hp) : Yields K (Itr lo n) F (rng lo n) := ⟨fun i H _ hi => by rw [rng_len] at hi; exact hi, fun H _ => by rw [rng_len]; exact Nat.le_refl _, fun i H x H' _ hi y => by
  rw [rng_len] at hi
  exact ⟨y.1, _, rng_get hi, by rw [y.2]; exact .int _⟩⟩
theorem w_rng1 {R0 : List PyData → Prop} (h : EvsG K pt ts σ F R0) (hn : ∀ ds, R0 ds → ∃ n : Int, ds = [.int n] ∧ -(2 ^ 62) ≤ n ∧ n < 2 ^ 62) : WiG K pt (iRng1 ts) σ F (fun l => ∃ n : Int, R0 [.int n] ∧ l = rng 0 n.toNat) := fun H1 i g RR q =>
  h H1 i g _ fun ds vs F2 H2 hd s hv => by
    obtain ⟨n, rfl, h1, h2⟩ := hn ds hd
    have e : vs = [.int n] := rpAll_ints (ns := [n]) hv
    subst e
    exact ⟨n, rfl, h1, h2, q _ _ F2 H2 ⟨n, hd, rfl⟩ s (y_rng 0 n.toNat F2)⟩
theorem w_rng1I {n : Int} (h : EvsG K pt ts σ F (· = [.int n])) (h1 : -(2 ^ 62) ≤ n) (h2 : n < 2 ^ 62) : WiG K pt (iRng1 ts) σ F (· = rng 0 n.toNat) := fun H1 i g RR q =>
  w_rng1 h (fun ds e => ⟨n, e, h1, h2⟩) H1 i g RR fun ds J F2 H2 hd s y => by
    obtain ⟨m, e1, e2⟩ := hd
    have : m = n := by injection e1 with e1; injection e1
    subst this
    exact q ds J F2 H2 e2 s y
theorem w_rng2I {a b : Int} (h : EvsG K pt ts σ F (· = [.int a, .int b])) (h1 : -(2 ^ 62) ≤ a) (h2 : a < 2 ^ 62) (h3 : -(2 ^ 62) ≤ b) (h4 : b < 2 ^ 62) : WiG K pt (iRng2 ts) σ F (· = rng a (b - a).toNat) := fun H1 i g RR q =>
  h H1 i g _ fun ds vs F2 H2 hd s hv => by
    subst hd
    have e : vs = [.int a, .int b] := rpAll_ints (ns := [a, b]) hv
    subst e
    exact ⟨a, b, rfl, ⟨h1, h2, h3, h4⟩, q _ _ F2 H2 rfl s (y_rng a _ F2)⟩

/-! ### comprehensions -/
/-- a list that grows at Dl beside the part that stays -/
def Grow (K : PySem.W.Frag) (pt : Option Pt) (F H1 : Hp) (Dl : Addr) (A : List PyData → Prop) (H' : Hp) : Prop :=
  ∃ F' l acc, Step pt F H1 F' H' ∧ F' Dl = none ∧ H' Dl = some (.lst acc) ∧ RpAll K F' acc l ∧ A l
theorem Good.upd {F H : Hp} {Dl : Addr} {o : HO} (g : Good pt F H) (h : ∀ q, pt = some q → Dl ≠ q.p ∧ Dl ≠ q.l) : Good pt F (upd H Dl o) := fun q hq => by
  obtain ⟨g1, g2⟩ := g q hq
  obtain ⟨a, b, c, e, r⟩ := g2.ex
  refine ⟨g1, g2.ne, ?_, g2.few, a, b, c, ?_, r⟩
  · rw [upd_ne (h q hq).2.symm]; exact g2.ls
  · rw [upd_ne (h q hq).1.symm]; exact e
theorem off_pot {F H : Hp} {Dl : Addr} (g : Good pt F H) (h : H Dl = none) : ∀ q, pt = some q → Dl ≠ q.p ∧ Dl ≠ q.l := fun q hq => by
  obtain ⟨_, g2⟩ := g q hq
  exact ⟨fun z => g2.some (by rw [← z]; exact h), fun z => by have := g2.ls; rw [← z, h] at this; cases this⟩
theorem Step.put {F H1 F' H' : Hp} {Dl : Addr} {o : HO} (s : Step pt F H1 F' H') (g : Good pt F H1) (h1 : H1 Dl = none) (f : F' Dl = none) : Step pt F H1 F' (upd H' Dl o) :=
  ⟨s.sub, fun a u h => by
    have : a ≠ Dl := fun z => by rw [z, f] at h; cases h
    rw [upd_ne this]; exact s.inn a u h, fun a u n h => by
    have : a ≠ Dl := fun z => by rw [z, h1] at h; cases h
    rw [upd_ne this]; exact s.keep a u n h, s.good.upd (off_pot g h1), s.new⟩
theorem Grow.start {F H1 : Hp} {Dl : Addr} {A : List PyData → Prop} (i : Ex F H1) (g : Good pt F H1) (h : H1 Dl = none) (a : A []) : Grow K pt F H1 Dl A (upd H1 Dl (.lst [])) := by
  have f : F Dl = none := by
    cases w : F Dl with
    | none => rfl
    | some o => rw [i _ _ w] at h; cases h
  exact ⟨F, [], [], (Step.refl i g).put g h f, f, upd_same, .nil, a⟩
/-- frozen at the end -/
theorem Grow.done {F H1 H' : Hp} {Dl : Addr} {A : List PyData → Prop} (g : Good pt F H1) (h : H1 Dl = none) (w : Grow K pt F H1 Dl A H') : ∃ F2 l, A l ∧ Step pt F H1 F2 H' ∧ Rp K F2 (.ref Dl) (.list l) := by
  obtain ⟨F', l, acc, s, f, e, r, a⟩ := w
  have e1 : Ex F' (upd F' Dl (.lst acc)) := Ex.new f
  refine ⟨upd F' Dl (.lst acc), l, a, ⟨s.sub.trans e1, fun b u hb => ?_, s.keep, fun q hq => ⟨?_, (s.good q hq).2⟩, fun b h1 h2 => ?_⟩, .lst upd_same (RpAll.mono e1 _ _ r)⟩
  · by_cases z : b = Dl
    · rw [z, upd_same] at hb; rw [z, e]; exact hb
    · rw [upd_ne z] at hb; exact s.inn b u hb
  · rw [upd_ne (off_pot g h q hq).1.symm]; exact (s.good q hq).1
  · have z : b ≠ Dl := loose_ne h2 h
    rw [upd_ne z]; exact s.new b h1 h2
theorem Grow.imp {F H1 H' : Hp} {Dl : Addr} {A B : List PyData → Prop} (w : Grow K pt F H1 Dl A H') (k : ∀ l, A l → B l) : Grow K pt F H1 Dl B H' := by
  obtain ⟨F', l, acc, s, f, e, r, a⟩ := w
  exact ⟨F', l, acc, s, f, e, r, k l a⟩
/-- a piece runs beside the list -/
theorem Step.beside {F H1 F' H' F2 H2 : Hp} {Dl : Addr} {acc : List V} (g : Good pt F H1) (h : H1 Dl = none) (f : F' Dl = none) (e : H' Dl = some (.lst acc)) (s : Step pt F' H' F2 H2) : F2 Dl = none ∧ H2 Dl = some (.lst acc) :=
  ⟨s.new Dl f (by rw [e]; simp), s.keep Dl _ (fun q hq => (off_pot g h q hq).1) e⟩
/-- one turn: the test, then the item -/
theorem Grow.turn {F H1 H' : Hp} {Dl : Addr} {A B : List PyData → Prop} {σ2 : L2.St} (g : Good pt F H1) (h : H1 Dl = none) (w : Grow K pt F H1 Dl A H') (hz : ∀ l, A l → l.length < 100000)
    (P : Bool → Prop) (ht : ∀ F', Ex F F' → EtG pt t σ2 F' P) (he : P true → ∀ F', Ex F F' → EvG K pt te σ2 F' R) (hy : P true → ∀ l d, A l → R d → B (l ++ [d])) (hn : P false → ∀ l, A l → B l) :
    t σ2 H' fun b H3 => if b = true then te σ2 H3 fun y H4 => ∃ acc, H4 Dl = some (.lst acc) ∧ acc.length < sizeLine ∧ Grow K pt F H1 Dl B (upd H4 Dl (.lst (acc ++ [y]))) else Grow K pt F H1 Dl B H3 := by
  obtain ⟨F', l, acc, s, f, e, r, a⟩ := w
  refine ht F' s.sub H' s.inn s.good _ fun b F2 H2 hb s2 => ?_
  obtain ⟨f2, e2⟩ := s2.beside g h f e
  cases b with
  | true =>
    show te σ2 H2 fun y H4 => ∃ acc, H4 Dl = some (.lst acc) ∧ acc.length < sizeLine ∧ Grow K pt F H1 Dl B (upd H4 Dl (.lst (acc ++ [y])))
    refine he hb F2 (s.sub.trans s2.sub) H2 s2.inn s2.good _ fun d v F3 H3 hd s3 hv => ?_
    obtain ⟨f3, e3⟩ := s3.beside g h f2 e2
    refine ⟨acc, e3, sz_lt (by rw [r.length]; exact hz l a), F3, l ++ [d], acc ++ [v], ((s.trans s2).trans s3).put g h f3, f3, upd_same, ?_, hy hb l d a hd⟩
    exact RpAll.append (RpAll.mono (s2.sub.trans s3.sub) _ _ r) (.one hv)
  | false =>
    show Grow K pt F H1 Dl B H2
    exact ⟨F2, l, acc, s.trans s2, f2, e2, RpAll.mono s2.sub _ _ r, hn hb l a⟩
/-- [e for x in .. if ..]: A tells the list made behind i turns -/
theorem g_lc {j : Nat} {vs : List Nat} {RS : List PyData → Prop} (A : List PyData → Nat → List PyData → Prop) (hw : WiG K pt wi σ F RS) (hz : ∀ ds, RS ds → ds.length ≤ 50000) (hwp : ∀ x, wipe ((wipe σ vs).set j (some x)) vs = wipe σ vs)
    (hA : ∀ ds i l, RS ds → A ds i l → l.length ≤ i) (h0 : ∀ ds, RS ds → A ds 0 [])
    (hs : ∀ ds i d, RS ds → ds[i]? = some d → ∃ (P : Bool → Prop) (Re : PD), (P true → ∀ l x, A ds i l → Re x → A ds (i + 1) (l ++ [x])) ∧ (P false → ∀ l, A ds i l → A ds (i + 1) l) ∧
      ∀ F', Ex F F' → ∀ x, Rp K F' x d → EtG pt t ((wipe σ vs).set j (some x)) F' P ∧ (P true → EvG K pt te ((wipe σ vs).set j (some x)) F' Re)) :
    EvG K pt (tLc wi (gName j) t te vs) σ F (fun x => ∃ ds l, x = .list l ∧ RS ds ∧ A ds ds.length l) := fun H0 i0 g0 Q q =>
  hw H0 i0 g0 _ fun ds J F1 H1 hds s1 Y => fun Dl hD => by
    have gi := s1.inn
    have gg := s1.good
    refine ⟨fun i m H => m = ds.length - i ∧ i ≤ ds.length ∧ Grow K pt F1 H1 Dl (A ds i) H, ⟨ds.length, by simp, Nat.zero_le _, .start gi gg hD (h0 ds hds)⟩, ?_⟩
    rintro i m H ⟨rfl, hi, w⟩
    obtain ⟨F', l, acc, s, f, e, r, a⟩ := id w
    have eH : Ex F1 H := s.sub.trans s.inn
    by_cases hlt : i < ds.length
    · refine .inr ⟨Y.go i H eH hlt, Grow K pt F1 H1 Dl (A ds (i + 1)), fun H' p' => ⟨ds.length - (i + 1), by omega, rfl, hlt, p'⟩, fun x H' y => ?_⟩
      obtain ⟨rfl, d, hd, hx⟩ := Y.yld i H x H' eH hlt y
      obtain ⟨P, Re, k1, k2, k3⟩ := hs ds i d hds hd
      refine ⟨hwp x, w.turn gg hD (fun l' a' => by have := hA ds i l' hds a'; have := hz ds hds; omega) P (fun F'' e'' => (k3 F'' (s1.sub.trans e'') x (Rp.mono e'' _ _ hx)).1) (fun hp F'' e'' => (k3 F'' (s1.sub.trans e'') x (Rp.mono e'' _ _ hx)).2 hp) (fun hp l' x' => k1 hp l' x') (fun hp l' => k2 hp l')⟩
    · have hE : i = ds.length := Nat.le_antisymm hi (Nat.le_of_not_lt hlt)
      subst hE
      refine .inl ⟨Y.stop H eH, ?_⟩
      obtain ⟨F2, l2, a2, s2, r2⟩ := w.done gg hD
      exact q _ _ F2 H ⟨ds, l2, rfl, hds, a2⟩ (s1.trans s2) r2
theorem take_succ {ds : List PyData} {i : Nat} {d : PyData} (h : ds[i]? = some d) : ds.take (i + 1) = ds.take i ++ [d] := by
  rw [List.take_add_one, h]; rfl
/-- the same where test and item are known -/
theorem g_lcI {j : Nat} {vs : List Nat} {ds : List PyData} (p : PyData → Bool) (f : PyData → PyData) (hw : WiG K pt wi σ F (· = ds)) (hz : ds.length ≤ 50000) (hwp : ∀ x, wipe ((wipe σ vs).set j (some x)) vs = wipe σ vs)
    (ht : ∀ d ∈ ds, ∀ F', Ex F F' → ∀ x, Rp K F' x d → EtG pt t ((wipe σ vs).set j (some x)) F' (· = p d))
    (he : ∀ d ∈ ds, p d = true → ∀ F', Ex F F' → ∀ x, Rp K F' x d → EvG K pt te ((wipe σ vs).set j (some x)) F' (Is (f d))) :
    EvG K pt (tLc wi (gName j) t te vs) σ F (Is (.list ((ds.filter p).map f))) := by
  refine (g_lc (RS := (· = ds)) (fun ds i l => l = ((ds.take i).filter p).map f) hw (fun _ e => e ▸ hz) hwp (fun ds i l _ a => ?_) (fun _ _ => by simp) (fun ds' i d e hd => ?_)).imp fun x hx => ?_
  · rw [a, List.length_map]
    exact Nat.le_trans (List.length_filter_le _ _) (by rw [List.length_take]; exact Nat.min_le_left _ _)
  · subst e
    have hm : d ∈ ds' := List.mem_of_getElem? hd
    refine ⟨(· = p d), Is (f d), fun hp l x a ex => ?_, fun hp l a => ?_, fun F' e x hx => ⟨ht d hm F' e x hx, fun hp => he d hm hp.symm F' e x hx⟩⟩
    · rw [take_succ hd, List.filter_append, List.map_append, a, ex]
      simp [hp.symm]
    · rw [take_succ hd, List.filter_append, List.map_append, a]
      simp [hp.symm]
  · obtain ⟨ds', l, e1, e2, e3⟩ := hx
    subst e2
    rw [List.take_length] at e3
    show x = _
    rw [e1, e3]
/-- .. without a test -/
theorem g_lcM {j : Nat} {vs : List Nat} {ds : List PyData} (f : PyData → PyData) (hw : WiG K pt wi σ F (· = ds)) (hz : ds.length ≤ 50000) (hwp : ∀ x, wipe ((wipe σ vs).set j (some x)) vs = wipe σ vs)
    (he : ∀ d ∈ ds, ∀ F', Ex F F' → ∀ x, Rp K F' x d → EvG K pt te ((wipe σ vs).set j (some x)) F' (Is (f d))) :
    EvG K pt (tLc wi (gName j) tYes te vs) σ F (Is (.list (ds.map f))) :=
  (g_lcI (fun _ => true) f hw hz hwp (fun _ _ _ _ _ _ => et_yes) (fun d hd _ => he d hd)).is (congrArg (fun l => PyData.list (List.map f l)) (show ds.filter (fun _ => true) = ds from List.filter_eq_self.mpr (fun _ _ => rfl)))

/-! ### promises of defs that change nothing, calls -/
def PSp {ι : Type} (K : PySem.W.Frag) (A : ι → List PyData) (P : ι → Prop) (f : ι → PyData) : Sp := fun vs H Q _ => ∃ i F, P i ∧ Ex F H ∧ RpAll K F vs (A i) ∧ ∀ v F2 H2, Step none F H F2 H2 → Rp K F2 v (f i) → Q v H2
theorem PSp.len {ι : Type} {A : ι → List PyData} {P : ι → Prop} {f : ι → PyData} {n : Nat} (h : ∀ i, (A i).length = n) : ∀ vs H Q E, PSp K A P f vs H Q E → vs.length = n := fun vs H Q E ⟨i, F, _, _, r, _⟩ => by rw [r.length, h]
theorem g_call {ι : Type} {A : ι → List PyData} {P : ι → Prop} {f : ι → PyData} {ds : List PyData} {E : XK} (i : ι) (h : EvsG K pt ts σ F (· = ds)) (ha : ds = A i) (hp : P i) : EvG K pt (tCall (PSp K A P f) [] E ts) σ F (Is (f i)) := fun H1 e g Q q =>
  h H1 e g _ fun ds' vs F2 H2 hd s hv => by
    rw [hd, ha] at hv
    refine ⟨i, F2, hp, s.inn, by rw [List.append_nil]; exact hv, fun v F3 H3 s3 hv3 => q _ v F3 H3 rfl (s.trans (s3.lift s.good)) hv3⟩
end

/-! ### statements -/
section
variable {K : PySem.W.Frag} {pt : Option Pt} {σ : L2.St} {F0 H0 F H F' : Hp} {te ta tb : TE} {ts tr : TA} {t u : TT} {R R1 S2 R3 : PD} {d e z : PyData} {wi : TI} {D : Ends} {tu tw tz : TS}
theorem t_ret (s : Step pt F0 H0 F H) (h : EvG K pt te σ F R) (q : ∀ d v F2 H2, R d → Step pt F0 H0 F2 H2 → Rp K F2 v d → D.rt v H2) : tRet te D σ H := h H s.inn s.good _ fun d v F2 H2 hd s2 hv => q d v F2 H2 hd (s.trans s2) hv
theorem t_retI (s : Step pt F0 H0 F H) (h : EvG K pt te σ F (Is d)) (q : ∀ v F2 H2, Step pt F0 H0 F2 H2 → Rp K F2 v d → D.rt v H2) : tRet te D σ H := t_ret s h fun d' v F2 H2 e s2 hv => q v F2 H2 s2 (by rw [← (show d' = d from e)]; exact hv)
theorem t_asg {i : Nat} (s : Step pt F0 H0 F H) (h : EvG K pt te σ F R) (q : ∀ d v F2 H2, R d → Step pt F0 H0 F2 H2 → Ex F F2 → Rp K F2 v d → tz D (σ.set i (some v)) H2) : tSeq (tAsg te (gName i)) tz D σ H :=
  h H s.inn s.good _ fun d v F2 H2 hd s2 hv => q d v F2 H2 hd (s.trans s2) s2.sub hv
theorem t_asgI {i : Nat} (s : Step pt F0 H0 F H) (h : EvG K pt te σ F (Is d)) (q : ∀ v F2 H2, Step pt F0 H0 F2 H2 → Ex F F2 → Rp K F2 v d → tz D (σ.set i (some v)) H2) : tSeq (tAsg te (gName i)) tz D σ H :=
  t_asg s h fun d' v F2 H2 e s2 e2 hv => q v F2 H2 s2 e2 (by rw [← (show d' = d from e)]; exact hv)
theorem t_if {b : Bool} (s : Step pt F0 H0 F H) (h : EtG pt t σ F (· = b)) (h1 : b = true → ∀ F2 H2, Step pt F0 H0 F2 H2 → Ex F F2 → tu { D with nx := tz D } σ H2) (h2 : b = false → ∀ F2 H2, Step pt F0 H0 F2 H2 → Ex F F2 → tw { D with nx := tz D } σ H2) :
    tSeq (tIfS t tu tw) tz D σ H := h H s.inn s.good _ fun c F2 H2 hc s2 => by
  subst hc
  cases c with
  | true => exact h1 rfl F2 H2 (s.trans s2) s2.sub
  | false => exact h2 rfl F2 H2 (s.trans s2) s2.sub
theorem t_when {b : Bool} (s : Step pt F0 H0 F H) (h : EtG pt t σ F (· = b)) (h1 : b = true → ∀ F2 H2, Step pt F0 H0 F2 H2 → Ex F F2 → tu { D with nx := tz D } σ H2) (h2 : b = false → ∀ F2 H2, Step pt F0 H0 F2 H2 → Ex F F2 → tz D σ H2) :
    tSeq (tIfS t tu tNext) tz D σ H := t_if s h h1 h2
theorem t_if1 {b : Bool} (s : Step pt F0 H0 F H) (h : EtG pt t σ F (· = b)) (h1 : b = true → ∀ F2 H2, Step pt F0 H0 F2 H2 → Ex F F2 → tu D σ H2) (h2 : b = false → ∀ F2 H2, Step pt F0 H0 F2 H2 → Ex F F2 → tw D σ H2) :
    tIfS t tu tw D σ H := h H s.inn s.good _ fun c F2 H2 hc s2 => by
  subst hc
  cases c with
  | true => exact h1 rfl F2 H2 (s.trans s2) s2.sub
  | false => exact h2 rfl F2 H2 (s.trans s2) s2.sub
theorem t_drop (s : Step pt F0 H0 F H) (h : EvG K pt te σ F R) (q : ∀ F2 H2, Step pt F0 H0 F2 H2 → Ex F F2 → tz D σ H2) : tSeq (tDrop te) tz D σ H := h H s.inn s.good _ fun d v F2 H2 _ s2 _ => q F2 H2 (s.trans s2) s2.sub
/-- for x in ..: I tells the slots behind i turns -/
theorem t_for {j : Nat} {ds : List PyData} (s : Step pt F0 H0 F H) (hw : WiG K pt wi σ F (· = ds)) (I : Nat → L2.St → Hp → Prop) (h0 : ∀ F2, Ex F F2 → I 0 σ F2)
    (hs : ∀ i d, ds[i]? = some d → ∀ σ' F' H' x, I i σ' F' → Step pt F0 H0 F' H' → Ex F F' → Rp K F' x d →
      ∀ N : L2.St → Hp → Prop, (∀ σ2 F2 H2, I (i + 1) σ2 F2 → Step pt F0 H0 F2 H2 → Ex F' F2 → N σ2 H2) → tu { D with nx := N, ct := N, bk := tz D } (σ'.set j (some x)) H')
    (hd : ∀ σ' F' H', I ds.length σ' F' → Step pt F0 H0 F' H' → Ex F F' → tz D σ' H') : tSeq (tFor wi (gName j) tu) tz D σ H :=
  hw H s.inn s.good _ fun ds' J F1 H1 e s1 Y => by
    subst e
    refine ⟨fun i m σ' H' => m = ds'.length - i ∧ i ≤ ds'.length ∧ ∃ F', Step pt F0 H0 F' H' ∧ Ex F1 F' ∧ I i σ' F', ⟨ds'.length, by simp, Nat.zero_le _, F1, s.trans s1, Ex.refl _, h0 F1 s1.sub⟩, ?_⟩
    rintro i m σ' H' ⟨rfl, hi, F', s', e', p⟩
    have eH : Ex F1 H' := e'.trans s'.inn
    by_cases hlt : i < ds'.length
    · refine .inr ⟨Y.go i H' eH hlt, fun σ2 H2 => ∃ F2, Step pt F0 H0 F2 H2 ∧ Ex F1 F2 ∧ I (i + 1) σ2 F2, fun σ2 H2 ⟨F2, a, b, c⟩ => ⟨ds'.length - (i + 1), by omega, rfl, hlt, F2, a, b, c⟩, fun x H2 y => ?_⟩
      obtain ⟨rfl, d, hdd, hx⟩ := Y.yld i H' x H2 eH hlt y
      exact hs i d hdd σ' F' _ x p s' (s1.sub.trans e') (Rp.mono e' _ _ hx) _ fun σ2 F2 H2 a b c => ⟨F2, b, e'.trans c, a⟩
    · have hE : i = ds'.length := Nat.le_antisymm hi (Nat.le_of_not_lt hlt)
      subst hE
      exact .inl ⟨Y.stop H' eH, hd σ' F' H' p s' (s1.sub.trans e')⟩
end
end Fv

namespace Fv
open PySem L2 Evl
/-! ### == of data -/
/-- a tuple of whole numbers, a list and a tuple of such -/
abbrev dT (ns : List Int) : PyData := .tuple (ns.map PyData.int)
abbrev dLT (ls : List (List Int)) : PyData := .list (ls.map dT)
abbrev dTT (ls : List (List Int)) : PyData := .tuple (ls.map dT)
theorem eqvAll_ints : ∀ ns ms : List Int, PyData.eqvAll (ns.map .int) (ms.map .int) = decide (ns = ms)
  | [], [] => by simp [PyData.eqvAll]
  | [], m :: ms => by simp [PyData.eqvAll]
  | n :: ns, [] => by simp [PyData.eqvAll]
  | n :: ns, m :: ms => by
    simp only [List.map_cons, PyData.eqvAll, PyData.eqv, eqvAll_ints ns ms]
    by_cases h : n = m <;> by_cases k : ns = ms <;> simp [h, k]
theorem eqv_dT (ns ms : List Int) : PyData.eqv (dT ns) (dT ms) = decide (ns = ms) := by
  simp only [PyData.eqv]; exact eqvAll_ints ns ms
theorem any_dT (ls : List (List Int)) (m : List Int) : (ls.map dT).any (fun z => PyData.eqv z (dT m)) = decide (m ∈ ls) := by
  rw [List.any_map]
  induction ls with
  | nil => simp
  | cons l ls ih =>
    rw [List.any_cons, ih]
    simp only [Function.comp, eqv_dT]
    by_cases h : l = m
    · subst h; simp
    · by_cases k : m ∈ ls <;> simp [h, k, Ne.symm h]
theorem shaped_of {d : PyData} (h1 : d.canLay0 = true) (h2 : d.depth ≤ 64) : SeqAt.shaped d = true := by unfold SeqAt.shaped; simp [h1, h2]
theorem canLayAll_ints : ∀ ns : List Int, PyData.canLayAll0 (ns.map .int) = true
  | [] => by simp [PyData.canLayAll0]
  | n :: ns => by simp [PyData.canLayAll0, PyData.canLay0, canLayAll_ints ns]
theorem depthAll_ints : ∀ ns : List Int, PyData.depthAll (ns.map .int) ≤ 1
  | [] => by simp [PyData.depthAll]
  | n :: ns => by
    have := depthAll_ints ns
    simp only [List.map_cons, PyData.depthAll, PyData.depth]
    omega
theorem canLay_dT (ns : List Int) : (dT ns).canLay0 = true := by simp [dT, PyData.canLay0, canLayAll_ints]
theorem depth_dT (ns : List Int) : (dT ns).depth ≤ 2 := by
  have := depthAll_ints ns
  simp only [dT, PyData.depth]; omega
theorem shaped_dT (ns : List Int) : SeqAt.shaped (dT ns) = true := shaped_of (canLay_dT ns) (by have := depth_dT ns; omega)
theorem canLayAll_dT : ∀ ls : List (List Int), PyData.canLayAll0 (ls.map dT) = true
  | [] => by simp [PyData.canLayAll0]
  | n :: ns => by simp only [List.map_cons, PyData.canLayAll0, canLay_dT, canLayAll_dT ns]; rfl
theorem depthAll_dT : ∀ ls : List (List Int), PyData.depthAll (ls.map dT) ≤ 2
  | [] => by simp [PyData.depthAll]
  | n :: ns => by
    have := depthAll_dT ns
    have := depth_dT n
    simp only [List.map_cons, PyData.depthAll]
    omega
theorem shaped_dLT (ls : List (List Int)) : SeqAt.shaped (dLT ls) = true := shaped_of (by simp only [dLT, PyData.canLay0]; exact canLayAll_dT ls) (by have := depthAll_dT ls; simp only [dLT, PyData.depth]; omega)
section
variable {K : PySem.W.Frag} {pt : Option Pt} {σ : L2.St} {F F' H : Hp} {te ta tb : TE} {ts tr : TA} {t u : TT} {R R1 S2 R3 : PD} {d e z : PyData} {r : L2.R2} {wi wi1 : TI}
/-! ### operations -/
theorem rv_add {i j : Int} : RvG K (rI0 fun i j => .int (i + j)) (.int i) (.int j) (Is (.int (i + j))) := rv_I0 (f := fun i j => .int (i + j)) fun F => .int _
theorem rv_sub {i j : Int} : RvG K (rI0 fun i j => .int (i - j)) (.int i) (.int j) (Is (.int (i - j))) := rv_I0 (f := fun i j => .int (i - j)) fun F => .int _
theorem rv_bl {g : Int → Int → Bool} {i j : Int} : RvG K (rI0 fun i j => .bl (g i j)) (.int i) (.int j) (Is (.bool (g i j))) := rv_I0 (f := fun i j => .bool (g i j)) fun F => .bl _
/-- flat things of data -/
def flatD : PyData → Bool
  | .none => true | .bool _ => true | .int _ => true | .str _ => true | _ => false
def unV : PyData → V
  | .none => .non | .bool b => .bl b | .int i => .int i | .str x => .str x | _ => .non
theorem rp_flat {v : V} (h : flatD d = true) (r : Rp K F v d) : v = unV d := by
  cases d <;> first | (cases r; rfl) | (cases h)
def isNone : PyData → Bool
  | .none => true
  | _ => false
theorem rp_isN {v : V} (r : Rp K F v d) : decide (v = .non) = isNone d := by
  cases r <;> simp [isNone]
theorem rv_isN {d : PyData} : RvG K (fun x y H Q => y = .non ∧ Q (.bl (decide (x = .non))) H) d .none (Is (.bool (isNone d))) := rv_val fun F H x y _ hx hy => ⟨_, fun Q q => ⟨rp_none hy, q⟩, by rw [rp_isN hx]; exact .bl _⟩
theorem rv_notN {d : PyData} : RvG K (fun x y H Q => y = .non ∧ Q (.bl (!decide (x = .non))) H) d .none (Is (.bool (!isNone d))) := rv_val fun F H x y _ hx hy => ⟨_, fun Q q => ⟨rp_none hy, q⟩, by rw [rp_isN hx]; exact .bl _⟩
theorem inV_ints (i : Int) (ns : List Int) : inV (.int i) (ns.map V.int) = decide (i ∈ ns) := by
  unfold inV
  rw [List.any_map]
  induction ns with
  | nil => simp
  | cons n ns ih =>
    rw [List.any_cons, ih]
    by_cases h : n = i
    · subst h; simp [eqV]
    · by_cases k : i ∈ ns <;> simp [eqV, h, k, Ne.symm h]
theorem flat_ints (ns : List Int) : (ns.map V.int).all flatV = true := by induction ns <;> simp_all [flatV]
theorem rv_inT {i : Int} {ns : List Int} : RvG K (rIn K false) (.int i) (dT ns) (Is (.bool (decide (i ∈ ns)))) := rv_val fun F H x y e hx hy => by
  obtain ⟨a, xs, rfl, hl, ha⟩ := rp_tup hy
  have e1 := rpAll_ints ha
  subst e1
  rw [rp_int hx]
  exact ⟨_, fun Q q => ⟨a, _, rfl, .inr (tx e hl), rfl, flat_ints ns, q⟩, by rw [inV_ints]; exact .bl _⟩
theorem rv_ninT {i : Int} {ns : List Int} : RvG K (rIn K true) (.int i) (dT ns) (Is (.bool (!decide (i ∈ ns)))) := rv_val fun F H x y e hx hy => by
  obtain ⟨a, xs, rfl, hl, ha⟩ := rp_tup hy
  have e1 := rpAll_ints ha
  subst e1
  rw [rp_int hx]
  exact ⟨_, fun Q q => ⟨a, _, rfl, .inr (tx e hl), rfl, flat_ints ns, q⟩, by rw [inV_ints]; exact .bl _⟩
theorem rv_inD {m : List Int} {ls : List (List Int)} : RvG K (rInD K) (dT m) (dLT ls) (Is (.bool (decide (m ∈ ls)))) := rv_val fun F H x y e hx hy =>
  ⟨_, fun Q q => ⟨dT m, ls.map dT, Rp.dp _ _ (Rp.mono e _ _ hx), Rp.dp _ _ (Rp.mono e _ _ hy), shaped_dT m, shaped_dLT ls, q⟩, by rw [any_dT]; exact .bl _⟩
theorem rv_ninD {m : List Int} {ls : List (List Int)} : RvG K (rNotInD K) (dT m) (dLT ls) (Is (.bool (!decide (m ∈ ls)))) := rv_val fun F H x y e hx hy =>
  ⟨_, fun Q q => ⟨dT m, ls.map dT, Rp.dp _ _ (Rp.mono e _ _ hx), Rp.dp _ _ (Rp.mono e _ _ hy), shaped_dT m, shaped_dLT ls, q⟩, by rw [any_dT]; exact .bl _⟩
theorem rv_neT {m n : List Int} : RvG K (rNeD K) (dT m) (dT n) (Is (.bool (!decide (m = n)))) := fun F H x y i hx hy Q q => rv_neD (shaped_dT m) (shaped_dT n) F H x y i hx hy Q fun z v F2 H2 hz => q z v F2 H2 (by rw [show z = _ from hz, eqv_dT])
theorem atI_rp {ds : List PyData} {xs : List V} {i : Int} (h : RpAll K F xs ds) (e : atI ds i = some d) : ∃ v, atI xs i = some v ∧ Rp K F v d := by
  unfold atI at e ⊢
  rw [h.length]
  cases q : ixN ds.length i with
  | none => rw [q] at e; cases e
  | some j =>
    rw [q] at e
    exact h.getD e
theorem rv_ixT {ds : List PyData} {i : Int} (h : atI ds i = some d) : RvG K (rIxT K) (.tuple ds) (.int i) (Is d) := rv_val fun F H x y e hx hy => by
  obtain ⟨a, xs, rfl, hl, ha⟩ := rp_tup hx
  obtain ⟨v, e1, r1⟩ := atI_rp ha h
  exact ⟨v, fun Q q => ⟨a, xs, i, v, rfl, rp_int hy, tx e hl, e1, q⟩, r1⟩
theorem rv_ixL {ds : List PyData} {i : Int} (h : atI ds i = some d) : RvG K (rIxL K) (.list ds) (.int i) (Is d) := rv_val fun F H x y e hx hy => by
  obtain ⟨a, xs, rfl, hl, ha⟩ := rp_lst hx
  obtain ⟨v, e1, r1⟩ := atI_rp ha h
  exact ⟨v, fun Q q => ⟨a, xs, i, v, rfl, rp_int hy, sq_of (e _ _ hl), e1, q⟩, r1⟩
theorem rv_cat {ds es : List PyData} (hz : ds.length + es.length ≤ 100000) : RvG K rCat (.list ds) (.list es) (Is (.list (ds ++ es))) := fun F H x y e hx hy Q q => by
  obtain ⟨a, xs, rfl, hl, ha⟩ := rp_lst hx
  obtain ⟨b, ys, rfl, hm, hb⟩ := rp_lst hy
  refine ⟨a, b, xs, ys, rfl, rfl, e _ _ hl, e _ _ hm, by rw [ha.length, hb.length]; exact sz_of hz, fun p hp => ?_⟩
  have s : Step none F H (upd F p (.lst (xs ++ ys))) (upd H p (.lst (xs ++ ys))) := .laid e .nil hp
  exact q _ _ _ _ rfl s (.lst upd_same (RpAll.mono s.sub _ _ (ha.append hb)))
/-! ### calls of built-ins -/
theorem rc_all {bs : List Bool} : RcG K (rAll K) [.list (bs.map .bool)] (Is (.bool (bs.all id))) := rc_val fun F H vs e h => by
  cases h with
  | cons h1 h2 =>
    cases h2
    obtain ⟨a, xs, rfl, hl, ha⟩ := rp_lst h1
    have e1 := rpAll_bools ha
    subst e1
    exact ⟨_, fun Q q => ⟨a, bs, rfl, sq_of (e _ _ hl), q⟩, .bl _⟩
theorem rc_any {bs : List Bool} : RcG K (rAny K) [.list (bs.map .bool)] (Is (.bool (bs.any id))) := rc_val fun F H vs e h => by
  cases h with
  | cons h1 h2 =>
    cases h2
    obtain ⟨a, xs, rfl, hl, ha⟩ := rp_lst h1
    have e1 := rpAll_bools ha
    subst e1
    exact ⟨_, fun Q q => ⟨a, bs, rfl, sq_of (e _ _ hl), q⟩, .bl _⟩
theorem rc_tupL {ds : List PyData} : RcG K (fun xs H Q => ∃ p ys, xs = [.ref p] ∧ ((SqL K H p ys ∧ ∀ l, H l = none → Q (.ref l) (upd H l (.tup ys))) ∨ (SqT K H p ys ∧ Q (.ref p) H))) [.list ds] (Is (.tuple ds)) := fun F H vs e h Q q => by
  cases h with
  | cons h1 h2 =>
    cases h2
    obtain ⟨a, xs, rfl, hl, ha⟩ := rp_lst h1
    refine ⟨a, xs, rfl, .inl ⟨sq_of (e _ _ hl), fun p hp => ?_⟩⟩
    have s : Step none F H (upd F p (.tup xs)) (upd H p (.tup xs)) := .laid e .nil hp
    exact q _ _ _ _ rfl s (.tup upd_same (RpAll.mono s.sub _ _ ha))
theorem rc_tupT {ds : List PyData} : RcG K (fun xs H Q => ∃ p ys, xs = [.ref p] ∧ ((SqL K H p ys ∧ ∀ l, H l = none → Q (.ref l) (upd H l (.tup ys))) ∨ (SqT K H p ys ∧ Q (.ref p) H))) [.tuple ds] (Is (.tuple ds)) := rc_val fun F H vs e h => by
  cases h with
  | cons h1 h2 =>
    cases h2
    obtain ⟨a, xs, rfl, hl, ha⟩ := rp_tup h1
    exact ⟨_, fun Q q => ⟨a, xs, rfl, .inr ⟨tx e hl, q⟩⟩, .tup hl ha⟩
theorem rc_lenL {ds : List PyData} : RcG K (fun xs H Q => ∃ p ys, xs = [.ref p] ∧ (SqL K H p ys ∨ SqT K H p ys) ∧ Q (.int ys.length) H) [.list ds] (Is (.int ds.length)) := rc_val fun F H vs e h => by
  cases h with
  | cons h1 h2 =>
    cases h2
    obtain ⟨a, xs, rfl, hl, ha⟩ := rp_lst h1
    exact ⟨_, fun Q q => ⟨a, xs, rfl, .inl (sq_of (e _ _ hl)), q⟩, by rw [← ha.length]; exact .int _⟩
theorem rc_lenT {ds : List PyData} : RcG K (fun xs H Q => ∃ p ys, xs = [.ref p] ∧ (SqL K H p ys ∨ SqT K H p ys) ∧ Q (.int ys.length) H) [.tuple ds] (Is (.int ds.length)) := rc_val fun F H vs e h => by
  cases h with
  | cons h1 h2 =>
    cases h2
    obtain ⟨a, xs, rfl, hl, ha⟩ := rp_tup h1
    exact ⟨_, fun Q q => ⟨a, xs, rfl, .inr (tx e hl), q⟩, by rw [← ha.length]; exact .int _⟩
/-- the built-in class of data -/
def tyD : PyData → String
  | .none => "NoneType" | .bool _ => "bool" | .int _ => "int" | .str _ => "str" | .list _ => "list" | .tuple _ => "tuple" | .dict _ => "dict"
theorem rp_ty {v : V} (r : Rp K F v d) : TyX K F v (.type (tyD d)) := by
  cases r with
  | non => exact .base .non
  | bl b => exact .base (.bl b)
  | int i => exact .base (.int i)
  | str x => exact .base (.str x)
  | lst h _ => exact .base (.lst h)
  | tup h _ =>
    exact .base (.tup h)
/-- isinstance(x, T), T a built-in class -/
theorem g_isi {T : String} {b : Bool} (h : EvG K pt te σ F (Is d)) (hk : kitB (tyD d) T = some b) : EvG K pt (tCB (rIsi K) (tCons te (tCons (tC (.ty T)) tNil))) σ F (Is (.bool b)) := fun H1 i g Q q =>
  h H1 i g _ fun d' v F2 H2 hd s hv => by
    subst hd
    exact ⟨v, .ty T, _, _, b, rfl, .ty T, rp_ty (Rp.mono s.inn _ _ hv), kit_ty hk, q _ _ F2 H2 rfl s (.bl b)⟩
/-- isinstance(x, (S, T)) -/
theorem g_isi2 {S T : String} {b c : Bool} (h : EvG K pt te σ F (Is d)) (hk : kitB (tyD d) S = some b) (hk2 : kitB (tyD d) T = some c) : EvG K pt (tCB (rIsiT K) (tCons te (tCons (tTup (tCons (tC (.ty S)) (tCons (tC (.ty T)) tNil))) tNil))) σ F (Is (.bool (b || c))) := fun H1 i g Q q =>
  h H1 i g _ fun d' v F2 H2 hd s hv => by
    subst hd
    refine ⟨sz_of (by show 2 ≤ 100000; decide), fun p hp => ?_⟩
    have s3 : Step pt F2 H2 (upd F2 p (.tup [.ty S, .ty T])) (upd H2 p (.tup [.ty S, .ty T])) := .laid s.inn s.good hp
    refine ⟨v, p, _, _, [.type S, .type T], b || c, rfl, upd_same, .cons (.ty S) (.cons (.ty T) .nil), rp_ty (Rp.mono (s3.sub.trans s3.inn) _ _ hv), ?_, q _ _ _ _ rfl (s.trans s3) (.bl _)⟩
    refine kitAny_cons (kit_ty hk) (fun hb => ?_) (fun hb => by rw [hb]; rfl)
    subst hb
    refine kitAny_cons (kit_ty hk2) (fun hc => ?_) (fun hc => by rw [hc]; rfl)
    subst hc
    exact kitAny_nil
/-- the truth of a list, a tuple -/
theorem et_truL {ds : List PyData} (h : EvG K pt te σ F (Is (.list ds))) : EtG pt (fun σ H Q => te σ H fun x H' => ∃ k, TruV K x H' k ∧ Q k H') σ F (· = !ds.isEmpty) := fun H1 i g Q q =>
  h H1 i g _ fun d' v F2 H2 hd s hv => by
    subst hd
    obtain ⟨a, xs, rfl, hl, ha⟩ := rp_lst hv
    have e : xs.isEmpty = ds.isEmpty := by have := ha.length; cases xs <;> cases ds <;> simp_all
    exact ⟨!ds.isEmpty, .inl ⟨xs, sq_of (s.inn _ _ hl), by rw [e]⟩, q _ F2 H2 rfl s⟩
theorem et_truT {ds : List PyData} (h : EvG K pt te σ F (Is (.tuple ds))) : EtG pt (fun σ H Q => te σ H fun x H' => ∃ k, TruV K x H' k ∧ Q k H') σ F (· = !ds.isEmpty) := fun H1 i g Q q =>
  h H1 i g _ fun d' v F2 H2 hd s hv => by
    subst hd
    obtain ⟨a, xs, rfl, hl, ha⟩ := rp_tup hv
    have e : xs.isEmpty = ds.isEmpty := by have := ha.length; cases xs <;> cases ds <;> simp_all
    exact ⟨!ds.isEmpty, .inr (.inl ⟨xs, tx s.inn hl, by rw [e]⟩), q _ F2 H2 rfl s⟩
theorem et_truI {n : Int} (h : EvG K pt te σ F (Is (.int n))) : EtG pt (fun σ H Q => te σ H fun x H' => ∃ k, TruV K x H' k ∧ Q k H') σ F (· = (n != 0)) := fun H1 i g Q q =>
  h H1 i g _ fun d' v F2 H2 hd s hv => by
    subst hd
    rw [rp_int hv]
    exact ⟨n != 0, rfl, q _ F2 H2 rfl s⟩
end
end Fv

/-! the rules with K told, so that they stand within comprehensions -/
namespace Fv
open PySem PySem.Spec PyProof.Rows L2 Evl StX
section
variable {X : Cx} {K : PySem.W.Frag} {tg : Expr}
abbrev rLen (K : PySem.W.Frag) : List V → Hp → VK → Prop := fun xs H Q => ∃ p ys, xs = [.ref p] ∧ (SqL K H p ys ∨ SqT K H p ys) ∧ Q (.int ys.length) H
abbrev rTup (K : PySem.W.Frag) : List V → Hp → VK → Prop := fun xs H Q => ∃ p ys, xs = [.ref p] ∧ ((SqL K H p ys ∧ ∀ l, H l = none → Q (.ref l) (upd H l (.tup ys))) ∨ (SqT K H p ys ∧ Q (.ref p) H))
abbrev rList (K : PySem.W.Frag) : List V → Hp → VK → Prop := fun xs H Q => ∃ p ys, xs = [.ref p] ∧ (SqL K H p ys ∨ SqT K H p ys) ∧ ∀ l, H l = none → Q (.ref l) (upd H l (.lst ys))
theorem o_in (h : X.K = K := by rfl) : OpR X (compareOp .In) (rIn K false) := h ▸ op_in_seq
theorem o_notIn (h : X.K = K := by rfl) : OpR X (compareOp .NotIn) (rIn K true) := h ▸ op_notIn_seq
theorem o_inD (hu : X.A.units + 65 < cLine) (h : X.K = K := by rfl) : OpR X (compareOp .In) (rInD K) := h ▸ op_inD hu
theorem o_notInD (hu : X.A.units + 65 < cLine) (h : X.K = K := by rfl) : OpR X (compareOp .NotIn) (rNotInD K) := h ▸ op_notInD hu
theorem o_eqD (hu : X.A.units + 64 < cLine) (h : X.K = K := by rfl) : OpR X (compareOp .Eq) (rEqD K) := h ▸ op_eqD hu
theorem o_neD (hu : X.A.units + 64 < cLine) (h : X.K = K := by rfl) : OpR X (compareOp .NotEq) (rNeD K) := h ▸ op_neD hu
theorem o_ixT (h : X.K = K := by rfl) : IxR X (rIxT K) := h ▸ ix_tup
theorem o_ixL (h : X.K = K := by rfl) : IxR X (rIxL K) := h ▸ ix_list
theorem o_catT (h : X.K = K := by rfl) : OpR X (binaryOp .Add) (rCatT K) := h ▸ op_catT
theorem c_all (hc : X.calm = true := by rfl) (h : X.K = K := by rfl) : CallR X (.builtin "all") (rAll K) := h ▸ cr_all hc
theorem c_any (hc : X.calm = true := by rfl) (h : X.K = K := by rfl) : CallR X (.builtin "any") (rAny K) := h ▸ cr_any hc
theorem c_len (h : X.K = K := by rfl) : CallR X (.builtin "len") (rLen K) := h ▸ call_len_seq
theorem c_tup (h : X.K = K := by rfl) : CallR X (.type "tuple") (rTup K) := h ▸ call_tuple_of
theorem c_list (h : X.K = K := by rfl) : CallR X (.type "list") (rList K) := h ▸ call_list_of
theorem c_isi (h : X.K = K := by rfl) : CallR X (.builtin "isinstance") (rIsi K) := h ▸ call_isi
theorem c_isiT (h : X.K = K := by rfl) : CallR X (.builtin "isinstance") (rIsiT K) := h ▸ call_isiT
theorem s_list (h : X.K = K := by rfl) : SlR X (rSlL K) := h ▸ sl_list
theorem s_tup (h : X.K = K := by rfl) : SlR X (rSlA K) := h ▸ sl_tupA
theorem i_list {l : Expr} {tl : TE} (hl : PE X l tl) (h : X.K = K := by rfl) : PI X tg l (iList K tl) := h ▸ pi_list hl
theorem i_tup {l : Expr} {tl : TE} (hl : PE X l tl) (h : X.K = K := by rfl) : PI X tg l (iTup K tl) := h ▸ pi_tup hl
theorem e_fld {e : Expr} {ta : TE} {f : Str} {pos : Pos} (he : PE X e ta) (hb : attributeBase e f X.env (eval e X.env) = eval e X.env) (h : X.K = K := by rfl) : PE X (.Attribute e f pos) (tFld K ta f) := h ▸ pe_fld he hb
theorem e_truth {a : Expr} {ta : TE} (ha : PE X a ta) (he : ∀ whole, isTrue a X.env whole = (do let v ← whole; standAt a.pos; holding [v] (truthy v)) := by intro _; rfl) (h : X.K = K := by rfl) :
    PT X a (fun σ H Q => ta σ H fun x H' => ∃ k, TruV K x H' k ∧ Q k H') := h ▸ pt_truth ha he
theorem a_star {e : Expr} {te : TE} {es : List Expr} {t : TA} {p : Pos} (he : PE X e te) (hr : PA X es t) (hs : starEach (.Starred e p :: es) X.env = (true, eval e X.env) :: starEach es X.env := by rfl) (h : X.K = K := by rfl) : PA X (.Starred e p :: es) (tStar K te t) := h ▸ pa_star he hr hs
end
section
variable {K : PySem.W.Frag} {pt : Option Pt} {σ : L2.St} {F F' H : Hp} {te ta tb : TE} {ts tr : TA} {t u : TT} {R R1 S2 R3 : PD} {d e z : PyData} {r : L2.R2}
theorem rc_list {ds : List PyData} {src : PyData} (hs : src = .list ds ∨ src = .tuple ds) : RcG K (rList K) [src] (Is (.list ds)) := fun F H vs e h Q q => by
  cases h with
  | cons h1 h2 =>
    cases h2
    have go : ∀ a xs, (SqL K H a xs ∨ SqT K H a xs) → RpAll K F xs ds → rList K [.ref a] H Q := fun a xs hl ha => ⟨a, xs, rfl, hl, fun p hp => by
      have s : Step none F H (upd F p (.lst xs)) (upd H p (.lst xs)) := .laid e .nil hp
      exact q _ _ _ _ rfl s (.lst upd_same (RpAll.mono s.sub _ _ ha))⟩
    rcases hs with rfl | rfl
    · obtain ⟨a, xs, rfl, hl, ha⟩ := rp_lst h1
      exact go a xs (.inl (sq_of (e _ _ hl))) ha
    · obtain ⟨a, xs, rfl, hl, ha⟩ := rp_tup h1
      exact go a xs (.inr (tx e hl)) ha
theorem rv_catT {ds es : List PyData} (h0 : ds ≠ []) (hz : ds.length + es.length ≤ 100000) : RvG K (rCatT K) (.tuple ds) (.tuple es) (Is (.tuple (ds ++ es))) := fun F H x y e hx hy Q q => by
  obtain ⟨a, xs, rfl, hl, ha⟩ := rp_tup hx
  obtain ⟨b, ys, rfl, hm, hb⟩ := rp_tup hy
  refine ⟨a, b, xs, ys, rfl, rfl, tx e hl, tx e hm, ?_, by rw [ha.length, hb.length]; exact sz_of hz, ?_, fun _ p hp => ?_⟩
  · rintro rfl
    cases ha
    exact h0 rfl
  · rintro rfl
    cases hb
    exact q _ _ F H rfl (.refl e .nil) (.tup hl (by rw [List.append_nil]; exact ha))
  · have s : Step none F H (upd F p (.tup (xs ++ ys))) (upd H p (.tup (xs ++ ys))) := .laid e .nil hp
    exact q _ _ _ _ rfl s (.tup upd_same (RpAll.mono s.sub _ _ (ha.append hb)))
/-- *xs in a display -/
theorem gs_star {ds es : List PyData} {src : PyData} (hs : src = .list ds ∨ src = .tuple ds) (h : EvG K pt te σ F (Is src)) (hr : EvsG K pt tr σ F (· = es)) : EvsG K pt (tStar K te tr) σ F (· = ds ++ es) := fun H1 i g Q q =>
  h H1 i g _ fun d v F2 H2 hd s hv => by
    subst hd
    have go : ∀ a xs, v = .ref a → (F2 a = some (.tup xs) ∨ F2 a = some (.lst xs)) → RpAll K F2 xs ds → ∃ p xs, v = V.ref p ∧ (SqT K H2 p xs ∨ SqL K H2 p xs) ∧ tr σ H2 fun ys H3 => Q (xs ++ ys) H3 := fun a xs ev hl ha => by
      refine ⟨a, xs, ev, ?_, hr.mono s.sub H2 s.inn s.good _ fun es' ys F3 H3 he s3 hy => ?_⟩
      · rcases hl with hl | hl
        · exact .inl (tx s.inn hl)
        · exact .inr (sq_of (s.inn _ _ hl))
      · subst he
        exact q _ _ F3 H3 rfl (s.trans s3) (RpAll.append (RpAll.mono s3.sub _ _ ha) hy)
    rcases hs with rfl | rfl
    · obtain ⟨a, xs, rfl, hl, ha⟩ := rp_lst hv
      exact go a xs rfl (.inr hl) ha
    · obtain ⟨a, xs, rfl, hl, ha⟩ := rp_tup hv
      exact go a xs rfl (.inl hl) ha
end
end Fv

namespace Fv
open PySem PySem.Spec PyProof.Rows L2 Evl StX
/-! ### set(t), sorted of it -/
def rSetT (K : PySem.W.Frag) (w : World) : List V → Hp → VK → Prop := fun xs H Q => ∃ (p : Addr) (ns : List Int), xs = [.ref p] ∧ SqT K H p (ns.map V.int) ∧ ns.length ≤ 60 ∧
  ∀ a c, H a = none → c ≤ ns.length → Q (.ref a) (upd H a (SetO w a (fun j => decide (j ∈ ns)) c))
theorem c_setT {X : Cx} {K : PySem.W.Frag} {w : World} (hc : X.calm = true := by rfl) (h : X.K = K := by rfl) (hw : X.w = w := by rfl) : CallR X (.type "set") (rSetT K w) := by
  subst h; subst hw
  intro pins s σ H xs us Q I r h
  obtain ⟨p, ns, rfl, hq, hl, q⟩ := h
  rw [Vals.ref1 r]
  obtain ⟨its, rv, ht, hz⟩ := I.tuple hq
  have hi : IntsAre its.toArray.toList ns := ints_of_vals rv
  refine call_set_tupI ns (I.ok.hd hc) ht hi (by unfold scanBound; omega) fun h' tk c R1 hcn k => ?_
  exact ⟨.ref s.heap.objs.size, _, I.laid (t' := tk) k (Nat.le_refl _) (setO_new R1), rfl, q _ c (I.hok.fresh (Nat.le_refl _)) hcn⟩
theorem c_sortedSet {X : Cx} {w : World} (hc : X.calm = true := by rfl) (hw : X.w = w := by rfl) : CallR X (.builtin "sorted") (rSortedSet w) := hw ▸ cr_sortedSet hc
/-- an object that is laid beside -/
theorem Step.litter {pt : Option Pt} {F H : Hp} {p : Addr} {o : HO} (e : Ex F H) (g : Good pt F H) (hp : H p = none) : Step pt F H F (upd H p o) :=
  ⟨Ex.refl F, e.trans (Ex.new hp), Keep.of (Ex.new hp), fun q hq => ⟨(g q hq).1, (g q hq).2.mono (Ex.new hp)⟩, New.refl F H⟩
section
variable {K : PySem.W.Frag} {w : World} {pt : Option Pt} {σ : L2.St} {F F' H : Hp} {te ta tb : TE} {ts tr : TA} {t u : TT} {R R1 S2 R3 : PD} {d e z : PyData} {r : L2.R2}
theorem g_sortedSet {ns : List Int} (h : EvG K pt te σ F (Is (dT ns))) (hz : ns.length ≤ 60) : EvG K pt (tCB (rSortedSet w) (tCons (tCB (rSetT K w) (tCons te tNil)) tNil)) σ F
    (fun x => ∃ ms : List Int, x = .list (ms.map .int) ∧ ms.Pairwise (· < ·) ∧ ∀ k, k ∈ ms ↔ k ∈ ns) := fun H1 i g Q q =>
  h H1 i g _ fun d v F2 H2 hd s hv => by
    subst hd
    obtain ⟨a, xs, rfl, hl, ha⟩ := rp_tup hv
    have e1 := rpAll_ints ha
    subst e1
    refine ⟨a, ns, rfl, tx s.inn hl, hz, fun b c hb hc => ?_⟩
    have s3 : Step pt F2 H2 F2 (upd H2 b (SetO w b (fun j => decide (j ∈ ns)) c)) := .litter s.inn s.good hb
    refine ⟨b, _, c, rfl, upd_same, by omega, fun ms p hp hm hlen hn => ?_⟩
    have s4 : Step pt F2 (upd H2 b (SetO w b (fun j => decide (j ∈ ns)) c)) (upd F2 p (.lst (ms.map V.int))) _ := .laid s3.inn s3.good hn
    exact q _ _ _ _ ⟨ms, rfl, hp, fun k => by rw [hm k, decide_eq_true_eq]⟩ ((s.trans s3).trans s4) (.lst upd_same (rpAll_of_ints ms))
/-- the one ascending row of the members of ns below n -/
def lotOf (n : Nat) (ns : List Int) : List Int := ((List.range n).map Int.ofNat).filter fun k => decide (k ∈ ns)
theorem pw_range (n : Nat) : ((List.range n).map Int.ofNat).Pairwise (· < ·) := by
  rw [List.pairwise_map]
  exact (List.pairwise_lt_range (n := n)).imp fun h => by simp only [Int.ofNat_eq_natCast]; omega
theorem asc_unique : ∀ {a b : List Int}, a.Pairwise (· < ·) → b.Pairwise (· < ·) → (∀ k, k ∈ a ↔ k ∈ b) → a = b
  | [], [], _, _, _ => rfl
  | [], y :: b, _, _, h => absurd ((h y).mpr (by simp)) (by simp)
  | x :: a, [], _, _, h => absurd ((h x).mp (by simp)) (by simp)
  | x :: a, y :: b, ha, hb, h => by
    have ha' := List.pairwise_cons.mp ha
    have hb' := List.pairwise_cons.mp hb
    have exy : x = y := by
      have h1 : x ∈ y :: b := (h x).mp (by simp)
      have h2 : y ∈ x :: a := (h y).mpr (by simp)
      rcases List.mem_cons.mp h1 with e | m
      · exact e
      · rcases List.mem_cons.mp h2 with e | m'
        · exact e.symm
        · have := hb'.1 x m
          have := ha'.1 y m'
          omega
    subst exy
    refine congrArg (x :: ·) (asc_unique ha'.2 hb'.2 fun k => ⟨fun m => ?_, fun m => ?_⟩)
    · have h1 : k ∈ x :: b := (h k).mp (List.mem_cons_of_mem _ m)
      rcases List.mem_cons.mp h1 with e | m'
      · have := ha'.1 k m; omega
      · exact m'
    · have h1 : k ∈ x :: a := (h k).mpr (List.mem_cons_of_mem _ m)
      rcases List.mem_cons.mp h1 with e | m'
      · have := hb'.1 k m; omega
      · exact m'
theorem lotOf_asc (n : Nat) (ns : List Int) : (lotOf n ns).Pairwise (· < ·) := (pw_range n).filter _
theorem mem_lotOf {n : Nat} {ns : List Int} {k : Int} : k ∈ lotOf n ns ↔ (0 ≤ k ∧ k < n) ∧ k ∈ ns := by
  unfold lotOf
  rw [List.mem_filter, List.mem_map, decide_eq_true_eq]
  constructor
  · rintro ⟨⟨j, hj, rfl⟩, h⟩
    rw [List.mem_range] at hj
    exact ⟨⟨by simp only [Int.ofNat_eq_natCast]; omega, by simp only [Int.ofNat_eq_natCast]; omega⟩, h⟩
  · rintro ⟨⟨h1, h2⟩, h⟩
    exact ⟨⟨k.toNat, by rw [List.mem_range]; omega, by simp only [Int.ofNat_eq_natCast]; omega⟩, h⟩
theorem lotOf_len (n : Nat) (ns : List Int) : (lotOf n ns).length ≤ n := by
  unfold lotOf
  exact Nat.le_trans (List.length_filter_le _ _) (by simp)
theorem sorted_is {n : Nat} {ns ms : List Int} (hp : ms.Pairwise (· < ·)) (hm : ∀ k, k ∈ ms ↔ k ∈ ns) (hb : ∀ k ∈ ns, 0 ≤ k ∧ k < n) : ms = lotOf n ns :=
  asc_unique hp (lotOf_asc n ns) fun k => by rw [mem_lotOf, hm]; exact ⟨fun h => ⟨hb k h, h⟩, fun h => h.2⟩

/-! ### max(t, default=d) -/
/-- the greatest of ns, d if there is none -/
def maxOf (d : Int) : List Int → Int
  | [] => d
  | n :: r => r.foldl max n
def rMaxD (K : PySem.W.Frag) : List V → List V → Hp → VK → Prop := fun xs zs H Q => ∃ (p : Addr) (ns : List Int) (d : Int), xs = [.ref p] ∧ zs = [.int d] ∧ SqT K H p (ns.map V.int) ∧
  Q (.int (maxOf d ns)) H
theorem intOf {v : Value} {h : Heap} {i : Int} {bs : List Addr} (r : Reads h v (.int i) bs) : ∃ t, v = Value.int i t := by
  cases r with
  | int i t => exact ⟨t, rfl⟩
theorem c_maxD {X : Cx} {K : PySem.W.Frag} (hu : X.A.units + 3 < cLine) (hc : X.calm = true := by rfl) (h : X.K = K := by rfl) : CallRK X (.builtin "max") [Str.ofString "default"] (rMaxD K) := by
  subst h
  intro pins s σ H xs zs us ws Q I r rz h
  obtain ⟨p, ns, d, rfl, rfl, hq, q⟩ := h
  rw [Vals.ref1 r]
  obtain ⟨tk, rfl⟩ : ∃ t, ws = [Value.int d t] := by
    cases rz with
    | cons r1 r2 => cases r2; obtain ⟨t, rfl⟩ := r1; exact ⟨t, rfl⟩
  obtain ⟨its, rv, ht, hz⟩ := I.tuple hq
  obtain ⟨as, hr⟩ := Dp.readsAll I (ns.map .int) _ its (RpAll.dp _ _ (rpAll_of_ints ns)) rv
  have kept : ∀ (v : V) (u : Value) (h' : Heap) (tk : Nat), RelV v u → (∀ b o, s.heap.get? b = some o → h'.get? b = some o) → Q v H → EP X pins σ Q u { s with heap := h', toks := tk } := fun v u h' tk rvu k hq => ⟨v, H, I.kept (t' := tk) k, rvu, hq⟩
  refine PySem.W.max_tuple_default (I.ok.hd hc) ht hr ⟨?_, ?_⟩ ?_ (fun hn h' tk k => ?_) (fun y ys i v h' tk bs e hv hrd k => ?_)
  · intro x hx y hy
    obtain ⟨a, _, rfl⟩ := List.mem_map.mp hx
    obtain ⟨b, _, rfl⟩ := List.mem_map.mp hy
    rfl
  · intro x hx
    obtain ⟨a, _, rfl⟩ := List.mem_map.mp hx
    intro z; cases z
  · have := depthAll_ints ns
    omega
  · have : ns = [] := List.map_eq_nil_iff.mp hn
    subst this
    exact kept (.int d) _ h' tk ⟨_, rfl⟩ k q
  · cases ns with
    | nil => cases e
    | cons n r =>
      simp only [List.map_cons, List.cons.injEq] at e
      obtain ⟨rfl, rfl⟩ := e
      rw [PySem.W.maxD_ints] at hrd
      obtain ⟨t, rfl⟩ := intOf hrd
      exact kept (.int _) _ h' tk ⟨_, rfl⟩ k q
theorem g_maxD {ns : List Int} {c : Int} (h : EvG K pt te σ F (Is (dT ns))) (hd : EvG K pt ta σ F (Is (.int c))) : EvG K pt (tCKw (rMaxD K) (tCons te tNil) (tCons ta tNil)) σ F (Is (.int (maxOf c ns))) := fun H1 i g Q q =>
  h H1 i g _ fun d v F2 H2 hd' s hv => hd.mono s.sub H2 s.inn s.good _ fun d2 v2 F3 H3 hd2 s3 hv2 => by
    subst hd'; subst hd2
    obtain ⟨a, xs, rfl, hl, ha⟩ := rp_tup hv
    have e1 := rpAll_ints ha
    subst e1
    refine ⟨a, ns, c, rfl, by rw [rp_int hv2], tx s3.inn (s3.sub _ _ hl), ?_⟩
    exact q _ _ F3 H3 rfl (s.trans s3) (.int _)
/-! ### () + t -/
theorem c_catT0 : True := trivial
end
end Fv

namespace Fv
open PySem PySem.Spec PyProof.Rows L2 Evl StX
theorem hu3 {k : Nat} {A : Around} (hr : Room k A) : A.units + 3 < cLine := Nat.lt_of_le_of_lt (Nat.add_le_add_left (by decide : 3 ≤ 64) _) hr.units
theorem hu65 {k : Nat} {A : Around} (hr : Room k A) : A.units + 65 < cLine := by have := hr.un; omega
theorem o_catA {X : Cx} {K : PySem.W.Frag} (h : X.K = K := by rfl) : OpR X (binaryOp .Add) (rCatA K) := h ▸ op_catA
section
variable {K : PySem.W.Frag} {w : World} {pt : Option Pt} {σ : L2.St} {F F' H : Hp} {te ta tb : TE} {ts tr : TA} {t u : TT} {R R1 S2 R3 : PD} {d e z : PyData} {r : L2.R2} {wi wi1 : TI}
theorem rv_catA {ds es : List PyData} (hz : ds.length + es.length ≤ 100000) : RvG K (rCatA K) (.tuple ds) (.tuple es) (Is (.tuple (ds ++ es))) := fun F H x y e hx hy Q q => by
  obtain ⟨a, xs, rfl, hl, ha⟩ := rp_tup hx
  obtain ⟨b, ys, rfl, hm, hb⟩ := rp_tup hy
  refine ⟨a, b, xs, ys, rfl, rfl, tx e hl, tx e hm, by rw [ha.length, hb.length]; exact sz_of hz, ?_, ?_, fun _ _ p hp => ?_⟩
  · rintro rfl
    cases ha
    exact q _ _ F H rfl (.refl e .nil) (.tup hm hb)
  · rintro _ rfl
    cases hb
    exact q _ _ F H rfl (.refl e .nil) (.tup hl (by rw [List.append_nil]; exact ha))
  · have s : Step none F H (upd F p (.tup (xs ++ ys))) (upd H p (.tup (xs ++ ys))) := .laid e .nil hp
    exact q _ _ _ _ rfl s (.tup upd_same (RpAll.mono s.sub _ _ (ha.append hb)))
theorem get_map {α : Type} {enc : α → PyData} {xs : List α} {i : Nat} {d : PyData} (h : (xs.map enc)[i]? = some d) : ∃ x, xs[i]? = some x ∧ d = enc x := by
  rw [List.getElem?_map] at h
  cases e : xs[i]? with
  | none => rw [e] at h; cases h
  | some x => rw [e] at h; exact ⟨x, rfl, (Option.some.inj h).symm⟩
theorem take_succA {α : Type} {ds : List α} {i : Nat} {d : α} (h : ds[i]? = some d) : ds.take (i + 1) = ds.take i ++ [d] := by
  rw [List.take_add_one, h]; rfl
theorem g_lcE {α : Type} {j : Nat} {vs : List Nat} (enc : α → PyData) (xs : List α) (p : α → Bool) (g : α → PyData) (hw : WiG K pt wi σ F (· = xs.map enc)) (hz : xs.length ≤ 50000) (hwp : ∀ x, wipe ((wipe σ vs).set j (some x)) vs = wipe σ vs)
    (ht : ∀ x ∈ xs, ∀ F', Ex F F' → ∀ v, Rp K F' v (enc x) → EtG pt t ((wipe σ vs).set j (some v)) F' (· = p x))
    (he : ∀ x ∈ xs, p x = true → ∀ F', Ex F F' → ∀ v, Rp K F' v (enc x) → EvG K pt te ((wipe σ vs).set j (some v)) F' (Is (g x))) :
    EvG K pt (tLc wi (gName j) t te vs) σ F (Is (.list ((xs.filter p).map g))) := by
  refine (g_lc (RS := (· = xs.map enc)) (fun _ i l => l = ((xs.take i).filter p).map g) hw (fun _ e => by rw [e, List.length_map]; exact hz) hwp (fun ds i l _ a => ?_) (fun _ _ => by simp) (fun ds' i d e hd => ?_)).imp fun x hx => ?_
  · rw [a, List.length_map]
    exact Nat.le_trans (List.length_filter_le _ _) (by rw [List.length_take]; exact Nat.min_le_left _ _)
  · subst e
    obtain ⟨x, hx, rfl⟩ := get_map hd
    have hm : x ∈ xs := List.mem_of_getElem? hx
    refine ⟨(· = p x), Is (g x), fun hp l y a ex => ?_, fun hp l a => ?_, fun F' e v hv => ⟨ht x hm F' e v hv, fun hp => he x hm hp.symm F' e v hv⟩⟩
    · rw [take_succA hx, List.filter_append, List.map_append, a, ex]
      simp [hp.symm]
    · rw [take_succA hx, List.filter_append, List.map_append, a]
      simp [hp.symm]
  · obtain ⟨ds', l, e1, e2, e3⟩ := hx
    subst e2
    rw [List.length_map, List.take_length] at e3
    show x = _
    rw [e1, e3]
theorem g_lcEM {α : Type} {j : Nat} {vs : List Nat} (enc : α → PyData) (xs : List α) (g : α → PyData) (hw : WiG K pt wi σ F (· = xs.map enc)) (hz : xs.length ≤ 50000) (hwp : ∀ x, wipe ((wipe σ vs).set j (some x)) vs = wipe σ vs)
    (he : ∀ x ∈ xs, ∀ F', Ex F F' → ∀ v, Rp K F' v (enc x) → EvG K pt te ((wipe σ vs).set j (some v)) F' (Is (g x))) :
    EvG K pt (tLc wi (gName j) tYes te vs) σ F (Is (.list (xs.map g))) :=
  (g_lcE enc xs (fun _ => true) g hw hz hwp (fun _ _ _ _ _ _ => et_yes) (fun d hd _ => he d hd)).is (congrArg (fun l => PyData.list (List.map g l)) (show xs.filter (fun _ => true) = xs from List.filter_eq_self.mpr (fun _ _ => rfl)))
/-- the items are drawn: each has P -/
theorem g_lcR {α β : Type} {j : Nat} {vs : List Nat} (enc : β → PyData) (P : β → Prop) {RS : List PyData → Prop} (hw : WiG K pt wi σ F RS) (hz : ∀ ds, RS ds → ds.length ≤ 50000) (hwp : ∀ x, wipe ((wipe σ vs).set j (some x)) vs = wipe σ vs)
    (he : ∀ F', Ex F F' → ∀ v, EvG K pt te ((wipe σ vs).set j (some v)) F' (fun x => ∃ y, x = enc y ∧ P y)) :
    EvG K pt (tLc wi (gName j) tYes te vs) σ F (fun x => ∃ (ds : List PyData) (ys : List β), RS ds ∧ x = .list (ys.map enc) ∧ ys.length = ds.length ∧ ∀ y ∈ ys, P y) := by
  refine (g_lc (RS := RS) (fun _ i l => ∃ ys : List β, l = ys.map enc ∧ ys.length = i ∧ ∀ y ∈ ys, P y) hw hz hwp (fun ds i l _ a => ?_) (fun _ _ => ⟨[], rfl, rfl, by simp⟩) (fun ds' i d e hd => ?_)).imp fun x hx => ?_
  · obtain ⟨ys, rfl, e, _⟩ := a
    rw [List.length_map, e]; exact Nat.le_refl _
  · refine ⟨(· = true), fun x => ∃ y, x = enc y ∧ P y, fun _ l x a ex => ?_, (fun hp => by cases hp), fun F' e v hv => ⟨et_yes, fun _ => he F' e v⟩⟩
    obtain ⟨ys, rfl, e, hP⟩ := a
    obtain ⟨y, rfl, py⟩ := ex
    refine ⟨ys ++ [y], by simp, by simp [e], fun z hz => ?_⟩
    rcases List.mem_append.mp hz with m | m
    · exact hP z m
    · rw [List.mem_singleton.mp m]; exact py
  · obtain ⟨ds', l, e1, e2, ys, rfl, e4, e5⟩ := hx
    exact ⟨ds', ys, e2, e1, e4, e5⟩
theorem yes_of {σ : L2.St} {H : Hp} {Q : Bool → Hp → Prop} (h : Q true H) : tYes σ H Q := h
theorem ite_t {p q : Prop} (h : p) : (if true = true then p else q) := by rw [if_pos rfl]; exact h
/-- [e for x in .. for y in .. if ..] -/
theorem g_lc2E {α β : Type} {j j1 : Nat} {vs vs1 : List Nat} (enc : α → PyData) (enc1 : β → PyData) (xs : List α) (ys : α → List β) (p : α → β → Bool) (g : α → β → PyData) (hw : WiG K pt wi σ F (· = xs.map enc)) (hz : xs.length ≤ 300) (hz1 : ∀ x ∈ xs, (ys x).length ≤ 300)
    (hwp : ∀ x, wipe ((wipe σ vs).set j (some x)) vs = wipe σ vs) (hwp1 : ∀ x y, wipe ((wipe ((wipe σ vs).set j (some x)) vs1).set j1 (some y)) vs1 = wipe ((wipe σ vs).set j (some x)) vs1)
    (hw1 : ∀ x ∈ xs, ∀ F', Ex F F' → ∀ v, Rp K F' v (enc x) → WiG K pt wi1 ((wipe σ vs).set j (some v)) F' (· = (ys x).map enc1))
    (ht : ∀ x ∈ xs, ∀ y ∈ ys x, ∀ F', Ex F F' → ∀ v u, Rp K F' v (enc x) → Rp K F' u (enc1 y) → EtG pt t ((wipe ((wipe σ vs).set j (some v)) vs1).set j1 (some u)) F' (· = p x y))
    (he : ∀ x ∈ xs, ∀ y ∈ ys x, p x y = true → ∀ F', Ex F F' → ∀ v u, Rp K F' v (enc x) → Rp K F' u (enc1 y) → EvG K pt te ((wipe ((wipe σ vs).set j (some v)) vs1).set j1 (some u)) F' (Is (g x y))) :
    EvG K pt (tLc2 wi (gName j) tYes wi1 (gName j1) t te vs vs1) σ F (Is (.list (xs.flatMap fun x => ((ys x).filter (p x)).map (g x)))) := fun H0 i0 g0 Q q =>
  hw H0 i0 g0 _ fun ds J F1 H1 hds s1 Y => fun Dl hD => by
    subst hds
    have gi := s1.inn
    have gg := s1.good
    let fl := fun l : List α => l.flatMap fun x => ((ys x).filter (p x)).map (g x)
    have hfl : ∀ i, i ≤ xs.length → (fl (xs.take i)).length ≤ i * 300 := by
      intro i
      induction i with
      | zero => intro _; simp [fl]
      | succ i ih =>
        intro hi
        have e := List.getElem?_eq_getElem (show i < xs.length by omega)
        rw [take_succA e]
        show ((xs.take i ++ [xs[i]]).flatMap _).length ≤ _
        rw [List.flatMap_append, List.length_append]
        have h1 := ih (by omega)
        have h2 := hz1 _ (List.mem_of_getElem? e)
        have h3 := List.length_filter_le (p xs[i]) (ys xs[i])
        simp only [List.flatMap_cons, List.flatMap_nil, List.append_nil, List.length_map]
        show (fl (xs.take i)).length + _ ≤ _
        omega
    refine ⟨fun i m H => m = xs.length - i ∧ i ≤ xs.length ∧ Grow K pt F1 H1 Dl (· = fl (xs.take i)) H, ⟨xs.length, by simp, Nat.zero_le _, .start gi gg hD (by simp [fl])⟩, ?_⟩
    rintro i m H ⟨rfl, hi, w⟩
    obtain ⟨F', l, acc, s, f, e, r, a⟩ := id w
    have eH : Ex F1 H := s.sub.trans s.inn
    by_cases hlt : i < xs.length
    · refine .inr ⟨Y.go i H eH (by rw [List.length_map]; exact hlt), Grow K pt F1 H1 Dl (· = fl (xs.take (i + 1))), fun H' p' => ⟨xs.length - (i + 1), by omega, rfl, hlt, p'⟩, fun v H' y => ?_⟩
      obtain ⟨rfl, d, hd, hx⟩ := Y.yld i H v H' eH (by rw [List.length_map]; exact hlt) y
      obtain ⟨x, hxx, rfl⟩ := get_map hd
      have hm : x ∈ xs := List.mem_of_getElem? hxx
      refine ⟨hwp v, ?_⟩
      refine yes_of (ite_t ?_)
      -- the inner walk
      refine hw1 x hm F' (s1.sub.trans s.sub) v (Rp.mono s.sub _ _ hx) H' s.inn s.good _ fun ds1 J1 F2 H2 hds1 s2 Y1 => ?_
      subst hds1
      obtain ⟨f2, e2⟩ := s2.beside gg hD f e
      let fi := fun k : Nat => fl (xs.take i) ++ (((ys x).take k).filter (p x)).map (g x)
      refine ⟨fun k m H => m = (ys x).length - k ∧ k ≤ (ys x).length ∧ ∃ F3 acc, Step pt F1 H1 F3 H ∧ Ex F2 F3 ∧ F3 Dl = none ∧ H Dl = some (.lst acc) ∧ RpAll K F3 acc (fi k), ⟨(ys x).length, by simp, Nat.zero_le _, F2, acc, s.trans s2, Ex.refl _, f2, e2, ?_⟩, ?_⟩
      · show RpAll K F2 acc (fl (xs.take i) ++ (((ys x).take 0).filter (p x)).map (g x))
        rw [List.take_zero, List.filter_nil, List.map_nil, List.append_nil, ← a]
        exact RpAll.mono s2.sub _ _ r
      rintro k m H3 ⟨rfl, hk, F3, acc3, s3, e23, f3, e3, r3⟩
      have eH3 : Ex F2 H3 := e23.trans s3.inn
      by_cases hkl : k < (ys x).length
      · refine .inr ⟨Y1.go k H3 eH3 (by rw [List.length_map]; exact hkl), fun H => ∃ F3 acc, Step pt F1 H1 F3 H ∧ Ex F2 F3 ∧ F3 Dl = none ∧ H Dl = some (.lst acc) ∧ RpAll K F3 acc (fi (k + 1)), fun H' p' => ⟨(ys x).length - (k + 1), by omega, rfl, hkl, p'⟩, fun u H' yy => ?_⟩
        obtain ⟨rfl, d1, hd1, hu⟩ := Y1.yld k H3 u H' eH3 (by rw [List.length_map]; exact hkl) yy
        obtain ⟨y, hyy, rfl⟩ := get_map hd1
        have hmy : y ∈ ys x := List.mem_of_getElem? hyy
        have hv3 : Rp K F3 v (enc x) := Rp.mono s3.sub _ _ hx
        have hu3 : Rp K F3 u (enc1 y) := Rp.mono e23 _ _ hu
        refine ⟨hwp1 v u, ?_⟩
        refine ht x hm y hmy F3 (s1.sub.trans s3.sub) v u hv3 hu3 H' s3.inn s3.good _ fun b F4 H4 hb s4 => ?_
        obtain ⟨f4, e4⟩ := s4.beside gg hD f3 e3
        subst hb
        cases hp : p x y with
        | true =>
          rw [if_pos rfl]
          refine he x hm y hmy hp F4 ((s1.sub.trans s3.sub).trans s4.sub) v u (Rp.mono s4.sub _ _ hv3) (Rp.mono s4.sub _ _ hu3) H4 s4.inn s4.good _ fun z zv F5 H5 hzz s5 hzv => ?_
          obtain ⟨f5, e5⟩ := s5.beside gg hD f4 e4
          subst hzz
          refine ⟨acc3, e5, sz_lt ?_, F5, acc3 ++ [zv], ((s3.trans s4).trans s5).put gg hD f5, (e23.trans s4.sub).trans s5.sub, f5, upd_same, ?_⟩
          · rw [r3.length]
            show (fl (xs.take i) ++ (((ys x).take k).filter (p x)).map (g x)).length < 100000
            rw [List.length_append, List.length_map]
            have h1 := hfl i hi
            have h2 := List.length_filter_le (p x) ((ys x).take k)
            have h3 := hz1 x hm
            rw [List.length_take] at h2
            have h4 : i * 300 ≤ 300 * 300 := Nat.mul_le_mul_right _ (by omega)
            omega
          · show RpAll K F5 _ (fl (xs.take i) ++ (((ys x).take (k + 1)).filter (p x)).map (g x))
            rw [take_succA hyy, List.filter_append, List.map_append]
            have : [y].filter (p x) = [y] := by simp [hp]
            rw [this, List.map_cons, List.map_nil, ← List.append_assoc]
            exact RpAll.append (RpAll.mono (s4.sub.trans s5.sub) _ _ r3) (.one hzv)
        | false =>
          rw [if_neg Bool.false_ne_true]
          refine ⟨F4, acc3, s3.trans s4, e23.trans s4.sub, f4, e4, ?_⟩
          show RpAll K F4 _ (fl (xs.take i) ++ (((ys x).take (k + 1)).filter (p x)).map (g x))
          rw [take_succA hyy, List.filter_append, List.map_append]
          have : [y].filter (p x) = [] := by simp [hp]
          rw [this, List.map_nil, List.append_nil]
          exact RpAll.mono s4.sub _ _ r3
      · have hE : k = (ys x).length := Nat.le_antisymm hk (Nat.le_of_not_lt hkl)
        subst hE
        refine .inl ⟨by have := Y1.stop H3 eH3; rw [List.length_map] at this; exact this, F3, fl (xs.take (i + 1)), acc3, s3, f3, e3, ?_, rfl⟩
        have e6 : fl (xs.take (i + 1)) = fi (ys x).length := by
          show (xs.take (i + 1)).flatMap _ = fl (xs.take i) ++ (((ys x).take (ys x).length).filter (p x)).map (g x)
          rw [take_succA hxx, List.flatMap_append, List.take_length]
          simp only [List.flatMap_cons, List.flatMap_nil, List.append_nil]
          rfl
        rw [e6]
        exact r3
    · have hE : i = xs.length := Nat.le_antisymm hi (Nat.le_of_not_lt hlt)
      subst hE
      refine .inl ⟨by have := Y.stop H eH; rw [List.length_map] at this; exact this, ?_⟩
      obtain ⟨F2, l2, a2, s2, r2⟩ := w.done gg hD
      refine q _ _ F2 H ?_ (s1.trans s2) r2
      show PyData.list l2 = _
      rw [a2, List.take_length]
theorem rc_allM {α : Type} (a : List α) (p : α → Bool) : RcG K (rAll K) [.list (a.map fun x => .bool (p x))] (Is (.bool (a.all p))) := by
  have h := rc_all (K := K) (bs := a.map p)
  rw [List.map_map] at h
  have e : (a.map p).all id = a.all p := by induction a <;> simp_all
  rw [e] at h
  exact h
theorem rc_anyM {α : Type} (a : List α) (p : α → Bool) : RcG K (rAny K) [.list (a.map fun x => .bool (p x))] (Is (.bool (a.any p))) := by
  have h := rc_any (K := K) (bs := a.map p)
  rw [List.map_map] at h
  have e : (a.map p).any id = a.any p := by induction a <;> simp_all
  rw [e] at h
  exact h
theorem g_cbI {r : List V → Hp → VK → Prop} {ds : List PyData} (h : EvsG K pt ts σ F (· = ds)) (hr : RcG K r ds R) : EvG K pt (tCB r ts) σ F R := g_cb h fun _ e => e ▸ hr
theorem g_consR (h : EvG K pt te σ F R) : EvsG K pt (tCons te tNil) σ F (fun l => ∃ d, l = [d] ∧ R d) := fun H1 i g Q q => gs_cons h gs_nil H1 i g Q fun l vs F2 H2 hl s hv => by
  obtain ⟨d, ds, e, h1, h2⟩ := hl
  exact q l vs F2 H2 ⟨d, by rw [e, h2], h1⟩ s hv
/-- one argument -/
theorem gs_one (h : EvG K pt te σ F (Is d)) : EvsG K pt (tCons te tNil) σ F (· = [d]) := gs_consI h gs_nil
theorem gs_two (h : EvG K pt ta σ F (Is d)) (h2 : EvG K pt tb σ F (Is e)) : EvsG K pt (tCons ta (tCons tb tNil)) σ F (· = [d, e]) := gs_consI h (gs_one h2)
theorem gs_three {tc : TE} (h : EvG K pt ta σ F (Is d)) (h2 : EvG K pt tb σ F (Is e)) (h3 : EvG K pt tc σ F (Is z)) : EvsG K pt (tCons ta (tCons tb (tCons tc tNil))) σ F (· = [d, e, z]) := gs_consI h (gs_two h2 h3)
theorem g_un1 {i : Int} (h : EvG K pt te σ F (Is (.int i))) : EvG K pt (tUn (rU fun i => .int (-i)) te) σ F (Is (.int (-i))) := fun H1 i' g Q q => h H1 i' g _ fun d v F2 H2 hd s hv => by
  subst hd
  exact ⟨i, rp_int hv, q _ _ F2 H2 rfl s (.int _)⟩
theorem g_opI (ha : EvG K pt ta σ F (Is d)) (hb : EvG K pt tb σ F (Is e)) (hr : RvG K r d e R) : EvG K pt (tOp r ta tb) σ F R := g_op ha hb fun _ _ h1 h2 => h1 ▸ h2 ▸ hr
end
section
variable {K : PySem.W.Frag} {pt : Option Pt} {σ : L2.St} {F0 H0 F H F' : Hp} {te ta tb : TE} {t u : TT} {R : PD} {d e z : PyData} {D : Ends} {tu tw tz : TS}
theorem t_asg1 {i : Nat} (s : Step pt F0 H0 F H) (h : EvG K pt te σ F R) (q : ∀ d v F2 H2, R d → Step pt F0 H0 F2 H2 → Ex F F2 → Rp K F2 v d → D.nx (σ.set i (some v)) H2) : tAsg te (gName i) D σ H :=
  h H s.inn s.good _ fun d v F2 H2 hd s2 hv => q d v F2 H2 hd (s.trans s2) s2.sub hv
theorem t_for1 {wi : TI} {j : Nat} {ds : List PyData} (s : Step pt F0 H0 F H) (hw : WiG K pt wi σ F (· = ds)) (I : Nat → L2.St → Hp → Prop) (h0 : ∀ F2, Ex F F2 → I 0 σ F2)
    (hs : ∀ i d, ds[i]? = some d → ∀ σ' F' H' x, I i σ' F' → Step pt F0 H0 F' H' → Ex F F' → Rp K F' x d →
      ∀ N : L2.St → Hp → Prop, (∀ σ2 F2 H2, I (i + 1) σ2 F2 → Step pt F0 H0 F2 H2 → Ex F' F2 → N σ2 H2) → tu { D with nx := N, ct := N, bk := D.nx } (σ'.set j (some x)) H')
    (hd : ∀ σ' F' H', I ds.length σ' F' → Step pt F0 H0 F' H' → Ex F F' → D.nx σ' H') : tFor wi (gName j) tu D σ H :=
  t_for (D := { D with nx := D.nx }) (tz := fun D' σ H => D.nx σ H) s hw I h0 hs hd
/-- a test that fails: the suite is skipped -/
theorem t_skip (s : Step pt F0 H0 F H) (h : EtG pt t σ F (· = false)) (q : ∀ F2 H2, Step pt F0 H0 F2 H2 → Ex F F2 → tz D σ H2) : tSeq (tIfS t tu tNext) tz D σ H := t_when s h (fun z => by cases z) fun _ => q
end
end Fv

namespace Fv
open PySem PySem.Spec PyProof.Rows L2 Evl StX
theorem o_ix {X : Cx} {K : PySem.W.Frag} (h : X.K = K := by rfl) : IxR X (rIx K) := h ▸ ix_seq
theorem m_append {X : Cx} : MtR X "list.append" rAppend := mt_append
section
variable {K : PySem.W.Frag} {w : World} {pt : Option Pt} {σ : L2.St} {F F' H : Hp} {te ta tb : TE} {ts tr : TA} {t u : TT} {R R1 S2 R3 : PD} {d e z : PyData} {r : L2.R2} {wi wi1 : TI}
theorem rv_ix {ds : List PyData} {src : PyData} {i : Int} (hs : src = .list ds ∨ src = .tuple ds) (h : atI ds i = some d) : RvG K (rIx K) src (.int i) (Is d) := fun F H x y e hx hy Q q => by
  rcases hs with rfl | rfl
  · exact .inl (rv_ixL h F H x y e hx hy Q q)
  · exact .inr (.inl (rv_ixT h F H x y e hx hy Q q))
theorem rv_eqI {i j : Int} : RvG K rEq (.int i) (.int j) (Is (.bool (decide (i = j)))) := rv_val fun F H x y _ hx hy => by
  rw [rp_int hx, rp_int hy]
  refine ⟨.bl (decide (V.int i = V.int j)), fun Q q => ⟨rfl, q⟩, ?_⟩
  have : decide (V.int i = V.int j) = decide (i = j) := by by_cases h : i = j <;> simp [h]
  rw [this]; exact .bl _
theorem rc_lenS {ds : List PyData} {src : PyData} (hs : src = .list ds ∨ src = .tuple ds) : RcG K (rLen K) [src] (Is (.int ds.length)) := by
  rcases hs with rfl | rfl
  · exact rc_lenL
  · exact rc_lenT
end
/-! ### a list that grows -/
/-- at l a list of ls beside the part that stays; it was made behind H0 -/
structure Gst (K : PySem.W.Frag) (pt : Option Pt) (F0 H0 : Hp) (l : Addr) (F H : Hp) (ls : List PyData) : Prop where
  step : Step pt F0 H0 F H
  off : F l = none
  ex : ∃ acc, H l = some (.lst acc) ∧ RpAll K F acc ls
section
variable {K : PySem.W.Frag} {pt : Option Pt} {σ : L2.St} {F0 H0 F H F' F2 H2 : Hp} {te ta tb : TE} {ts tr : TA} {t u : TT} {R R1 S2 R3 : PD} {d e z : PyData} {wi : TI} {D : Ends} {tu tw tz : TS} {l : Addr} {ls : List PyData}
theorem Gst.run (g0 : Good pt F0 H0) (h0 : H0 l = none) (g : Gst K pt F0 H0 l F H ls) (s : Step pt F H F2 H2) : Gst K pt F0 H0 l F2 H2 ls := by
  obtain ⟨acc, e, r⟩ := g.ex
  obtain ⟨f2, e2⟩ := s.beside g0 h0 g.off e
  -- the pot is off l
  exact ⟨g.step.trans s, f2, acc, e2, RpAll.mono s.sub _ _ r⟩
theorem Gst.put (g0 : Good pt F0 H0) (h0 : H0 l = none) (g : Gst K pt F0 H0 l F H ls) {v : V} (hv : Rp K F v d) : ∃ acc, H l = some (.lst acc) ∧ acc.length = ls.length ∧ Gst K pt F0 H0 l F (upd H l (.lst (acc ++ [v]))) (ls ++ [d]) := by
  obtain ⟨acc, e, r⟩ := g.ex
  exact ⟨acc, e, r.length, g.step.put g0 h0 g.off, g.off, _, upd_same, r.append (.one hv)⟩
theorem Gst.done (g0 : Good pt F0 H0) (h0 : H0 l = none) (g : Gst K pt F0 H0 l F H ls) : ∃ F2, Step pt F0 H0 F2 H ∧ Ex F F2 ∧ Rp K F2 (.ref l) (.list ls) := by
  obtain ⟨acc, e, r⟩ := g.ex
  have e1 : Ex F (upd F l (.lst acc)) := Ex.new g.off
  refine ⟨upd F l (.lst acc), ⟨g.step.sub.trans e1, fun b u hb => ?_, g.step.keep, fun q hq => ⟨?_, (g.step.good q hq).2⟩, fun b h1 h2 => ?_⟩, e1, .lst upd_same (RpAll.mono e1 _ _ r)⟩
  · by_cases z : b = l
    · rw [z, upd_same] at hb; rw [z, e]; exact hb
    · rw [upd_ne z] at hb; exact g.step.inn b u hb
  · rw [upd_ne (off_pot g0 h0 q hq).1.symm]; exact (g.step.good q hq).1
  · have z : b ≠ l := loose_ne h2 h0
    rw [upd_ne z]; exact g.step.new b h1 h2
/-- x = [] -/
theorem t_newL {i : Nat} (s : Step pt F0 H0 F H) (q : ∀ l, H0 l = none → H l = none → Gst K pt F0 H0 l F (upd H l (.lst [])) [] → tz D (σ.set i (some (.ref l))) (upd H l (.lst []))) (hb : ∀ l, H l = none → H0 l = none) : tSeq (tAsg (tLst tNil) (gName i)) tz D σ H :=
  ⟨Nat.zero_le _, fun l hl => by
    have f : F l = none := by
      cases e : F l with
      | none => rfl
      | some o => rw [s.inn _ _ e] at hl; cases hl
    exact q l (hb l hl) hl ⟨s.trans (.litter s.inn s.good hl), f, [], upd_same, .nil⟩⟩
/-- x.append(e) -/
theorem t_app {i : Nat} (g0 : Good pt F0 H0) (h0 : H0 l = none) (g : Gst K pt F0 H0 l F H ls) (hi : σ[i]? = some (some (.ref l))) (h : EvG K pt te σ F R) (hz : ls.length < 100000)
    (q : ∀ d F2 H2, R d → Gst K pt F0 H0 l F2 H2 (ls ++ [d]) → Ex F F2 → D.nx σ H2) : tDrop (tBM K "list" rAppend (tVar i) (tCons te tNil)) D σ H := by
  obtain ⟨acc, e, r⟩ := g.ex
  refine ⟨.ref l, hi, .inl ⟨rfl, acc, sq_of e⟩, h H g.step.inn g.step.good _ fun d v F2 H2 hd s hv => ?_⟩
  obtain ⟨acc2, e2, hlen, g2⟩ := (g.run g0 h0 s).put g0 h0 hv
  exact ⟨l, acc2, v, rfl, rfl, e2, sz_lt (by rw [hlen]; exact hz), q d F2 _ hd g2 s.sub⟩
/-- a loop beside a list that grows: I tells the slots and the list behind i turns -/
theorem t_forG {j : Nat} {ds : List PyData} (g0 : Good pt F0 H0) (h0 : H0 l = none) (g : Gst K pt F0 H0 l F H ls) (hw : WiG K pt wi σ F (· = ds)) (I : Nat → L2.St → Hp → List PyData → Prop) (hi : ∀ F2, Ex F F2 → I 0 σ F2 ls)
    (hs : ∀ i d, ds[i]? = some d → ∀ σ' F' H' x ls', I i σ' F' ls' → Gst K pt F0 H0 l F' H' ls' → Ex F F' → Rp K F' x d →
      ∀ N : L2.St → Hp → Prop, (∀ σ2 F2 H2 ls2, I (i + 1) σ2 F2 ls2 → Gst K pt F0 H0 l F2 H2 ls2 → Ex F' F2 → N σ2 H2) → tu { D with nx := N, ct := N, bk := tz D } (σ'.set j (some x)) H')
    (hd : ∀ σ' F' H' ls', I ds.length σ' F' ls' → Gst K pt F0 H0 l F' H' ls' → Ex F F' → tz D σ' H') : tSeq (tFor wi (gName j) tu) tz D σ H :=
  hw H g.step.inn g.step.good _ fun ds' J F1 H1 e s1 Y => by
    subst e
    refine ⟨fun i m σ' H' => m = ds'.length - i ∧ i ≤ ds'.length ∧ ∃ F' ls', Gst K pt F0 H0 l F' H' ls' ∧ Ex F1 F' ∧ I i σ' F' ls', ⟨ds'.length, by simp, Nat.zero_le _, F1, ls, g.run g0 h0 s1, Ex.refl _, hi F1 s1.sub⟩, ?_⟩
    rintro i m σ' H' ⟨rfl, hil, F', ls', g', e', p⟩
    have eH : Ex F1 H' := e'.trans g'.step.inn
    by_cases hlt : i < ds'.length
    · refine .inr ⟨Y.go i H' eH hlt, fun σ2 H2 => ∃ F2 ls2, Gst K pt F0 H0 l F2 H2 ls2 ∧ Ex F1 F2 ∧ I (i + 1) σ2 F2 ls2, fun σ2 H2 ⟨F2, ls2, a, b, c⟩ => ⟨ds'.length - (i + 1), by omega, rfl, hlt, F2, ls2, a, b, c⟩, fun x H2 y => ?_⟩
      obtain ⟨rfl, d, hdd, hx⟩ := Y.yld i H' x H2 eH hlt y
      exact hs i d hdd σ' F' _ x ls' p g' (s1.sub.trans e') (Rp.mono e' _ _ hx) _ fun σ2 F2 H2 ls2 a b c => ⟨F2, ls2, b, e'.trans c, a⟩
    · have hE : i = ds'.length := Nat.le_antisymm hil (Nat.le_of_not_lt hlt)
      subst hE
      exact .inl ⟨Y.stop H' eH, hd σ' F' H' ls' p g' (s1.sub.trans e')⟩
end
end Fv
namespace Fv
open PySem L2 Evl
theorem Step.back {pt : Option Pt} {F0 H0 F H : Hp} (s : Step pt F0 H0 F H) (l : Addr) (h : H l = none) : H0 l = none := by
  cases e : H0 l with
  | none => rfl
  | some o => exact absurd h (s.keep.there (F := F) s.good (by rw [e]; simp))
end Fv

/-! a dict comprehension whose keys are tuples -/
namespace Fv
open PySem PySem.Spec PyProof.Rows L2 Evl StX
/-- the store of one entry, the key a tuple that stands -/
theorem putT {Y : Cx} {pins : List (Addr × Obj)} {τ : L2.St} {G : Hp} {s : Shared} {E : Value → Shared → Prop} {D b : Addr} {es : List (List Key × V)} {k : List Key} {v : V} {u r : Value} {Q : Unit → Shared → Prop}
    (hu : Y.A.units + 1 < cLine) (I : Inv Y pins τ G s) (hD : G D = some (.dT es)) (hk : G b = some (.tup (k.map kV))) (hz : es.length < sizeLine) (ru : RelV (.ref b) u) (rr : RelV v r)
    (fin : ∀ s', Inv Y pins τ (upd G D (.dT (putK es k v))) s' → Q () s') : wpAny (model Y.prog Y.w) Y.A (dictSet D u r) Q E s := by
  cases (show u = Value.ref b from ru)
  obtain ⟨hl, hsys, ts, kt, of⟩ := dt_of I.hok hD
  refine wpAny_dictSet_heap (hsz := by rw [← Paired.length kt]; exact hl) (show (tupleKind (mixKind Y.prog Y.w)).room Y.A from Nat.lt_of_succ_lt hu) (key_of I.hok hk) of fun hp' new same => fin _ ?_
  obtain ⟨o, ar, n, e1, e2, e3, e4, _, e6⟩ := new
  have fit : (putK es k v).length ≤ sizeLine := by have := length_putK es k v; omega
  refine d_write I (by rw [hD]; trivial) same ⟨o, e1⟩ ⟨fit, hsys, _, (kt.put k hk rr).keeps fun c ys ec => ?_, o, ar, n, e1, e2, e3, e4, e6⟩
  have : c ≠ D := ne_of ec hD (fun z => by cases z)
  rw [upd_ne this]; exact ec
/-- {k: v for target in iter if ..}: D is the new dict, each key a tuple of ints and texts -/
def tDcT (wi : TI) (g : TG) (tt : TT) (tk tv : TE) (vs : List Nat) : TE := fun σ H Q => wi σ H fun J H1 => ∀ D, H1 D = none →
  ∃ W : Nat → Nat → Hp → Prop, (∃ m, W 0 m (upd H1 D (.dT []))) ∧ ∀ i m H, W i m H →
    (J.stop i H ∧ Q (.ref D) H) ∨
    (J.go i H ∧ ∃ Nx : Hp → Prop, (∀ H', Nx H' → ∃ m', m' < m ∧ W (i + 1) m' H') ∧
      ∀ x H', J.yld i H x H' → g x (wipe σ vs) H' fun σ2 H2 => wipe σ2 vs = wipe σ vs ∧ tt σ2 H2 fun b H3 =>
        if b = true then tk σ2 H3 fun y H4 => tv σ2 H4 fun z H5 => ∃ es k q, y = .ref q ∧ H5 q = some (.tup (k.map kV)) ∧ H5 D = some (.dT es) ∧ es.length < sizeLine ∧ Nx (upd H5 D (.dT (putK es k z)))
        else Nx H3)
section
variable {X : Cx} {kx vx tg iter : Expr} {ifs : List Expr} {scope : Scope} {own : List (Str × Nat)} {pos : Pos} {wi : TI} {g : TG} {tt : TT} {tk tv : TE}
/-- the scope's block of a comprehension, whatever its own frame -/
abbrev Blk (X : Cx) (scope : Scope) (P : Cx → Prop) : Prop := ∀ (s : Shared) (H : Hp) (C : Addr) (cl : List (Str × Addr)) (fp : List Addr), P (X.blk s H scope (compEnvC scope cl C X.env) fp)
theorem pe_dcT (hc : X.calm = true) (hu : X.A.units + 1 < cLine) (hN : X.N.Nodup) (hi : PI X tg iter wi) (ok : BlkOk X.N X.env.scope scope own)
    (hg : Blk X scope fun Y => PG Y tg g) (ht : Blk X scope fun Y => PTs Y ifs tt) (hk : Blk X scope fun Y => PE Y kx tk) (hv : Blk X scope fun Y => PE Y vx tv) (hs : ∀ x, foldedSetIterable iter X.env x = pure x := by intro _; rfl) :
    PE X (.DictComp kx vx [⟨tg, iter, ifs, 0⟩] scope pos) (tDcT wi g tt tk tv (own.map (·.2))) := by
  refine ⟨fun pins s σ H Q I q => ?_⟩
  rw [arm_eval_DictComp]
  have clo : ∀ n ∈ scope.names, n.2 = .free → ∃ c, X.env.cells.lookup n.1 = some c := fun n hn e => (ok.free n hn e).elim (fun z => I.ok.has _ (.inl z)) fun z => I.ok.has _ (.inr z)
  refine wpAny_comprehension_free (use := none) rfl hs (closure_ok clo) ok.kind (fun n hn e => by rw [ok.uniq n hn, e]) (thn (hi.run pins s σ H _ I q) fun xv sa ha => thn ha fun itv sb hb => ?_)
  obtain ⟨it, fp, tn, J, Hb, rfl, Ib, T, tb, fb, qb⟩ := hb
  refine wpAny_newObj_type (newEnv_comp ?_)
  -- the dict D, then the block's frame C
  generalize eD : sb.heap.objs.size = D
  have freeD : Hb D = none := Ib.hok.fresh (Nat.le_of_eq eD)
  obtain ⟨W, ⟨m0, w0⟩, turn⟩ := qb D freeD
  generalize ec : ({ sb with heap := sb.heap.push { cls := .type "dict", data := .dict #[] } } : Shared) = sc
  have push : sc.heap = sb.heap.push { cls := .type "dict", data := .dict #[] } := by rw [← ec]
  have Ic : Inv X pins σ (upd Hb D (.dT [])) sc := by
    subst eD; subst ec
    exact Ib.laid (t' := sb.toks) (fun _ _ e => Heap.get?_push_of_some _ e) (Nat.le_refl _) (dt_empty sb.heap Ib.big)
  have fc : ∀ b ∈ fp, FpOk X pins (upd Hb D (.dT [])) b ∧ b < sc.heap.objs.size := fun b hb => by
    obtain ⟨o, e, _⟩ := T.obj _ _ tb b hb
    have lt := Heap.lt_size e
    have ne : b ≠ D := fun z => by rw [z, ← eD] at lt; exact Nat.lt_irrefl _ lt
    exact ⟨⟨by rw [upd_ne ne]; exact (fb b hb).1, (fb b hb).2⟩, by rw [push, Heap.size_push]; exact Nat.lt_succ_of_lt lt⟩
  have tc : tn 0 sc.heap := T.keep _ _ _ tb fun _ _ _ e => by rw [push]; exact Heap.get?_push_of_some _ e
  have Id := block_start Ic ok hN fc
  have none3 : ∀ b ∈ fp, upd Hb D (.dT []) b = none := fun b hb => (fc b hb).1.1
  have bg := hg sc (upd Hb D (.dT [])) sc.heap.objs.size (cellsFrom (sc.heap.objs.size + 1) scope.names (cloFrom X.env.cells scope.names [])) fp
  have bt := ht sc (upd Hb D (.dT [])) sc.heap.objs.size (cellsFrom (sc.heap.objs.size + 1) scope.names (cloFrom X.env.cells scope.names [])) fp
  have bk := hk sc (upd Hb D (.dT [])) sc.heap.objs.size (cellsFrom (sc.heap.objs.size + 1) scope.names (cloFrom X.env.cells scope.names [])) fp
  have bv := hv sc (upd Hb D (.dT [])) sc.heap.objs.size (cellsFrom (sc.heap.objs.size + 1) scope.names (cloFrom X.env.cells scope.names [])) fp
  show codeAny _ _ (.compStart (.DictComp kx vx [⟨tg, iter, ifs, 0⟩] scope pos) 0 (.ref it) (.ref D) (compEnvC scope (cellsFrom (sc.heap.objs.size + 1) scope.names (cloFrom X.env.cells scope.names [])) sc.heap.objs.size X.env))
    (compPost (model X.prog X.w) X.A X.xe none (EP X pins σ Q) (.ref D) sc.heap.objs.size) { sc with heap := pushCells (sc.heap.push { cls := .type "dict", data := .dict #[] }) scope.names }
  have td : tn 0 (pushCells (sc.heap.push { cls := .type "dict", data := .dict #[] }) scope.names) := T.keep _ _ _ tc fun _ _ _ e => pushCells_keeps _ _ _ _ (Heap.get?_push_of_some _ e)
  generalize eY : compEnvC scope (cellsFrom (sc.heap.objs.size + 1) scope.names (cloFrom X.env.cells scope.names [])) sc.heap.objs.size X.env = env1 at Id bg bt bk bv ⊢
  have locY : env1.locals = sc.heap.objs.size := by rw [← eY]; rfl
  generalize eH : upd Hb D (.dT []) = Hc at Ic Id bg bt bk bv w0 none3 fc
  generalize es0 : ({ sc with heap := pushCells (sc.heap.push { cls := .type "dict", data := .dict #[] }) scope.names } : Shared) = sd at Id ⊢
  have td' : tn 0 sd.heap := by rw [← es0]; exact td
  generalize eZ : X.blk sc Hc scope env1 fp = Y at Id bg bt bk bv
  have YA : Y.A = X.A := by rw [← eZ]
  have own1 : ∀ {τ : L2.St} {G : Hp} {s' : Shared}, Inv Y [] τ G s' → (∀ b ∈ fp, G b = none) → ∀ b ∈ fp, FpOk Y [] G b := fun {τ G s'} J1 hn b hb => by
    subst eZ
    exact ⟨hn b hb, (J1.ok.exf b hb).1, J1.ok.exfs b hb, .inl hb, fun x c e => (J1.ok.exf b hb).2 x c e, fun p hp => by simp at hp⟩
  have main : codeAny (model X.prog X.w) X.A (.compLoop (.DictComp kx vx [⟨tg, iter, ifs, 0⟩] scope pos) 0 (.ref it) (.ref D) env1) (compPost (model X.prog X.w) X.A X.xe none (EP X pins σ Q) (.ref D) sc.heap.objs.size) sd := by
    refine compLoop_anyD (fun n s' => ∃ i G, Inv Y [] (wipe σ (own.map (·.2))) G s' ∧ tn i s'.heap ∧ (∀ b ∈ fp, G b = none) ∧ W i n G) ?_ m0 ⟨0, Hc, Id, td', none3, w0⟩
    rintro n s1 ⟨i, G, J1, t1, n1, w1⟩
    rcases turn i n G w1 with ⟨stp, qq⟩ | ⟨go, Nx, hNx, step⟩
    · -- the end: back in the def's own frame
      have z := T.done Y (by subst eZ; rfl) (by subst eZ; rfl) (by subst eZ; rfl) (by subst eZ; exact hc) i [] s1 _ G (fun _ _ => False) J1 (own1 J1 n1) t1 stp
      rw [YA] at z
      refine thnF z fun r s2 ⟨er, J2⟩ => ?_
      subst er; subst eZ
      have nC : G sc.heap.objs.size = none := by
        have z : G env1.locals = none := J2.free
        rw [locY] at z; exact z
      obtain ⟨m, hm, _⟩ := J2.loc
      have hm : s2.heap.Ns env1.locals m := hm
      rw [locY] at hm
      have back : Inv X pins σ G s2 := Ic.call' (ch := fp) J2.os J2.base J2.hok J2.bare fun b hb => let y := (fc b hb).1.2; ⟨y.2.2.1, y.1, y.2.2.2.1, y.2.2.2.2⟩
      obtain ⟨f0, f1, f2, f3, f4, f5⟩ := Ic.fpOk (Nat.le_refl _) nC
      exact ⟨m, hm, fun h3 sb3 => ⟨.ref D, G, back.turned (t' := s2.toks) (fun b o hb e => (sb3.2 b hb).trans e) f0 f1 f3 f4 f5, rfl, qq⟩⟩
    · have z := T.item Y (by subst eZ; rfl) (by subst eZ; rfl) (by subst eZ; rfl) (by subst eZ; exact hc) i [] s1 _ G (fun _ _ => False) J1 (own1 J1 n1) t1 go
      rw [YA] at z
      refine thnF z fun r s2 ⟨u, er, h2⟩ => ?_
      subst er
      refine thnF h2 fun _ s3 ⟨x, G3, J3, r3, y3, t3, n3⟩ => ?_
      have J3' := J3.pinned (own1 J3 n3) (T.obj _ _ t3)
      have zg := bg.run _ s3 _ G3 x u _ J3' r3 (step x G3 y3)
      subst eZ
      refine thnF zg fun _ s4 ⟨τ, G4, J4, hw4, q4⟩ => ?_
      refine thnF (bt.run _ s4 τ G4 _ J4 q4) fun b s5 ⟨G5, J5, q5⟩ => ?_
      have len : (wipe σ (own.map (·.2))).length = τ.length := by rw [← hw4, wipe_length]
      have close : ∀ {s' : Shared} {G' : Hp}, Inv (X.blk sc Hc scope env1 fp) ([] ++ pinsAt fp s3.heap) τ G' s' → Nx G' → ∃ m, m < n ∧ ∃ i G, Inv (X.blk sc Hc scope env1 fp) [] (wipe σ (own.map (·.2))) G s' ∧ tn i s'.heap ∧ (∀ b ∈ fp, G b = none) ∧ W i m G := fun {s' G'} J' nx => by
        obtain ⟨m', lt, w'⟩ := hNx G' nx
        have held : ∀ b ∈ fp, ∀ o, s3.heap.get? b = some o → s'.heap.get? b = some o ∧ G' b = none := fun b hb o e =>
          have y := J'.pin (b, o) (List.mem_append_right _ (List.mem_append_right _ (mem_pinsAt hb e)))
          ⟨y.1, y.2.1⟩
        refine ⟨m', lt, i + 1, G', (J'.unpinned (pins := [])).weak len (fun j v e => (wipe_some (hw4 ▸ e)).1), T.keep _ _ _ t3 fun b hb o e => (held b hb o e).1, fun b hb => ?_, w'⟩
        obtain ⟨o, e, _⟩ := T.obj _ _ t3 b hb
        exact (held b hb o e).2
      cases b with
      | false => exact close J5 (by simpa using q5)
      | true =>
        have q5' := q5
        simp only [if_true] at q5'
        refine thnF (bk.run _ s5 τ G5 _ J5 q5') fun kv s6 ⟨yk, G6, J6, r6, q6⟩ => ?_
        refine thnF (bv.run _ s6 τ G6 _ J6 q6) fun vv s7 ⟨yv, G7, J7, r7, es, k, q, ek, hq, hD, hz, nx⟩ => ?_
        subst ek
        exact putT (Y := X.blk sc Hc scope env1 fp) hu J7 hD hq hz r6 r7 fun s8 J8 => close J8 nx
  exact codeAny_compStart_dict main (T.self X.A 0 _ _ _ td' main)
end
end Fv

/-! sorted of a list of rows of whole numbers -/
namespace Fv
open PySem PySem.Spec PyProof.Rows L2 Evl StX
/-- the rows in Python's order -/
def sortL (ls : List (List Int)) : List (List Int) := ls.mergeSort (PySem.W.dataLe false dT)
theorem sortL_perm (ls : List (List Int)) : (sortL ls).Perm ls := List.mergeSort_perm _ _
theorem each_of_vals {β : Type} {f : β → V} : ∀ {bs : List β} {us : List Value}, Vals (bs.map f) us → PySem.W.EachIs (fun u b => RelV (f b) u) us bs
  | [], _, h => by cases h; exact .nil
  | b :: bs, _, h => by
    cases h with
    | cons r t => exact .cons r (each_of_vals t)
theorem vals_of_each {β : Type} {f : β → V} : ∀ {bs : List β} {us : List Value}, PySem.W.EachIs (fun u b => RelV (f b) u) us bs → Vals (bs.map f) us
  | [], _, h => by cases h; exact .nil
  | b :: bs, _, h => by
    cases h with
    | cons r t => exact .cons r (vals_of_each t)
theorem sorts_unit {prog : Program} {w : World} {A : Around} {s : Shared} {vs : List Value} (e : PySem.W.EachIs (fun v d => ∃ as, Reads s.heap v d as) vs [dT []]) (hu : A.units + 1 < cLine) : PySem.W.SortsAt prog w A s (PySem.W.dataKind s.heap [dT []]) vs := by
  have one : ∀ d, d ∈ [dT []] → d = dT [] := fun d h => List.mem_singleton.mp h
  refine ⟨fun v hv => ?_, general', fun E x y a b Q ha hb hq => ?_, fun h2 => ?_⟩
  · obtain ⟨d, hd, as, r⟩ := e.left v hv
    exact ⟨_, PySem.W.dataKind_some (fun d h d' h' => by rw [one d h, one d' h']; rfl) hd r⟩
  · obtain ⟨d, as, hd, ra, rfl⟩ := PySem.W.dataKind_inv ha
    obtain ⟨d', as', hd', rb, rfl⟩ := PySem.W.dataKind_inv hb
    have e1 := one d hd
    have e2 := one d' hd'
    subst e1 e2
    show wpAny _ _ (oneLt' false x y) Q E s
    exact PySem.W.oneLt_alike (f := false) (fun z => by cases z) ra rb rfl (fun z => by cases z) (by have : (dT []).depth = 1 := by decide
                                                                                                     rw [this]; omega) hq
  · have := e.length
    simp at this
    omega
/-- sorted(xs), xs a list of rows -/
def rSortLL (K : PySem.W.Frag) : List V → Hp → VK → Prop := fun xs H Q => ∃ (l : Addr) (ps : List (V × List Int)), xs = [.ref l] ∧ H l = some (.lst (ps.map (·.1))) ∧ (∀ p ∈ ps, Rp K H p.1 (dT p.2)) ∧
  ((∀ p ∈ ps, p.2 ≠ []) ∨ ps.map (·.2) = [[]]) ∧ ∀ (qs : List (V × List Int)) p, qs.Perm ps → qs.map (·.2) = sortL (ps.map (·.2)) → H p = none → Q (.ref p) (upd H p (.lst (qs.map (·.1))))
theorem c_sortLL {X : Cx} {K : PySem.W.Frag} (hu : X.A.units + 65 < cLine) (h : X.K = K := by rfl) : CallR X (.builtin "sorted") (rSortLL K) := by
  subst h
  intro pins s σ H xs us Q I r q
  obtain ⟨l, ps, rfl, hl, hp, hk, q⟩ := q
  rw [Vals.ref1 r]
  obtain ⟨its, rv, pl, hz⟩ := I.list (SqL.of hl)
  have ea : PySem.W.EachIs (fun u b => RelV b.1 u) its ps := each_of_vals rv
  have rd : ∀ u (b : V × List Int), b ∈ ps → RelV b.1 u → ∃ as, Reads s.heap u (dT b.2) as := fun u b hb ru => Dp.reads I (dT b.2) b.1 u (Rp.dp _ _ (hp b hb)) ru
  let hS : Heap := PySem.W.sortingHeap (PySem.W.copyHeap s.heap its) (s.heap.objs.size + 1) its
  have er0 : PySem.W.EachIs (fun u (b : V × List Int) => ∃ as, Reads hS u (dT b.2) as) its ps := (PySem.W.each_mem ea).mono fun u b ⟨ru, hb⟩ => by
    obtain ⟨as, x⟩ := rd u b hb ru
    exact ⟨as, PyProof.Rows.Reads.keeps (fun _ _ => PySem.W.sorting_copy_old) x⟩
  have er1 : PySem.W.EachIs (fun u d => ∃ as, Reads hS u d as) its (ps.map fun b => dT b.2) := PySem.W.each_map (R := fun u d => ∃ as, Reads hS u d as) (fun b : V × List Int => dT b.2) er0
  have al : PySem.W.AllAlike (ps.map fun b => dT b.2) := PySem.W.AllAlike.of fun b b' => PySem.W.alike_ints b.2 b'.2
  have dep : ∀ b : V × List Int, (dT b.2).depth ≤ 2 := fun b => depth_dT b.2
  have S : PySem.W.SortsAt X.prog X.w X.A.in1.in1 { s with heap := hS } (PySem.W.dataKind hS (ps.map fun b => dT b.2)) its := by
    rcases hk with hne | h1
    · refine PySem.W.SortsAt.data (s := { s with heap := hS }) er1 al (.inl fun d hd => ?_) fun d hd => ?_
      · obtain ⟨b, hb, rfl⟩ := List.mem_map.mp hd
        have := hne b hb
        cases e : b.2 with
        | nil => exact absurd e this
        | cons x r => exact ⟨.int x, r.map .int, by simp [dT]⟩
      · obtain ⟨b, hb, rfl⟩ := List.mem_map.mp hd
        have := dep b
        show X.A.units + 1 + 1 + _ < _
        omega
    · have e2 : (ps.map fun b => dT b.2) = [dT []] := by
        have := congrArg (List.map dT) h1
        simpa [List.map_map, Function.comp_def] using this
      rw [e2] at er1 ⊢
      exact sorts_unit (s := { s with heap := hS }) er1 (by show X.A.units + 1 + 1 + 1 < _; omega)
  have out := PySem.W.sortVals_data (h' := hS) (enc := fun b : V × List Int => dT b.2) false ea er0 al
  refine PySem.W.sorted_vals pl.isList S (by rw [← rv.length]; exact hz) ?_
  generalize PySem.W.sortVals (PySem.W.dataKind hS (ps.map fun b => dT b.2)) false its its = ou at out
  generalize eq : ps.mergeSort (PySem.W.dataLe false fun b : V × List Int => dT b.2) = qs at out
  have pq : qs.Perm ps := eq ▸ List.mergeSort_perm _ _
  have snd : qs.map (·.2) = sortL (ps.map (·.2)) := by
    rw [← eq]
    exact PySem.W.sort_maps (s := PySem.W.dataLe false dT) (fun x : V × List Int => x.2) fun _ _ _ _ => rfl
  have vo : Vals (qs.map (·.1)) ou := vals_of_each out
  obtain ⟨c, hc⟩ := PyProof.Rows.sortedAll_at s.heap its ou.toArray
  have fr : H (s.heap.objs.size + 1) = none := I.hok.fresh (Nat.le_succ _)
  have len : (qs.map (·.1)).length ≤ sizeLine := by
    rw [List.length_map, pq.length_eq, ← List.length_map (f := (·.1))]; exact hz
  exact ⟨.ref (s.heap.objs.size + 1), upd H (s.heap.objs.size + 1) (.lst (qs.map (·.1))), I.laid (t' := s.toks) (fun _ _ => PyProof.Rows.sortedAll_old) (Nat.le_succ _) ⟨len, ou, c, vo, hc⟩, rfl, q qs _ pq snd fr⟩
section
variable {K : PySem.W.Frag} {w : World} {pt : Option Pt} {σ : L2.St} {F F' H : Hp} {te : TE}
theorem rp_rows : ∀ {xs : List V} {ls : List (List Int)}, RpAll K F xs (ls.map dT) → (xs.zip ls).map (·.1) = xs ∧ (xs.zip ls).map (·.2) = ls ∧ ∀ p ∈ xs.zip ls, Rp K F p.1 (dT p.2)
  | _, [], h => by cases h; simp
  | _, l :: ls, h => by
    cases h with
    | cons h1 h2 =>
      obtain ⟨e1, e2, e3⟩ := rp_rows h2
      refine ⟨by simp [e1], by simp [e2], fun p hp => ?_⟩
      rw [List.zip_cons_cons] at hp
      rcases List.mem_cons.mp hp with rfl | m
      · exact h1
      · exact e3 p m
theorem rows_rp : ∀ {ps : List (V × List Int)}, (∀ p ∈ ps, Rp K F p.1 (dT p.2)) → RpAll K F (ps.map (·.1)) ((ps.map (·.2)).map dT)
  | [], _ => .nil
  | p :: ps, h => .cons (h p (by simp)) (rows_rp fun q m => h q (List.mem_cons_of_mem _ m))
theorem g_sortLL {ls : List (List Int)} (h : EvG K pt te σ F (Is (dLT ls))) (hk : (∀ l ∈ ls, l ≠ []) ∨ ls = [[]]) : EvG K pt (tCB (rSortLL K) (tCons te tNil)) σ F (Is (dLT (sortL ls))) := fun H1 i g Q q =>
  h H1 i g _ fun d v F2 H2 hd s hv => by
    subst hd
    obtain ⟨a, xs, rfl, hl, ha⟩ := rp_lst hv
    obtain ⟨e1, e2, e3⟩ := rp_rows ha
    refine ⟨a, xs.zip ls, rfl, by rw [e1]; exact s.inn _ _ hl, fun p hp => Rp.mono s.inn _ _ (e3 p hp), ?_, fun qs p pq es hp => ?_⟩
    · rcases hk with hk | hk
      · exact .inl fun p hp => hk _ (by rw [← e2]; exact List.mem_map_of_mem hp)
      · exact .inr (by rw [e2]; exact hk)
    · have s3 : Step pt F2 H2 (upd F2 p (.lst (qs.map (·.1)))) (upd H2 p (.lst (qs.map (·.1)))) := .laid s.inn s.good hp
      refine q _ _ _ _ rfl (s.trans s3) (.lst upd_same ?_)
      rw [e2] at es
      rw [← es]
      exact rows_rp fun r hr => Rp.mono s3.sub _ _ (e3 r (pq.mem_iff.mp hr))
end
end Fv

/-! dicts with rows as keys; objects -/
namespace Fv
open PySem PySem.Spec PyProof.Rows L2 Evl StX
abbrev key (l : List Int) : List Key := l.map Sum.inl
theorem key_kV (l : List Int) : (key l).map kV = l.map V.int := by simp [key, Function.comp_def, kV]
def letD (ls : List (List Int)) : List (List Key × V) := ls.foldl (fun es l => putK es (key l) (.bl true)) []
theorem letD_snoc (ls : List (List Int)) (l : List Int) : letD (ls ++ [l]) = putK (letD ls) (key l) (.bl true) := by simp [letD]
theorem key_inj {a b : List Int} (h : key a = key b) : a = b := by
  have := congrArg (List.map kV) h
  rw [key_kV, key_kV] at this
  exact (List.map_inj_right (fun x y h => by injection h)).mp this
theorem letD_len (ls : List (List Int)) : (letD ls).length ≤ ls.length := by
  unfold letD
  suffices ∀ (es : List (List Key × V)), (ls.foldl (fun es l => putK es (key l) (.bl true)) es).length ≤ es.length + ls.length by simpa using this []
  induction ls with
  | nil => intro es; simp
  | cons l ls ih =>
    intro es
    have h1 := ih (putK es (key l) (.bl true))
    have h2 := length_putK es (key l) (.bl true)
    simp only [List.foldl_cons, List.length_cons]
    omega
theorem valV_letD (ls : List (List Int)) (m : List Int) : valV (letD ls) (key m) = if m ∈ ls then some (.bl true) else none := by
  unfold letD
  suffices ∀ (es : List (List Key × V)), valV (ls.foldl (fun es l => putK es (key l) (.bl true)) es) (key m) = if m ∈ ls then some (.bl true) else valV es (key m) by simpa [valV_nil] using this []
  induction ls with
  | nil => intro es; simp
  | cons l ls ih =>
    intro es
    rw [List.foldl_cons, ih, valV_put]
    by_cases h : m ∈ ls
    · simp [h]
    · by_cases k : m = l
      · subst k; simp
      · have : key m ≠ key l := fun z => k (key_inj z)
        simp [h, k, this]
/-- a value that is no data: told by what stands in the part that stays -/
def EvX (pt : Option Pt) (te : TE) (σ : L2.St) (F : Hp) (Φ : V → Hp → Prop) : Prop :=
  ∀ H1, Ex F H1 → Good pt F H1 → ∀ Q : VK, (∀ v F2 H2, Φ v F2 → Step pt F H1 F2 H2 → Q v H2) → te σ H1 Q
section
variable {K : PySem.W.Frag} {w : World} {pt : Option Pt} {σ : L2.St} {F F' H : Hp} {te tv : TE} {t : TT} {wi : TI}
/-- {l: True for l in rows} -/
theorem x_dcT {j : Nat} {vs : List Nat} {ls : List (List Int)} (hw : WiG K pt wi σ F (· = ls.map dT)) (hz : ls.length ≤ 300) (hwp : ∀ x, wipe ((wipe σ vs).set j (some x)) vs = wipe σ vs)
    (hk : ∀ l ∈ ls, ∀ F', Ex F F' → ∀ v, Rp K F' v (dT l) → EvG K pt te ((wipe σ vs).set j (some v)) F' (Is (dT l))) (hv : ∀ F', Ex F F' → ∀ v, EvG K pt tv ((wipe σ vs).set j (some v)) F' (Is (.bool true))) :
    EvX pt (tDcT wi (gName j) tYes te tv vs) σ F (fun v F2 => ∃ D, v = .ref D ∧ F2 D = some (.dT (letD ls))) := fun H0 i0 g0 Q q =>
  hw H0 i0 g0 _ fun ds J F1 H1 hds s1 Y => fun D hD => by
    subst hds
    have gi := s1.inn
    have gg := s1.good
    have f1 : F1 D = none := by
      cases w : F1 D with
      | none => rfl
      | some o => rw [gi _ _ w] at hD; cases hD
    refine ⟨fun i m H => m = ls.length - i ∧ i ≤ ls.length ∧ ∃ F', Step pt F1 H1 F' H ∧ F' D = none ∧ H D = some (.dT (letD (ls.take i))), ⟨ls.length, by simp, Nat.zero_le _, F1, .litter gi gg hD, f1, upd_same⟩, ?_⟩
    rintro i m H ⟨rfl, hi, F', s, f, e⟩
    have eH : Ex F1 H := s.sub.trans s.inn
    by_cases hlt : i < ls.length
    · refine .inr ⟨Y.go i H eH (by rw [List.length_map]; exact hlt), fun H => ∃ F', Step pt F1 H1 F' H ∧ F' D = none ∧ H D = some (.dT (letD (ls.take (i + 1)))), fun H' p' => ⟨ls.length - (i + 1), by omega, rfl, hlt, p'⟩, fun v H' y => ?_⟩
      obtain ⟨rfl, d, hd, hx⟩ := Y.yld i H v H' eH (by rw [List.length_map]; exact hlt) y
      obtain ⟨l, hl, rfl⟩ := get_map hd
      have hm : l ∈ ls := List.mem_of_getElem? hl
      refine ⟨hwp v, yes_of (ite_t ?_)⟩
      refine hk l hm F' (s1.sub.trans s.sub) v (Rp.mono s.sub _ _ hx) H' s.inn s.good _ fun d2 y2 F2 H2 hd2 s2 hy2 => ?_
      have off : ∀ q, pt = some q → D ≠ q.p := fun q hq => (off_pot gg hD q hq).1
      have f2 := s2.new D f (by rw [e]; simp)
      have e2 := s2.keep D _ off e
      refine hv F2 ((s1.sub.trans s.sub).trans s2.sub) v H2 s2.inn s2.good _ fun d3 y3 F3 H3 hd3 s3 hy3 => ?_
      have f3 := s3.new D f2 (by rw [e2]; simp)
      have e3 := s3.keep D _ off e2
      subst hd2; subst hd3
      rw [rp_bool hy3]
      obtain ⟨q2, xs, rfl, hq2, ha⟩ := rp_tup hy2
      have e1 := rpAll_ints ha
      subst e1
      refine ⟨_, key l, q2, rfl, by rw [key_kV]; exact s3.inn _ _ (s3.sub _ _ hq2), e3, sz_lt ?_, F3, ((s.trans s2).trans s3).put gg hD f3, f3, ?_⟩
      · have := letD_len (ls.take i)
        rw [List.length_take] at this
        omega
      · rw [take_succA hl, letD_snoc]
        exact upd_same
    · have hE : i = ls.length := Nat.le_antisymm hi (Nat.le_of_not_lt hlt)
      subst hE
      rw [List.take_length] at e
      refine .inl ⟨by have := Y.stop H eH; rw [List.length_map] at this; exact this, q _ (upd F' D (.dT (letD ls))) H ⟨D, rfl, upd_same⟩ (s1.trans ⟨s.sub.trans (Ex.new f), fun b u hb => ?_, s.keep, fun z hz => ⟨?_, (s.good z hz).2⟩, fun b h1 h2 => ?_⟩)⟩
      · by_cases z : b = D
        · rw [z, upd_same] at hb; rw [z, e]; exact hb
        · rw [upd_ne z] at hb; exact s.inn b u hb
      · rw [upd_ne (off_pot gg hD z hz).1.symm]; exact (s.good z hz).1
      · have z : b ≠ D := loose_ne h2 hD
        rw [upd_ne z]; exact s.new b h1 h2
end
/-- H without a -/
def del (H : Hp) (a : Addr) : Hp := fun b => if b = a then none else H b
theorem del_same {H : Hp} {a : Addr} : del H a a = none := by unfold del; rw [if_pos rfl]
theorem del_ne {H : Hp} {a b : Addr} (h : b ≠ a) : del H a b = H b := by unfold del; rw [if_neg h]
theorem del_ex {H : Hp} {a : Addr} : Ex (del H a) H := fun b o h => by
  by_cases z : b = a
  · rw [z, del_same] at h; cases h
  · rw [del_ne z] at h; exact h
/-- what stands for itself within a body: the object at x is the body's own -/
theorem Step.own {F H : Hp} (e : Ex F H) (x dx : Addr) : Step none F (del (del H x) dx) F H := ⟨Ex.refl F, e, Keep.of fun a o h => del_ex _ _ (del_ex _ _ h), .nil, New.refl F _⟩
section
variable {K : PySem.W.Frag} {pt : Option Pt} {σ : L2.St} {F0 H0 F H : Hp} {te : TE} {R : PD} {d : PyData} {D : Ends} {tz : TS} {x dx C : Addr} {fs : List (Str × V)} {i : Nat} {f : Str}
theorem EvG.toX (h : EvG K pt te σ F (Is d)) : EvX pt te σ F (fun v F2 => Rp K F2 v d) := fun H1 i g Q q => h H1 i g Q fun d' v F2 H2 hd s hv => q v F2 H2 (by rw [← (show d' = d from hd)]; exact hv) s
/-- self.f = e -/
theorem t_fld1 {Φ : V → Hp → Prop} (s : Step none F0 H0 F H) (h0 : H0 x = none) (hx : F x = none) (hi : σ[i]? = some (some (.ref x))) (ho : H x = some (.ins C dx fs)) (cl : Cls K C) (na : NoAttr K C f) (hz : fs.length < 1000) (h : EvX none te σ F Φ)
    (q : ∀ v F2 H2, Φ v F2 → Step none F0 H0 F2 H2 → Ex F F2 → F2 x = none → H2 x = some (.ins C dx (putF f v fs)) → D.nx σ H2) : sFld K (tVar i) te f D σ H :=
  h H s.inn .nil _ fun v F2 H2 hv s2 => by
    have f2 : F2 x = none := s2.new x hx (by rw [ho]; simp)
    exact ⟨.ref x, hi, x, C, dx, fs, rfl, s2.keep.ex x _ ho, cl, na, hz, q v F2 _ hv ((s.trans s2).put .nil h0 f2) s2.sub f2 upd_same⟩
theorem t_fld {Φ : V → Hp → Prop} (s : Step none F0 H0 F H) (h0 : H0 x = none) (hx : F x = none) (hi : σ[i]? = some (some (.ref x))) (ho : H x = some (.ins C dx fs)) (cl : Cls K C) (na : NoAttr K C f) (hz : fs.length < 1000) (h : EvX none te σ F Φ)
    (q : ∀ v F2 H2, Φ v F2 → Step none F0 H0 F2 H2 → Ex F F2 → F2 x = none → H2 x = some (.ins C dx (putF f v fs)) → tz D σ H2) : tSeq (sFld K (tVar i) te f) tz D σ H :=
  t_fld1 (D := { D with nx := tz D }) s h0 hx hi ho cl na hz h q
end
end Fv
namespace Fv
open PySem L2 Evl
theorem Step.own1 {F H : Hp} (e : Ex F H) (x : Addr) : Step none F (del H x) F H := ⟨Ex.refl F, e, Keep.of del_ex, .nil, New.refl F _⟩
theorem Step.less {F B B' F2 H2 : Hp} (s : Step none F B F2 H2) (e : Ex B' B) : Step none F B' F2 H2 :=
  ⟨s.sub, s.inn, Keep.of fun a o h => s.keep.ex a o (e a o h), .nil, fun a h1 ⟨o, h2, n⟩ => s.new a h1 ⟨o, e a o h2, n⟩⟩
theorem Step.add {F B F2 H2 : Hp} {a : Addr} {o : HO} (s : Step none F B F2 H2) (f : F2 a = none) (h : H2 a = some o) (b : B a = none) : Step none F B (upd F2 a o) H2 :=
  ⟨s.sub.trans (Ex.new f), fun c u hc => by
    by_cases z : c = a
    · rw [z, upd_same] at hc; rw [z, h]; exact hc
    · rw [upd_ne z] at hc; exact s.inn c u hc, s.keep, .nil, fun c h1 h2 => by
    have z : c ≠ a := loose_ne h2 b
    rw [upd_ne z]; exact s.new c h1 h2⟩
end Fv

/-! ranges as rows, slices, fields, keys, static methods -/
namespace Fv
open PySem PySem.Spec PyProof.Rows L2 Evl StX
section
variable {K : PySem.W.Frag} {w : World} {pt : Option Pt} {σ : L2.St} {F F' H : Hp} {te ta tb tv : TE} {t : TT} {wi : TI} {d : PyData} {R : PD}
theorem rgV_rng (a b : Int) (F : Hp) : RpAll K F (rgV a b) (rng a (b - a).toNat) := by
  unfold rgV rng
  have : ∀ (l : List Nat), RpAll K F (l.map fun i => V.int (a + (i : Nat))) (l.map fun (k : Nat) => PyData.int (a + (k : Int))) := by
    intro l
    induction l with
    | nil => exact .nil
    | cons x r ih => exact .cons (.int _) ih
  exact this _
theorem g_tupR1 {n : Int} (h : EvG K pt te σ F (Is (.int n))) (h0 : 0 ≤ n) (h1 : n ≤ 16777216) : EvG K pt (tTupRg (tRg1 te)) σ F (Is (.tuple (rng 0 n.toNat))) := fun H1 i g Q q =>
  h H1 i g _ fun d v F2 H2 hd s hv => by
    subst hd
    refine ⟨n, rp_int hv, .of_le (Int.le_refl _) h1 (by omega) h0, fun p hp => ?_⟩
    have s3 : Step pt F2 H2 (upd F2 p (.tup (rgV 0 n))) (upd H2 p (.tup (rgV 0 n))) := .laid s.inn s.good hp
    exact q _ _ _ _ rfl (s.trans s3) (.tup upd_same (by simpa using rgV_rng (K := K) 0 n (upd F2 p (.tup (rgV 0 n)))))
theorem g_tupR2 {a b : Int} (ha : EvG K pt ta σ F (Is (.int a))) (hb : EvG K pt tb σ F (Is (.int b))) (h0 : 0 ≤ a) (h1 : b ≤ 16777216) (h2 : a ≤ 16777216) (h3 : 0 ≤ b) : EvG K pt (tTupRg (tRg2 ta tb)) σ F (Is (.tuple (rng a (b - a).toNat))) := fun H1 i g Q q =>
  ha H1 i g _ fun d v F2 H2 hd s hv => hb.mono s.sub H2 s.inn s.good _ fun e u F3 H3 he s2 hu => by
    subst hd; subst he
    refine ⟨a, b, rp_int hv, rp_int hu, .of_le h0 h1 h2 h3, fun p hp => ?_⟩
    have s3 : Step pt F3 H3 (upd F3 p (.tup (rgV a b))) (upd H3 p (.tup (rgV a b))) := .laid s2.inn s2.good hp
    exact q _ _ _ _ rfl ((s.trans s2).trans s3) (.tup upd_same (rgV_rng a b _))
/-- t[i:] -/
theorem g_slA {ds : List PyData} {i : Nat} (h : EvG K pt te σ F (Is (.tuple ds))) (hi : EvG K pt ta σ F (Is (.int (i : Int)))) : EvG K pt (tSl (rSlA K) te (tPart ta) tNoPart) σ F (Is (.tuple (ds.drop i))) := fun H1 i' g Q q =>
  h H1 i' g _ fun d v F2 H2 hd s hv => hi.mono s.sub H2 s.inn s.good _ fun e u F3 H3 he s2 hu => by
    subst hd; subst he
    obtain ⟨a, xs, rfl, hl, ha⟩ := rp_tup hv
    refine ⟨(i : Int), rp_int hu, a, xs, rfl, tx s2.inn (s2.sub _ _ hl), fun hw => ?_, fun hw p hp => ?_⟩
    · rw [HT.sIx_nat] at hw
      have : ds.drop i = ds := by
        have hl := ha.length
        by_cases z : xs.length = 0
        · have : ds = [] := List.eq_nil_of_length_eq_zero (by omega)
          rw [this]; simp
        · have : i = 0 := by have := hw.1; omega
          rw [this]; rfl
      refine q _ _ F3 H3 rfl (s.trans s2) ?_
      rw [this]
      exact .tup (s2.sub _ _ hl) (RpAll.mono s2.sub _ _ ha)
    · have e1 : cutV xs (some (i : Int)) none = xs.drop i := by
        unfold cutV
        rw [HT.sIx_nat, HT.sIx_none]
        by_cases z : i ≤ xs.length
        · rw [Nat.min_eq_left z]
          exact List.take_of_length_le (by rw [List.length_drop]; omega)
        · rw [Nat.min_eq_right (by omega), Nat.sub_self, List.take_zero, List.drop_eq_nil_of_le (by omega)]
      rw [e1]
      have s3 : Step pt F3 H3 (upd F3 p (.tup (xs.drop i))) (upd H3 p (.tup (xs.drop i))) := .laid s2.inn s2.good hp
      refine q _ _ _ _ rfl ((s.trans s2).trans s3) (.tup upd_same (RpAll.mono (s2.sub.trans s3.sub) _ _ ?_))
      have : ∀ (n : Nat) {xs : List V} {ds : List PyData}, RpAll K F2 xs ds → RpAll K F2 (xs.drop n) (ds.drop n) := by
        intro n
        induction n with
        | zero => intro _ _ h; exact h
        | succ n ih =>
          intro xs ds h
          cases h with
          | nil => exact .nil
          | cons h1 h2 => exact ih h2
      exact this i ha
/-- o.f, o's fields told in the part that stays -/
theorem x_fld {Φ : V → Hp → Prop} {i : Nat} {x C dx : Addr} {fs : List (Str × V)} {f : Str} {v : V} (hi : σ[i]? = some (some (.ref x))) (ho : F x = some (.ins C dx fs)) (cl : Cls K C) (na : NoAttr K C f) (hl : fs.lookup f = some v) (hv : ∀ F', Ex F F' → Φ v F') : EvX pt (tFld K (tVar i) f) σ F Φ := fun H1 i' g Q q =>
  ⟨.ref x, hi, x, C, dx, fs, v, rfl, i' _ _ ho, cl, na, hl, q v F H1 (hv F (Ex.refl F)) (.refl i' g)⟩
theorem g_fld {i : Nat} {x C dx : Addr} {fs : List (Str × V)} {f : Str} {v : V} (hi : σ[i]? = some (some (.ref x))) (ho : F x = some (.ins C dx fs)) (cl : Cls K C) (na : NoAttr K C f) (hl : fs.lookup f = some v) (hv : Rp K F v d) : EvG K pt (tFld K (tVar i) f) σ F (Is d) := fun H1 i' g Q q =>
  ⟨.ref x, hi, x, C, dx, fs, v, rfl, i' _ _ ho, cl, na, hl, q d v F H1 rfl (.refl i' g) hv⟩
theorem EvX.mono {Φ : V → Hp → Prop} (hm : ∀ v F1 F2, Ex F1 F2 → Φ v F1 → Φ v F2) (h : EvX pt te σ F Φ) (e : Ex F F') : EvX pt te σ F' Φ := fun H1 i g Q q =>
  h H1 (e.trans i) (g.less e) Q fun v F2 H2 hv s => q v _ H2 (hm v _ _ join_l hv) (s.wide e i g)
/-- a row among the keys of a dict -/
theorem g_din {m : List Int} {ls : List (List Int)} (hk : EvG K pt te σ F (Is (dT m))) (hd : ∀ F', Ex F F' → EvX pt ta σ F' (fun v F2 => ∃ D, v = .ref D ∧ F2 D = some (.dT (letD ls)))) : EvG K pt (tDIn te ta) σ F (Is (.bool (decide (m ∈ ls)))) := fun H1 i g Q q =>
  hk H1 i g _ fun d v F2 H2 hd' s hv => hd F2 s.sub H2 s.inn s.good _ fun u F3 H3 ⟨D, hu, hD⟩ s2 => by
    subst hd'
    obtain ⟨a, xs, rfl, hl, ha⟩ := rp_tup hv
    have e1 := rpAll_ints ha
    subst e1
    refine ⟨D, _, hu, DGet.t (k := key m) (s2.inn _ _ hD) (by rw [key_kV]; exact s2.inn _ _ (s2.sub _ _ hl)), q _ _ F3 H3 rfl (s.trans s2) ?_⟩
    rw [valV_letD]
    by_cases z : m ∈ ls
    · rw [if_pos z]; simp only [Option.isSome_some, z, decide_true]; exact .bl true
    · rw [if_neg z]; simp only [Option.isSome_none, z, decide_false]; exact .bl false
end
/-! ### C.m(..), m a static method -/
structure SMet (K : PySem.W.Frag) (C : Addr) (mc : Value) (m : Str) (p g : Addr) : Prop where
  at_ : PySem.W.findCls K (.ref C) mc m = some (.get (.builtin "staticmethod.__get__") (.ref p) .none (.ref C))
  rc : ∃ rest, PySem.W.recIn K p "staticmethod" = some (.ref g :: rest)
  kp : PySem.W.keepIn K (.ref g) = true
theorem pe_smeth {X : Cx} {CX : CXT} {k : Nat} {C p g : Addr} {fd : FuncData} {ps : List Str} {sp : Sp} {dvs : List V} {ds : List Value} {E : XK} {mc : Value} {x m : Str} {px apos pos : Pos} {e : Expr} {es : List Expr} {t : TA} {pl : Sem Bool}
    (hg : Gl X x) (hm : X.mg x = some (.ref C)) (r : ClX.CRead X.K C mc) (c : SMet X.K C mc m p g) (F : FnOk X.prog X.w X.K X.mg X.base CX k g fd ps sp) (hr : Room k X.A) (hb : Binds X.K fd ps ds) (hd : Vals dvs ds) (hx : Passes CX X E) (ha : PA X (e :: es) t)
    (hdb : (x == ("__debug__" : Str)) = false := by decide) (hst : starEach (e :: es) X.env = (false, eval e X.env) :: starEach es X.env := by rfl) (hpl : (backTo pos (starEach es X.env)).any (·.1) = false := by rfl)
    (ht : eval (.Call (.Attribute (.Name x px) m apos) (e :: es) [] pos) X.env = (do
      let ov ← eval (.Name x px) X.env
      standAt apos.atName
      let (f, first) ← holding [ov] (getMethod ov m pl)
      callWith pos f first (backTo pos (starEach (e :: es) X.env)) (backToKw pos (keywordEach [] X.env))) := by rfl) :
    PE X (.Call (.Attribute (.Name x px) m apos) (e :: es) [] pos) (tCall sp dvs E t) := by
  refine ⟨fun pins s σ H Q I q => ?_⟩
  obtain ⟨rest, rec_⟩ := c.rc
  refine PySem.W.methodCall_KW (pl := pl) (ld_glob I hg hm ?_ hdb) ht
  refine PySem.W.method_cls I.kIn r.ga (PySem.W.cls_bind I.kIn r.rd c.at_ (wpAny_call (PySem.W.sm_get (s := { s with toks := s.toks + 1 }) I.kIn rec_ (PySem.W.handed_on rfl ?_))))
  refine PySem.W.callWith_K (h₀ := X.base) I.ok.mod.kin c.kp (thn (ha.run pos pins _ σ H _ (I.tok (s.toks + 1)) q) fun us s1 ⟨vs, H1, I1, rr, q1⟩ => ⟨I1.kIn, ?_⟩) hst hpl
  exact run_fn F hr hb hd hx I1 rr q1
end Fv

/-! the pot: expressions that lay nothing -/
namespace Fv
open PySem PySem.Spec PyProof.Rows L2 Evl StX
def EvC (te : TE) (σ : L2.St) (H : Hp) (v : V) : Prop := ∀ Q : VK, Q v H → te σ H Q
def EtC (t : TT) (σ : L2.St) (H : Hp) (b : Bool) : Prop := ∀ Q : Bool → Hp → Prop, Q b H → t σ H Q
section
variable {K : PySem.W.Frag} {σ : L2.St} {H : Hp} {te ta tb : TE} {t u : TT} {x y z : V} {r : L2.R2}
theorem ec_var {i : Nat} (h : σ[i]? = some (some x)) : EvC (tVar i) σ H x := fun Q q => ⟨x, h, q⟩
theorem ec_int {i : Int} : EvC (tC (.int i)) σ H (.int i) := fun Q q => q
theorem ec_op (ha : EvC ta σ H x) (hb : EvC tb σ H y) (hr : ∀ Q : VK, Q z H → r x y H Q) : EvC (tOp r ta tb) σ H z := fun Q q => ha _ (hb _ (hr Q q))
theorem ec_I0 {g : Int → Int → V} {i j : Int} (ha : EvC ta σ H (.int i)) (hb : EvC tb σ H (.int j)) : EvC (tOp (rI0 g) ta tb) σ H (g i j) := ec_op ha hb fun Q q => ⟨i, j, rfl, rfl, q⟩
theorem ec_I {C : Int → Int → Prop} {g : Int → Int → V} {i j : Int} (ha : EvC ta σ H (.int i)) (hb : EvC tb σ H (.int j)) (hc : C i j) : EvC (tOp (rI C g) ta tb) σ H (g i j) := ec_op ha hb fun Q q => ⟨i, j, rfl, rfl, hc, q⟩
theorem ec_eq {i j : Int} (ha : EvC ta σ H (.int i)) (hb : EvC tb σ H (.int j)) : EvC (tOp rEq ta tb) σ H (.bl (decide (i = j))) := ec_op ha hb fun Q q => by
  have : decide (V.int i = V.int j) = decide (i = j) := by by_cases h : i = j <;> simp [h]
  exact ⟨rfl, by rw [this]; exact q⟩
theorem ec_ixL {p : Addr} {xs : List V} {i : Int} {v : V} (ha : EvC ta σ H (.ref p)) (hb : EvC tb σ H (.int i)) (hp : H p = some (.lst xs)) (hi : atI xs i = some v) : EvC (tOp (rIxL K) ta tb) σ H v := ec_op ha hb fun Q q => ⟨p, xs, i, v, rfl, rfl, SqL.of hp, hi, q⟩
theorem ec_int1 {i : Int} (h : EvC te σ H (.int i)) : EvC (tCB (fun xs H Q => (∃ i, xs = [.int i] ∧ Q (.int i) H) ∨ ∃ k, xs = [.bl k] ∧ Q (.int (if k then 1 else 0)) H) (tCons te tNil)) σ H (.int i) := fun Q q => h _ (.inl ⟨i, rfl, q⟩)
theorem ec_len {p : Addr} {xs : List V} (h : EvC te σ H (.ref p)) (hp : H p = some (.lst xs)) : EvC (tCB (rLen K) (tCons te tNil)) σ H (.int xs.length) := fun Q q => h _ ⟨p, xs, rfl, .inl (SqL.of hp), q⟩
theorem etc_of {b : Bool} (h : EvC te σ H (.bl b)) : EtC (tTest te) σ H b := fun Q q => h _ ⟨b, rfl, q⟩
theorem etc_and {a b : Bool} (h1 : EtC t σ H a) (h2 : a = true → EtC u σ H b) : EtC (tAnd t u) σ H (a && b) := fun Q q => h1 _ (by
  cases a with
  | true => exact h2 rfl Q q
  | false => exact q)
/-- the pot as it stands -/
structure Pot (H : Hp) (q : Pt) (a b c : Int) : Prop where
  at_ : H q.p = some (.lst [.int a, .int b, .int c, .ref q.l])
  ls : H q.l = some (.lst (q.ns.map V.int))
  ne : q.l ≠ q.p
  few : q.ns.length ≤ 60
  a0 : 0 ≤ a
  b0 : 0 ≤ b
  b1 : b < 2147483647
  c0 : 0 ≤ c
  c1 : c ≤ q.ns.length
theorem Pot.of {q : Pt} (h : PotAt H q) : ∃ a b c, Pot H q a b c := by
  obtain ⟨a, b, c, h1, h2, h3, h4, h5, h6⟩ := h.ex
  exact ⟨a, b, c, h1, h.ls, h.ne, h.few, h2, h3, h4, h5, h6⟩
theorem Pot.pot {q : Pt} {a b c : Int} (h : Pot H q a b c) : PotAt H q := ⟨h.ne, h.ls, h.few, a, b, c, h.at_, h.a0, h.b0, h.b1, h.c0, h.c1⟩
theorem Pot.put {q : Pt} {a b c a' b' c' : Int} (h : Pot H q a b c) (h1 : 0 ≤ a') (h2 : 0 ≤ b') (h3 : b' < 2147483647) (h4 : 0 ≤ c') (h5 : c' ≤ q.ns.length) : Pot (upd H q.p (.lst [.int a', .int b', .int c', .ref q.l])) q a' b' c' :=
  ⟨upd_same, by rw [upd_ne h.ne]; exact h.ls, h.ne, h.few, h1, h2, h3, h4, h5⟩
theorem Step.pot {F : Hp} {q : Pt} {o : HO} (e : Ex F H) (g : Good (some q) F H) (h : PotAt (upd H q.p o) q) : Step (some q) F H F (upd H q.p o) := by
  have fp := (g q rfl).1
  refine ⟨Ex.refl F, fun a u h => ?_, fun a u hq h => ?_, fun q' hq => ?_, New.refl F H⟩
  · rw [upd_ne (fun z => by rw [z, fp] at h; cases h)]; exact e _ _ h
  · rw [upd_ne (hq q rfl)]; exact h
  · obtain rfl := Option.some.inj hq
    exact ⟨fp, h⟩
/-- pot[i] = e -/
theorem ts_put {q : Pt} {D : Ends} {tz : TS} {i : Int} {j : Nat} {v : V} {xs : List V} (h : EvC te σ H v) (h0 : σ[0]? = some (some (.ref q.p))) (hp : H q.p = some (.lst xs)) (hj : ixN xs.length i = some j) (k : tz D σ (upd H q.p (.lst (xs.set j v)))) :
    tSeq (tAsg te (gSub (tVar 0) (tC (.int i)) rSetL)) tz D σ H := h _ ⟨_, h0, ⟨q.p, xs, i, j, rfl, rfl, hp, hj, k⟩⟩
theorem ts_put1 {q : Pt} {D : Ends} {i : Int} {j : Nat} {v : V} {xs : List V} (h : EvC te σ H v) (h0 : σ[0]? = some (some (.ref q.p))) (hp : H q.p = some (.lst xs)) (hj : ixN xs.length i = some j) (k : D.nx σ (upd H q.p (.lst (xs.set j v)))) :
    tAsg te (gSub (tVar 0) (tC (.int i)) rSetL) D σ H := h _ ⟨_, h0, ⟨q.p, xs, i, j, rfl, rfl, hp, hj, k⟩⟩
theorem ts_asg {D : Ends} {tz : TS} {i : Nat} {v : V} (h : EvC te σ H v) (k : tz D (σ.set i (some v)) H) : tSeq (tAsg te (gName i)) tz D σ H := h _ k
theorem ts_ret {D : Ends} {v : V} (h : EvC te σ H v) (k : D.rt v H) : tRet te D σ H := h _ k
theorem ts_if {D : Ends} {tu tw tz : TS} {b : Bool} (h : EtC t σ H b) (k1 : b = true → tu { D with nx := tz D } σ H) (k2 : b = false → tw { D with nx := tz D } σ H) : tSeq (tIfS t tu tw) tz D σ H := h _ (by
  cases b with
  | true => exact k1 rfl
  | false => exact k2 rfl)
theorem ts_if1 {D : Ends} {tu tw : TS} {b : Bool} (h : EtC t σ H b) (k1 : b = true → tu D σ H) (k2 : b = false → tw D σ H) : tIfS t tu tw D σ H := h _ (by
  cases b with
  | true => exact k1 rfl
  | false => exact k2 rfl)
end
end Fv
namespace Fv
open PySem PySem.Spec PyProof.Rows L2 Evl StX
section
variable {σ : L2.St} {H : Hp} {t : TT}
theorem ts_when {D : Ends} {tu tz : TS} {b : Bool} (J : L2.St → Hp → Prop) (h : EtC t σ H b) (k1 : b = true → ∀ N : L2.St → Hp → Prop, (∀ σ' H', J σ' H' → N σ' H') → tu { D with nx := N } σ H) (k2 : b = false → J σ H) (k : ∀ σ' H', J σ' H' → tz D σ' H') :
    tSeq (tIfS t tu tNext) tz D σ H := ts_if h (fun e => k1 e _ fun σ' H' j => k σ' H' j) fun e => k σ H (k2 e)
end
theorem fm0 (i : Int) {j : Int} (h : 0 < j) : 0 ≤ i.fmod j ∧ i.fmod j < j := ⟨Int.fmod_nonneg_of_pos i h, Int.fmod_lt_of_pos i h⟩
theorem fd0 {i j : Int} (h : 0 ≤ i) (hj : 0 ≤ j) : 0 ≤ i.fdiv j := Int.fdiv_nonneg h hj
end Fv

namespace Fv
open PySem PySem.Spec PyProof.Rows L2 Evl StX
/-- a promise of a def that takes the pot and a number -/
def spP (K : PySem.W.Frag) (P : Int → Prop) (R : Int → PD) : Sp := fun vs H Q _ => ∃ (q : Pt) (m : Int) (F : Hp), vs = [.ref q.p, .int m] ∧ P m ∧ Ex F H ∧ Good (some q) F H ∧ ∀ d v F2 H2, R m d → Step (some q) F H F2 H2 → Rp K F2 v d → Q v H2
theorem spP.len {K : PySem.W.Frag} {P : Int → Prop} {R : Int → PD} : ∀ vs H Q E, spP K P R vs H Q E → vs.length = 2 := fun vs H Q E ⟨_, _, _, h, _⟩ => by rw [h]; rfl
section
variable {K : PySem.W.Frag} {pt : Option Pt} {σ : L2.St} {F F' H : Hp} {te ta tb : TE} {ts tr : TA} {t u : TT} {R R1 S2 R3 : PD} {d e z : PyData} {r : L2.R2}
theorem g_callP {P : Int → Prop} {R : Int → PD} {E : XK} {q : Pt} {i : Nat} {m : Int} (h0 : σ[i]? = some (some (.ref q.p))) (h : EvG K (some q) te σ F (Is (.int m))) (hp : P m) : EvG K (some q) (tCall (spP K P R) [] E (tCons (tVar i) (tCons te tNil))) σ F (R m) := fun H1 e g Q k =>
  ⟨_, h0, h H1 e g _ fun d v F2 H2 hd s hv => by
    subst hd
    obtain rfl := rp_int hv
    exact ⟨q, m, F2, rfl, hp, s.inn, s.good, fun d v F3 H3 hr s3 hv3 => k d v F3 H3 hr (s.trans s3) hv3⟩⟩
theorem rv_mul {i j : Int} (h : CMul i j) : RvG K (rI CMul fun i j => .int (i * j)) (.int i) (.int j) (Is (.int (i * j))) := rv_I (f := fun i j => .int (i * j)) h fun F => .int _
theorem rv_shl {j : Nat} (h : j ≤ 60) : RvG K (rI CPow fun i j => .int (i * 2 ^ j.toNat)) (.int 1) (.int (j : Int)) (Is (.int (2 ^ j))) := fun F H x y i hx hy Q q => rv_I (f := fun i j => .int (i * 2 ^ j.toNat)) (C := CPow) (show CPow 1 (j : Int) from ⟨by omega, by omega, by decide⟩) (fun F => .int _) F H x y i hx hy Q fun z v F2 H2 hz s hv => q z v F2 H2 (by rw [show z = _ from hz]; simp) s hv
theorem rv_shr {i j : Int} (h : 0 ≤ j) : RvG K (rI (fun _ j => 0 ≤ j) fun i j => .int (i / 2 ^ j.toNat)) (.int i) (.int j) (Is (.int (i / 2 ^ j.toNat))) := rv_I (f := fun i j => .int (i / 2 ^ j.toNat)) h fun F => .int _
theorem rv_and {i j : Int} : RvG K (rI0 fun i j => .int (Builtin.bitAnd i j)) (.int i) (.int j) (Is (.int (Builtin.bitAnd i j))) := rv_I0 (f := fun i j => .int (Builtin.bitAnd i j)) fun F => .int _
theorem rc_int1 {i : Int} : RcG K (fun xs H Q => (∃ i, xs = [.int i] ∧ Q (.int i) H) ∨ ∃ k, xs = [.bl k] ∧ Q (.int (if k then 1 else 0)) H) [.int i] (Is (.int i)) := rc_val fun F H vs e h => by
  have hv : vs = [.int i] := rpAll_ints (ns := [i]) h
  exact ⟨.int i, fun Q q => .inl ⟨i, hv, q⟩, .int i⟩
theorem ex_seq {a : Addr} {xs : List V} (e : Ex F H) (h : SqL K F a xs) : SqL K H a xs := ex_l e h
/-- script[0:60] -/
theorem g_slS {a : Addr} {ns : List Int} {i : Nat} (h0 : σ[i]? = some (some (.ref a))) (h : SqL K F a (ns.map V.int)) : EvG K pt (tSl (rSlL K) (tVar i) (tPart (tC (.int 0))) (tPart (tC (.int 60)))) σ F (Is (.list ((ns.take 60).map .int))) := fun H1 e g Q q => by
  refine ⟨_, h0, 0, rfl, 60, rfl, a, ns.map V.int, rfl, ex_l e h, fun p hp => ?_⟩
  have e1 : cutV (ns.map V.int) (some 0) (some 60) = (ns.take 60).map V.int := by
    unfold cutV
    rw [show HT.sIx (ns.map V.int).length 0 (some 0) = min 0 (ns.map V.int).length from HT.sIx_nat _ _ 0, show HT.sIx (ns.map V.int).length (ns.map V.int).length (some 60) = min 60 (ns.map V.int).length from HT.sIx_nat _ _ 60, Nat.zero_min, List.drop_zero, Nat.sub_zero, List.map_take]
    by_cases z : 60 ≤ (ns.map V.int).length
    · rw [Nat.min_eq_left z]
    · rw [Nat.min_eq_right (by omega), List.take_of_length_le (Nat.le_refl _), List.take_of_length_le (by omega)]
  rw [e1]
  have s3 : Step pt F H1 (upd F p (.lst ((ns.take 60).map V.int))) (upd H1 p (.lst ((ns.take 60).map V.int))) := .laid e g hp
  exact q _ _ _ _ rfl s3 (.lst upd_same (rpAll_of_ints _))
/-- o.m(..), o.f of an instance, by a promise about what stands -/
theorem g_methD {C x dx : Addr} {fs : List (Str × V)} {m : Str} {sp : Sp} {E : XK} {i : Nat} {ds : List PyData} {z : PyData} (h0 : σ[i]? = some (some (.ref x))) (ho : F x = some (.ins C dx fs)) (hl : fs.lookup m = none) (h : EvsG K pt ts σ F (· = ds))
    (hs : ∀ F1 H1 vs, Ex F F1 → Ex F1 H1 → RpAll K F1 vs ds → ∀ Q : VK, (∀ v F2 H2, Step none F1 H1 F2 H2 → Rp K F2 v z → Q v H2) → sp (.ref x :: vs) H1 Q E) : EvG K pt (tMeth C m sp [] E (tVar i) ts) σ F (Is z) := fun H1 e g Q q =>
  ⟨_, h0, x, dx, fs, rfl, e _ _ ho, hl, h H1 e g _ fun ds' vs F2 H2 hd s hv => by
    subst hd
    rw [List.append_nil]
    exact hs F2 H2 vs s.sub s.inn hv Q fun v F3 H3 s3 hv3 => q _ v F3 H3 rfl (s.trans (s3.lift s.good)) hv3⟩
theorem g_propD {C x dx : Addr} {fs : List (Str × V)} {sp : Sp} {E : XK} {i : Nat} {z : PyData} (h0 : σ[i]? = some (some (.ref x))) (ho : F x = some (.ins C dx fs))
    (hs : ∀ F1 H1, Ex F F1 → Ex F1 H1 → ∀ Q : VK, (∀ v F2 H2, Step none F1 H1 F2 H2 → Rp K F2 v z → Q v H2) → sp [.ref x] H1 Q E) : EvG K pt (tProp C sp [] E (tVar i)) σ F (Is z) := fun H1 e g Q q =>
  ⟨_, h0, x, dx, fs, rfl, e _ _ ho, hs F H1 (Ex.refl F) e Q fun v F3 H3 s3 hv3 => q _ v F3 H3 rfl (s3.lift g) hv3⟩
end
section
variable {K : PySem.W.Frag} {pt : Option Pt} {σ : L2.St} {F0 H0 F H : Hp} {te : TE} {D : Ends} {tz : TS} {Φ : V → Hp → Prop}
theorem t_asgX {i : Nat} (s : Step pt F0 H0 F H) (h : EvX pt te σ F Φ) (q : ∀ v F2 H2, Φ v F2 → Step pt F0 H0 F2 H2 → Ex F F2 → tz D (σ.set i (some v)) H2) : tSeq (tAsg te (gName i)) tz D σ H :=
  h H s.inn s.good _ fun v F2 H2 hv s2 => q v F2 H2 hv (s.trans s2) s2.sub
theorem t_asgX1 {i : Nat} (s : Step pt F0 H0 F H) (h : EvX pt te σ F Φ) (q : ∀ v F2 H2, Φ v F2 → Step pt F0 H0 F2 H2 → Ex F F2 → D.nx (σ.set i (some v)) H2) : tAsg te (gName i) D σ H :=
  h H s.inn s.good _ fun v F2 H2 hv s2 => q v F2 H2 hv (s.trans s2) s2.sub
theorem t_retLst {ts : TA} {ds : List PyData} (s : Step pt F0 H0 F H) (h : EvsG K pt ts σ F (· = ds)) (k : ∀ vs F2 H2, Step pt F0 H0 F2 H2 → RpAll K F2 vs ds → vs.length ≤ sizeLine ∧ ∀ p, H2 p = none → D.rt (.ref p) (upd H2 p (.lst vs))) : tRet (tLst ts) D σ H :=
  h H s.inn s.good _ fun ds' vs F2 H2 hd s2 hv => by
    subst hd
    exact k vs F2 H2 (s.trans s2) hv
theorem t_retX (s : Step pt F0 H0 F H) (h : EvX pt te σ F Φ) (q : ∀ v F2 H2, Φ v F2 → Step pt F0 H0 F2 H2 → D.rt v H2) : tRet te D σ H :=
  h H s.inn s.good _ fun v F2 H2 hv s2 => q v F2 H2 hv (s.trans s2)
end
end Fv

namespace Fv
open PySem PySem.Spec PyProof.Rows L2 Evl StX
section
variable {K : PySem.W.Frag} {pt : Option Pt} {σ : L2.St} {F F' F0 H0 H : Hp} {te ta tb : TE} {ts tr : TA} {t u : TT} {R R1 S2 R3 : PD} {d e z : PyData} {r : L2.R2} {D : Ends} {tu tw tz : TS}
theorem rv_eqB {a b : Bool} : RvG K rEq (.bool a) (.bool b) (Is (.bool (decide (a = b)))) := rv_val fun F H x y _ hx hy => by
  rw [rp_bool hx, rp_bool hy]
  refine ⟨.bl (decide (V.bl a = V.bl b)), fun Q q => ⟨rfl, q⟩, ?_⟩
  have : decide (V.bl a = V.bl b) = decide (a = b) := by cases a <;> cases b <;> rfl
  rw [this]; exact .bl _
theorem rv_neB {a b : Bool} : RvG K rNe (.bool a) (.bool b) (Is (.bool (!decide (a = b)))) := rv_val fun F H x y _ hx hy => by
  rw [rp_bool hx, rp_bool hy]
  refine ⟨.bl (!decide (V.bl a = V.bl b)), fun Q q => ⟨rfl, q⟩, ?_⟩
  have : decide (V.bl a = V.bl b) = decide (a = b) := by cases a <;> cases b <;> rfl
  rw [this]; exact .bl _
theorem g_notTL {ds : List PyData} (h : EvG K pt te σ F (Is (.list ds))) : EvG K pt (tNotT K te) σ F (Is (.bool ds.isEmpty)) := fun H1 i g Q q => h H1 i g _ fun d v F2 H2 hd s hv => by
  subst hd
  obtain ⟨a, xs, rfl, hl, ha⟩ := rp_lst hv
  have hn := ha.length
  refine ⟨!xs.isEmpty, .inl ⟨xs, SqL.of (s.inn _ _ hl), rfl⟩, ?_⟩
  have e : (!(!xs.isEmpty)) = ds.isEmpty := by
    cases xs with
    | nil =>
      cases ds with
      | nil => rfl
      | cons _ _ => simp at hn
    | cons _ _ =>
      cases ds with
      | nil => simp at hn
      | cons _ _ => rfl
  rw [e]
  exact q _ _ F2 H2 rfl s (.bl _)
/-- two ways that join -/
theorem t_ifJ {b : Bool} (J : L2.St → Hp → Prop) (s : Step pt F0 H0 F H) (h : EtG pt t σ F (· = b))
    (h1 : b = true → ∀ F2 H2, Step pt F0 H0 F2 H2 → Ex F F2 → ∀ N : L2.St → Hp → Prop, (∀ σ' F' H', J σ' F' → Step pt F0 H0 F' H' → Ex F F' → N σ' H') → tu { D with nx := N } σ H2)
    (h2 : b = false → ∀ F2 H2, Step pt F0 H0 F2 H2 → Ex F F2 → ∀ N : L2.St → Hp → Prop, (∀ σ' F' H', J σ' F' → Step pt F0 H0 F' H' → Ex F F' → N σ' H') → tw { D with nx := N } σ H2)
    (k : ∀ σ' F' H', J σ' F' → Step pt F0 H0 F' H' → Ex F F' → tz D σ' H') : tSeq (tIfS t tu tw) tz D σ H :=
  t_if s h (fun e F2 H2 s2 e2 => h1 e F2 H2 s2 e2 _ k) (fun e F2 H2 s2 e2 => h2 e F2 H2 s2 e2 _ k)
end
end Fv

/-! rows with gaps: None or a whole number at each place -/
namespace Fv
open PySem PySem.Spec PyProof.Rows L2 Evl StX
def optD : Option Int → PyData
  | none => .none
  | some i => .int i
def optV : Option Int → V
  | none => .non
  | some i => .int i
abbrev dO (v : List (Option Int)) : PyData := .tuple (v.map optD)
abbrev dLO (vs : List (List (Option Int))) : PyData := .list (vs.map dO)
abbrev natD (k : Nat) : PyData := .int (k : Int)
abbrev dN (ks : List Nat) : PyData := .tuple (ks.map natD)
theorem rng_nat (n : Nat) : rng 0 n = (List.range n).map natD := by
  unfold rng
  refine List.map_congr_left fun k _ => ?_
  simp
section
variable {K : PySem.W.Frag} {pt : Option Pt} {σ : L2.St} {F F' H : Hp} {te ta tb : TE} {ts tr : TA} {t u : TT} {R R1 : PD} {d e z : PyData}
theorem rp_opt {v : V} {o : Option Int} (h : Rp K F v (optD o)) : v = optV o := by
  cases o with
  | none => exact rp_none h
  | some i => exact rp_int h
theorem scal_opt (a b : Option Int) : scal (optV a) (optV b) = true := by
  cases a <;> cases b <;> rfl
theorem dec_opt (a b : Option Int) : decide (optV a = optV b) = decide (a = b) := by
  cases a <;> cases b <;> simp [optV]
theorem rv_eqO {a b : Option Int} : RvG K rEq (optD a) (optD b) (Is (.bool (decide (a = b)))) := rv_val fun F H x y _ hx hy => by
  rw [rp_opt hx, rp_opt hy]
  exact ⟨_, fun Q q => ⟨scal_opt a b, q⟩, by rw [dec_opt]; exact .bl _⟩
theorem rv_neO {a b : Option Int} : RvG K rNe (optD a) (optD b) (Is (.bool (!decide (a = b)))) := rv_val fun F H x y _ hx hy => by
  rw [rp_opt hx, rp_opt hy]
  exact ⟨_, fun Q q => ⟨scal_opt a b, q⟩, by rw [dec_opt]; exact .bl _⟩
theorem isNone_opt (a : Option Int) : isNone (optD a) = a.isNone := by cases a <;> rfl
theorem rv_isO {a : Option Int} : RvG K (fun x y H Q => y = .non ∧ Q (.bl (decide (x = .non))) H) (optD a) .none (Is (.bool a.isNone)) := isNone_opt a ▸ rv_isN
theorem rv_notO {a : Option Int} : RvG K (fun x y H Q => y = .non ∧ Q (.bl (!decide (x = .non))) H) (optD a) .none (Is (.bool (!a.isNone))) := isNone_opt a ▸ rv_notN
theorem rv_isB {a b : Bool} : RvG K rIsB (.bool a) (.bool b) (Is (.bool (decide (a = b)))) := rv_val fun F H x y _ hx hy => ⟨_, fun Q q => ⟨a, b, rp_bool hx, rp_bool hy, q⟩, .bl _⟩
/-- v[k] of a row with gaps -/
theorem rv_ixO {v : List (Option Int)} {k : Nat} (h : k < v.length) : RvG K (rIxT K) (dO v) (natD k) (Is (optD (v.getD k none))) := rv_ixT (atI_nat (by rw [List.getElem?_map, List.getD_eq_getElem?_getD, List.getElem?_eq_getElem h]; rfl))
theorem g_ixO {v : List (Option Int)} {k : Nat} (ha : EvG K pt ta σ F (Is (dO v))) (hb : EvG K pt tb σ F (Is (natD k))) (h : k < v.length) : EvG K pt (tOp (rIxT K) ta tb) σ F (Is (optD (v.getD k none))) := g_opI ha hb (rv_ixO h)
/-- range(len(x)) -/
theorem w_len {ds : List PyData} {n : Nat} (h : EvG K pt te σ F (Is (.tuple ds))) (hn : ds.length = n) (hz : n ≤ 100000) : WiG K pt (iRng1 (tCons (tCB (rLen K) (tCons te tNil)) tNil)) σ F (· = (List.range n).map natD) := by
  have := w_rng1I (K := K) (pt := pt) (σ := σ) (F := F) (n := (n : Int)) (gs_one ((g_cbI (gs_one h) rc_lenT).is (by rw [hn]))) (by omega) (by omega)
  rw [show (n : Int).toNat = n by omega, rng_nat] at this
  exact this
theorem w_range {n : Nat} (h : EvG K pt te σ F (Is (.int (n : Int)))) (hz : n ≤ 100000) : WiG K pt (iRng1 (tCons te tNil)) σ F (· = (List.range n).map natD) := by
  have := w_rng1I (K := K) (pt := pt) (σ := σ) (F := F) (n := (n : Int)) (gs_one h) (by omega) (by omega)
  rw [show (n : Int).toNat = n by omega, rng_nat] at this
  exact this
/-- tuple([k for k in range(len(x)) if ..]) -/
theorem rv_inN {k : Nat} {ns : List Nat} : RvG K (rIn K false) (natD k) (dN ns) (Is (.bool (decide (k ∈ ns)))) := by
  have h := rv_inT (K := K) (i := (k : Int)) (ns := ns.map fun k : Nat => (k : Int))
  have e : (decide ((k : Int) ∈ ns.map fun k : Nat => (k : Int))) = decide (k ∈ ns) := by
    refine decide_eq_decide.mpr ⟨fun h => ?_, fun h => List.mem_map.mpr ⟨k, h, rfl⟩⟩
    obtain ⟨j, hj, ej⟩ := List.mem_map.mp h
    have : j = k := by omega
    rw [← this]; exact hj
  rw [e] at h
  have e2 : dT (ns.map fun k : Nat => (k : Int)) = dN ns := by simp [dT, dN, Function.comp_def]
  rw [e2] at h
  exact h
end
end Fv

namespace Fv
open PySem PySem.Spec PyProof.Rows L2 Evl StX
/-- a promise of a def that takes the pot and data -/
def spQ {ι : Type} (K : PySem.W.Frag) (A : ι → List PyData) (P : ι → Prop) (R : ι → PD) : Sp := fun vs H Q _ => ∃ (q : Pt) (i : ι) (F : Hp) (as : List V), vs = .ref q.p :: as ∧ P i ∧ Ex F H ∧ Good (some q) F H ∧ RpAll K F as (A i) ∧ ∀ d v F2 H2, R i d → Step (some q) F H F2 H2 → Rp K F2 v d → Q v H2
theorem spQ.len {ι : Type} {K : PySem.W.Frag} {A : ι → List PyData} {P : ι → Prop} {R : ι → PD} {n : Nat} (h : ∀ i, (A i).length = n) : ∀ vs H Q E, spQ K A P R vs H Q E → vs.length = n + 1 := fun vs H Q E ⟨_, i, _, _, e, _, _, _, r, _⟩ => by rw [e, List.length_cons, r.length, h]
section
variable {K : PySem.W.Frag} {pt : Option Pt} {σ : L2.St} {F F' F0 H0 H : Hp} {te ta tb : TE} {ts tr : TA} {t u : TT} {R R1 : PD} {d e z : PyData} {D : Ends} {tz tu : TS} {wi : TI}
theorem g_callQ {ι : Type} {A : ι → List PyData} {P : ι → Prop} {R : ι → PD} {E : XK} {q : Pt} {i : Nat} {ds : List PyData} (x : ι) (h0 : σ[i]? = some (some (.ref q.p))) (h : EvsG K (some q) ts σ F (· = ds)) (ha : ds = A x) (hp : P x) : EvG K (some q) (tCall (spQ K A P R) [] E (tCons (tVar i) ts)) σ F (R x) := fun H1 e g Q k =>
  ⟨_, h0, h H1 e g _ fun ds' vs F2 H2 hd s hv => by
    rw [hd, ha] at hv
    exact ⟨q, x, F2, vs, by rw [List.append_nil], hp, s.inn, s.good, hv, fun d v F3 H3 hr s3 hv3 => k d v F3 H3 hr (s.trans s3) hv3⟩⟩
/-- a loop; I tells slots and heaps behind i turns -/
theorem t_forH {j : Nat} {ds : List PyData} (i0 : Ex F H) (g : Good pt F H) (hw : WiG K pt wi σ F (· = ds)) (I : Nat → L2.St → Hp → Hp → Prop) (h0 : ∀ F1 H1, Step pt F H F1 H1 → I 0 σ F1 H1) (hI : ∀ i σ' F' H', I i σ' F' H' → Ex F' H')
    (hs : ∀ i d, ds[i]? = some d → ∀ σ' F' H' x, I i σ' F' H' → Ex F F' → Rp K F' x d →
      ∀ N : L2.St → Hp → Prop, (∀ σ2 F2 H2, I (i + 1) σ2 F2 H2 → Ex F' F2 → N σ2 H2) → tu { D with nx := N, ct := N, bk := tz D } (σ'.set j (some x)) H')
    (hd : ∀ σ' F' H', I ds.length σ' F' H' → Ex F F' → tz D σ' H') : tSeq (tFor wi (gName j) tu) tz D σ H :=
  hw H i0 g _ fun ds' J F1 H1 e s1 Y => by
    subst e
    refine ⟨fun i m σ' H' => m = ds'.length - i ∧ i ≤ ds'.length ∧ ∃ F', I i σ' F' H' ∧ Ex F1 F', ⟨ds'.length, by simp, Nat.zero_le _, F1, h0 F1 H1 s1, Ex.refl _⟩, ?_⟩
    rintro i m σ' H' ⟨rfl, hil, F', p, e'⟩
    have eH : Ex F1 H' := e'.trans (hI i σ' F' H' p)
    by_cases hlt : i < ds'.length
    · refine .inr ⟨Y.go i H' eH hlt, fun σ2 H2 => ∃ F2, I (i + 1) σ2 F2 H2 ∧ Ex F1 F2, fun σ2 H2 ⟨F2, a, b⟩ => ⟨ds'.length - (i + 1), by omega, rfl, hlt, F2, a, b⟩, fun x H2 y => ?_⟩
      obtain ⟨rfl, d, hdd, hx⟩ := Y.yld i H' x H2 eH hlt y
      exact hs i d hdd σ' F' _ x p (s1.sub.trans e') (Rp.mono e' _ _ hx) _ fun σ2 F2 H2 a b => ⟨F2, a, e'.trans b⟩
    · have hE : i = ds'.length := Nat.le_antisymm hil (Nat.le_of_not_lt hlt)
      subst hE
      exact .inl ⟨Y.stop H' eH, hd σ' F' H' p (s1.sub.trans e')⟩
/-! ### two lists of one's own -/
structure Two (K : PySem.W.Frag) (pt : Option Pt) (F0 H0 : Hp) (l m : Addr) (F H : Hp) (ls ms : List PyData) : Prop where
  step : Step pt F0 H0 F H
  ne : l ≠ m
  h1 : H0 l = none
  h2 : H0 m = none
  o1 : F l = none
  o2 : F m = none
  e1 : ∃ xs, H l = some (.lst xs) ∧ RpAll K F xs ls
  e2 : ∃ xs, H m = some (.lst xs) ∧ RpAll K F xs ms
variable {l m : Addr} {ls ms : List PyData} {F2 H2 : Hp}
theorem Two.run (g0 : Good pt F0 H0) (w : Two K pt F0 H0 l m F H ls ms) (s : Step pt F H F2 H2) : Two K pt F0 H0 l m F2 H2 ls ms := by
  obtain ⟨xs, a1, a2⟩ := w.e1
  obtain ⟨ys, b1, b2⟩ := w.e2
  obtain ⟨f1, k1⟩ := s.beside g0 w.h1 w.o1 a1
  obtain ⟨f2, k2⟩ := s.beside g0 w.h2 w.o2 b1
  exact ⟨w.step.trans s, w.ne, w.h1, w.h2, f1, f2, ⟨xs, k1, RpAll.mono s.sub _ _ a2⟩, ⟨ys, k2, RpAll.mono s.sub _ _ b2⟩⟩
theorem Two.swap (w : Two K pt F0 H0 l m F H ls ms) : Two K pt F0 H0 m l F H ms ls := ⟨w.step, w.ne.symm, w.h2, w.h1, w.o2, w.o1, w.e2, w.e1⟩
theorem Two.put1 (g0 : Good pt F0 H0) (w : Two K pt F0 H0 l m F H ls ms) {xs : List V} {ls' : List PyData} (r : RpAll K F xs ls') : Two K pt F0 H0 l m F (upd H l (.lst xs)) ls' ms := by
  obtain ⟨ys, b1, b2⟩ := w.e2
  exact ⟨w.step.put g0 w.h1 w.o1, w.ne, w.h1, w.h2, w.o1, w.o2, ⟨xs, upd_same, r⟩, ⟨ys, by rw [upd_ne w.ne.symm]; exact b1, b2⟩⟩
theorem RpAll.erase : ∀ {ds : List PyData} {vs : List V} (i : Nat), RpAll K F vs ds → RpAll K F (vs.eraseIdx i) (ds.eraseIdx i)
  | [], _, i, h => by cases h; cases i <;> exact .nil
  | d :: ds, _, 0, h => by
    cases h with
    | cons h1 h2 => exact h2
  | d :: ds, _, i + 1, h => by
    cases h with
    | cons h1 h2 => exact .cons h1 (RpAll.erase i h2)
/-- the length of one's own list -/
theorem Two.len (w : Two K pt F0 H0 l m F H ls ms) : ∃ xs, H l = some (.lst xs) ∧ xs.length = ls.length := by
  obtain ⟨xs, a1, a2⟩ := w.e1
  exact ⟨xs, a1, a2.length⟩
/-- m.append(l.pop(draw(pot, len(l)))) -/
theorem t_popApp {q : Pt} {P : Int → Prop} {R : Int → PD} {E : XK} {il im ip : Nat} (g0 : Good (some q) F0 H0) (w : Two K (some q) F0 H0 l m F H ls ms) (hl : σ[il]? = some (some (.ref l))) (hm : σ[im]? = some (some (.ref m))) (hp : σ[ip]? = some (some (.ref q.p)))
    (hP : P (ls.length : Int)) (hz : ls.length ≤ 1000) (hz2 : ms.length < 100000) (hR : ∀ d, R (ls.length : Int) d → ∃ k : Nat, d = .int (k : Int) ∧ k < ls.length)
    (k : ∀ (i : Nat) (hi : i < ls.length) F2 H2, Two K (some q) F0 H0 l m F2 H2 (ls.eraseIdx i) (ms ++ [ls[i]]) → Ex F F2 → D.nx σ H2) :
    tDrop (tBM K "list" rAppend (tVar im) (tCons (tBM K "list" rPopAt (tVar il) (tCons (tCall (spP K P R) [] E (tCons (tVar ip) (tCons (tCB (rLen K) (tCons (tVar il) tNil)) tNil))) tNil)) tNil)) D σ H := by
  obtain ⟨xs, a1, a2⟩ := w.e1
  obtain ⟨ys, b1, b2⟩ := w.e2
  refine ⟨.ref m, hm, .inl ⟨rfl, ys, sq_of b1⟩, .ref l, hl, .inl ⟨rfl, xs, sq_of a1⟩, _, hp, .ref l, hl, l, xs, rfl, .inl (SqL.of a1), ?_⟩
  refine ⟨q, (xs.length : Int), F, rfl, by rw [a2.length]; exact hP, w.step.inn, w.step.good, fun d v F2 H2 hd s hv => ?_⟩
  rw [a2.length] at hd
  obtain ⟨j, rfl, hj⟩ := hR d hd
  obtain rfl := rp_int hv
  have w2 := w.run g0 s
  obtain ⟨xs', c1, c2⟩ := w2.e1
  have hxl := c2.length
  obtain ⟨y, hy, ry⟩ := RpAll.getD c2 (List.getElem?_eq_getElem hj)
  have w3 := w2.put1 g0 (RpAll.erase j c2)
  obtain ⟨ys', e1, e2⟩ := w3.e2
  refine ⟨l, xs', (j : Int), j, y, rfl, rfl, c1, by omega, by omega, seqIndex_of (by omega) (by omega), hy, ?_⟩
  refine ⟨m, ys', y, rfl, rfl, e1, sz_lt (by rw [e2.length]; exact hz2), ?_⟩
  have w4 := (w3.swap.put1 g0 (e2.append (RpAll.one ry))).swap
  exact k j hj _ _ w4 s.sub
theorem Two.gst (w : Two K pt F0 H0 l m F H ls ms) : Gst K pt F0 H0 m F H ms := ⟨w.step, w.o2, w.e2⟩
theorem not_in {F H : Hp} {l : Addr} (e : Ex F H) (h : H l = none) : F l = none := by
  cases z : F l with
  | none => rfl
  | some o => have := e _ _ z; rw [h] at this; cases this
/-- l = list(x); m = [] -/
theorem t_two {i j : Nat} {src : PyData} {ds : List PyData} (g0 : Good pt F0 H0) (s : Step pt F0 H0 F H) (h : EvG K pt te σ F (Is src)) (hs : src = .list ds ∨ src = .tuple ds)
    (k : ∀ l m F2 H2, Two K pt F0 H0 l m F2 H2 ds [] → Ex F F2 → tz D ((σ.set i (some (.ref l))).set j (some (.ref m))) H2) :
    tSeq (tAsg (tCB (rList K) (tCons te tNil)) (gName i)) (tSeq (tAsg (tLst tNil) (gName j)) tz) D σ H :=
  h H s.inn s.good _ fun d v F2 H2 hd s2 hv => by
    subst hd
    obtain ⟨a, xs, rfl, hq, hxs⟩ : ∃ a xs, v = .ref a ∧ (SqL K H2 a xs ∨ SqT K H2 a xs) ∧ RpAll K F2 xs ds := by
      rcases hs with rfl | rfl
      · obtain ⟨a, xs, e, h1, h2⟩ := rp_lst hv
        exact ⟨a, xs, e, .inl (SqL.of (s2.inn _ _ h1)), h2⟩
      · obtain ⟨a, xs, e, h1, h2⟩ := rp_tup hv
        exact ⟨a, xs, e, .inr (tx s2.inn h1), h2⟩
    refine ⟨a, xs, rfl, hq, fun l hl => ?_⟩
    refine ⟨Nat.zero_le _, fun m hm => ?_⟩
    have s3 := s.trans s2
    have hml : m ≠ l := fun z => by rw [z, upd_same] at hm; cases hm
    have hm2 : H2 m = none := by rw [upd_ne hml] at hm; exact hm
    have hl0 := s3.back l hl
    have hm0 := s3.back m hm2
    have fl := not_in s3.inn hl
    have fm := not_in s3.inn hm2
    refine k l m F2 _ ⟨((s3.put g0 hl0 fl).put g0 hm0 fm), hml.symm, hl0, hm0, fl, fm, ⟨xs, by rw [upd_ne hml.symm, upd_same], hxs⟩, ⟨[], upd_same, .nil⟩⟩ s2.sub
end
end Fv

namespace Fv
open PySem PySem.Spec PyProof.Rows L2 Evl StX
section
variable {K : PySem.W.Frag} {pt : Option Pt} {σ : L2.St} {F0 H0 F H F' F2 H2 : Hp} {te : TE} {R : PD} {D : Ends} {l : Addr} {ls : List PyData}
/-- x.extend(e), e a new list -/
theorem t_ext {i : Nat} (g0 : Good pt F0 H0) (h0 : H0 l = none) (g : Gst K pt F0 H0 l F H ls) (hi : σ[i]? = some (some (.ref l))) {es : List PyData} (h : EvG K pt te σ F (Is (.list es))) (hz : ls.length + es.length ≤ 100000)
    (q : ∀ F2 H2, Gst K pt F0 H0 l F2 H2 (ls ++ es) → Ex F F2 → D.nx σ H2) : tDrop (tBM K "list" rExtend (tVar i) (tCons te tNil)) D σ H := by
  obtain ⟨acc, e, r⟩ := g.ex
  refine ⟨.ref l, hi, .inl ⟨rfl, acc, sq_of e⟩, h H g.step.inn g.step.good _ fun d v F2 H2 hd s hv => ?_⟩
  subst hd
  obtain ⟨b, zs, rfl, hb, hzs⟩ := rp_lst hv
  have g2 := g.run g0 h0 s
  obtain ⟨acc2, e2, r2⟩ := g2.ex
  refine ⟨l, b, acc2, zs, rfl, rfl, e2, s.inn _ _ hb, by rw [r2.length, hzs.length]; exact sz_of hz, q F2 _ ⟨g2.step.put g0 h0 g2.off, g2.off, _, upd_same, r2.append hzs⟩ s.sub⟩
end
end Fv

/-! C.__init__(self, ..) of an exception class C of the program whose __init__ is ValueError's -/
namespace Fv
open PySem PySem.Spec PyProof.Rows L2 Evl StX
section
variable {X : Cx} {e : Expr} {es : List Expr} {ta : TA} {p1 p2 pos : Pos} {x : Str} {C : Addr} {mc : Value}
theorem pe_fminit {pl : Sem Bool} (hg : Gl X x) (hm : X.mg x = some (.ref C)) (r : ClX.CRead X.K C mc) (vV : PySem.W.findCls X.K (.ref C) mc "__init__" = some (.val (.builtin "ValueError.__init__"))) (ha : PA X (e :: es) ta)
    (hdb : (x == ("__debug__" : Str)) = false := by decide)
    (hc : eval (.Call (.Attribute (.Name x p1) "__init__" p2) (e :: es) [] pos) X.env = (do
      let ov ← eval (.Name x p1) X.env
      standAt p2.atName
      let (f, first) ← holding [ov] (getMethod ov "__init__" pl)
      callWith pos f first (backTo pos (starEach (e :: es) X.env)) (backToKw pos (keywordEach [] X.env))) := by rfl)
    (he : starEach (e :: es) X.env = (false, eval e X.env) :: starEach es X.env := by rfl) (hpl : (backTo pos (starEach es X.env)).any (·.1) = false := by rfl) :
    PE X (.Call (.Attribute (.Name x p1) "__init__" p2) (e :: es) [] pos) (tVeI X.K ta) := by
  refine ⟨fun pins s σ H Q I h => ?_⟩
  refine PySem.W.methodCall_KW (pl := pl) (ld_glob I hg hm ?_ hdb) hc
  refine PySem.W.method_cls I.kIn r.ga (PySem.W.cls_value I.kIn r.rd vV (by decide +kernel) ?_)
  show wpAny _ _ (callWith pos (Value.builtin "ValueError.__init__") [] (backTo pos (starEach (e :: es) X.env)) []) _ _ _
  refine PyProof.Rows.callWith_method1 (thn (ha.run pos pins _ σ H _ (I.tok _) h) fun us s1 ⟨vs, H1, I1, r1, a, C, ws, ev, hl, T, ea, q⟩ => ?_) he hpl
  subst ev
  cases r1 with
  | @cons _ u0 _ ur ra rw' =>
    obtain rfl : u0 = Value.ref a := ra
    have hlen : ur.length ≤ sizeLine := by
      rw [← Paired.length rw', sizeLine_eq]
      omega
    exact oinit_ok T I1 ea hlen fun s' J => ⟨.non, H1, J, rfl, q⟩
end
end Fv

/-! promises of defs where no text of a list is being made around them (so that repr of one is known) -/
namespace Fv
open PySem PySem.Spec PyProof.Rows L2 Evl StX
/-- nothing is being shown -/
def Calmly (A : Around) : Prop := A.guards = some []
theorem Calmly.deeper {A : Around} (c : Calmly A) (env : Env) : Calmly (A.deeper env) := c
theorem Calmly.mark {A : Around} (c : Calmly A) (v : Option Value) : Calmly (A.mark v) := c
structure FnG (P : Program) (w : World) (K : PySem.W.Frag) (mg : Str → Option Value) (base : Heap) (CX : CXT) (k : Nat) (f : Addr) (fd : FuncData) (ps : List Str) (sp : Sp) : Prop where
  ln : ∀ vs H Q E, sp vs H Q E → vs.length = ps.length
  go : ∀ (A : Around) (out : List Env) (s : Shared) (H : Hp) (as : Args) (us : List Value) (vs : List V) (Q : VK) (E : XK), Calmly A → Room k A → Env0 P w K mg base A out s H → BindsTo s fd as (ps.zip us) → Vals vs us → sp vs H Q E → codeAny (model P w) A (.call (.ref f) as) (CR CX out P w H s Q E) s
theorem gfn_mk {CX : CXT} {P : Program} {w : World} {K : PySem.W.Frag} {mg : Str → Option Value} {base : Heap} {k : Nat} {f : Addr} {nm ql : Str} {pr : Arguments} {bd : List Stmt} {sc : Scope} {d1 d2 d3 d4 cv d5 oc : Value} {an od : Option Addr} {sl : Array (Option Value)} {N ps : List Str} {sp : Sp}
    (lk : K.lookup f = some ⟨oc, od, .func (PySem.W.fnOf nm ql pr bd sc d1 d2 d3 d4 an cv d5), sl⟩) (hc : PySem.W.codeIn K cv ql = true) (S : FnScope N ps sc) (ln : ∀ vs H Q E, sp vs H Q E → vs.length = ps.length)
    (hb : ∀ (A : Around) (out : List Env) (s : Shared) (H : Hp) (vs : List V) (Q : VK) (E : XK), Calmly A → Room k (A.deeper (envOfC ql sc s.heap.objs.size f cv)) → sp vs H Q E → ∃ t, PSs (cxOf CX P w K mg base N ql sc f cv A out s H E) bd t ∧ t { nx := fun _ H2 => Q .non H2, rt := Q } (start N vs) H) :
    FnG P w K mg base CX (k + 1) f (PySem.W.fnOf nm ql pr bd sc d1 d2 d3 d4 an cv d5) ps sp := by
  refine ⟨ln, fun A out s H as us vs Q E cm room e0 bi rv hs => ?_⟩
  have lv := ln _ _ _ _ hs
  have kin : K.In s.heap := e0.mod.kin.keeps fun b o z => (e0.bs b o z).1
  have nol : s.heap.NoLimit := e0.mod.nolimit.keeps fun b o z => (e0.bs b o z).1
  have kinds : ∀ y ∈ ps.zip us, sc.names.lookup y.1 = some .local ∨ (sc.names.lookup y.1 = some .cell ∧ ((cellsFrom (s.heap.objs.size + 1) sc.names []).lookup y.1).isSome = true) := by
    rintro ⟨x, v⟩ hy
    exact (S.par x (List.of_mem_zip hy).1).imp id fun z => ⟨z, PySem.W.cellsFrom_some _ _ _ (.inl z)⟩
  refine codeAny_call_function room.depth (kin _ _ lk) rfl S.co S.gen rfl (PySem.W.codeRec_of kin hc) (bi _ _ _ _ (wpAny_newFunctionEnv_cells S.kind kinds fun env he s2 y => ?_)); subst he
  refine ⟨nol.keeps y.toInCall.keep, codeAny_func ?_⟩; obtain ⟨t, ht, hq⟩ := hb A out s H vs Q E cm (room.deeper _) hs
  refine wpAny_mono (ht.run [] s2 (start N vs) H _ (inv_start S room.hd e0 lv rv y) hq) (fun fl s3 z => ?_) fun _ _ z => z
  cases fl with
  | brk => exact (z.elim fun _ z => z.elim fun _ z => z.2).elim
  | cont => exact (z.elim fun _ z => z.elim fun _ z => z.2).elim
  | next => obtain ⟨σ2, H2, J, q⟩ := z; exact ⟨V.non, H2, J.os, J.bare, J.base, J.hok, rfl, q⟩
  | ret u => obtain ⟨v, σ2, H2, J, ru, q⟩ := z; exact ⟨v, H2, J.os, J.bare, J.base, J.hok, ru, q⟩
section
variable {X : Cx} {CX : CXT} {k : Nat} {f : Addr} {fd : FuncData} {ps : List Str} {sp : Sp} {ds : List Value} {dvs : List V} {E : XK} {x : Str} {p pos : Pos} {e : Expr} {es : List Expr} {t : TA}
/-- x(e, ..) of such a def -/
theorem pe_callG (F : FnG X.prog X.w X.K X.mg X.base CX k f fd ps sp) (cm : Calmly X.A) (room : Room k X.A) (gl : Gl X x) (hm : X.mg x = some (.ref f)) (kp : PySem.W.keepIn X.K (.ref f) = true) (hb : Binds X.K fd ps ds) (hd : Vals dvs ds) (hx : Passes CX X E) (ha : PA X (e :: es) t)
    (h1 : (x == ("__debug__" : Str)) = false := by decide) (h2 : starEach (e :: es) X.env = (false, eval e X.env) :: starEach es X.env := by rfl) (h3 : (backTo pos (starEach es X.env)).any (·.1) = false := by rfl) : PE X (.Call (.Name x p) (e :: es) [] pos) (tCall sp dvs E t) := by
  constructor
  intro pins s σ H Q I h
  refine wpAny_Call_Name_kw (ld_glob I gl hm (PySem.W.callWith_K (h₀ := X.base) I.ok.mod.kin kp (thn (ha.run pos pins s σ H _ I h) fun us s1 z => ?_) h2 h3) h1)
  obtain ⟨vs, H1, I1, rv, q⟩ := z
  have r2 : Vals (vs ++ dvs) (us ++ ds) := rv.append hd
  have hl : (us ++ ds).length = ps.length := r2.length.symm.trans (F.ln _ _ _ _ q)
  refine ⟨I1.kIn, wpAny_call (codeAny_mono (F.go X.A X.stack s1 H1 ⟨us, []⟩ (us ++ ds) (vs ++ dvs) Q E cm room I1.env0 (hb s1 us I1.kIn hl) r2 q) fun r s' hq => ?_)⟩
  match r, hq with
  | .error er, hq => exact hx pins σ H1 s1 er s' I1 hq
  | .ok (.ret u), hq => exact I1.after hq
end
end Fv

/-! the law's own call: nothing is being shown around it -/
namespace Fv
open PySem PySem.Spec PyProof.Rows L2 Evl StX
theorem calm_top : Calmly callerA := rfl
/-- the law, called from an abstract heap that tracks the script alone, or nothing -/
theorem lawG_core {P : Program} {w : World} {K : PySem.W.Frag} {mg mb : Str → Option Value} {CX : CXT} {k : Nat} {fa a : Addr} {fd : FuncData} {x : Str} {sp : Sp} {s1 : Shared} {ob : Obj} {H : Hp}
    (kin : K.In s1.heap) (n1 : s1.heap.Ns mainGlobals mg) (n2 : s1.heap.Ns builtinsNs mb) (n3 : ∀ y : Str, y ≠ "__name__" → mb y = bootBuiltins y) (lim : s1.heap.NoLimit) (gs : s1.gens = #[]) (ga : s1.heap.get? a = some ob) (nd : ∀ es ep, ob.data ≠ .dict es ep) (room : Room k callerA)
    (F : ∀ base : Heap, K.In base → base.Ns mainGlobals mg → FnG P w K mg base CX k fa fd [x] sp) (bi : ∀ (s : Shared) (u : Value), BindsTo s fd ⟨[u], []⟩ [(x, u)]) (only : Only H) (hs : sp [.ref a] H (fun v _ => v = .bl true) fun _ _ _ => False) (hCX : ∀ e s', CX [] H s1 (fun _ _ _ => False) e s' → False)
    (hok : HOk P w H s1.heap) (hA : ∀ b, H b ≠ none → b = a ∧ K.lookup a = none) :
    codeAny (model P w) callerA (.call (.ref fa) ⟨[.ref a], []⟩) (fun r s' => r = .ok (.ret (.bool true)) ∧ OldK s1.heap s'.heap ∧ s'.os = s1.os ∧ AllBare s'.gens) s1 := by
  have free : ∀ {b : Addr} {o : Obj}, s1.heap.get? b = some o → (∀ z : b = a, False) → H b = none := fun {b o} _ hb => by
    cases q : H b with
    | none => rfl
    | some u => exact (hb (hA b (by rw [q]; exact fun z => by cases z)).1).elim
  have ns : ∀ {b : Addr} {m : Str → Option Value}, s1.heap.Ns b m → (hidT s1.heap H).Ns b m := by
    rintro b m ⟨o, es, ep, z1, z2, z3⟩
    exact ⟨o, es, ep, hidT_get z1 (free z1 fun z => by subst z; rw [ga] at z1; cases z1; exact nd _ _ z2), z2, z3⟩
  have kb : K.In (hidT s1.heap H) := fun b o z => hidT_get (kin b o z) (by
    cases q : H b with
    | none => rfl
    | some u =>
      obtain ⟨rfl, z2⟩ := hA b (by rw [q]; exact fun z => by cases z)
      rw [z2] at z; cases z)
  obtain ⟨mc, c1, c2⟩ := lim
  have md : Mod K mg (hidT s1.heap H) := ⟨kb, ns n1, ⟨mb, ns n2, n3⟩, mc, ns c1, c2⟩
  have e0 : Env0 P w K mg (hidT s1.heap H) callerA [] s1 H := ⟨rfl, md, fun b o z => of_hidT z, Nat.le_of_eq (hidT_size _ _), trivial, fun b z => absurd z (List.not_mem_nil), hok, .of_eq gs⟩
  have run := (F _ kb (ns n1)).go callerA [] s1 H ⟨[.ref a], []⟩ [.ref a] [.ref a] _ _ calm_top room e0 (bi s1 (.ref a)) (.cons rfl .nil) hs
  refine codeAny_mono run fun r s' h => ?_
  match r, h with
  | .error e, h => exact (hCX e s' h).elim
  | .ok (.ret u), h =>
    obtain ⟨v, H2, o2, b2, un, hok2, rv, rfl⟩ := h
    obtain rfl : u = Value.bool true := rv
    refine ⟨rfl, .of_keep fun b o z => ?_, o2, b2⟩
    cases q : H b with
    | none => exact un.keep b o z q (fun m => by cases m) (fun m => by cases m)
    | some u =>
      rcases only b with y | ⟨oo, xs, y⟩
      · rw [q] at y; cases y
      · have g2 := (hok2 b _ (un.frzs b oo _ y)).1
        have g1 := (hok b _ y).1
        rw [z] at g1; cases g1; exact g2
theorem lawG {P : Program} {w : World} {K : PySem.W.Frag} {mg mb : Str → Option Value} {CX : CXT} {k : Nat} {fa a : Addr} {fd : FuncData} {x : Str} {sp : Sp} {s1 : Shared} {vs : List Value} {ns : List Int}
    (kin : K.In s1.heap) (n1 : s1.heap.Ns mainGlobals mg) (n2 : s1.heap.Ns builtinsNs mb) (n3 : ∀ y : Str, y ≠ "__name__" → mb y = bootBuiltins y) (lim : s1.heap.NoLimit) (gs : s1.gens = #[]) (ga : s1.heap.get? a = some { cls := .type "list", data := .seq vs.toArray }) (whs : IntsAre vs ns) (few : ns.length ≤ sizeLine) (room : Room k callerA)
    (F : ∀ base : Heap, K.In base → base.Ns mainGlobals mg → FnG P w K mg base CX k fa fd [x] sp) (bi : ∀ (s : Shared) (u : Value), BindsTo s fd ⟨[u], []⟩ [(x, u)])
    (hs : ∀ H : Hp, Only H → SqL K H a (ns.map V.int) → sp [.ref a] H (fun v _ => v = .bl true) fun _ _ _ => False) (hCX : ∀ H e s', CX [] H s1 (fun _ _ _ => False) e s' → False) :
    codeAny (model P w) callerA (.call (.ref fa) ⟨[.ref a], []⟩) (fun r s' => r = .ok (.ret (.bool true)) ∧ OldK s1.heap s'.heap ∧ s'.os = s1.os ∧ AllBare s'.gens) s1 := by
  have rv := vals_ints whs
  have noD : ∀ es ep, (({ cls := .type "list", data := .seq vs.toArray } : Obj)).data ≠ .dict es ep := fun es ep z => by cases z
  cases hk : K.lookup a with
  | some o =>
    have z := kin a o hk
    rw [ga] at z; cases z
    refine lawG_core (H := fun _ => none) kin n1 n2 n3 lim gs ga noD room F bi (fun _ => .inl rfl) (hs _ (fun _ => .inl rfl) (.inr ⟨_, vs.toArray, _, hk, rfl, rfl, rfl, ?_, by simpa using rv⟩)) (hCX _) (fun b u q => by cases (show (none : Option HO) = some u from q)) fun b z => (z rfl).elim
    rw [List.size_toArray, whs.length]; exact few
  | none =>
    let ob : Obj := { cls := .type "list", data := .seq vs.toArray }
    let H : Hp := fun b => if b = a then some (.frz ob (.lst (ns.map V.int))) else none
    have at_ : H a = some (.frz ob (.lst (ns.map V.int))) := if_pos rfl
    have on : Only H := fun b => (Classical.em (b = a)).elim (fun z => .inr ⟨_, _, if_pos z⟩) fun z => .inl (if_neg z)
    refine lawG_core (H := H) kin n1 n2 n3 lim gs ga noD room F bi on (hs _ on (.inl (.inr ⟨ob, at_⟩))) (hCX _) (fun b u q => ?_) fun b z => ?_
    · by_cases y : b = a
      · subst y
        rw [at_] at q; cases q
        exact ⟨ga, by rw [List.length_map]; exact few, vs, _, rv, ga⟩
      · rw [show H b = none from if_neg y] at q; cases q
    · by_cases y : b = a
      · exact ⟨y, hk⟩
      · exact (z (if_neg y)).elim
theorem walkG {l : PySem.W.OpenLaw} {n k : Nat} {q : Program} {lo : List Str} {XP : (Str → Option Value) → Heap → Prop} {YP : World → Heap → Prop} {d : DefRec} {K : Params → PySem.W.Frag} {CX : World → CXT} {sp : World → Sp} {x : Str} (hn : l.most = some n) (hn2 : n ≤ sizeLine) (hdf : d.params.defaults = []) (room : Room k callerA) (hY : ∀ (w : World) (h : Heap), YP w h → (K w.params).In h)
    (F : ∀ (w : World) (mg : Str → Option Value) (fa : Addr) (h : Heap), (K w.params).In h → h.Ns mainGlobals mg → mg d.name = some (.ref fa) → ∃ fd : FuncData, (∀ (s : Shared) (u : Value), BindsTo s fd ⟨[u], []⟩ [(x, u)]) ∧ ∀ base : Heap, (K w.params).In base → base.Ns mainGlobals mg → FnG l.prog w (K w.params) mg base (CX w) k fa fd [x] (sp w))
    (hs : ∀ (w : World) (H : Hp) (a : Addr) (ns : List Int), ns.length ≤ n → Only H → SqL (K w.params) H a (ns.map V.int) → sp w [.ref a] H (fun v _ => v = .bl true) fun _ _ _ => False) (hCX : ∀ (w : World) (H : Hp) (s : Shared) (e : Value) (s' : Shared), CX w [] H s (fun _ _ _ => False) e s' → False) :
    PySem.W.WalkO q lo XP YP l.row.toRowW d [] (fun f vs => PySem.call f vs) := by
  refine Att.attach_call hn hdf fun w s0 s1 mg mb fa o pm cd doc a vs ns G Y ho hd hcd hmg hobj hints hlen hg => ?_
  obtain ⟨fd, bi, FF⟩ := F w mg fa _ (hY w _ Y) G.T.g hmg
  exact lawG (hY w _ Y) G.T.g G.T.b G.T.builtins G.T.nolimit hg hobj hints (Nat.le_trans hlen hn2) room FF bi (fun H o S => hs w H a ns hlen o S) fun H e s' => hCX w H s1 e s'
end Fv

/-! repr; x in t for a tuple of data of any depth; isinstance of a caught exception with fields -/
namespace Fv
open PySem PySem.Spec PyProof.Rows L2 Evl StX
section
variable {X : Cx} {K : PySem.W.Frag}
/-! ### repr -/
def rRepr (K : PySem.W.Frag) : List V → Hp → VK → Prop := fun xs H Q => ∃ (v : V) (d : PyData), xs = [v] ∧ Dp K H v d ∧ d.showable = true ∧ d.hasDict = false ∧ d.shown.length ≤ sizeLine ∧ d.depth ≤ 60 ∧ Q (.str d.shown) H
theorem c_repr (cm : Calmly X.A) (hu : X.A.units + 65 < cLine) (h : X.K = K := by rfl) : CallR X (.builtin "repr") (rRepr K) := by
  subst h
  intro pins s σ H xs us Q I r q0
  obtain ⟨v, d, rfl, hd, s1, s2, s3, s4, q⟩ := q0
  obtain ⟨u, rfl, rv⟩ := vals1 r
  obtain ⟨as, rd⟩ := Dp.reads I d v u hd rv
  have no : d.hasDict = true → sysModules ∉ as := fun z => by rw [s2] at z; cases z
  have ref : ∀ a, u = .ref a → wpAny (model X.prog X.w) X.A (call (.builtin "repr") [u]) (EP X pins σ Q) X.xe s := fun a z => by
    subst z
    exact repr_of_reads' rd s1 no cm (by omega) (fun _ _ e => e) (fun h' t tk k => ⟨.str d.shown, H, I.kept k, ⟨t, rfl⟩, q⟩) s3
  cases hd with
  | non => cases rv; exact P.repr_of_none ⟨.str _, H, I.tok _, ⟨_, rfl⟩, q⟩
  | bl b => cases rv; exact P.repr_of_bool ⟨.str _, H, I.tok _, ⟨_, rfl⟩, q⟩
  | int i =>
    obtain ⟨t, rfl⟩ := rv
    exact P.repr_of_int (by simpa [PyData.showable] using s1) ⟨.str _, H, I.tok _, ⟨_, rfl⟩, q⟩
  | str x =>
    obtain ⟨t, rfl⟩ := rv
    exact P.repr_of_str ⟨.str _, H, I.tok _, ⟨_, rfl⟩, q⟩ s3
  | lst hs ha => exact ref _ rv
  | tup hs ha => exact ref _ rv
/-! ### in -/
def rInU (K : PySem.W.Frag) (neg : Bool) : R2 := fun x y H Q => ∃ d ds, Dp K H x d ∧ Dp K H y (.tuple ds) ∧ SeqAt.shaped d = true ∧ SeqAt.shaped (.tuple ds) = true ∧ Q (.bl (if neg then !ds.any fun z => PyData.eqv z d else ds.any fun z => PyData.eqv z d)) H
theorem o_inU (hu : X.A.units + 65 < cLine) (h : X.K = K := by rfl) : OpR X (compareOp .In) (rInU K false) := by
  subst h
  intro pins s σ H x y v u Q I rx ry q0
  obtain ⟨d, ds, hd, he, sd, se, q⟩ := q0
  obtain ⟨as, r1⟩ := Dp.reads I d x v hd rx
  obtain ⟨bs, r2⟩ := Dp.reads I _ y u he ry
  exact SeqAt.in_tuple_reads r2 r1 (SeqAt.canLay_of_shaped se) (SeqAt.canLay_of_shaped sd) (room_in_shaped sd hu) ⟨.bl _, H, I, rfl, q⟩
theorem o_ninU (hu : X.A.units + 65 < cLine) (h : X.K = K := by rfl) : OpR X (compareOp .NotIn) (rInU K true) := by
  subst h
  intro pins s σ H x y v u Q I rx ry q0
  obtain ⟨d, ds, hd, he, sd, se, q⟩ := q0
  obtain ⟨as, r1⟩ := Dp.reads I d x v hd rx
  obtain ⟨bs, r2⟩ := Dp.reads I _ y u he ry
  exact SeqAt.notIn_tuple_reads r2 r1 (SeqAt.canLay_of_shaped se) (SeqAt.canLay_of_shaped sd) (room_in_shaped sd hu) ⟨.bl _, H, I, rfl, q⟩
end
end Fv

namespace Fv
open PySem PySem.Spec PyProof.Rows L2 Evl StX
/-- isinstance says yes as soon as the kind of the thing says so -/
theorem isi_yes {K : PySem.W.Frag} {x c t : Value} {Pz : Heap → Prop} (ty : ∀ (M : Model) (h : Heap), K.In h → Pz h → PySem.W.Looks M h (typeOf x) t) (e : PySem.W.kitOne K t c = some true) : Answers (fun s => K.In s.heap ∧ Pz s.heap) x c true := by
  rintro dep tk prog w A R ⟨hp, g, d, n, os⟩ ⟨⟨kin, pz⟩, q⟩
  have L0 := ty (model prog w) hp kin pz
  unfold PySem.W.kitOne at e
  unfold Builtin.«isinstance.nested»; refine wpAny_bind (L0.at ?_)
  by_cases z : (t == c) = true
  · rw [if_pos z]
    first
      | exact wpAny_pure (q n)
      | exact wpAny_bind (wpAny_rule (q n))
      | exact wpAny_bind (wpAny_rule (wpAny_pure (q n)))
      | exact wpAny_pure (wpAny_pure (q n))
      | exact wpAny_bind (wpAny_pure (wpAny_pure (q n)))
  · rw [if_neg z] at e ⊢; obtain ⟨k1, k2, k3⟩ := PySem.W.kit_cls (M := model prog w) kin e
    have k4 : PySem.W.Looks (model prog w) hp (isInstance x c) true := L0.andThen k3
    refine wpAny_bind (k1.at ?_); rw [if_pos (by decide)]; k_delta "plainIsInstance"
    refine wpAny_bind (wpAny_bind (k2.at ?_)); simp only [Bool.not_true, Bool.false_eq_true, if_false]; refine wpAny_bind (k4.at ?_)
    first
      | exact wpAny_pure (wpAny_pure (q n))
      | (simp only [if_true]; first | exact wpAny_pure (wpAny_pure (q n)) | exact wpAny_pure (q n) | exact wpAny_bind (wpAny_pure (wpAny_pure (q n))))
section
variable {X : Cx} {a C : Addr} {oe : Obj} {cls : Value} {d : Option Addr} {pn : List (Addr × Obj)}
/-- isinstance(e, c), e the caught exception: yes -/
def rIsY (K : PySem.W.Frag) (cls : Value) (a : Addr) : List V → Hp → VK → Prop := fun xs H Q => ∃ (c : V) (cv : Value), xs = [.ref a, c] ∧ (∀ u, RelV c u → u = cv) ∧ PySem.W.kitOne K cls cv = some true ∧ Q (.bl true) H
theorem c_isY {K : PySem.W.Frag} (hz : Zc cls d oe) (h : X.K = K := by rfl) : CallR (X.suite a ((a, oe) :: pn)) (.builtin "isinstance") (rIsY K cls a) := by
  subst h
  intro pins s σ H xs us Q I r q0
  obtain ⟨c, cv, rfl, hc, e, q⟩ := q0
  obtain ⟨u0, u1, rfl, ra, rc⟩ : ∃ u0 u1, us = [u0, u1] ∧ RelV (.ref a) u0 ∧ RelV c u1 := by
    cases r with
    | cons r1 r2 =>
      cases r2 with
      | cons r3 r4 => cases r4; exact ⟨_, _, rfl, r1, r3⟩
  obtain rfl : u0 = Value.ref a := ra
  obtain rfl := hc _ rc
  have got := (I.pin (a, oe) (List.mem_append_left _ List.mem_cons_self)).1
  refine call_isinstance (S := fun _ R s => (X.K.In s.heap ∧ s.heap.get? a = some oe) ∧ ∀ tk, R (.ok (.ret (.bool true))) { s with toks := tk })
    (fun prog w A R s hs => isinstance_outer (isi_yes (Pz := fun h => h.get? a = some oe) (fun M h kin z => fun A Q E s k q => wpAny_typeOf_ref (k _ _ z) (by rw [hz.1]; exact q)) e 0 _ prog w A R s hs) (fun z => nomatch z)) ⟨⟨I.kIn, got⟩, fun tk => ⟨.bl true, H, I.tok tk, rfl, q⟩⟩
end
end Fv

/-! set(l) of a list of whole numbers, its members known -/
namespace Fv
open PySem PySem.Spec PyProof.Rows L2 Evl StX
/-- an empty set, as it is laid -/
abbrev set0 (w : World) : Obj := { cls := .type "set", dict := none, data := .set #[] 0 (.fresh 0 0 (!w.params.followText "set-order")) }
section
variable {P : Program} {w : World} {A : Around} {E : Value → Shared → Prop} {s : Shared}
set_option maxHeartbeats 8000000 in
theorem set_of_list {l : Addr} {its : Array Value} (ns : List Int) {Q : Value → Shared → Prop} (calm : A.handled = none) (isl : s.heap.IsList l its) (whole : IntsAre its.toList ns) (few : ns.length + 1 < scanBound)
    (k : ∀ (h2 : Heap) (tk c : Nat), SetR w h2 s.heap.objs.size (fun j => decide (j ∈ ns)) c → c ≤ ns.length → (∀ b o, s.heap.get? b = some o → h2.get? b = some o) → Q (.ref s.heap.objs.size) { s with heap := h2, toks := tk }) : wpAny (model P w) A (call (.type "set") [.ref l]) Q E s := by
  have size : its.size = ns.length := by simpa using IntsAre.length whole
  obtain ⟨c1, tl1, mro1⟩ := F.called_set.mro
  have f1 := F.called_set.made; have f2 := F.called_set.sub
  refine wpAny_call (codeAny_of_tree ?_); show wpAny _ _ (callAny (.type "set") _) _ _ _
  refine wpAny_pure ⟨Code.quiet_builtin _ (by decide +kernel), codeAny_builtin F.entry_type_call ?_⟩; rw [Around.under_plain (weight_type_call_type "set" [.ref l] []) rfl]
  have f3 := F.called_set.notType; have f4 := F.called_set.canCreate; have f5 := F.typeCall_set_1 (.ref l)
  (repeat (any_goals (first | assumption | wp_step)))
  refine codeAny_mono (code_set_led1 (.ref l) (E := E) (Q₁ := fun o s1 => o = .ref s.heap.objs.size ∧ s1 = { s with heap := s.heap.push (set0 w) }) ⟨rfl, rfl⟩) fun r s1 hr => ?_
  cases r with
  | error e => exact hr
  | ok fl =>
    cases fl with
    | ret ob =>
      obtain ⟨rfl, rfl⟩ := hr
      have at0 : (s.heap.push (set0 w)).get? s.heap.objs.size = some (set0 w) := Heap.get?_push_size _ rfl
      have ty0 : Shared.TypeIs { s with heap := s.heap.push (set0 w) } (.ref s.heap.objs.size) "set" := ⟨_, at0, rfl⟩
      have f6 := F.called_set.init.lookup; have f7 := F.called_set.init.bind (.ref s.heap.objs.size)
      (repeat (any_goals (first | assumption | wp_step)))
      refine codeAny_mono (codeAny_call_builtin (R := wants (fun r s2 => r = .none ∧ ∃ h2 tk c, s2 = { s with heap := h2, toks := tk } ∧ SetR w h2 s.heap.objs.size (fun j => decide (j ∈ ns)) c ∧ c ≤ ns.length ∧ (∀ b o, s.heap.get? b = some o → h2.get? b = some o)) E) F.called_set.init.plain F.entry_set_init (check_set_init_1 ty0 ?_)) fun r2 s2 hr2 => ?_
      · obtain ⟨⟨oc, od, oa, os⟩, got, e1, nl, e2⟩ := isl
        simp only at e1 e2; subst e1; subst e2
        have got1 : (s.heap.push (set0 w)).get? l = some { cls := .type "list", dict := od, data := .seq its nl, slots := os } := Heap.get?_push_of_some _ got
        have g1 := F.sub_list_set; have g2 := F.sub_list_frozenset
        have g3 : (Value.type "list" == Value.type "dict") = false := by decide
        have isl1 : (s.heap.push (set0 w)).IsList l its := ⟨_, got1, rfl, nl, rfl⟩
        unfold Builtin.«set.__init__» noKeywords Builtin.Frozenset.updateFrom
        generalize hI : pyIter = PI
        wp_walk
        subst hI; refine wpAny_pyIter_list isl1 (wpAny_bind (wpAny_runValue ?_))
        have lt : l < s.heap.objs.size := Heap.lt_size got
        have calm3 : A.in1.in1.in1.handled = none := by simp [calm]
        have ne1 : l ≠ (s.heap.push (set0 w)).objs.size := by rw [Heap.size_push]; exact Nat.ne_of_lt (Nat.lt_succ_of_lt lt)
        have off : s.heap.objs.size ∉ [(s.heap.push (set0 w)).objs.size, l] := by
          rw [Heap.size_push]; simp only [List.mem_cons, List.not_mem_nil, or_false, not_or]
          exact ⟨Nat.ne_of_lt (Nat.lt_succ_self _), Nat.ne_of_gt lt⟩
        have vals : ∀ (i : Nat) (v : Value), its[i]? = some v → ∃ j t, ns[i]? = some j ∧ v = .int j t := fun i v hv => by
          have hi : i < ns.length := size ▸ (Array.getElem?_eq_some_iff.mp hv).1
          obtain ⟨t, e⟩ := PyProof.Rows.IntsAre.int_at whole i v (by rw [Array.getElem?_toList]; exact hv)
          exact ⟨ns[i], t, List.getElem?_eq_getElem hi, by rw [e, List.getD_eq_getElem?_getD, List.getElem?_eq_getElem hi]; rfl⟩
        refine set_update_ints ((Walks.list calm3 _ l ne1 its).toS) s.heap.objs.size off ns size few vals (its.size - 0) 0 _ (by omega) (Nat.zero_le _) ⟨⟨_, Heap.get?_push_size _ rfl, rfl, rfl⟩, (isl1.push _)⟩ ?first ?rest
        case first => exact ⟨0, Nat.le_refl 0, setR_new_at (Heap.get?_push_of_some _ at0)⟩
        case rest =>
          rintro ⟨h2, g2', d2, t2, o2⟩ c2 hm hc2 hS2
          have z1 : g2' = s.gens := hm.gens; have z2 : d2 = s.drawn := hm.drawn; have z3 : o2 = s.os := hm.os
          subst z1; subst z2; subst z3; show wpAny _ _ _ _ _ _
          refine wpAny_pure ?_; show wpAny _ _ (ret Value.none) _ _ _
          rw [size] at hc2
          refine wpAny_pure ⟨rfl, h2, t2, c2, rfl, hS2, hc2, fun b o e => ?_⟩
          have b0 : b < s.heap.objs.size := Heap.lt_size e
          have b2 : b ≠ (s.heap.push (set0 w)).objs.size := by rw [Heap.size_push]; exact Nat.ne_of_lt (Nat.lt_succ_of_lt b0)
          exact hm.heap b o (by simp only [List.mem_cons, List.not_mem_nil, or_false, not_or]; exact ⟨Nat.ne_of_lt b0, b2⟩) (Heap.get?_push_of_some _ (Heap.get?_push_of_some _ e))
      · match r2, hr2 with
        | .error e, hr2 => exact hr2
        | .ok (.ret r), hr2 =>
          obtain ⟨rfl, h2, tk, c, rfl, y1, y2, y3⟩ := hr2
          (repeat (any_goals (first | assumption | wp_step)))
          exact k _ _ _ y1 y2 y3
        | .ok .next, hr2 => exact hr2.elim
        | .ok .brk, hr2 => exact hr2.elim
        | .ok .cont, hr2 => exact hr2.elim
    | next => exact hr.elim
    | brk => exact hr.elim
    | cont => exact hr.elim
end
def rSetLi (K : PySem.W.Frag) (w : World) : List V → Hp → VK → Prop := fun xs H Q => ∃ (p : Addr) (ns : List Int), xs = [.ref p] ∧ SqL K H p (ns.map V.int) ∧ ns.length ≤ 60 ∧
  ∀ a c, H a = none → c ≤ ns.length → Q (.ref a) (upd H a (SetO w a (fun j => decide (j ∈ ns)) c))
theorem c_setL {X : Cx} {K : PySem.W.Frag} {w : World} (hc : X.calm = true := by rfl) (h : X.K = K := by rfl) (hw : X.w = w := by rfl) : CallR X (.type "set") (rSetLi K w) := by
  subst h; subst hw
  rintro pins s σ H xs us Q I r ⟨p, ns, rfl, hq, hl, q⟩
  rw [Vals.ref1 r]
  obtain ⟨its, rv, ht, hz⟩ := I.list hq
  refine set_of_list ns (I.ok.hd hc) ht.isList (by simpa using ints_of_vals rv) (by unfold scanBound; omega) fun h' tk c R1 hcn k => ?_
  exact ⟨.ref s.heap.objs.size, _, I.laid (t' := tk) k (Nat.le_refl _) (setO_new R1), rfl, q _ c (I.hok.fresh (Nat.le_refl _)) hcn⟩
/-- a list of whole numbers -/
abbrev dI (ns : List Int) : PyData := .list (ns.map PyData.int)
theorem g_sortedSetL {K : PySem.W.Frag} {w : World} {pt : Option Pt} {σ : L2.St} {F : Hp} {te : TE} {ns : List Int} (h : EvG K pt te σ F (Is (dI ns))) (hz : ns.length ≤ 60) : EvG K pt (tCB (rSortedSet w) (tCons (tCB (rSetLi K w) (tCons te tNil)) tNil)) σ F
    (fun x => ∃ ms : List Int, x = .list (ms.map .int) ∧ ms.Pairwise (· < ·) ∧ ∀ k, k ∈ ms ↔ k ∈ ns) := fun H1 i g Q q =>
  h H1 i g _ fun d v F2 H2 hd s hv => by
    subst hd
    obtain ⟨a, xs, rfl, hl, ha⟩ := rp_lst hv
    have e1 := rpAll_ints ha
    subst e1
    refine ⟨a, ns, rfl, SqL.of (s.inn _ _ hl), hz, fun b c hb hc => ?_⟩
    have s3 : Step pt F2 H2 F2 (upd H2 b (SetO w b (fun j => decide (j ∈ ns)) c)) := .litter s.inn s.good hb
    refine ⟨b, _, c, rfl, upd_same, by omega, fun ms p hp hm hlen hn => ?_⟩
    have s4 : Step pt F2 (upd H2 b (SetO w b (fun j => decide (j ∈ ns)) c)) (upd F2 p (.lst (ms.map V.int))) _ := .laid s3.inn s3.good hn
    exact q _ _ _ _ ⟨ms, rfl, hp, fun k => by rw [hm k, decide_eq_true_eq]⟩ ((s.trans s3).trans s4) (.lst upd_same (rpAll_of_ints ms))
end Fv

namespace Fv
open PySem PySem.Spec PyProof.Rows L2 Evl StX
/-! ### bool(t) of a tuple -/
theorem meets_boolU (t : Addr) (its : Array Value) (fit : (its.size : Int) < 2 ^ 63) : Meets (Builtin.«bool.__new__» ⟨[.type "bool", .ref t], []⟩) (fun _ R s => IsTup s.heap t its ∧ ∀ tk, R (.ok (.ret (.bool (!its.isEmpty)))) { s with toks := tk }) :=
  Meets.of_wp fun prog w A R s0 hs => by
    obtain ⟨ht, q⟩ := hs; obtain ⟨hp, g, d, tk, os⟩ := s0
    have f0 := F.conv_sub_bool
    (repeat (any_goals (first | assumption | (with_reducible refine truthy_tuple ht fit ?_) | wp_step)))
    all_goals first | exact ⟨_, rfl, q _⟩ | exact q _ | skip
theorem rv_len {K : PySem.W.Frag} : True := trivial
def rBoolU (K : PySem.W.Frag) : List V → Hp → VK → Prop := fun xs H Q => ∃ (a : Addr) (zs : List V), xs = [.ref a] ∧ SqT K H a zs ∧ Q (.bl (!zs.isEmpty)) H
theorem c_boolU {X : Cx} {K : PySem.W.Frag} (h : X.K = K := by rfl) : CallR X (.type "bool") (rBoolU K) := by
  subst h
  rintro pins s σ H xs us Q I r ⟨a, zs, rfl, hq, q⟩
  obtain rfl := Vals.ref1 r
  obtain ⟨its, rv, pl, hz⟩ := I.tuple hq
  have h0 := sizeLine_eq; have h1 := rv.length
  have e : zs.isEmpty = its.toArray.isEmpty := by cases zs <;> cases its <;> simp_all
  exact call_bool_1 (meets_boolU a its.toArray (by simp only [List.size_toArray]; omega)) ⟨pl, fun tk => ⟨rfl, ⟨.bl (!zs.isEmpty), H, I.tok _, by rw [e]; rfl, q⟩⟩⟩
section
variable {K : PySem.W.Frag} {pt : Option Pt} {σ : L2.St} {F F' F0 H0 H : Hp} {te ta tb : TE} {ts tr : TA} {t u : TT} {R R1 : PD} {d e z : PyData} {D : Ends} {tz tu : TS} {wi : TI}
theorem rc_boolU {ds : List PyData} : RcG K (rBoolU K) [.tuple ds] (Is (.bool (!ds.isEmpty))) := rc_val fun F H vs e h => by
  cases h with
  | cons h1 h2 =>
    cases h2
    obtain ⟨a, xs, rfl, hl, ha⟩ := rp_tup h1
    have e1 : xs.isEmpty = ds.isEmpty := by have := ha.length; cases xs <;> cases ds <;> simp_all
    exact ⟨.bl (!xs.isEmpty), fun Q q => ⟨a, xs, rfl, tx e hl, q⟩, by rw [e1]; exact .bl _⟩
/-! ### choices whose test is not known -/
theorem g_ifR {S : Bool → Prop} (h : EtG pt t σ F S) (h1 : EvG K pt ta σ F R) (h2 : EvG K pt tb σ F R) : EvG K pt (tIf t ta tb) σ F R := fun H1 i g Q q => h H1 i g _ fun c F2 H2 hc s => by
  cases c with
  | true => exact h1.mono s.sub H2 s.inn s.good Q fun d' v' F3 H3 hd' s3 hv' => q d' v' F3 H3 hd' (s.trans s3) hv'
  | false => exact h2.mono s.sub H2 s.inn s.good Q fun d' v' F3 H3 hd' s3 hv' => q d' v' F3 H3 hd' (s.trans s3) hv'
theorem et_truR {S : Int → Prop} (h : EvG K pt te σ F (fun d => ∃ k : Int, d = .int k ∧ S k)) : EtG pt (fun σ H Q => te σ H fun x H' => ∃ k, TruV K x H' k ∧ Q k H') σ F (fun _ => True) := fun H1 i g Q q =>
  h H1 i g _ fun d' v F2 H2 hd s hv => by
    obtain ⟨n, rfl, _⟩ := hd
    rw [rp_int hv]
    exact ⟨n != 0, rfl, q _ F2 H2 trivial s⟩
/-- an item of a written list, at a drawn place -/
theorem g_pick {ds : List PyData} {c : Int} (ha : EvG K pt ta σ F (Is (.list ds))) (hb : EvG K pt tb σ F (fun d => ∃ k : Int, d = .int k ∧ 0 ≤ k ∧ k < c)) (hc : c ≤ (ds.length : Int)) (hP : ∀ d ∈ ds, R d) : EvG K pt (tOp (rIxL K) ta tb) σ F R := g_op ha hb fun d e hd he => by
  obtain ⟨k, rfl, k0, k1⟩ := he
  subst hd
  obtain ⟨j, rfl⟩ : ∃ j : Nat, k = (j : Int) := ⟨k.toNat, by omega⟩
  have hj : j < ds.length := by omega
  intro F H x y i hx hy Q q
  exact rv_ixL (d := ds[j]) (atI_nat (List.getElem?_eq_getElem hj)) F H x y i hx hy Q fun z v F2 H2 hz s hv => q z v F2 H2 (by rw [show z = ds[j] from hz]; exact hP _ (List.getElem_mem hj)) s hv
/-! ### == [] -/
theorem rv_eqNil {ds : List PyData} (h : SeqAt.shaped (.list ds) = true) : RvG K (rEqD K) (.list ds) (.list []) (Is (.bool ds.isEmpty)) := by
  have := rv_eqD (K := K) h (show SeqAt.shaped (.list []) = true by decide)
  have e : PyData.eqv (.list ds) (.list []) = ds.isEmpty := by
    cases ds <;> simp [PyData.eqv, PyData.eqvAll]
  rw [e] at this; exact this
theorem shaped_dI (ns : List Int) : SeqAt.shaped (.list (ns.map PyData.int)) = true := shaped_of (by simp only [PyData.canLay0]; exact canLayAll_ints ns) (by have := depthAll_ints ns; simp only [PyData.depth]; omega)
theorem c_min2 {X : Cx} (hc : X.calm = true := by rfl) : CallR X (.builtin "min") (fun xs H Q => ∃ i j, xs = [.int i, .int j] ∧ Q (.int (if j < i then j else i)) H) := call_min2 hc
theorem rc_min2 {i j : Int} : RcG K (fun xs H Q => ∃ i j, xs = [.int i, .int j] ∧ Q (.int (if j < i then j else i)) H) [.int i, .int j] (Is (.int (if j < i then j else i))) := rc_val fun F H vs e h => by
  cases h with
  | cons h1 h2 =>
    cases h2 with
    | cons h3 h4 =>
      cases h4
      rw [rp_int h1, rp_int h3]
      exact ⟨_, fun Q q => ⟨i, j, rfl, q⟩, .int _⟩
end
end Fv

/-! loops over what is not known beforehand; l[:i] -/
namespace Fv
open PySem PySem.Spec PyProof.Rows L2 Evl StX
section
variable {K : PySem.W.Frag} {pt : Option Pt} {σ : L2.St} {F F' F0 H0 H : Hp} {te ta tb : TE} {ts tr : TA} {t u : TT} {R R1 : PD} {RS : List PyData → Prop} {d e z : PyData} {D : Ends} {tz tu : TS} {wi : TI} {l : Addr} {ls : List PyData}
theorem t_forR {j : Nat} (s : Step pt F0 H0 F H) (hw : WiG K pt wi σ F RS) (I : List PyData → Nat → L2.St → Hp → Prop) (h0 : ∀ ds, RS ds → ∀ F2, Ex F F2 → I ds 0 σ F2)
    (hs : ∀ ds, RS ds → ∀ i d, ds[i]? = some d → ∀ σ' F' H' x, I ds i σ' F' → Step pt F0 H0 F' H' → Ex F F' → Rp K F' x d →
      ∀ N : L2.St → Hp → Prop, (∀ σ2 F2 H2, I ds (i + 1) σ2 F2 → Step pt F0 H0 F2 H2 → Ex F' F2 → N σ2 H2) → tu { D with nx := N, ct := N, bk := tz D } (σ'.set j (some x)) H')
    (hd : ∀ ds, RS ds → ∀ σ' F' H', I ds ds.length σ' F' → Step pt F0 H0 F' H' → Ex F F' → tz D σ' H') : tSeq (tFor wi (gName j) tu) tz D σ H :=
  hw H s.inn s.good _ fun ds J F1 H1 hr s1 Y => by
    refine ⟨fun i m σ' H' => m = ds.length - i ∧ i ≤ ds.length ∧ ∃ F', Step pt F0 H0 F' H' ∧ Ex F1 F' ∧ I ds i σ' F', ⟨ds.length, by simp, Nat.zero_le _, F1, s.trans s1, Ex.refl _, h0 ds hr F1 s1.sub⟩, ?_⟩
    rintro i m σ' H' ⟨rfl, hi, F', s', e', p⟩
    have eH : Ex F1 H' := e'.trans s'.inn
    by_cases hlt : i < ds.length
    · refine .inr ⟨Y.go i H' eH hlt, fun σ2 H2 => ∃ F2, Step pt F0 H0 F2 H2 ∧ Ex F1 F2 ∧ I ds (i + 1) σ2 F2, fun σ2 H2 ⟨F2, a, b, c⟩ => ⟨ds.length - (i + 1), by omega, rfl, hlt, F2, a, b, c⟩, fun x H2 y => ?_⟩
      obtain ⟨rfl, d, hdd, hx⟩ := Y.yld i H' x H2 eH hlt y
      exact hs ds hr i d hdd σ' F' _ x p s' (s1.sub.trans e') (Rp.mono e' _ _ hx) _ fun σ2 F2 H2 a b c => ⟨F2, b, e'.trans c, a⟩
    · have hE : i = ds.length := Nat.le_antisymm hi (Nat.le_of_not_lt hlt)
      subst hE
      exact .inl ⟨Y.stop H' eH, hd ds hr σ' F' H' p s' (s1.sub.trans e')⟩
theorem t_forGR {j : Nat} (g0 : Good pt F0 H0) (h0 : H0 l = none) (g : Gst K pt F0 H0 l F H ls) (hw : WiG K pt wi σ F RS) (I : List PyData → Nat → L2.St → Hp → List PyData → Prop) (hi : ∀ ds, RS ds → ∀ F2, Ex F F2 → I ds 0 σ F2 ls)
    (hs : ∀ ds, RS ds → ∀ i d, ds[i]? = some d → ∀ σ' F' H' x ls', I ds i σ' F' ls' → Gst K pt F0 H0 l F' H' ls' → Ex F F' → Rp K F' x d →
      ∀ N : L2.St → Hp → Prop, (∀ σ2 F2 H2 ls2, I ds (i + 1) σ2 F2 ls2 → Gst K pt F0 H0 l F2 H2 ls2 → Ex F' F2 → N σ2 H2) → tu { D with nx := N, ct := N, bk := tz D } (σ'.set j (some x)) H')
    (hd : ∀ ds, RS ds → ∀ σ' F' H' ls', I ds ds.length σ' F' ls' → Gst K pt F0 H0 l F' H' ls' → Ex F F' → tz D σ' H') : tSeq (tFor wi (gName j) tu) tz D σ H :=
  hw H g.step.inn g.step.good _ fun ds J F1 H1 hr s1 Y => by
    refine ⟨fun i m σ' H' => m = ds.length - i ∧ i ≤ ds.length ∧ ∃ F' ls', Gst K pt F0 H0 l F' H' ls' ∧ Ex F1 F' ∧ I ds i σ' F' ls', ⟨ds.length, by simp, Nat.zero_le _, F1, ls, g.run g0 h0 s1, Ex.refl _, hi ds hr F1 s1.sub⟩, ?_⟩
    rintro i m σ' H' ⟨rfl, hil, F', ls', g', e', p⟩
    have eH : Ex F1 H' := e'.trans g'.step.inn
    by_cases hlt : i < ds.length
    · refine .inr ⟨Y.go i H' eH hlt, fun σ2 H2 => ∃ F2 ls2, Gst K pt F0 H0 l F2 H2 ls2 ∧ Ex F1 F2 ∧ I ds (i + 1) σ2 F2 ls2, fun σ2 H2 ⟨F2, ls2, a, b, c⟩ => ⟨ds.length - (i + 1), by omega, rfl, hlt, F2, ls2, a, b, c⟩, fun x H2 y => ?_⟩
      obtain ⟨rfl, d, hdd, hx⟩ := Y.yld i H' x H2 eH hlt y
      exact hs ds hr i d hdd σ' F' _ x ls' p g' (s1.sub.trans e') (Rp.mono e' _ _ hx) _ fun σ2 F2 H2 ls2 a b c => ⟨F2, ls2, b, e'.trans c, a⟩
    · have hE : i = ds.length := Nat.le_antisymm hil (Nat.le_of_not_lt hlt)
      subst hE
      exact .inl ⟨Y.stop H' eH, hd ds hr σ' F' H' ls' p g' (s1.sub.trans e')⟩
theorem RpAll.take : ∀ {ds : List PyData} {vs : List V} (i : Nat), RpAll K F vs ds → RpAll K F (vs.take i) (ds.take i)
  | [], _, i, h => by cases h; simp; exact .nil
  | d :: ds, _, 0, h => by simp; exact .nil
  | d :: ds, _, i + 1, h => by
    cases h with
    | cons h1 h2 => exact .cons h1 (RpAll.take i h2)
/-- xs[:i] -/
theorem g_slTo {ds : List PyData} {i : Nat} (h : EvG K pt te σ F (Is (.list ds))) : EvG K pt (tSl (rSlL K) te tNoPart (tPart (tC (.int (i : Int))))) σ F (Is (.list (ds.take i))) := fun H1 e g Q q =>
  h H1 e g _ fun d v F2 H2 hd s hv => by
    subst hd
    obtain ⟨a, xs, rfl, hl, ha⟩ := rp_lst hv
    refine ⟨_, rfl, a, xs, rfl, SqL.of (s.inn _ _ hl), fun p hp => ?_⟩
    have e1 : cutV xs none (some (i : Int)) = xs.take i := by
      unfold cutV
      rw [show HT.sIx xs.length 0 none = 0 from rfl, show HT.sIx xs.length xs.length (some (i : Int)) = min i xs.length from HT.sIx_nat _ _ i, List.drop_zero, Nat.sub_zero]
      by_cases z : i ≤ xs.length
      · rw [Nat.min_eq_left z]
      · rw [Nat.min_eq_right (by omega), List.take_of_length_le (Nat.le_refl _), List.take_of_length_le (by omega)]
    rw [e1]
    have s3 : Step pt F2 H2 (upd F2 p (.lst (xs.take i))) (upd H2 p (.lst (xs.take i))) := .laid s.inn s.good hp
    exact q _ _ _ _ rfl (s.trans s3) (.lst upd_same (RpAll.mono s3.sub _ _ (RpAll.take i ha)))
end
end Fv

/-! a caught exception handed to a def; several clauses that name it -/
namespace Fv
open PySem PySem.Spec PyProof.Rows L2 L2H Evl StX
/-- the promise of a def to which an exception of the class cls is handed while it is handled -/
structure FnT (P : Program) (w : World) (K : PySem.W.Frag) (mg : Str → Option Value) (base : Heap) (k : Nat) (f : Addr) (fd : FuncData) (ps : List Str) (cls : Value) (sp : Addr → Sp) : Prop where
  ln : ∀ a vs H Q E, sp a vs H Q E → vs.length = ps.length
  go : ∀ (A : Around) (out : List Env) (s : Shared) (H : Hp) (as : Args) (us : List Value) (vs : List V) (Q : VK) (E : XK) (z : Addr × Obj), RoomH k A → PinOk out H s z → z.2.cls = cls → Env0 P w K mg base A out s H → BindsTo s fd as (ps.zip us) → Vals vs us → sp z.1 vs H Q E → codeAny (model P w) A (.call (.ref f) as) (CR CX0 out P w H s Q E) s
theorem fnT_mk {P : Program} {w : World} {K : PySem.W.Frag} {mg : Str → Option Value} {base : Heap} {k : Nat} {f : Addr} {nm ql : Str} {pr : Arguments} {bd : List Stmt} {sc : Scope} {d1 d2 d3 d4 cv d5 oc : Value} {an od : Option Addr} {sl : Array (Option Value)} {N ps : List Str} {cls : Value} {sp : Addr → Sp}
    (lk : K.lookup f = some ⟨oc, od, .func (PySem.W.fnOf nm ql pr bd sc d1 d2 d3 d4 an cv d5), sl⟩) (hc : PySem.W.codeIn K cv ql = true) (S : FnScope N ps sc) (ln : ∀ a vs H Q E, sp a vs H Q E → vs.length = ps.length)
    (hb : ∀ (A : Around) (out : List Env) (s : Shared) (H : Hp) (vs : List V) (Q : VK) (E : XK) (z : Addr × Obj), z.2.cls = cls → RoomH k (A.deeper (envOfC ql sc s.heap.objs.size f cv)) → sp z.1 vs H Q E → ∃ t, PSs (cxH CX0 P w K mg base N ql sc f cv A out s H E z) bd t ∧ t { nx := fun _ H2 => Q .non H2, rt := Q } (start N vs) H) :
    FnT P w K mg base (k + 1) f (PySem.W.fnOf nm ql pr bd sc d1 d2 d3 d4 an cv d5) ps cls sp := by
  refine ⟨ln, fun A out s H as us vs Q E z room pz cz e0 bi rv hs => ?_⟩
  have lv := ln _ _ _ _ _ hs
  have kin : K.In s.heap := e0.mod.kin.keeps fun b o y => (e0.bs b o y).1
  have nol : s.heap.NoLimit := e0.mod.nolimit.keeps fun b o y => (e0.bs b o y).1
  have kinds : ∀ y ∈ ps.zip us, sc.names.lookup y.1 = some .local ∨ (sc.names.lookup y.1 = some .cell ∧ ((cellsFrom (s.heap.objs.size + 1) sc.names []).lookup y.1).isSome = true) := by
    rintro ⟨x, v⟩ hy
    exact (S.par x (List.of_mem_zip hy).1).imp id fun y => ⟨y, PySem.W.cellsFrom_some _ _ _ (.inl y)⟩
  refine codeAny_call_function room.depth (kin _ _ lk) rfl S.co S.gen rfl (PySem.W.codeRec_of kin hc) (bi _ _ _ _ (wpAny_newFunctionEnv_cells S.kind kinds fun env he s2 y => ?_)); subst he
  refine ⟨nol.keeps y.toInCall.keep, codeAny_func ?_⟩; obtain ⟨t, ht, hq⟩ := hb A out s H vs Q E z cz (room.deeper _) hs
  refine wpAny_mono (ht.run [] s2 (start N vs) H _ (inv_startH S pz e0 lv rv y) hq) (fun fl s3 z => ?_) fun _ _ z => z
  cases fl with
  | brk => exact (z.elim fun _ z => z.elim fun _ z => z.2).elim
  | cont => exact (z.elim fun _ z => z.elim fun _ z => z.2).elim
  | next => obtain ⟨σ2, H2, J, q⟩ := z; exact ⟨V.non, H2, J.os, J.bare, J.base, J.hok, rfl, q⟩
  | ret u => obtain ⟨v, σ2, H2, J, ru, q⟩ := z; exact ⟨v, H2, J.os, J.bare, J.base, J.hok, ru, q⟩
section
variable {X : Cx} {k : Nat} {f a : Addr} {oe : Obj} {cls : Value} {d : Option Addr} {pn : List (Addr × Obj)} {fd : FuncData} {ps : List Str} {sp : Addr → Sp} {x : Str} {p pos : Pos} {e : Expr} {es : List Expr} {t : TA}
theorem pe_callT (hz : Zc cls d oe) (F : FnT X.prog X.w X.K X.mg X.base k f fd ps cls sp) (room : RoomH k X.A) (gl : Gl (X.suite a ((a, oe) :: pn)) x) (hm : X.mg x = some (.ref f)) (kp : PySem.W.keepIn X.K (.ref f) = true) (hb : Binds X.K fd ps []) (ha : PA (X.suite a ((a, oe) :: pn)) (e :: es) t)
    (h1 : (x == ("__debug__" : Str)) = false := by decide) (h2 : starEach (e :: es) X.env = (false, eval e X.env) :: starEach es X.env := by rfl) (h3 : (backTo pos (starEach es X.env)).any (·.1) = false := by rfl) :
    PE (X.suite a ((a, oe) :: pn)) (.Call (.Name x p) (e :: es) [] pos) (tCall (sp a) [] E0 t) := by
  constructor
  intro pins s σ H Q I h
  refine wpAny_Call_Name_kw (ld_glob I gl hm (PySem.W.callWith_K (h₀ := X.base) I.ok.mod.kin kp (thn (ha.run pos pins s σ H _ I h) fun us s1 z => ?_) h2 h3) h1)
  obtain ⟨vs, H1, I1, rv, q⟩ := z
  rw [List.append_nil] at q
  have hl : (us ++ []).length = ps.length := by rw [List.append_nil]; exact rv.length.symm.trans (F.ln _ _ _ _ _ q)
  have bnd := hb s1 us I1.kIn hl
  rw [List.append_nil] at bnd
  obtain ⟨g1, g2, g3, g4, g5⟩ := I1.pin (a, oe) (List.mem_append_left _ List.mem_cons_self)
  have pz : PinOk X.stack H1 s1 (a, oe) := ⟨g1, g2, fun hm => (List.mem_cons.mp (I1.stkSub a hm)).elim g3 g4, g5⟩
  refine ⟨I1.kIn, wpAny_call (codeAny_mono (F.go (X.suite a ((a, oe) :: pn)).A X.stack s1 H1 ⟨us, []⟩ us vs Q E0 (a, oe) ⟨room.dp, room.un⟩ pz hz.1 I1.env0 bnd rv q) fun r s' hq => ?_)⟩
  match r, hq with
  | .error er, hq => exact hq.elim
  | .ok (.ret u), hq => exact I1.after hq
end
end Fv

namespace Fv
open PySem PySem.Spec PyProof.Rows L2 L2H Evl StX
section
variable {X : Cx} {a : Addr} {oe : Obj} {cls : Value}
/-- isinstance(e, c), e an object of the class cls that is kept in mind: yes -/
theorem c_isP {K : PySem.W.Frag} (hm : (a, oe) ∈ X.pn) (hz : oe.cls = cls) (h : X.K = K := by rfl) : CallR X (.builtin "isinstance") (rIsY K cls a) := by
  subst h
  intro pins s σ H xs us Q I r q0
  obtain ⟨c, cv, rfl, hc, e, q⟩ := q0
  obtain ⟨u0, u1, rfl, ra, rc⟩ : ∃ u0 u1, us = [u0, u1] ∧ RelV (.ref a) u0 ∧ RelV c u1 := by
    cases r with
    | cons r1 r2 =>
      cases r2 with
      | cons r3 r4 => cases r4; exact ⟨_, _, rfl, r1, r3⟩
  obtain rfl : u0 = Value.ref a := ra
  obtain rfl := hc _ rc
  have got := (I.pin (a, oe) (List.mem_append_left _ hm)).1
  refine call_isinstance (S := fun _ R s => (X.K.In s.heap ∧ s.heap.get? a = some oe) ∧ ∀ tk, R (.ok (.ret (.bool true))) { s with toks := tk })
    (fun prog w A R s hs => isinstance_outer (isi_yes (Pz := fun h => h.get? a = some oe) (fun M h kin z => fun A Q E s k q => wpAny_typeOf_ref (k _ _ z) (by rw [hz]; exact q)) e 0 _ prog w A R s hs) (fun z => nomatch z)) ⟨⟨I.kIn, got⟩, fun tk => ⟨.bl true, H, I.tok tk, rfl, q⟩⟩
end
/-! ### try: body, except c as n: .., except d as n: .. where one of the clauses names what flies -/
def wAsL (K : PySem.W.Frag) (i : Nat) (D : Ends) : List (Value × (Addr → Value → Option Addr → TS)) → WX
  | [] => fun _ _ _ _ => False
  | (c, ts) :: r => fun cls d σ H => ∃ b, PySem.W.exmOne K cls c = some b ∧
      (b = true → ∀ a, H a = none → ts a cls d { nx := fun σ2 H2 => D.nx (σ2.set i none) H2, rt := D.rt, bk := fun σ2 H2 => D.bk (σ2.set i none) H2, ct := fun σ2 H2 => D.ct (σ2.set i none) H2 } (σ.set i (some (.ref a))) H) ∧ (b = false → wAsL K i D r cls d σ H)
inductive AsL (X : Cx) (n : Str) : List ExceptHandler → List (Value × (Addr → Value → Option Addr → TS)) → Prop
  | nil : AsL X n [] []
  | cons {y : Str} {c : Value} {ts : Addr → Value → Option Addr → TS} {s0 : Stmt} {ss : List Stmt} {p1 p2 : Pos} {hds : List ExceptHandler} {l : List (Value × (Addr → Value → Option Addr → TS))} (nm : Names X y c)
      (su : ∀ (a : Addr) (oe : Obj) (cls : Value) (d : Option Addr) (pn : List (Addr × Obj)), Zc cls d oe → (∃ vs, oe.data = .fields vs) → PSs (X.suite a ((a, oe) :: pn)) (s0 :: ss) (ts a cls d)) (r : AsL X n hds l) : AsL X n (.ExceptHandler (some (.Name y p1)) (some n) (s0 :: ss) p2 :: hds) ((c, ts) :: l)
section
variable {X : Cx} {n : Str} {i : Nat} {body : List Stmt} {h0 : ExceptHandler} {hds : List ExceptHandler} {l : List (Value × (Addr → Value → Option Addr → TS))} {pos : Pos} {tb : WX → TS}
theorem ps_try_asL (stk : X.stack = X.env :: X.outer) (fr : X.env.frame = some X.env.locals) (nd : X.N.Nodup) (ni : X.N[i]? = some n) (nl : X.env.kindOf n = some .local)
    (hb : ∀ (W : WX) (pn : List (Addr × Obj)) (xe : Value → Shared → Prop), Takes (X.tr pn xe) W → PassesOwn (model X.prog X.w) X.A X.env xe → PSs (X.tr pn xe) body (tb W)) (hh : AsL X n (h0 :: hds) l) :
    PS X (.Try body (h0 :: hds) [] [] pos) (fun D σ H => tb (wAsL X.K i D l) D σ H) := by
  constructor
  intro pins s σ H D I q0
  have ok := I.ok
  have frs0 : X.A.frames = some (X.env :: X.outer) := by rw [ok.frames, stk]
  have loc0 : Loc X.env.scope n := .inl nl
  apply wpAny_Try_except
  have fall : Takes (X.tr (X.pn ++ pins) (fun e t1 => wpAny (model X.prog X.w) X.A (noteFrame e X.env) (fun _ t2 => wpAny (model X.prog X.w) X.A (setFlight e none) (fun _ t3 => wpAny (model X.prog X.w) X.A (handleBy e X.env (h0 :: hds)) (SP X pins D) X.xe t3) X.xe t2) X.xe t1)) (wAsL X.K i D l) := by
    intro u s2 fly
    obtain ⟨a, B, sI, ps2, σ2, H2, cls, d, rfl, J0, keepB, up0, sky, free, os2, bare2, wish⟩ := fly
    have J : Inv X pins σ2 H2 sI := J0.ofTry ok
    rw [show (X.tr (X.pn ++ pins) _).stack = X.stack from rfl, stk] at sky
    show wpAny (model X.prog X.w) X.A (noteFrame (.ref a) X.env) _ _ _
    refine Sky.land Zc.steady frs0 fr sky fun g fg ug => ?_
    have Jg : Inv X pins σ2 H2 { s2 with heap := g } := J.landed keepB fg.1 (up0.trans ug) os2 bare2
    obtain ⟨og, vg, eg, zg, dg⟩ := fg.there
    have off : a ∉ frs (X.env :: X.outer) := fun m => by
      obtain ⟨_, o3, e3, nf⟩ := fg.2.2.1.mem m
      rw [eg] at e3; cases e3
      exact nf _ dg
    have offL : a ≠ X.env.locals := fun z => off (List.mem_filterMap.mpr ⟨X.env, List.mem_cons_self, by rw [fr, z]⟩)
    have offF : a ∉ X.fs := fun m => by
      obtain ⟨v, hv, z⟩ := List.mem_filterMap.mp m
      exact off (List.mem_filterMap.mpr ⟨v, List.mem_cons_of_mem _ hv, z⟩)
    have Sg := Jg.suite eg dg free offL offF
    have clauses : ∀ {hs2 : List ExceptHandler} {l2 : List (Value × (Addr → Value → Option Addr → TS))}, AsL X n hs2 l2 → wAsL X.K i D l2 cls d σ2 H2 → wpAny (model X.prog X.w) X.A (handleBy (.ref a) X.env hs2) (SP X pins D) X.xe { s2 with heap := g } := by
      intro hs2 l2 hk
      induction hk with
      | nil => exact fun z => z.elim
      | @cons y c ts s0 ss p1 p2 hds3 l3 nm su r ih =>
        rintro ⟨b, eb, yes, no⟩
        refine wpAny_handleBy_cons (codeAny_handlers_test ?_) (by intro z; cases z)
        have kind : PySem.W.Looks (model X.prog X.w) g (typeOf (.ref a)) cls := fun _ _ _ _ k z => wpAny_typeOf_ref (k _ _ eg) (by rw [zg.1]; exact z)
        have named : ∀ {Q2 : Value → Shared → Prop} {E2 : Value → Shared → Prop}, Q2 c { s2 with heap := g } → wpAny (model X.prog X.w) (X.A.mark (some (.ref a))) (eval (.Name y p1) X.env) Q2 E2 { s2 with heap := g } := fun {_ _} z => by
          obtain ⟨n1, n2, n3 | ⟨n3, n4, n5⟩⟩ := nm
          · exact ld_glob (X := X.suite a ((a, og) :: (X.pn ++ pins))) Sg n1 n3 z n2
          · exact ld_blt (X := X.suite a ((a, og) :: (X.pn ++ pins))) Sg n1 n3 n4 z n5 n2
        refine named ((PySem.W.exm_one (M := model X.prog X.w) Jg.kIn kind eb).here ?_)
        cases b with
        | false => exact ih (no rfl)
        | true =>
          refine codeAny_handlers_suite_as (HandSPX.lands_againZ fg fun g2 fg2 ug2 => ?_)
          have J2 : Inv X pins σ2 H2 { s2 with heap := g2 } := J.landed keepB fg2.1 ((up0.trans ug).trans ug2) os2 bare2
          obtain ⟨o2, v2, e2, z2, d2⟩ := fg2.there
          refine store_ok (X := X.suite a ((a, o2) :: (X.pn ++ pins))) (v := .ref a) (J2.suite e2 d2 free offL offF) nd ni loc0 rfl (fun s3 S3 => ?_) (.inr nl)
          refine wpAny_mono ((su a o2 cls d (X.pn ++ pins) z2 ⟨_, d2⟩).run [] s3 _ H2 _ S3 (yes rfl a free)) (fun fl s4 z => ?_) fun _ _ z => z.elim
          have gone : ∀ {σ4 : L2.St} {H4 : Hp} {Q4 : Shared → Prop}, Inv (X.suite a ((a, o2) :: (X.pn ++ pins))) [] σ4 H4 s4 → (∀ s5, Inv X pins (σ4.set i none) H4 s5 → Q4 s5) →
              wpAny (model X.prog X.w) X.A (do bindName X.env n .none; unbindBehindTheSuite X.env n p2) (fun _ s5 => Q4 s5) X.xe s4 := fun {_ _ _} S4 k => gone_ok (S4.unsuite ok) nd ni nl k
          cases fl with
          | next => obtain ⟨σ4, H4, S4, k⟩ := z; exact gone S4 fun _ J5 => ⟨_, _, J5, k⟩
          | brk => obtain ⟨σ4, H4, S4, k⟩ := z; exact gone S4 fun _ J5 => ⟨_, _, J5, k⟩
          | cont => obtain ⟨σ4, H4, S4, k⟩ := z; exact gone S4 fun _ J5 => ⟨_, _, J5, k⟩
          | ret u => obtain ⟨v4, σ4, H4, S4, r4, k⟩ := z; exact gone S4 fun _ J5 => ⟨_, _, _, J5, r4, k⟩
    exact clauses hh wish
  refine wpAny_mono ((hb _ _ _ fall PassesOwn.looking).run [] s σ H D (I.toTry _) q0) (fun fl s2 z => ?_) fun _ _ z => z
  cases fl with
  | next => obtain ⟨σ2, H2, J2, k⟩ := z; exact wpAny_execs_nil ⟨σ2, H2, J2.ofTry ok, k⟩
  | brk => obtain ⟨σ2, H2, J2, k⟩ := z; exact ⟨σ2, H2, J2.ofTry ok, k⟩
  | cont => obtain ⟨σ2, H2, J2, k⟩ := z; exact ⟨σ2, H2, J2.ofTry ok, k⟩
  | ret u => obtain ⟨v2, σ2, H2, J2, r2, k⟩ := z; exact ⟨v2, σ2, H2, J2.ofTry ok, r2, k⟩
end
end Fv

/-! a list of one's own, written in place -/
namespace Fv
open PySem PySem.Spec PyProof.Rows L2 Evl StX
section
variable {K : PySem.W.Frag} {pt : Option Pt} {σ : L2.St} {F F' F0 H0 H : Hp} {te ti ta tb : TE} {ts tr : TA} {t u : TT} {R R1 : PD} {d e z : PyData} {D : Ends} {tz tu tw : TS} {l : Addr} {ls : List PyData}
theorem RpAll.set : ∀ {ds : List PyData} {vs : List V} (j : Nat) {v : V} {d : PyData}, RpAll K F vs ds → Rp K F v d → RpAll K F (vs.set j v) (ds.set j d)
  | [], _, j, v, d, h, _ => by cases h; cases j <;> exact .nil
  | _ :: _, _, 0, v, d, h, hv => by
    cases h with
    | cons h1 h2 => exact .cons hv h2
  | _ :: _, _, j + 1, v, d, h, hv => by
    cases h with
    | cons h1 h2 => exact .cons h1 (RpAll.set j h2 hv)
theorem Gst.set (g0 : Good pt F0 H0) (h0 : H0 l = none) (g : Gst K pt F0 H0 l F H ls) {v : V} (j : Nat) (hv : Rp K F v d) : ∃ acc, H l = some (.lst acc) ∧ acc.length = ls.length ∧ Gst K pt F0 H0 l F (upd H l (.lst (acc.set j v))) (ls.set j d) := by
  obtain ⟨acc, e, r⟩ := g.ex
  exact ⟨acc, e, r.length, g.step.put g0 h0 g.off, g.off, _, upd_same, RpAll.set j r hv⟩
/-- x[i] = e -/
theorem t_setG {i j : Nat} (g0 : Good pt F0 H0) (h0 : H0 l = none) (g : Gst K pt F0 H0 l F H ls) (hi : σ[i]? = some (some (.ref l))) (h : EvG K pt te σ F R) (hj : EvG K pt ti σ F (Is (.int (j : Int)))) (lt : j < ls.length)
    (q : ∀ d F2 H2, R d → Gst K pt F0 H0 l F2 H2 (ls.set j d) → Ex F F2 → D.nx σ H2) : tAsg te (gSub (tVar i) ti rSetL) D σ H :=
  h H g.step.inn g.step.good _ fun d v F2 H2 hd s hv => ⟨.ref l, hi, hj.mono s.sub H2 s.inn s.good _ fun d2 v2 F3 H3 hd2 s3 hv2 => by
    subst hd2
    obtain rfl := rp_int hv2
    obtain ⟨acc, e2, hlen, g2⟩ := ((g.run g0 h0 s).run g0 h0 s3).set g0 h0 j (Rp.mono s3.sub _ _ hv)
    exact ⟨l, acc, (j : Int), j, rfl, rfl, e2, ixN_nat (by rw [hlen]; exact lt), q d F3 _ hd g2 (s.sub.trans s3.sub)⟩⟩
/-- if b and x[i] is None -/
theorem t_ifOwn {a i c j : Nat} {b : Bool} (g : Gst K pt F0 H0 l F H ls) (ha : σ[a]? = some (some (.bl b))) (hi : σ[i]? = some (some (.ref l))) (hc : σ[c]? = some (some (.int (j : Int)))) (hd : ls[j]? = some d) (h1 : (b && isNone d) = true → tu D σ H) (h2 : (b && isNone d) = false → tw D σ H) :
    tIfS (tAnd (tB (tVar a)) (tTest (tOp (fun x y H Q => y = .non ∧ Q (.bl (decide (x = .non))) H) (tOp (rIxL K) (tVar i) (tVar c)) (tC .non)))) tu tw D σ H := by
  refine ⟨.bl b, ha, b, rfl, ?_⟩
  cases b with
  | false => exact h2 rfl
  | true =>
    obtain ⟨acc, e, r⟩ := g.ex
    have hl : j < acc.length := by
      rw [r.length]; exact (List.getElem?_eq_some_iff.mp hd).1
    obtain ⟨d', hd', hr⟩ := r.get (List.getElem?_eq_getElem hl)
    rw [hd] at hd'
    obtain rfl := Option.some.inj hd'
    refine ⟨.ref l, hi, .int (j : Int), hc, ⟨l, acc, (j : Int), acc[j], rfl, rfl, sq_of e, atI_nat (List.getElem?_eq_getElem hl), rfl, ?_⟩⟩
    refine ⟨_, rfl, ?_⟩
    rw [rp_isN hr]
    cases hn : isNone d with
    | true => exact h1 (by rw [hn]; rfl)
    | false => exact h2 (by rw [hn]; rfl)
/-- x = list(e) -/
theorem t_listG {i : Nat} {ds : List PyData} {src : PyData} (s : Step pt F0 H0 F H) (hs : src = .list ds ∨ src = .tuple ds) (h : EvG K pt te σ F (Is src)) (q : ∀ l F2 H2, H0 l = none → Gst K pt F0 H0 l F2 H2 ds → Ex F F2 → tz D (σ.set i (some (.ref l))) H2) :
    tSeq (tAsg (tCB (rList K) (tCons te tNil)) (gName i)) tz D σ H := h H s.inn s.good _ fun d v F2 H2 hd s2 hv => by
  subst hd
  have sq : ∃ a xs, v = .ref a ∧ (SqL K H2 a xs ∨ SqT K H2 a xs) ∧ RpAll K F2 xs ds := by
    rcases hs with rfl | rfl
    · obtain ⟨a, xs, e, h1, h2⟩ := rp_lst hv
      exact ⟨a, xs, e, .inl (SqL.of (s2.inn _ _ h1)), h2⟩
    · obtain ⟨a, xs, e, h1, h2⟩ := rp_tup hv
      exact ⟨a, xs, e, .inr (tx s2.inn h1), h2⟩
  obtain ⟨a, xs, rfl, hq, hxs⟩ := sq
  refine ⟨a, xs, rfl, hq, fun l hl => ?_⟩
  have st := s.trans s2
  have f : F2 l = none := by
    cases e : F2 l with
    | none => rfl
    | some o => rw [s2.inn _ _ e] at hl; cases hl
  have h0 : H0 l = none := st.back l hl
  exact q l F2 _ h0 ⟨st.trans (.litter s2.inn s2.good hl), f, xs, upd_same, hxs⟩ s2.sub
end
end Fv

/-! an empty dict among data; lists of things of a kind -/
namespace Fv
open PySem PySem.Spec PyProof.Rows L2 Evl StX
section
variable {K : PySem.W.Frag} {pt : Option Pt} {σ : L2.St} {F F' F0 H0 H : Hp} {te ti ta tb : TE} {ts tr : TA} {d : PyData} {D : Ends} {tz : TS}
/-- isinstance({}, (list, tuple)) -/
theorem g_isi2D {i : Nat} {a : Addr} (h0 : σ[i]? = some (some (.ref a))) (hd : F a = some (.dK [])) : EvG K pt (tCB (rIsiT K) (tCons (tVar i) (tCons (tTup (tCons (tC (.ty "list")) (tCons (tC (.ty "tuple")) tNil))) tNil))) σ F (Is (.bool false)) := fun H1 e g Q q => by
  refine ⟨_, h0, sz_of (by show 2 ≤ 100000; decide), fun p hp => ?_⟩
  have s3 : Step pt F H1 (upd F p (.tup [.ty "list", .ty "tuple"])) (upd H1 p (.tup [.ty "list", .ty "tuple"])) := .laid e g hp
  have k1 : kitB "dict" "list" = some false := by decide +kernel
  have k2 : kitB "dict" "tuple" = some false := by decide +kernel
  refine ⟨_, p, _, _, [.type "list", .type "tuple"], false, rfl, upd_same, .cons (.ty "list") (.cons (.ty "tuple") .nil), .base (.dK (s3.inn _ _ (s3.sub _ _ hd))), ?_, q _ _ _ _ rfl s3 (.bl false)⟩
  exact kitAny_cons (kit_ty k1) (fun _ => kitAny_cons (kit_ty k2) (fun _ => kitAny_nil) (fun z => by cases z)) fun z => by cases z
/-- a kind of things that stays so -/
def Kept (Φ : V → Hp → Prop) : Prop := ∀ v F F', Ex F F' → Φ v F → Φ v F'
def EvsX (pt : Option Pt) (ts : TA) (σ : L2.St) (F : Hp) (Φ : V → Hp → Prop) (k : Nat) : Prop :=
  ∀ H1, Ex F H1 → Good pt F H1 → ∀ Q : List V → Hp → Prop, (∀ vs F2 H2, vs.length = k → (∀ v ∈ vs, Φ v F2) → Step pt F H1 F2 H2 → Q vs H2) → ts σ H1 Q
variable {Φ : V → Hp → Prop}
theorem x_of {R : PD} (h : EvG K pt te σ F R) (hR : ∀ v d F', R d → Rp K F' v d → Φ v F') : EvX pt te σ F Φ := fun H1 e g Q q => h H1 e g _ fun d v F2 H2 hd s hv => q v F2 H2 (hR v d F2 hd hv) s
theorem xs_nil : EvsX pt tNil σ F Φ 0 := fun H1 e g Q q => q [] F H1 rfl (fun v hv => by cases hv) (.refl e g)
theorem xs_cons {k : Nat} (hk : Kept Φ) (h : EvX pt te σ F Φ) (h2 : ∀ F', Ex F F' → EvsX pt tr σ F' Φ k) : EvsX pt (tCons te tr) σ F Φ (k + 1) := fun H1 e g Q q =>
  h H1 e g _ fun v F2 H2 hv s => h2 F2 s.sub H2 s.inn s.good _ fun vs F3 H3 hl ha s3 => q (v :: vs) F3 H3 (by rw [List.length_cons, hl]) (fun x hx => by
    rcases List.mem_cons.mp hx with z | z
    · rw [z]; exact hk _ _ _ s3.sub hv
    · exact ha x z) (s.trans s3)
/-- {} -/
theorem x_dict0 (hΦ : ∀ a F', F' a = some (.dK []) → Φ (.ref a) F') : EvX pt tDNewK σ F Φ := fun H1 e g Q q p hp => q (.ref p) _ _ (hΦ p _ upd_same) (.laid e g hp)
/-- one of a written list, at a drawn place -/
theorem x_pick {k : Nat} {c : Int} (hk : Kept Φ) (hz : k ≤ 1000) (h : EvsX pt ts σ F Φ k) (hb : ∀ F', Ex F F' → EvG K pt tb σ F' (fun d => ∃ j : Int, d = .int j ∧ 0 ≤ j ∧ j < c)) (hc : c ≤ (k : Int)) : EvX pt (tOp (rIxL K) (tLst ts) tb) σ F Φ := fun H1 e g Q q =>
  h H1 e g _ fun vs F2 H2 hl ha s => ⟨by rw [hl]; exact sz_of (Nat.le_trans hz (by decide)), fun p hp => by
    have s3 : Step pt F2 H2 (upd F2 p (.lst vs)) (upd H2 p (.lst vs)) := .laid s.inn s.good hp
    have st := s.trans s3
    refine hb _ st.sub _ st.inn st.good _ fun d v F4 H4 ⟨j, hd, j0, j1⟩ s4 hv => ?_
    subst hd
    obtain rfl := rp_int hv
    obtain ⟨i, rfl⟩ : ∃ i : Nat, j = (i : Int) := ⟨j.toNat, by omega⟩
    have hi : i < vs.length := by omega
    exact ⟨p, vs, (i : Int), vs[i], rfl, rfl, sq_of (s4.inn _ _ (s4.sub _ _ upd_same)), atI_nat (List.getElem?_eq_getElem hi), q _ F4 H4 (hk _ _ _ (s3.sub.trans s4.sub) (ha _ (List.getElem_mem hi))) (st.trans s4)⟩⟩
end
end Fv

/-! tests beside a list of one's own; parts -/
namespace Fv
open PySem PySem.Spec PyProof.Rows L2 Evl StX
section
variable {K : PySem.W.Frag} {pt : Option Pt} {σ : L2.St} {F F' F0 H0 H : Hp} {te ti ta tb : TE} {ts tr : TA} {t : TT} {d : PyData} {D : Ends} {tz tu tw : TS} {l : Addr} {ls : List PyData}
theorem t_if1G {b : Bool} (g0 : Good pt F0 H0) (h0 : H0 l = none) (g : Gst K pt F0 H0 l F H ls) (h : EtG pt t σ F (· = b)) (h1 : b = true → ∀ F2 H2, Gst K pt F0 H0 l F2 H2 ls → Ex F F2 → tu D σ H2) (h2 : b = false → ∀ F2 H2, Gst K pt F0 H0 l F2 H2 ls → Ex F F2 → tw D σ H2) : tIfS t tu tw D σ H :=
  h H g.step.inn g.step.good _ fun c F2 H2 hc s2 => by
    subst hc
    cases c with
    | true => exact h1 rfl F2 H2 (g.run g0 h0 s2) s2.sub
    | false => exact h2 rfl F2 H2 (g.run g0 h0 s2) s2.sub
theorem t_ifGJ {b : Bool} (J : L2.St → Hp → Prop) (g0 : Good pt F0 H0) (h0 : H0 l = none) (g : Gst K pt F0 H0 l F H ls) (h : EtG pt t σ F (· = b))
    (h1 : b = true → ∀ F2 H2, Gst K pt F0 H0 l F2 H2 ls → Ex F F2 → ∀ N : L2.St → Hp → Prop, (∀ σ3 F3 H3, J σ3 F3 → Step pt F0 H0 F3 H3 → Ex F F3 → N σ3 H3) → tu { D with nx := N } σ H2)
    (h2 : b = false → ∀ F2 H2, Gst K pt F0 H0 l F2 H2 ls → Ex F F2 → ∀ N : L2.St → Hp → Prop, (∀ σ3 F3 H3, J σ3 F3 → Step pt F0 H0 F3 H3 → Ex F F3 → N σ3 H3) → tw { D with nx := N } σ H2)
    (hj : ∀ σ3 F3 H3, J σ3 F3 → Step pt F0 H0 F3 H3 → Ex F F3 → tz D σ3 H3) : tSeq (tIfS t tu tw) tz D σ H :=
  t_if1G (D := { D with nx := tz D }) g0 h0 g h (fun e F2 H2 a b => h1 e F2 H2 a b _ hj) fun e F2 H2 a b => h2 e F2 H2 a b _ hj
theorem cut_to (xs : List V) (k : Nat) : cutV xs (some 0) (some (k : Int)) = xs.take k := by
  unfold cutV
  rw [show HT.sIx xs.length 0 (some (0 : Int)) = 0 by have := HT.sIx_nat xs.length 0 0; simpa using this, HT.sIx_nat, List.drop_zero, Nat.sub_zero]
  by_cases z : k ≤ xs.length
  · rw [Nat.min_eq_left z]
  · rw [Nat.min_eq_right (by omega), List.take_of_length_le (Nat.le_refl _), List.take_of_length_le (by omega)]
/-- xs[0:k] -/
theorem g_sl0 {ds : List PyData} {k : Nat} (h : EvG K pt te σ F (Is (.list ds))) (hk : EvG K pt ti σ F (Is (.int (k : Int)))) : EvG K pt (tSl (rSlL K) te (tPart (tC (.int 0))) (tPart ti)) σ F (Is (.list (ds.take k))) := fun H1 e g Q q =>
  h H1 e g _ fun d v F2 H2 hd s hv => by
    subst hd
    refine ⟨0, rfl, hk.mono s.sub H2 s.inn s.good _ fun d2 v2 F3 H3 hd2 s2 hv2 => ?_⟩
    subst hd2
    obtain rfl := rp_int hv2
    refine ⟨(k : Int), rfl, ?_⟩
    obtain ⟨a, xs, rfl, hl, ha⟩ := rp_lst hv
    refine ⟨a, xs, rfl, SqL.of (s2.inn _ _ (s2.sub _ _ hl)), fun p hp => ?_⟩
    rw [cut_to]
    have s3 : Step pt F3 H3 (upd F3 p (.lst (xs.take k))) (upd H3 p (.lst (xs.take k))) := .laid s2.inn s2.good hp
    exact q _ _ _ _ rfl ((s.trans s2).trans s3) (.lst upd_same (RpAll.mono (s2.sub.trans s3.sub) _ _ (RpAll.take k ha)))
/-- a part of a written text -/
theorem g_slTxt {x : Str} {k : Int} (hx : x.length ≤ 1000) (hk : EvG K pt ti σ F (Is (.int k))) : EvG K pt (tSl L2.rSlS (tC (.str x)) (tPart (tC (.int 0))) (tPart ti)) σ F (fun d => ∃ y, d = .str y) := fun H1 e g Q q => by
  refine ⟨0, rfl, hk H1 e g _ fun d2 v2 F3 H3 hd2 s2 hv2 => ?_⟩
  subst hd2
  obtain rfl := rp_int hv2
  exact ⟨k, rfl, x, rfl, Nat.le_trans hx (by decide), q _ _ F3 H3 ⟨_, rfl⟩ s2 (.str _)⟩
end
end Fv

/-! a list of one's own out of a comprehension; promises that may let an error out -/
namespace Fv
open PySem PySem.Spec PyProof.Rows L2 Evl StX
section
variable {K : PySem.W.Frag} {pt : Option Pt} {σ : L2.St} {F F' F0 H0 H : Hp} {te ti ta tb : TE} {ts tr : TA} {t : TT} {R : PD} {d : PyData} {D : Ends} {tz tu tw : TS} {wi : TI} {l : Addr} {ls : List PyData}
/-- x = [e for y in ..], x written in place later -/
theorem t_lcG {i j : Nat} {vs : List Nat} {ds : List PyData} (f : PyData → PyData) (s : Step pt F0 H0 F H) (hw : WiG K pt wi σ F (· = ds)) (hz : ds.length ≤ 50000) (hwp : ∀ x, wipe ((wipe σ vs).set j (some x)) vs = wipe σ vs)
    (he : ∀ d ∈ ds, ∀ F', Ex F F' → ∀ x, Rp K F' x d → EvG K pt te ((wipe σ vs).set j (some x)) F' (Is (f d)))
    (q : ∀ l F2 H2, H0 l = none → Gst K pt F0 H0 l F2 H2 (ds.map f) → Ex F F2 → tz D (σ.set i (some (.ref l))) H2) : tSeq (tAsg (tLc wi (gName j) tYes te vs) (gName i)) tz D σ H :=
  hw H s.inn s.good _ fun ds' J F1 H1 eds s1 Y => fun Dl hD => by
    subst eds
    have gi := s1.inn
    have gg := s1.good
    refine ⟨fun k m H2 => m = ds'.length - k ∧ k ≤ ds'.length ∧ Grow K pt F1 H1 Dl (fun l => l = (ds'.take k).map f) H2, ⟨ds'.length, by simp, Nat.zero_le _, .start gi gg hD (by simp)⟩, ?_⟩
    rintro k m H2 ⟨rfl, hk, w⟩
    obtain ⟨F2, l2, acc, s2, off, e2, r2, a2⟩ := id w
    have eH : Ex F1 H2 := s2.sub.trans s2.inn
    by_cases lt : k < ds'.length
    · refine .inr ⟨Y.go k H2 eH lt, Grow K pt F1 H1 Dl (fun l => l = (ds'.take (k + 1)).map f), fun H3 p3 => ⟨ds'.length - (k + 1), by omega, rfl, lt, p3⟩, fun x H3 y => ?_⟩
      obtain ⟨rfl, d, hd, hx⟩ := Y.yld k H2 x H3 eH lt y
      refine ⟨hwp x, w.turn gg hD (fun l' a' => by rw [a', List.length_map, List.length_take]; omega) (· = true) (fun _ _ => et_yes) (fun _ F4 e4 => he d (List.mem_of_getElem? hd) F4 (s1.sub.trans e4) x (Rp.mono e4 _ _ hx)) (fun _ l' x' a' ex => ?_) (fun z => by cases z)⟩
      rw [take_succ hd, List.map_append, a', show x' = f d from ex]; rfl
    · have hE : k = ds'.length := Nat.le_antisymm hk (Nat.le_of_not_lt lt)
      subst hE
      refine .inl ⟨Y.stop H2 eH, ?_⟩
      rw [List.take_length] at a2
      subst a2
      exact q Dl F2 H2 ((s.trans s1).back Dl hD) ⟨(s.trans s1).trans s2, off, acc, e2, r2⟩ (s1.sub.trans s2.sub)
/-- a test beside the list, which stays one's own -/
theorem t_ifGG {b : Bool} (J : L2.St → Hp → List PyData → Prop) (g0 : Good pt F0 H0) (h0 : H0 l = none) (g : Gst K pt F0 H0 l F H ls) (h : EtG pt t σ F (· = b))
    (h1 : b = true → ∀ F2 H2, Gst K pt F0 H0 l F2 H2 ls → Ex F F2 → ∀ N : L2.St → Hp → Prop, (∀ σ3 F3 H3 ls3, J σ3 F3 ls3 → Gst K pt F0 H0 l F3 H3 ls3 → Ex F F3 → N σ3 H3) → tu { D with nx := N } σ H2)
    (h2 : b = false → ∀ F2 H2, Gst K pt F0 H0 l F2 H2 ls → Ex F F2 → ∀ N : L2.St → Hp → Prop, (∀ σ3 F3 H3 ls3, J σ3 F3 ls3 → Gst K pt F0 H0 l F3 H3 ls3 → Ex F F3 → N σ3 H3) → tw { D with nx := N } σ H2)
    (hj : ∀ σ3 F3 H3 ls3, J σ3 F3 ls3 → Gst K pt F0 H0 l F3 H3 ls3 → Ex F F3 → tz D σ3 H3) : tSeq (tIfS t tu tw) tz D σ H :=
  t_if1G (D := { D with nx := tz D }) g0 h0 g h (fun e F2 H2 a b => h1 e F2 H2 a b _ hj) fun e F2 H2 a b => h2 e F2 H2 a b _ hj
/-- x[i] = e, e told where the list stands -/
theorem t_setH {i j : Nat} (g0 : Good pt F0 H0) (h0 : H0 l = none) (g : Gst K pt F0 H0 l F H ls) (hi : σ[i]? = some (some (.ref l))) (h : ∀ Q : VK, (∀ d v F2 H2, R d → Step pt F H F2 H2 → Rp K F2 v d → Q v H2) → te σ H Q) (hj : EvG K pt ti σ F (Is (.int (j : Int)))) (lt : j < ls.length)
    (q : ∀ d F2 H2, R d → Gst K pt F0 H0 l F2 H2 (ls.set j d) → Ex F F2 → D.nx σ H2) : tAsg te (gSub (tVar i) ti rSetL) D σ H :=
  h _ fun d v F2 H2 hd s hv => ⟨.ref l, hi, hj.mono s.sub H2 s.inn s.good _ fun d2 v2 F3 H3 hd2 s3 hv2 => by
    subst hd2
    obtain rfl := rp_int hv2
    obtain ⟨acc, e2, hlen, g2⟩ := ((g.run g0 h0 s).run g0 h0 s3).set g0 h0 j (Rp.mono s3.sub _ _ hv)
    exact ⟨l, acc, (j : Int), j, rfl, rfl, e2, ixN_nat (by rw [hlen]; exact lt), q d F3 _ hd g2 (s.sub.trans s3.sub)⟩⟩
/-- [x, own[i]][e], e drawn below 2 -/
theorem g_pickOwn {a o : Nat} {p : Int} {x y : PyData} {v : V} (g0 : Good pt F0 H0) (h0 : H0 l = none) (g : Gst K pt F0 H0 l F H ls) (ha : σ[a]? = some (some v)) (hv : Rp K F v x) (ho : σ[o]? = some (some (.ref l))) (hc : EvG K pt ti σ F (Is (.int p))) (pure : ∀ Q : VK, Q (.int p) H → ti σ H Q) (hy : atI ls p = some y)
    (hb : ∀ F', Ex F F' → EvG K pt tb σ F' (fun d => ∃ k : Int, d = .int k ∧ 0 ≤ k ∧ k < 2)) :
    ∀ Q : VK, (∀ d v F2 H2, (d = x ∨ d = y) → Step pt F H F2 H2 → Rp K F2 v d → Q v H2) → tOp (rIxL K) (tLst (tCons (tVar a) (tCons (tOp (rIxL K) (tVar o) ti) tNil))) tb σ H Q := fun Q q => by
  obtain ⟨acc, e, r⟩ := g.ex
  unfold atI at hy
  cases hx : ixN ls.length p with
  | none => rw [hx] at hy; cases hy
  | some j =>
    rw [hx] at hy
    have hyj : ls[j]? = some y := hy
    have hjl : j < acc.length := by rw [r.length]; exact (List.getElem?_eq_some_iff.mp hyj).1
    obtain ⟨y', hy', hr⟩ := r.get (List.getElem?_eq_getElem hjl)
    rw [hyj] at hy'
    obtain rfl := Option.some.inj hy'
    refine ⟨v, ha, .ref l, ho, pure _ ⟨l, acc, p, acc[j], rfl, rfl, sq_of e, by unfold atI; rw [r.length, hx]; exact List.getElem?_eq_getElem hjl, ?_⟩⟩
    refine ⟨sz_of (by simp), fun pp hp => ?_⟩
    have s3 : Step pt F H (upd F pp (.lst [v, acc[j]])) (upd H pp (.lst [v, acc[j]])) := .laid g.step.inn g.step.good hp
    refine hb _ s3.sub _ s3.inn s3.good _ fun d2 v2 F4 H4 ⟨k, hk, k0, k1⟩ s4 hv2 => ?_
    subst hk
    obtain rfl := rp_int hv2
    have up := s3.sub.trans s4.sub
    have hl4 : SqL K H4 pp [v, acc[j]] := sq_of (s4.inn _ _ (s4.sub _ _ upd_same))
    have : k = 0 ∨ k = 1 := by omega
    rcases this with rfl | rfl
    · exact ⟨pp, _, 0, v, rfl, rfl, hl4, rfl, q _ _ F4 H4 (.inl rfl) (s3.trans s4) (Rp.mono up _ _ hv)⟩
    · exact ⟨pp, _, 1, acc[j], rfl, rfl, hl4, rfl, q _ _ F4 H4 (.inr rfl) (s3.trans s4) (Rp.mono up _ _ hr)⟩
end
/-- a promise that lets nothing out is one that may -/
theorem FnOk.up {P : Program} {w : World} {K : PySem.W.Frag} {mg : Str → Option Value} {base : Heap} {CX : CXT} {j k : Nat} {f : Addr} {fd : FuncData} {ps : List Str} {sp : Sp} (h : FnOk P w K mg base CX0 j f fd ps sp) (hk : j ≤ k) : FnOk P w K mg base CX k f fd ps sp :=
  ⟨h.len, fun A out s H as us vs Q E r e0 b rv hs => codeAny_mono (h.run A out s H as us vs Q E (r.mono hk) e0 b rv hs) fun r s' hq => match r, hq with
    | .error _, hq => hq.elim
    | .ok (.ret _), hq => hq⟩
end Fv

/-! expressions that read a list of one's own, told where it stands -/
namespace Fv
open PySem PySem.Spec PyProof.Rows L2 Evl StX
def EvAt (K : PySem.W.Frag) (pt : Option Pt) (te : TE) (σ : L2.St) (F H : Hp) (R : PD) : Prop := ∀ Q : VK, (∀ d v F2 H2, R d → Step pt F H F2 H2 → Rp K F2 v d → Q v H2) → te σ H Q
def EvsAt (K : PySem.W.Frag) (pt : Option Pt) (ts : TA) (σ : L2.St) (F H : Hp) (R : List PyData → Prop) : Prop := ∀ Q : List V → Hp → Prop, (∀ ds vs F2 H2, R ds → Step pt F H F2 H2 → RpAll K F2 vs ds → Q vs H2) → ts σ H Q
section
variable {K : PySem.W.Frag} {pt : Option Pt} {σ : L2.St} {F F' F0 H0 H : Hp} {te ti ta tb : TE} {ts tr : TA} {R : PD} {d : PyData} {D : Ends} {tz : TS} {l : Addr} {ls ds : List PyData}
theorem at_tupOwn {o : Nat} (g : Gst K pt F0 H0 l F H ls) (ho : σ[o]? = some (some (.ref l))) : EvAt K pt (tCB (rTup K) (tCons (tVar o) tNil)) σ F H (Is (.tuple ls)) := fun Q q => by
  obtain ⟨acc, e, r⟩ := g.ex
  exact ⟨.ref l, ho, l, acc, rfl, .inl ⟨sq_of e, fun p hp => q _ (.ref p) _ _ rfl (.laid g.step.inn g.step.good hp) (.tup upd_same (RpAll.mono (Step.laid g.step.inn g.step.good hp (o := .tup acc)).sub _ _ r))⟩⟩
theorem at_cons (h : EvAt K pt te σ F H (Is d)) (h2 : ∀ F', Ex F F' → EvsG K pt tr σ F' (· = ds)) : EvsAt K pt (tCons te tr) σ F H (· = d :: ds) := fun Q q => h _ fun d' v F2 H2 hd s hv => by
  subst hd
  exact h2 F2 s.sub H2 s.inn s.good _ fun ds' vs F3 H3 hd3 s3 hvs => q _ (v :: vs) F3 H3 (by rw [show ds' = ds from hd3]) (s.trans s3) (.cons (Rp.mono s3.sub _ _ hv) hvs)
theorem at_consI {i : Int} (hg : Ex F H) (gd : Good pt F H) (h : EvsAt K pt tr σ F H (· = ds)) : EvsAt K pt (tCons (tC (.int i)) tr) σ F H (· = .int i :: ds) := fun Q q => h _ fun ds' vs F2 H2 hd s hvs => q _ (.int i :: vs) F2 H2 (by rw [show ds' = ds from hd]) s (.cons (.int i) hvs)
theorem at_one (h : EvAt K pt te σ F H (Is d)) : EvsAt K pt (tCons te tNil) σ F H (· = [d]) := at_cons h fun F' e => gs_nil
theorem at_tup (h : EvsAt K pt ts σ F H (· = ds)) (hz : ds.length ≤ 1000) : EvAt K pt (tTup ts) σ F H (Is (.tuple ds)) := fun Q q => h _ fun ds' vs F2 H2 hd s hvs => by
  have hd' : ds' = ds := hd
  subst hd'
  exact ⟨by rw [hvs.length]; exact sz_of (Nat.le_trans hz (by decide)), fun p hp => by
    have s3 : Step pt F2 H2 (upd F2 p (.tup vs)) (upd H2 p (.tup vs)) := .laid s.inn s.good hp
    exact q _ _ _ _ rfl (s.trans s3) (.tup upd_same (RpAll.mono s3.sub _ _ hvs))⟩
theorem t_asgAt {i : Nat} (g0 : Good pt F0 H0) (h0 : H0 l = none) (g : Gst K pt F0 H0 l F H ls) (h : EvAt K pt te σ F H R) (q : ∀ d v F2 H2, R d → Gst K pt F0 H0 l F2 H2 ls → Ex F F2 → Rp K F2 v d → tz D (σ.set i (some v)) H2) : tSeq (tAsg te (gName i)) tz D σ H :=
  h _ fun d v F2 H2 hd s hv => q d v F2 H2 hd (g.run g0 h0 s) s.sub hv
/-- an ordinary statement beside the list -/
theorem t_asgG {i : Nat} (g0 : Good pt F0 H0) (h0 : H0 l = none) (g : Gst K pt F0 H0 l F H ls) (h : EvG K pt te σ F R) (q : ∀ d v F2 H2, R d → Gst K pt F0 H0 l F2 H2 ls → Ex F F2 → Rp K F2 v d → tz D (σ.set i (some v)) H2) : tSeq (tAsg te (gName i)) tz D σ H :=
  t_asgAt g0 h0 g (fun Q k => h H g.step.inn g.step.good Q k) q
theorem t_asgG1 {i : Nat} (g0 : Good pt F0 H0) (h0 : H0 l = none) (g : Gst K pt F0 H0 l F H ls) (h : EvG K pt te σ F R) (q : ∀ d v F2 H2, R d → Gst K pt F0 H0 l F2 H2 ls → Ex F F2 → Rp K F2 v d → D.nx (σ.set i (some v)) H2) : tAsg te (gName i) D σ H :=
  h H g.step.inn g.step.good _ fun d v F2 H2 hd s hv => q d v F2 H2 hd (g.run g0 h0 s) s.sub hv
end
end Fv

/-! an error of one's own class whose maker stores nothing -/
namespace Fv
open PySem PySem.Spec PyProof.Rows L2 Evl StX
section
variable {X : Cx}
theorem made_none {pins : List (Addr × Obj)} {σ : L2.St} {H1 H2 : Hp} {Q : XK} {hp hp2 h2 : Heap} {g1 g2 : Array GenState} {d1 d2 : Drawn} {t1 t2 : Nat} {os1 os2 : OsState} {a C : Addr} (T : Raises X (.ref C)) (I1 : Inv X pins σ H1 ⟨hp, g1, d1, t1, os1⟩)
    (above : hp.objs.size ≤ a) (kp : ∀ b o, hp.get? b = some o → hp2.get? b = some o) (un : Un (frs X.stack) [] (upd H1 a (exo a C none)) H2 hp2 h2) (hok : HOk X.prog X.w H2 h2) (ho : os2 = os1) (bare : AllBare g2)
    (ea : H2 a = some (exo a C none)) (q : Q (.ref C) none (L2.del H2 a)) : MkP X pins σ Q (.ref a) ⟨h2, g2, d2, t2, os2⟩ := by
  obtain ⟨t0, hoe⟩ := exo_at hok ea
  have fresh : H1 a = none := I1.hok.fresh above
  obtain ⟨G, gs, gone⟩ := restrict h2 fun b => decide (b ≠ a)
  have same : ∀ b, b ≠ a → G.get? b = h2.get? b := fun b hb => gs b (decide_eq_true hb)
  have ga : G.get? a = none := gone a (by simp)
  have off : ∀ {b : Addr} {o : Obj}, hp.get? b = some o → b ≠ a := fun {b o} z => Nat.ne_of_lt (Nat.lt_of_lt_of_le (Heap.lt_size z) above)
  have laid : ∀ {b : Addr}, b ≠ a → H1 b = none → upd H1 a (exo a C none) b = none := fun {b} hb n => by rw [upd_ne hb]; exact n
  have U : Un (frs X.stack) [] H1 (L2.del H2 a) hp G :=
    { keep := fun b o z n hf _ => (same b (off z)).trans (un.keep b o (kp b o z) (laid (off z) n) hf (by simp))
      slot := fun b o z n hf _ => by
        rw [same b (off z)]
        exact un.slot b o (kp b o z) (laid (off z) n) hf (by simp)
      free := fun b o z n _ => (L2.del_ne (off z)).trans (un.free b o (kp b o z) (laid (off z) n) (by simp))
      there := fun b o z _ => by
        rw [same b (off z)]
        exact un.there b o (kp b o z) (by simp)
      tups := fun b xs z => (L2.del_ne (ne_of_none z fresh)).trans (un.tups b xs ((upd_ne (ne_of_none z fresh)).trans z))
      frzs := fun b o v z => (L2.del_ne (ne_of_none z fresh)).trans (un.frzs b o v ((upd_ne (ne_of_none z fresh)).trans z))
      tbls := fun b ps z => by
        rw [L2.del_ne (ne_of_none z fresh)]
        exact un.tbls b ps ((upd_ne (ne_of_none z fresh)).trans z) }
  have ok3 : HOk X.prog X.w (L2.del H2 a) G := fun b o z => by
    have hba : b ≠ a := fun e => by rw [e, L2.del_same] at z; cases z
    rw [L2.del_ne hba] at z
    have noa : ∀ {c : Addr}, H2 c = some (.own b) → c ≠ a := fun {c} hc => at_ne ea hc exo_own
    refine (hok b o z).stay (fun c v hc y => ?_) (fun c hc => (L2.del_ne (noa hc)).trans hc) fun c xs hc => (L2.del_ne (at_ne ea hc exo_tup)).trans hc
    rw [same c (hc.elim (fun e => e ▸ hba) fun e => noa e)]
    exact y
  have J : Inv X pins σ (L2.del H2 a) ⟨G, g2, d2, t2, os2⟩ := I1.call' (ch := []) ho U ok3 bare (fun b z => absurd z (by simp))
  refine ⟨a, _, _, ⟨G, g2, d2, t2, os2⟩, _, .ref C, none, rfl, J, fun b o z => ?_, ga, hoe, ⟨rfl, rfl⟩, rfl, rfl, L2.del_same, rfl, bare, T, q⟩
  by_cases hba : b = a
  · rw [hba, ga] at z; cases z
  · exact (same b hba).symm.trans z
/-- C() that stores nothing, made to be raised -/
def tMk0 (C : Addr) (sp : Sp) : L2.St → Hp → XK → Prop := fun _ H Q => ∀ a, H a = none → sp [.ref a] (upd H a (exo a C none)) (fun v H2 => v = .non ∧ H2 a = some (exo a C none) ∧ Q (.ref C) none (L2.del H2 a)) (fun _ _ _ => False)
theorem pmk_oex0 {CX : CXT} {x : Str} {C fI : Addr} {k : Nat} {fd : FuncData} {ps : List Str} {sp : Sp} {p pos : Pos} (T : OexC X.K C) (iC : PySem.W.findIn X.K (.ref C) "__init__" = some (some (.ref fI))) (tI : PySem.W.typeIn X.K (.ref fI) = some (.type "function"))
    (F1 : FnOk X.prog X.w X.K X.mg X.base CX k fI fd ps sp) (hr : Room (k + 1) X.A) (hb : Binds X.K fd ps []) (hx : Passes CX X (fun _ _ _ => False)) (hg : Gl X x) (hm : X.mg x = some (.ref C)) (hdb : (x == ("__debug__" : Str)) = false := by decide) :
    PMk X (.Call (.Name x p) [] [] pos) (tMk0 C sp) := by
  intro pins s σ H Q I h
  obtain ⟨nm, qq, N, bs, bm, sn, sub, ab, col, dd, k0, k1, k2, k3, k5, hC, hbm⟩ := T.cls
  refine wpAny_Call_Name_kw (ld_glob I hg hm ?_ hdb)
  refine PySem.W.callWith_K0 I.kIn T.kC ?_
  show wpAny _ _ (call (.ref C) []) _ _ _
  obtain ⟨hp, g, dr, tk, os⟩ := s
  have lo : hp.objs.size ≤ hp.objs.size + 1 := Nat.le_succ _
  have q0 := h (hp.objs.size + 1) (I.hok.fresh lo)
  have kk : ∀ b o, hp.get? b = some o → ((hp.push (PySem.W.kdv_tup [])).push (PySem.HandSPX.excO C hp.objs.size)).get? b = some o := fun b o e => Heap.get?_push_of_some _ (Heap.get?_push_of_some _ e)
  have got : ((hp.push (PySem.W.kdv_tup [])).push (PySem.HandSPX.excO C hp.objs.size)).get? (hp.objs.size + 1) = some (PySem.HandSPX.excO C hp.objs.size) := by heap_get
  have J : Inv X pins σ (upd H (hp.objs.size + 1) (exo (hp.objs.size + 1) C none)) ⟨(hp.push (PySem.W.kdv_tup [])).push (PySem.HandSPX.excO C hp.objs.size), g, dr, tk, os⟩ :=
    I.laid (t' := tk) (a := hp.objs.size + 1) (o := exo (hp.objs.size + 1) C none) (h' := (hp.push (PySem.W.kdv_tup [])).push (PySem.HandSPX.excO C hp.objs.size)) kk lo (exo_ok got)
  have rv : Vals [V.ref (hp.objs.size + 1)] [Value.ref (hp.objs.size + 1)] := .cons rfl .nil
  have ln : ([Value.ref (hp.objs.size + 1)] : List Value).length = ps.length := by
    rw [← F1.len _ _ _ _ q0]; rfl
  refine wpAny_call (PySem.HandSPX.call_own F.excBase_ValueError (fun Y => PySem.HandSPX.refsVE_contains Y bm hbm) (I.kIn _ _ hC) (PySem.W.looks_findIn I.kIn iC) (fun self => PySem.W.bind_fn I.kIn self tI) (by decide)
    (codeAny_mono (F1.run _ X.stack _ _ ⟨[Value.ref (hp.objs.size + 1)], []⟩ [Value.ref (hp.objs.size + 1)] _ _ (fun _ _ _ => False) (hr.make C [] []) (J.env0.make C [] []) (hb _ [Value.ref (hp.objs.size + 1)] J.kIn (by simpa using ln)) rv q0) fun r s2 z => ?_))
  match r, z with
  | .error er, z => exact hx pins σ _ _ er s2 J z
  | .ok (.ret u), z =>
    obtain ⟨v, H2, os2, bare2, un2, hok2, rv2, ev, ea, q2⟩ := z
    subst ev
    obtain ⟨h2, g2, d2, t2, os'⟩ := s2
    exact ⟨rv2, made_none (raises_own T.exC T.tyC) I lo kk un2 hok2 os2 bare2 ea q2⟩
end
end Fv

/-! a list of one's own, read for a while as if it were fixed -/
namespace Fv
open PySem PySem.Spec PyProof.Rows L2 Evl StX
section
variable {K : PySem.W.Frag} {pt : Option Pt} {σ : L2.St} {F F' F0 H0 H : Hp} {te ti ta tb : TE} {ts tr : TA} {t : TT} {R : PD} {d : PyData} {D : Ends} {tz : TS} {wi : TI} {l : Addr} {ls : List PyData}
theorem Gst.fix (g0 : Good pt F0 H0) (h0 : H0 l = none) (g : Gst K pt F0 H0 l F H ls) : ∃ Fp, Ex F Fp ∧ Ex Fp H ∧ Good pt Fp H ∧ Rp K Fp (.ref l) (.list ls) ∧ ∀ F2 H2, Step pt Fp H F2 H2 →
    ∃ F3, Gst K pt F0 H0 l F3 H2 ls ∧ Ex F F3 ∧ (∀ v ns, Rp K F2 v (dT ns) → Rp K F3 v (dT ns)) ∧ ∀ v i, Rp K F2 v (.int i) → v = .int i := by
  obtain ⟨acc, e, r⟩ := id g.ex
  obtain ⟨Fp, sp, ep, rp⟩ := g.done g0 h0
  refine ⟨Fp, ep, sp.inn, sp.good, rp, fun F2 H2 s => ?_⟩
  have st := sp.trans s
  obtain ⟨acc2, e2, hl2⟩ : ∃ acc2, F2 l = some (.lst acc2) ∧ acc2 = acc := by
    obtain ⟨a, xs, ea, hx, _⟩ := rp_lst rp
    cases ea
    have h1 := sp.inn _ _ hx
    rw [e] at h1
    exact ⟨xs, s.sub _ _ hx, by cases h1; rfl⟩
  subst hl2
  have keepF : Ex F (L2.del F2 l) := fun a o h => by
    have z : a ≠ l := fun z => by rw [z, g.off] at h; cases h
    rw [L2.del_ne z]; exact s.sub _ _ (ep _ _ h)
  refine ⟨L2.del F2 l, ⟨⟨g.step.sub.trans keepF, fun a o h => ?_, st.keep, fun q hq => ⟨?_, (st.good q hq).2⟩, fun a h1 h2 => ?_⟩, L2.del_same, acc2, s.inn _ _ e2, RpAll.mono keepF _ _ r⟩, keepF, fun v ns hv => ?_, fun v i hv => rp_int hv⟩
  · by_cases z : a = l
    · rw [z, L2.del_same] at h; cases h
    · rw [L2.del_ne z] at h; exact s.inn _ _ h
  · by_cases z : q.p = l
    · rw [z, L2.del_same]
    · rw [L2.del_ne z]; exact (st.good q hq).1
  · by_cases z : a = l
    · rw [z, L2.del_same]
    · rw [L2.del_ne z]; exact st.new a h1 h2
  · obtain ⟨a, xs, rfl, hx, ha⟩ := rp_tup hv
    have e3 := rpAll_ints ha
    subst e3
    have z : a ≠ l := fun z => by rw [z, e2] at hx; cases hx
    exact .tup (by rw [L2.del_ne z]; exact hx) (rpAll_of_ints ns)
/-- x = e, where e reads the list and is flat -/
theorem t_asgFix {i : Nat} {ns : List Int} (g0 : Good pt F0 H0) (h0 : H0 l = none) (g : Gst K pt F0 H0 l F H ls) (h : ∀ Fp, Ex F Fp → Rp K Fp (.ref l) (.list ls) → EvG K pt te σ Fp (Is (dT ns))) (q : ∀ v F2 H2, Gst K pt F0 H0 l F2 H2 ls → Ex F F2 → Rp K F2 v (dT ns) → tz D (σ.set i (some v)) H2) : tSeq (tAsg te (gName i)) tz D σ H := by
  obtain ⟨Fp, e1, e2, gd, r, back⟩ := g.fix g0 h0
  exact h Fp e1 r H e2 gd _ fun d v F2 H2 hd s hv => by
    obtain ⟨F3, g3, e3, b1, _⟩ := back F2 H2 s
    exact q v F3 H2 g3 e3 (b1 v ns (by rw [← show d = dT ns from hd]; exact hv))
/-- x = [e for y in ..], e drawn -/
theorem t_lcGR {i j : Nat} {vs : List Nat} {Re : PD} (s : Step pt F0 H0 F H) {RS : List PyData → Prop} (hw : WiG K pt wi σ F RS) (hz : ∀ ds, RS ds → ds.length ≤ 50000) (hwp : ∀ x, wipe ((wipe σ vs).set j (some x)) vs = wipe σ vs)
    (he : ∀ F', Ex F F' → ∀ x, EvG K pt te ((wipe σ vs).set j (some x)) F' Re)
    (q : ∀ l F2 H2 ls ds, H0 l = none → RS ds → ls.length = ds.length → (∀ d ∈ ls, Re d) → Gst K pt F0 H0 l F2 H2 ls → Ex F F2 → tz D (σ.set i (some (.ref l))) H2) : tSeq (tAsg (tLc wi (gName j) tYes te vs) (gName i)) tz D σ H :=
  hw H s.inn s.good _ fun ds' J F1 H1 hds s1 Y => fun Dl hD => by
    have gi := s1.inn
    have gg := s1.good
    have few := hz ds' hds
    refine ⟨fun k m H2 => m = ds'.length - k ∧ k ≤ ds'.length ∧ Grow K pt F1 H1 Dl (fun l => l.length = k ∧ ∀ d ∈ l, Re d) H2, ⟨ds'.length, by simp, Nat.zero_le _, .start gi gg hD ⟨rfl, fun d hd => by cases hd⟩⟩, ?_⟩
    rintro k m H2 ⟨rfl, hk, w⟩
    obtain ⟨F2, l2, acc, s2, off, e2, r2, a2⟩ := id w
    have eH : Ex F1 H2 := s2.sub.trans s2.inn
    by_cases lt : k < ds'.length
    · refine .inr ⟨Y.go k H2 eH lt, Grow K pt F1 H1 Dl (fun l => l.length = k + 1 ∧ ∀ d ∈ l, Re d), fun H3 p3 => ⟨ds'.length - (k + 1), by omega, rfl, lt, p3⟩, fun x H3 y => ?_⟩
      obtain ⟨rfl, d, hd, hx⟩ := Y.yld k H2 x H3 eH lt y
      refine ⟨hwp x, w.turn gg hD (fun l' a' => by rw [a'.1]; omega) (· = true) (fun _ _ => et_yes) (fun _ F4 e4 => he F4 (s1.sub.trans e4) x) (fun _ l' x' a' ex => ⟨by rw [List.length_append, a'.1]; rfl, fun d hd => ?_⟩) (fun z => by cases z)⟩
      rcases List.mem_append.mp hd with z | z
      · exact a'.2 d z
      · rw [List.mem_singleton.mp z]; exact ex
    · have hE : k = ds'.length := Nat.le_antisymm hk (Nat.le_of_not_lt lt)
      subst hE
      exact .inl ⟨Y.stop H2 eH, q Dl F2 H2 l2 ds' ((s.trans s1).back Dl hD) hds a2.1 a2.2 ⟨(s.trans s1).trans s2, off, acc, e2, r2⟩ (s1.sub.trans s2.sub)⟩
theorem RpAll.insert {ds : List PyData} {vs : List V} {v : V} (j : Nat) (h : RpAll K F vs ds) (hv : Rp K F v d) : RpAll K F (vs.take j ++ [v] ++ vs.drop j) (ds.take j ++ [d] ++ ds.drop j) := by
  have drop : ∀ {ds : List PyData} {vs : List V} (i : Nat), RpAll K F vs ds → RpAll K F (vs.drop i) (ds.drop i) := by
    intro ds
    induction ds with
    | nil => intro vs i h; cases h; simp; exact .nil
    | cons d ds ih =>
      intro vs i h
      cases h with
      | cons h1 h2 =>
        cases i with
        | zero => exact .cons h1 h2
        | succ i => exact ih i h2
  exact RpAll.append (RpAll.append (RpAll.take j h) (.one hv)) (drop j h)
end
end Fv

namespace Fv
open PySem PySem.Spec PyProof.Rows L2 Evl StX
abbrev rInsG : V → List V → Hp → VK → Prop := fun x vs H Q => ∃ (a : Addr) (ys : List V) (j : Int) (z : V), x = .ref a ∧ vs = [.int j, z] ∧ H a = some (.lst ys) ∧ ys.length < sizeLine ∧ 0 ≤ j ∧ j < 2 ^ 63 ∧ Q .non (upd H a (.lst (ys.take j.toNat ++ [z] ++ ys.drop j.toNat)))
section
variable {K : PySem.W.Frag} {pt : Option Pt} {σ : L2.St} {F F' F0 H0 H : Hp} {te : TE} {d : PyData} {D : Ends} {l : Addr} {ls : List PyData} {wi : TI} {RS RS2 : List PyData → Prop}
theorem WiG.imp (h : WiG K pt wi σ F RS) (hi : ∀ ds, RS ds → RS2 ds) : WiG K pt wi σ F RS2 := fun H1 e g RR q => h H1 e g RR fun ds J F2 H2 hr s Y => q ds J F2 H2 (hi ds hr) s Y
theorem et_any (h : EvG K pt te σ F (fun d => ∃ b, d = .bool b)) : EtG pt (tTest te) σ F (fun _ => True) := fun H1 e g Q q => h H1 e g _ fun d v F2 H2 ⟨b, hd⟩ s hv => by
  subst hd
  exact ⟨b, rp_bool hv, q b F2 H2 trivial s⟩
theorem t_ifGN {t : TT} {tu tw tz : TS} (J : L2.St → Hp → Prop) (g0 : Good pt F0 H0) (h0 : H0 l = none) (g : Gst K pt F0 H0 l F H ls) (h : EtG pt t σ F (fun _ => True))
    (h1 : ∀ F2 H2, Gst K pt F0 H0 l F2 H2 ls → Ex F F2 → ∀ N : L2.St → Hp → Prop, (∀ σ3 F3 H3, J σ3 F3 → Step pt F0 H0 F3 H3 → Ex F F3 → N σ3 H3) → tu { D with nx := N } σ H2)
    (h2 : ∀ F2 H2, Gst K pt F0 H0 l F2 H2 ls → Ex F F2 → ∀ N : L2.St → Hp → Prop, (∀ σ3 F3 H3, J σ3 F3 → Step pt F0 H0 F3 H3 → Ex F F3 → N σ3 H3) → tw { D with nx := N } σ H2)
    (hj : ∀ σ3 F3 H3, J σ3 F3 → Step pt F0 H0 F3 H3 → Ex F F3 → tz D σ3 H3) : tSeq (tIfS t tu tw) tz D σ H :=
  h H g.step.inn g.step.good _ fun c F2 H2 _ s2 => by
    cases c with
    | true => exact h1 F2 H2 (g.run g0 h0 s2) s2.sub _ hj
    | false => exact h2 F2 H2 (g.run g0 h0 s2) s2.sub _ hj
/-- x.insert(e, y) -/
theorem t_insG {i c : Nat} {v : V} (g0 : Good pt F0 H0) (h0 : H0 l = none) (g : Gst K pt F0 H0 l F H ls) (hi : σ[i]? = some (some (.ref l))) (hc : σ[c]? = some (some v)) (hv : Rp K F v d)
    (h : ∀ Fp, Ex F Fp → Rp K Fp (.ref l) (.list ls) → EvG K pt te σ Fp (fun x => ∃ j : Int, x = .int j ∧ 0 ≤ j ∧ j < 1000)) (few : ls.length < 100000)
    (q : ∀ j F2 H2, Gst K pt F0 H0 l F2 H2 (ls.take j ++ [d] ++ ls.drop j) → Ex F F2 → D.nx σ H2) : tDrop (tBM K "list" rInsG (tVar i) (tCons te (tCons (tVar c) tNil))) D σ H := by
  obtain ⟨acc, e, r⟩ := id g.ex
  obtain ⟨Fp, e1, e2, gd, rp, back⟩ := g.fix g0 h0
  refine ⟨.ref l, hi, .inl ⟨rfl, acc, sq_of e⟩, h Fp e1 rp H e2 gd _ fun x u F2 H2 ⟨j, hj, j0, j1⟩ s hu => ?_⟩
  subst hj
  obtain rfl := rp_int hu
  obtain ⟨F3, g3, e3, _, _⟩ := back F2 H2 s
  obtain ⟨acc3, a3, r3⟩ := id g3.ex
  exact ⟨v, hc, l, acc3, j, v, rfl, rfl, a3, sz_lt (by rw [r3.length]; exact few), j0, by omega, q j.toNat F3 _ ⟨g3.step.put g0 h0 g3.off, g3.off, _, upd_same, RpAll.insert j.toNat r3 (Rp.mono e3 _ _ hv)⟩ e3⟩
end
end Fv

/-! the same, where its context is told to be None -/
namespace Fv
open PySem PySem.Spec PyProof.Rows L2 Evl StX
section
variable {X : Cx}
theorem made_noneN {pins : List (Addr × Obj)} {σ : L2.St} {H1 H2 : Hp} {Q : XK} {hp hp2 h2 : Heap} {g1 g2 : Array GenState} {d1 d2 : Drawn} {t1 t2 : Nat} {os1 os2 : OsState} {a C : Addr} (T : Raises X (.ref C)) (I1 : Inv X pins σ H1 ⟨hp, g1, d1, t1, os1⟩)
    (above : hp.objs.size ≤ a) (kp : ∀ b o, hp.get? b = some o → hp2.get? b = some o) (un : Un (frs X.stack) [] (upd H1 a (exo a C none)) H2 hp2 h2) (hok : HOk X.prog X.w H2 h2) (ho : os2 = os1) (bare : AllBare g2)
    (ea : H2 a = some (exo a C none)) (q : Q (.ref C) none (L2.del H2 a)) : L2N.MkP X pins σ Q (.ref a) ⟨h2, g2, d2, t2, os2⟩ := by
  obtain ⟨t0, hoe⟩ := exo_at hok ea
  have fresh : H1 a = none := I1.hok.fresh above
  obtain ⟨G, gs, gone⟩ := restrict h2 fun b => decide (b ≠ a)
  have same : ∀ b, b ≠ a → G.get? b = h2.get? b := fun b hb => gs b (decide_eq_true hb)
  have ga : G.get? a = none := gone a (by simp)
  have off : ∀ {b : Addr} {o : Obj}, hp.get? b = some o → b ≠ a := fun {b o} z => Nat.ne_of_lt (Nat.lt_of_lt_of_le (Heap.lt_size z) above)
  have laid : ∀ {b : Addr}, b ≠ a → H1 b = none → upd H1 a (exo a C none) b = none := fun {b} hb n => by rw [upd_ne hb]; exact n
  have U : Un (frs X.stack) [] H1 (L2.del H2 a) hp G :=
    { keep := fun b o z n hf _ => (same b (off z)).trans (un.keep b o (kp b o z) (laid (off z) n) hf (by simp))
      slot := fun b o z n hf _ => by
        rw [same b (off z)]
        exact un.slot b o (kp b o z) (laid (off z) n) hf (by simp)
      free := fun b o z n _ => (L2.del_ne (off z)).trans (un.free b o (kp b o z) (laid (off z) n) (by simp))
      there := fun b o z _ => by
        rw [same b (off z)]
        exact un.there b o (kp b o z) (by simp)
      tups := fun b xs z => (L2.del_ne (ne_of_none z fresh)).trans (un.tups b xs ((upd_ne (ne_of_none z fresh)).trans z))
      frzs := fun b o v z => (L2.del_ne (ne_of_none z fresh)).trans (un.frzs b o v ((upd_ne (ne_of_none z fresh)).trans z))
      tbls := fun b ps z => by
        rw [L2.del_ne (ne_of_none z fresh)]
        exact un.tbls b ps ((upd_ne (ne_of_none z fresh)).trans z) }
  have ok3 : HOk X.prog X.w (L2.del H2 a) G := fun b o z => by
    have hba : b ≠ a := fun e => by rw [e, L2.del_same] at z; cases z
    rw [L2.del_ne hba] at z
    have noa : ∀ {c : Addr}, H2 c = some (.own b) → c ≠ a := fun {c} hc => at_ne ea hc exo_own
    refine (hok b o z).stay (fun c v hc y => ?_) (fun c hc => (L2.del_ne (noa hc)).trans hc) fun c xs hc => (L2.del_ne (at_ne ea hc exo_tup)).trans hc
    rw [same c (hc.elim (fun e => e ▸ hba) fun e => noa e)]
    exact y
  have J : Inv X pins σ (L2.del H2 a) ⟨G, g2, d2, t2, os2⟩ := I1.call' (ch := []) ho U ok3 bare (fun b z => absurd z (by simp))
  refine ⟨a, _, _, ⟨G, g2, d2, t2, os2⟩, _, .ref C, none, rfl, J, fun b o z => ?_, ga, hoe, ⟨rfl, rfl, fun vs z => by cases z; rfl⟩, rfl, rfl, L2.del_same, rfl, bare, T, q⟩
  by_cases hba : b = a
  · rw [hba, ga] at z; cases z
  · exact (same b hba).symm.trans z
theorem pmk_oex0N {CX : CXT} {x : Str} {C fI : Addr} {k : Nat} {fd : FuncData} {ps : List Str} {sp : Sp} {p pos : Pos} (T : OexC X.K C) (iC : PySem.W.findIn X.K (.ref C) "__init__" = some (some (.ref fI))) (tI : PySem.W.typeIn X.K (.ref fI) = some (.type "function"))
    (F1 : FnOk X.prog X.w X.K X.mg X.base CX k fI fd ps sp) (hr : Room (k + 1) X.A) (hb : Binds X.K fd ps []) (hx : Passes CX X (fun _ _ _ => False)) (hg : Gl X x) (hm : X.mg x = some (.ref C)) (hdb : (x == ("__debug__" : Str)) = false := by decide) :
 L2N.PMk X (.Call (.Name x p) [] [] pos) (tMk0 C sp) := by
  intro pins s σ H Q I h
  obtain ⟨nm, qq, N, bs, bm, sn, sub, ab, col, dd, k0, k1, k2, k3, k5, hC, hbm⟩ := T.cls
  refine wpAny_Call_Name_kw (ld_glob I hg hm ?_ hdb)
  refine PySem.W.callWith_K0 I.kIn T.kC ?_
  show wpAny _ _ (call (.ref C) []) _ _ _
  obtain ⟨hp, g, dr, tk, os⟩ := s
  have lo : hp.objs.size ≤ hp.objs.size + 1 := Nat.le_succ _
  have q0 := h (hp.objs.size + 1) (I.hok.fresh lo)
  have kk : ∀ b o, hp.get? b = some o → ((hp.push (PySem.W.kdv_tup [])).push (PySem.HandSPX.excO C hp.objs.size)).get? b = some o := fun b o e => Heap.get?_push_of_some _ (Heap.get?_push_of_some _ e)
  have got : ((hp.push (PySem.W.kdv_tup [])).push (PySem.HandSPX.excO C hp.objs.size)).get? (hp.objs.size + 1) = some (PySem.HandSPX.excO C hp.objs.size) := by heap_get
  have J : Inv X pins σ (upd H (hp.objs.size + 1) (exo (hp.objs.size + 1) C none)) ⟨(hp.push (PySem.W.kdv_tup [])).push (PySem.HandSPX.excO C hp.objs.size), g, dr, tk, os⟩ :=
    I.laid (t' := tk) (a := hp.objs.size + 1) (o := exo (hp.objs.size + 1) C none) (h' := (hp.push (PySem.W.kdv_tup [])).push (PySem.HandSPX.excO C hp.objs.size)) kk lo (exo_ok got)
  have rv : Vals [V.ref (hp.objs.size + 1)] [Value.ref (hp.objs.size + 1)] := .cons rfl .nil
  have ln : ([Value.ref (hp.objs.size + 1)] : List Value).length = ps.length := by
    rw [← F1.len _ _ _ _ q0]; rfl
  refine wpAny_call (PySem.HandSPX.call_own F.excBase_ValueError (fun Y => PySem.HandSPX.refsVE_contains Y bm hbm) (I.kIn _ _ hC) (PySem.W.looks_findIn I.kIn iC) (fun self => PySem.W.bind_fn I.kIn self tI) (by decide)
    (codeAny_mono (F1.run _ X.stack _ _ ⟨[Value.ref (hp.objs.size + 1)], []⟩ [Value.ref (hp.objs.size + 1)] _ _ (fun _ _ _ => False) (hr.make C [] []) (J.env0.make C [] []) (hb _ [Value.ref (hp.objs.size + 1)] J.kIn (by simpa using ln)) rv q0) fun r s2 z => ?_))
  match r, z with
  | .error er, z => exact hx pins σ _ _ er s2 J z
  | .ok (.ret u), z =>
    obtain ⟨v, H2, os2, bare2, un2, hok2, rv2, ev, ea, q2⟩ := z
    subst ev
    obtain ⟨h2, g2, d2, t2, os'⟩ := s2
    exact ⟨rv2, made_noneN (raises_own T.exC T.tyC) I lo kk un2 hok2 os2 bare2 ea q2⟩
end
end Fv

/-! instances made, static methods called, where an error may fly: what is wanted of it knows the slots -/
namespace Fv
open PySem PySem.Spec PyProof.Rows L2 Evl StX
def tMakeS (C : Addr) (sp : Sp) (E : L2.St → XK) (t : TA) : TE := fun σ H Q => t σ H fun vs H1 => ∀ x dx, H1 x = none → H1 dx = none → dx ≠ x → sp (.ref x :: vs) (upd (upd H1 dx (.own x)) x (.ins C dx [])) (fun v H2 => v = .non ∧ Q (.ref x) H2) (E σ)
section
variable {X : Cx} {CX : CXT} {k : Nat} {f C : Addr} {fd : FuncData} {ps : List Str} {sp : Sp} {E : L2.St → XK} {x : Str} {p pos : Pos} {e : Expr} {es : List Expr} {t : TA}
theorem pe_makeS (M : Mk X.K C f) (F : FnOk X.prog X.w X.K X.mg X.base CX k f fd ps sp) (hr : Room (k + 1) X.A) (gl : Gl X x) (hm : X.mg x = some (.ref C)) (hb : Binds X.K fd ps []) (hx : ∀ σ, PassesAt CX X σ (E σ)) (ha : PA X (e :: es) t)
    (h1 : (x == ("__debug__" : Str)) = false := by decide) (h2 : starEach (e :: es) X.env = (false, eval e X.env) :: starEach es X.env := by rfl) (h3 : (backTo pos (starEach es X.env)).any (·.1) = false := by rfl) : PE X (.Call (.Name x p) (e :: es) [] pos) (tMakeS C sp E t) := by
  constructor
  intro pins s σ H Q I h
  refine wpAny_Call_Name_kw (ld_glob I gl hm (PySem.W.callWith_K (h₀ := X.base) I.ok.mod.kin M.kp (thn (ha.run pos pins s σ H _ I h) fun us s1 z => ?_) h2 h3) h1)
  obtain ⟨vs, H1, I1, rv, q⟩ := z
  refine ⟨I1.kIn, ?_⟩
  have q0 := q (s1.heap.objs.size + 1) s1.heap.objs.size (I1.hok.fresh (Nat.le_succ _)) (I1.hok.fresh (Nat.le_refl _)) (Nat.ne_of_lt (Nat.lt_succ_self _))
  have J := Inv.made (C := C) I1
  have r2 : Vals (V.ref (s1.heap.objs.size + 1) :: vs) (Value.ref (s1.heap.objs.size + 1) :: us) := .cons rfl rv
  have hl : (Value.ref (s1.heap.objs.size + 1) :: us ++ []).length = ps.length := by
    rw [List.append_nil, ← F.len _ _ _ _ q0]; exact r2.length.symm
  have bnd := hb _ (Value.ref (s1.heap.objs.size + 1) :: us) J.kIn hl
  rw [List.append_nil] at bnd
  refine wpAny_call (make_map (f := f) I1.kIn M.makes M.init (beq_iff_eq.mp M.fn) (codeAny_mono (F.run _ X.stack _ _ ⟨Value.ref (s1.heap.objs.size + 1) :: us, []⟩ (Value.ref (s1.heap.objs.size + 1) :: us) _ _ (E σ) (hr.make C us []) (J.env0.make C us []) bnd r2 q0) fun r s2 z => ?_))
  match r, z with
  | .error er, z => exact hx σ pins _ _ er s2 J z
  | .ok (.ret u), z =>
    obtain ⟨v, H2, I3, rv3, ev, q3⟩ := J.after z
    subst ev
    exact ⟨rv3, ⟨V.ref (s1.heap.objs.size + 1), H2, I3, rfl, q3⟩⟩
theorem pe_smethS {p g : Addr} {mc : Value} {m : Str} {px apos : Pos} {pl : Sem Bool} (gl : Gl X x) (hm : X.mg x = some (.ref C)) (r : ClX.CRead X.K C mc) (c : SMet X.K C mc m p g) (F : FnOk X.prog X.w X.K X.mg X.base CX k g fd ps sp) (hr : Room k X.A) (hb : Binds X.K fd ps []) (hx : ∀ σ, PassesAt CX X σ (E σ)) (ha : PA X (e :: es) t)
    (h1 : (x == ("__debug__" : Str)) = false := by decide) (h2 : starEach (e :: es) X.env = (false, eval e X.env) :: starEach es X.env := by rfl) (h3 : (backTo pos (starEach es X.env)).any (·.1) = false := by rfl)
    (ht : eval (.Call (.Attribute (.Name x px) m apos) (e :: es) [] pos) X.env = (do
      let ov ← eval (.Name x px) X.env
      standAt apos.atName
      let (f, first) ← holding [ov] (getMethod ov m pl)
      callWith pos f first (backTo pos (starEach (e :: es) X.env)) (backToKw pos (keywordEach [] X.env))) := by rfl) :
    PE X (.Call (.Attribute (.Name x px) m apos) (e :: es) [] pos) (tCallS sp E t) := by
  constructor
  intro pins s σ H Q I q
  obtain ⟨rest, rec_⟩ := c.rc
  refine PySem.W.methodCall_KW (pl := pl) (ld_glob I gl hm (PySem.W.method_cls I.kIn r.ga (PySem.W.cls_bind I.kIn r.rd c.at_ (wpAny_call (PySem.W.sm_get (s := { s with toks := s.toks + 1 }) I.kIn rec_ (PySem.W.handed_on rfl ?_))))) h1) ht
  exact PySem.W.callWith_K (h₀ := X.base) I.ok.mod.kin c.kp (thn (ha.run pos pins _ σ H _ (I.tok (s.toks + 1)) q) fun us s1 ⟨vs, H1, I1, rr, q1⟩ => ⟨I1.kIn, run_fnS F hr hb (hx σ) I1 rr q1⟩) h2 h3
def tMethE (C : Addr) (m : Str) (sp : Sp) (E : L2.St → XK) (ta : TE) (t : TA) : TE := fun σ H Q => ta σ H fun x H1 => ∃ a dx fs, x = .ref a ∧ H1 a = some (.ins C dx fs) ∧ fs.lookup m = none ∧ t σ H1 fun vs H2 => sp (x :: vs) H2 Q (E σ)
theorem pe_methE {m : Str} {o : Expr} {ta : TE} {apos : Pos} {pl : Sem Bool} (he : PE X o ta) (c : Cls X.K C) (hm : Meth X.K C m f) (F : FnOk X.prog X.w X.K X.mg X.base CX k f fd ps sp) (hr : Room k X.A) (hb : Binds X.K fd ps []) (hx : ∀ σ, PassesAt CX X σ (E σ)) (ha : PA X (e :: es) t)
    (h2 : starEach (e :: es) X.env = (false, eval e X.env) :: starEach es X.env := by rfl) (h3 : (backTo pos (starEach es X.env)).any (·.1) = false := by rfl)
    (ht : eval (.Call (.Attribute o m apos) (e :: es) [] pos) X.env = (do
      let ov ← eval o X.env
      standAt apos.atName
      let (f, first) ← holding [ov] (getMethod ov m pl)
      callWith pos f first (backTo pos (starEach (e :: es) X.env)) (backToKw pos (keywordEach [] X.env))) := by rfl) :
    PE X (.Call (.Attribute o m apos) (e :: es) [] pos) (tMethE C m sp E ta t) := by
  constructor
  intro pins s σ H Q I h
  refine PySem.W.methodCall_KW (pl := pl) (thn (he.run pins s σ H _ I h) fun u s1 z => ?_) ht
  obtain ⟨x, H1, I1, rx, a, dx, fs, rfl, ea, l, q⟩ := z
  obtain rfl : u = Value.ref a := rx
  exact getmeth_ok I1 ea c hm l (PySem.W.callWith_K (first := [.ref a]) (h₀ := X.base) I.ok.mod.kin hm.kp (thn (ha.run pos pins s1 σ H1 _ I1 q) fun us s2 ⟨vs, H2, I2, r, q2⟩ => ⟨I2.kIn, run_fnS (us := .ref a :: us) (vs := .ref a :: vs) F hr hb (hx σ) I2 (.cons rfl r) q2⟩) h2 h3)
end
end Fv

/-! more of what reads one's own list where it stands; a list that is known by a property -/
namespace Fv
open PySem PySem.Spec PyProof.Rows L2 Evl StX
section
variable {K : PySem.W.Frag} {pt : Option Pt} {σ : L2.St} {F F' F0 H0 H : Hp} {te ti ta tb : TE} {ts tr : TA} {t : TT} {R R1 R2 : PD} {d e y : PyData} {D : Ends} {tz : TS} {l : Addr} {ls ds : List PyData} {wi : TI} {r : L2.R2}
theorem w_listE {RS : List PyData → Prop} (h : EvG K pt te σ F (fun d => ∃ ds, d = .list ds ∧ RS ds)) : WiG K pt (iList K te) σ F RS := fun H1 i g RR q =>
  h H1 i g _ fun d v F2 H2 hd s hv => by
    obtain ⟨ds, rfl, hds⟩ := hd
    have := w_listI (K := K) (pt := pt) (te := fun _ H Q => Q v H) (σ := σ) (F := F2) (ds := ds) (fun H1 i g Q q => q _ v F2 H1 rfl (.refl i g) hv) H2 s.inn s.good RR fun ds' J F3 H3 hd3 s3 Y => q ds' J F3 H3 (by rw [show ds' = ds from hd3]; exact hds) (s.trans s3) Y
    exact this
theorem t_lcGM {i j : Nat} {vs : List Nat} (f : PyData → PyData) (s : Step pt F0 H0 F H) {RS : List PyData → Prop} (hw : WiG K pt wi σ F RS) (hz : ∀ ds, RS ds → ds.length ≤ 50000) (hwp : ∀ x, wipe ((wipe σ vs).set j (some x)) vs = wipe σ vs)
    (he : ∀ ds, RS ds → ∀ d ∈ ds, ∀ F', Ex F F' → ∀ x, Rp K F' x d → EvG K pt te ((wipe σ vs).set j (some x)) F' (Is (f d)))
    (q : ∀ l F2 H2 ds, H0 l = none → RS ds → Gst K pt F0 H0 l F2 H2 (ds.map f) → Ex F F2 → tz D (σ.set i (some (.ref l))) H2) : tSeq (tAsg (tLc wi (gName j) tYes te vs) (gName i)) tz D σ H :=
  hw H s.inn s.good _ fun ds' J F1 H1 eds s1 Y => fun Dl hD => by
    have gi := s1.inn
    have gg := s1.good
    have few := hz ds' eds
    refine ⟨fun k m H2 => m = ds'.length - k ∧ k ≤ ds'.length ∧ Grow K pt F1 H1 Dl (fun l => l = (ds'.take k).map f) H2, ⟨ds'.length, by simp, Nat.zero_le _, .start gi gg hD (by simp)⟩, ?_⟩
    rintro k m H2 ⟨rfl, hk, w⟩
    obtain ⟨F2, l2, acc, s2, off, e2, r2, a2⟩ := id w
    have eH : Ex F1 H2 := s2.sub.trans s2.inn
    by_cases lt : k < ds'.length
    · refine .inr ⟨Y.go k H2 eH lt, Grow K pt F1 H1 Dl (fun l => l = (ds'.take (k + 1)).map f), fun H3 p3 => ⟨ds'.length - (k + 1), by omega, rfl, lt, p3⟩, fun x H3 y => ?_⟩
      obtain ⟨rfl, d, hd, hx⟩ := Y.yld k H2 x H3 eH lt y
      refine ⟨hwp x, w.turn gg hD (fun l' a' => by rw [a', List.length_map, List.length_take]; omega) (· = true) (fun _ _ => et_yes) (fun _ F4 e4 => he ds' eds d (List.mem_of_getElem? hd) F4 (s1.sub.trans e4) x (Rp.mono e4 _ _ hx)) (fun _ l' x' a' ex => ?_) (fun z => by cases z)⟩
      rw [take_succ hd, List.map_append, a', show x' = f d from ex]; rfl
    · have hE : k = ds'.length := Nat.le_antisymm hk (Nat.le_of_not_lt lt)
      subst hE
      refine .inl ⟨Y.stop H2 eH, ?_⟩
      rw [List.take_length] at a2
      subst a2
      exact q Dl F2 H2 ds' ((s.trans s1).back Dl hD) eds ⟨(s.trans s1).trans s2, off, acc, e2, r2⟩ (s1.sub.trans s2.sub)
/-- x = e, where e reads the list and is a number -/
theorem t_asgFixI {i : Nat} {R : Int → Prop} (g0 : Good pt F0 H0) (h0 : H0 l = none) (g : Gst K pt F0 H0 l F H ls) (h : ∀ Fp, Ex F Fp → Rp K Fp (.ref l) (.list ls) → EvG K pt te σ Fp (fun d => ∃ k, d = .int k ∧ R k)) (q : ∀ k F2 H2, R k → Gst K pt F0 H0 l F2 H2 ls → Ex F F2 → tz D (σ.set i (some (.int k))) H2) : tSeq (tAsg te (gName i)) tz D σ H := by
  obtain ⟨Fp, e1, e2, gd, r, back⟩ := g.fix g0 h0
  exact h Fp e1 r H e2 gd _ fun d v F2 H2 hd s hv => by
    obtain ⟨F3, g3, e3, b1, b2⟩ := back F2 H2 s
    obtain ⟨k, rfl, hk⟩ := hd
    obtain rfl := b2 v k hv
    exact q k F3 H2 hk g3 e3
theorem at_ixOwn {o c j : Nat} (g : Gst K pt F0 H0 l F H ls) (ho : σ[o]? = some (some (.ref l))) (hc : σ[c]? = some (some (.int (j : Int)))) (hy : ls[j]? = some y) : EvAt K pt (tOp (rIxL K) (tVar o) (tVar c)) σ F H (Is y) := fun Q q => by
  obtain ⟨acc, e, r⟩ := g.ex
  have hjl : j < acc.length := by rw [r.length]; exact (List.getElem?_eq_some_iff.mp hy).1
  obtain ⟨y', hy', hr⟩ := r.get (List.getElem?_eq_getElem hjl)
  rw [hy] at hy'
  obtain rfl := Option.some.inj hy'
  exact ⟨.ref l, ho, .int j, hc, l, acc, (j : Int), acc[j], rfl, rfl, sq_of e, by unfold atI; rw [ixN_nat hjl]; exact List.getElem?_eq_getElem hjl, q _ _ F H rfl (.refl g.step.inn g.step.good) hr⟩
theorem at_opR (ha : EvAt K pt ta σ F H R1) (hb : ∀ F', Ex F F' → EvG K pt tb σ F' R2) (hr : ∀ d e, R1 d → R2 e → RvG K r d e R) : EvAt K pt (tOp r ta tb) σ F H R := fun Q q =>
  ha _ fun d v F2 H2 hd s hv => hb F2 s.sub H2 s.inn s.good _ fun e u F3 H3 he s3 hu =>
    hr d e hd he F3 H3 v u s3.inn (Rp.mono s3.sub _ _ hv) hu Q fun z x F4 H4 hz s4 hx => q z x F4 H4 hz ((s.trans s3).trans (s4.lift s3.good)) hx
theorem at_consG (g0 : Good pt F0 H0) (h0 : H0 l = none) (g : Gst K pt F0 H0 l F H ls) (h : EvG K pt te σ F (Is d)) (h2 : ∀ F2 H2, Gst K pt F0 H0 l F2 H2 ls → Ex F F2 → EvsAt K pt tr σ F2 H2 (· = ds)) : EvsAt K pt (tCons te tr) σ F H (· = d :: ds) := fun Q q => h H g.step.inn g.step.good _ fun d' v F2 H2 hd s hv => by
  subst hd
  exact h2 F2 H2 (g.run g0 h0 s) s.sub _ fun ds' vs F3 H3 hd3 s3 hvs => q _ (v :: vs) F3 H3 (by rw [show ds' = ds from hd3]) (s.trans s3) (.cons (Rp.mono s3.sub _ _ hv) hvs)
theorem at_lst (h : EvsAt K pt ts σ F H (· = ds)) (hz : ds.length ≤ 1000) : EvAt K pt (tLst ts) σ F H (Is (.list ds)) := fun Q q => h _ fun ds' vs F2 H2 hd s hvs => by
  have hd' : ds' = ds := hd
  subst hd'
  exact ⟨by rw [hvs.length]; exact sz_of (Nat.le_trans hz (by decide)), fun p hp => by
    have s3 : Step pt F2 H2 (upd F2 p (.lst vs)) (upd H2 p (.lst vs)) := .laid s.inn s.good hp
    exact q _ _ _ _ rfl (s.trans s3) (.lst upd_same (RpAll.mono s3.sub _ _ hvs))⟩
theorem at_pick {c : Int} (ha : EvAt K pt ta σ F H (Is (.list ds))) (hb : ∀ F', Ex F F' → EvG K pt tb σ F' (fun d => ∃ k : Int, d = .int k ∧ 0 ≤ k ∧ k < c)) (hc : c ≤ (ds.length : Int)) (hP : ∀ d ∈ ds, R d) : EvAt K pt (tOp (rIxL K) ta tb) σ F H R := at_opR ha hb fun d e hd he => by
  obtain ⟨k, rfl, k0, k1⟩ := he
  subst hd
  obtain ⟨j, rfl⟩ : ∃ j : Nat, k = (j : Int) := ⟨k.toNat, by omega⟩
  have hj : j < ds.length := by omega
  intro F H x y i hx hy Q q
  exact rv_ixL (d := ds[j]) (by unfold atI; rw [ixN_nat hj]; exact List.getElem?_eq_getElem hj) F H x y i hx hy Q fun z v F2 H2 hz s hv => q z v F2 H2 (by rw [show z = ds[j] from hz]; exact hP _ (List.getElem_mem hj)) s hv
theorem rpAll_rep : ∀ (k : Nat) {ds : List PyData} {vs : List V}, RpAll K F vs ds → RpAll K F (List.replicate k vs).flatten (List.replicate k ds).flatten
  | 0, _, _, _ => by simp; exact .nil
  | k + 1, ds, vs, h => by
    rw [List.replicate_succ, List.replicate_succ, List.flatten_cons, List.flatten_cons]
    exact h.append (rpAll_rep k h)
theorem rv_rep {ds : List PyData} {k : Nat} (hz : ds.length * k ≤ 100000) (hk : k ≤ 1000) : RvG K rRep (.list ds) (.int (k : Int)) (Is (.list (List.replicate k ds).flatten)) := fun F H x y e hx hy Q q => by
  obtain ⟨a, xs, rfl, hl, ha⟩ := rp_lst hx
  obtain rfl := rp_int hy
  refine ⟨a, (k : Int), xs, rfl, rfl, e _ _ hl, by omega, by omega, by rw [ha.length]; exact sz_of hz, fun p hp => ?_⟩
  have s : Step none F H (upd F p (.lst (List.replicate k xs).flatten)) (upd H p (.lst (List.replicate k xs).flatten)) := .laid e .nil hp
  exact q _ _ _ _ rfl s (.lst upd_same (RpAll.mono s.sub _ _ (rpAll_rep k ha)))
end
end Fv

/-! sets and sorts of rows; one's own instance read while it is made -/
namespace Fv
open PySem PySem.Spec PyProof.Rows L2 Evl StX
theorem code_inj : ∀ {a b : List Int}, a.length = b.length → TS.Bd 4 a → TS.Bd 4 b → TS.code 4 a = TS.code 4 b → a = b
  | [], [], _, _, _, _ => rfl
  | [], _ :: _, h, _, _, _ => by simp at h
  | _ :: _, [], h, _, _, _ => by simp at h
  | d :: r, e :: q, h, ha, hb, hc => by
    have hl : r.length = q.length := by simpa using h
    have h1 : ¬ d < e := fun z => by have := TS.code_lt (B := 4) (d := d) (e := e) hl ha.tail hb.tail z; omega
    have h2 : ¬ e < d := fun z => by have := TS.code_lt (B := 4) (d := e) (e := d) hl.symm hb.tail ha.tail z; omega
    have e1 : d = e := by omega
    subst e1
    rw [TS.code.eq_2, TS.code.eq_2, hl] at hc
    rw [code_inj hl ha.tail hb.tail (by omega)]
/-- ascending, each once -/
abbrev Asc (rs : List (List Int)) : Prop := rs.Pairwise fun a b => TS.code 4 a < TS.code 4 b
theorem Asc.nd {rs : List (List Int)} (h : Asc rs) : rs.Nodup := List.Pairwise.imp (fun h e => by rw [e] at h; omega) h
theorem asc_ext {a b : List (List Int)} (ha : Asc a) (hb : Asc b) (h : ∀ x, x ∈ a ↔ x ∈ b) : a = b :=
  ((List.perm_ext_iff_of_nodup ha.nd hb.nd).mpr h).eq_of_pairwise (fun x y _ _ h1 h2 => by omega) ha hb
theorem asc_of {n : Nat} {rs : List (List Int)} (hr : ∀ r ∈ rs, r.length = n ∧ TS.Bd 4 r) (hp : rs.Pairwise fun a b => TS.code 4 a ≤ TS.code 4 b) (nd : rs.Nodup) : Asc rs :=
  List.Pairwise.imp_of_mem (fun {x y} hx hy h => by
    obtain ⟨h1, h2⟩ := h
    rcases Int.lt_or_eq_of_le h1 with z | z
    · exact z
    · exact absurd (code_inj ((hr _ hx).1.trans (hr _ hy).1.symm) (hr _ hx).2 (hr _ hy).2 z) h2) (hp.and nd)
theorem c_setR {X : Cx} {K : PySem.W.Frag} {P : Program} {w : World} (hu : X.A.units + 65 < cLine) (hc : X.calm = true := by rfl) (h : X.K = K := by rfl) (hp : X.prog = P := by rfl) (hw : X.w = w := by rfl) : CallR X (.type "set") (rSetOfT K P w) := by
  subst h; subst hp; subst hw; exact cr_setOfT hc (by omega)
theorem c_sortSetR {X : Cx} {K : PySem.W.Frag} {P : Program} {w : World} (hc : X.calm = true := by rfl) (h : X.K = K := by rfl) (hp : X.prog = P := by rfl) (hw : X.w = w := by rfl) : CallR X (.builtin "sorted") (rSortedT K P w) := by
  subst h; subst hp; subst hw; exact cr_sortedT hc
theorem c_sortR {X : Cx} {K : PySem.W.Frag} (n : Nat) (hn : 1 ≤ n) (h : X.K = K := by rfl) : CallR X (.builtin "sorted") (rSortU K n 4) := by
  subst h; exact cr_sortT hn
section
variable {K : PySem.W.Frag} {P : Program} {w : World} {pt : Option Pt} {σ : L2.St} {F F' F0 H0 H : Hp} {te : TE} {n : Nat} {rs : List (List Int)}
theorem rows_of : ∀ {rs : List (List Int)} {xs : List V}, RpAll K F xs (rs.map dT) → ∃ ks : List (Addr × List Int), xs = ks.map (fun p => V.ref p.1) ∧ ks.map (·.2) = rs ∧ ∀ p ∈ ks, F p.1 = some (.tup (p.2.map V.int))
  | [], _, h => by cases h; exact ⟨[], rfl, rfl, by simp⟩
  | r :: rs, _, h => by
    cases h with
    | cons h1 h2 =>
      obtain ⟨ks, e1, e2, e3⟩ := rows_of h2
      obtain ⟨a, ys, rfl, hl, ha⟩ := rp_tup h1
      have e4 := rpAll_ints ha
      subst e4
      refine ⟨(a, r) :: ks, by rw [e1]; rfl, by rw [List.map_cons, e2], fun p hp => ?_⟩
      rcases List.mem_cons.mp hp with rfl | m
      · exact hl
      · exact e3 p m
theorem rows_back {ks : List (Addr × List Int)} (h : ∀ p ∈ ks, F p.1 = some (.tup (p.2.map V.int))) : RpAll K F (ks.map fun p => V.ref p.1) ((ks.map (·.2)).map dT) := by
  induction ks with
  | nil => exact .nil
  | cons p ks ih => exact .cons (.tup (h p (by simp)) (rpAll_of_ints p.2)) (ih fun q hq => h q (List.mem_cons_of_mem _ hq))
/-- sorted(set(rows)) -/
theorem g_sortSetR (h : EvG K pt te σ F (Is (dLT rs))) (hz : rs.length < 64) (hn : 1 ≤ n) (hr : ∀ r ∈ rs, r.length = n ∧ TS.Bd 4 r) :
    EvG K pt (tCB (rSortedT K P w) (tCons (tCB (rSetOfT K P w) (tCons te tNil)) tNil)) σ F (fun x => ∃ R, x = dLT R ∧ Asc R ∧ ∀ r, r ∈ R ↔ r ∈ rs) := fun H1 i g Q q =>
  h H1 i g _ fun d v F2 H2 hd s hv => by
    subst hd
    obtain ⟨a, xs, rfl, hl, ha⟩ := rp_lst hv
    obtain ⟨ks, rfl, hks, hF⟩ := rows_of ha
    refine ⟨a, ks, rfl, SqL.of (s.inn _ _ hl), fun p hp => SqT.of (s.inn _ _ (hF p hp)), by rw [← hks, List.length_map] at hz; exact hz, fun b L hb hL1 hL2 => ?_⟩
    have s3 : Step pt F2 H2 F2 (upd H2 b (SetTO P w b L)) := .litter s.inn s.good hb
    refine ⟨b, L, n, 4, rfl, upd_same, fun p hp => SqT.of (s3.inn _ _ (hF p (hL1 p hp))), hn, fun p hp => hr p.2 (by rw [← hks]; exact List.mem_map_of_mem (hL1 p hp)), fun L' p pL nd hlen pw hp => ?_⟩
    have hF' : ∀ q ∈ L', F2 q.1 = some (.tup (q.2.map V.int)) := fun q hq => hF q (hL1 q (pL.mem_iff.mp hq))
    have s4 : Step pt F2 (upd H2 b (SetTO P w b L)) (upd F2 p (.lst (L'.map fun q => V.ref q.1))) (upd (upd H2 b (SetTO P w b L)) p (.lst (L'.map fun q => V.ref q.1))) := .laid s3.inn s3.good hp
    refine q _ _ _ _ ⟨L'.map (·.2), rfl, asc_of (n := n) (fun r hr' => ?_) (List.pairwise_map.mpr pw) nd, fun r => ⟨fun h => ?_, fun h => ?_⟩⟩ ((s.trans s3).trans s4) (.lst upd_same (RpAll.mono s4.sub _ _ (rows_back hF')))
    · obtain ⟨q, hq, rfl⟩ := List.mem_map.mp hr'
      exact hr q.2 (by rw [← hks]; exact List.mem_map_of_mem (hL1 q (pL.mem_iff.mp hq)))
    · obtain ⟨q, hq, rfl⟩ := List.mem_map.mp h
      rw [← hks]; exact List.mem_map_of_mem (hL1 q (pL.mem_iff.mp hq))
    · rw [← hks] at h
      obtain ⟨q, hq, rfl⟩ := List.mem_map.mp h
      obtain ⟨q2, hq2, e⟩ := List.mem_map.mp (hL2 q hq)
      exact List.mem_map.mpr ⟨q2, pL.mem_iff.mpr hq2, e⟩
theorem perm_map {α β : Type} {f : α → β} {zs ys : List β} (h : zs.Perm ys) : ∀ ks : List α, zs = ks.map f → ∃ ks' : List α, ys = ks'.map f ∧ ks'.Perm ks := by
  induction h with
  | nil => intro ks e; exact ⟨[], rfl, by cases ks with
    | nil => exact .refl _
    | cons a r => simp at e⟩
  | cons a p ih =>
    intro ks e
    cases ks with
    | nil => simp at e
    | cons b r =>
      rw [List.map_cons] at e
      injection e with e1 e2
      obtain ⟨k2, h1, h2⟩ := ih r e2
      exact ⟨b :: k2, by rw [List.map_cons, ← e1, h1], h2.cons b⟩
  | swap a b l =>
    intro ks e
    match ks, e with
    | [], e => simp at e
    | [x], e => simp at e
    | x :: y :: r, e =>
      rw [List.map_cons, List.map_cons] at e
      injection e with e1 e2
      injection e2 with e2 e3
      exact ⟨y :: x :: r, by rw [List.map_cons, List.map_cons, ← e1, ← e2, ← e3], .swap x y r⟩
  | trans p1 p2 ih1 ih2 =>
    intro ks e
    obtain ⟨k2, h1, h2⟩ := ih1 ks e
    obtain ⟨k3, h3, h4⟩ := ih2 k2 h1
    exact ⟨k3, h3, h4.trans h2⟩
/-- sorted(rows) -/
theorem g_sortR (h : EvG K pt te σ F (Is (dLT rs))) (hz : rs.length < 64) (hr : ∀ r ∈ rs, r.length = n ∧ TS.Bd 4 r) :
    EvG K pt (tCB (rSortU K n 4) (tCons te tNil)) σ F (fun x => ∃ R : List (List Int), x = dLT R ∧ R.Perm rs ∧ R.Pairwise fun a b => TS.code 4 a ≤ TS.code 4 b) := fun H1 i g Q q =>
  h H1 i g _ fun d v F2 H2 hd s hv => by
    subst hd
    obtain ⟨a, xs, rfl, hl, ha⟩ := rp_lst hv
    obtain ⟨ks, rfl, hks, hF⟩ := rows_of ha
    refine ⟨a, _, rfl, SqL.of (s.inn _ _ hl), by rw [← hks, List.length_map] at hz; rw [List.length_map]; exact hz, fun x hx => ?_, fun ys p hy pw hp => ?_⟩
    · obtain ⟨p, hp, rfl⟩ := List.mem_map.mp hx
      obtain ⟨h1, h2⟩ := hr p.2 (by rw [← hks]; exact List.mem_map_of_mem hp)
      exact ⟨p.2, ⟨p.1, rfl, SqT.of (s.inn _ _ (hF p hp))⟩, h1, h2⟩
    · obtain ⟨ks', rfl, pk⟩ : ∃ ks' : List (Addr × List Int), ys = ks'.map (fun p => V.ref p.1) ∧ ks'.Perm ks := by
        exact perm_map hy.symm ks rfl
      have hF' : ∀ q ∈ ks', F2 q.1 = some (.tup (q.2.map V.int)) := fun q hq => hF q (pk.mem_iff.mp hq)
      have s4 : Step pt F2 H2 (upd F2 p (.lst (ks'.map fun q => V.ref q.1))) (upd H2 p (.lst (ks'.map fun q => V.ref q.1))) := .laid s.inn s.good hp
      refine q _ _ _ _ ⟨ks'.map (·.2), rfl, by rw [← hks]; exact pk.map _, List.pairwise_map.mpr (List.Pairwise.imp_of_mem (fun {x y} hx hy h => ?_) (List.pairwise_map.mp pw))⟩ (s.trans s4) (.lst upd_same (RpAll.mono s4.sub _ _ (rows_back hF')))
      exact h _ _ ⟨x.1, rfl, SqT.of (s.inn _ _ (hF' x hx))⟩ ⟨y.1, rfl, SqT.of (s.inn _ _ (hF' y hy))⟩
end
section
variable {K : PySem.W.Frag} {σ : L2.St} {F0 H0 F H : Hp} {te : TE} {D : Ends} {tz : TS} {x dx C : Addr} {fs : List (Str × V)} {i : Nat} {f : Str}
/-- self.f = e, where e reads what self has -/
theorem t_fldAt1 {Φ : V → Hp → Prop} (s : Step none F0 H0 F H) (h0 : H0 x = none) (hx : F x = none) (hi : σ[i]? = some (some (.ref x))) (ho : H x = some (.ins C dx fs)) (cl : Cls K C) (na : NoAttr K C f) (hz : fs.length < 1000)
    (h : ∀ Fp, Ex F Fp → Ex Fp H → Fp x = some (.ins C dx fs) → ∀ Q : VK, (∀ v F2 H2, Φ v F2 → Step none Fp H F2 H2 → Q v H2) → te σ H Q)
    (hΦ : ∀ v F2 F3, F2 x = some (.ins C dx fs) → (∀ a o, a ≠ x → F2 a = some o → F3 a = some o) → Φ v F2 → Φ v F3)
    (q : ∀ v F2 H2, Φ v F2 → Step none F0 H0 F2 H2 → Ex F F2 → F2 x = none → H2 x = some (.ins C dx (putF f v fs)) → D.nx σ H2) : sFld K (tVar i) te f D σ H := by
  have sp : Step none F0 H0 (upd F x (.ins C dx fs)) H := s.add hx ho h0
  refine h (upd F x (.ins C dx fs)) (Ex.new hx) sp.inn upd_same _ fun v F2 H2 hv s2 => ?_
  have st := sp.trans s2
  have f2 : F2 x = some (.ins C dx fs) := s2.sub _ _ upd_same
  have back : ∀ a o, a ≠ x → F2 a = some o → L2.del F2 x a = some o := fun a o z h => by rw [L2.del_ne z]; exact h
  have exF : Ex F (L2.del F2 x) := fun a o h => by
    have z : a ≠ x := fun z => by rw [z, hx] at h; cases h
    exact back a o z (s2.sub _ _ (by rw [upd_ne z]; exact h))
  have s3 : Step none F0 H0 (L2.del F2 x) H2 := ⟨s.sub.trans exF, fun a o h => by
    by_cases z : a = x
    · rw [z, L2.del_same] at h; cases h
    · rw [L2.del_ne z] at h; exact s2.inn _ _ h, st.keep, .nil, fun a h1 h2 => by
    by_cases z : a = x
    · rw [z, L2.del_same]
    · rw [L2.del_ne z]; exact st.new a h1 h2⟩
  exact ⟨.ref x, hi, x, C, dx, fs, rfl, s2.inn _ _ f2, cl, na, hz, q v (L2.del F2 x) _ (hΦ v F2 _ f2 back hv) (s3.put .nil h0 L2.del_same) exF L2.del_same upd_same⟩
end
end Fv

/-! `in` and `not in` by a class's own __contains__ -/
namespace L2
open PySem PySem.Spec PyProof.Rows Evl
section
variable {X : Cx} {k : Nat} {CX : CXT} {C f : Addr} {fd : FuncData} {ps : List Str} {sp : Sp} {E : XK}
/-- x in o: the class's own word is asked -/
def rInI (C : Addr) (sp : Sp) (E : XK) (neg : Bool) : R2 := fun x y H Q => ∃ a dx fs, y = .ref a ∧ H a = some (.ins C dx fs) ∧ sp [.ref a, x] H (fun v H' => ∃ b : Bool, v = .bl b ∧ Q (.bl (neg != b)) H') E
theorem truthy_bl {M : Model} {A : Around} {b : Bool} {Q : Bool → Shared → Prop} {Ex : Value → Shared → Prop} {s : Shared} (h : Q b s) : wpAny M A (truthy (.bool b)) Q Ex s := by
  unfold truthy
  exact wpAny_pure h
theorem inI_call (F : FnOk X.prog X.w X.K X.mg X.base CX k f fd ps sp) (hr : Room k X.A) (hb : Binds X.K fd ps []) (hx : Passes CX X E) {pins : List (Addr × Obj)} {s : Shared} {σ : St} {H : Hp} {a : Addr} {x : V} {v : Value} {Q : VK}
    (I : Inv X pins σ H s) (rx : RelV x v) (h : sp [.ref a, x] H Q E) : wpAny (model X.prog X.w) X.A (call (.ref f) [.ref a, v]) (EP X pins σ Q) X.xe s := by
  have e0 := I.env0
  have hl := F.len _ _ _ _ h
  have r2 : Vals [V.ref a, x] [Value.ref a, v] := .cons rfl (.cons rx .nil)
  refine wpAny_call (codeAny_mono (F.run X.A X.stack s H ⟨[.ref a, v], []⟩ [.ref a, v] [.ref a, x] _ E hr e0 (by
    have := hb s [.ref a, v] I.kIn (by simpa using hl)
    simpa using this) r2 h) fun r s' hq => ?_)
  cases r with
  | error e => exact hx pins σ H s e s' I hq
  | ok fl =>
    cases fl with
    | ret w =>
      obtain ⟨z, H', I', rz, q⟩ := I.after hq
      exact ⟨z, H', I', rz, q⟩
    | next => exact False.elim hq
    | brk => exact False.elim hq
    | cont => exact False.elim hq
theorem op_inI (F : FnOk X.prog X.w X.K X.mg X.base CX k f fd ps sp) (hr : Room k X.A) (hb : Binds X.K fd ps []) (hx : Passes CX X E) (hs : PySem.W.findIn X.K (.ref C) "__contains__" = some (some (.ref f))) (hf : PySem.W.isFn X.K (.ref f) = true) :
    OpR X (compareOp .In) (rInI C sp E false) := by
  intro pins s σ H x y v u Q I rx ry hq
  obtain ⟨a, dx, fs, rfl, ha, h⟩ := hq
  cases ry
  obtain ⟨mA, J, _⟩ := ins_get I.hok ha
  obtain ⟨od, J, _⟩ := J.look
  obtain ⟨m, hF⟩ := I.fr
  refine PySem.W.in_K hF I.ok.mod.kin J hs hf (wpAny_mono (inI_call F hr hb hx I rx h) (fun r s' z => ?_) fun _ _ x => x)
  obtain ⟨_, H', I', rz, b, rfl, q⟩ := z
  cases rz
  exact truthy_bl ⟨.bl b, H', I', rfl, by simpa using q⟩
theorem op_notInI (F : FnOk X.prog X.w X.K X.mg X.base CX k f fd ps sp) (hr : Room k X.A) (hb : Binds X.K fd ps []) (hx : Passes CX X E) (hs : PySem.W.findIn X.K (.ref C) "__contains__" = some (some (.ref f))) (hf : PySem.W.isFn X.K (.ref f) = true) :
    OpR X (compareOp .NotIn) (rInI C sp E true) := by
  intro pins s σ H x y v u Q I rx ry hq
  obtain ⟨a, dx, fs, rfl, ha, h⟩ := hq
  cases ry
  obtain ⟨mA, J, _⟩ := ins_get I.hok ha
  obtain ⟨od, J, _⟩ := J.look
  obtain ⟨m, hF⟩ := I.fr
  refine PySem.W.notIn_K hF I.ok.mod.kin J hs hf (wpAny_mono (inI_call F hr hb hx I rx h) (fun r s' z => ?_) fun _ _ x => x)
  obtain ⟨_, H', I', rz, b, rfl, q⟩ := z
  cases rz
  exact truthy_bl ⟨.bl (!b), H', I', rfl, by simpa using q⟩
/-- len(o) by the class's own __len__ -/
theorem c_lenI (F : FnOk X.prog X.w X.K X.mg X.base CX k f fd ps sp) (hr : Room (k + 1) X.A) (hb : Binds X.K fd ps []) (hx : Passes CX X E) (hs : PySem.W.findIn X.K (.ref C) "__len__" = some (some (.ref f))) (hf : PySem.W.isFn X.K (.ref f) = true) :
    CallR X (.builtin "len") fun xs H Q => ∃ a dx fs, xs = [.ref a] ∧ H a = some (.ins C dx fs) ∧ sp [.ref a] H (fun v H' => ∃ i : Int, v = .int i ∧ 0 ≤ i ∧ i < 2 ^ 63 ∧ Q (.int i) H') E := by
  intro pins s σ H xs us Q I rx hq
  obtain ⟨a, dx, fs, rfl, ha, h⟩ := hq
  cases rx with | cons rx r0 =>
  cases r0
  cases rx
  obtain ⟨mA, J, _⟩ := ins_get I.hok ha
  obtain ⟨od, J, _⟩ := J.look
  obtain ⟨m, hF⟩ := I.fr
  have sb : Sub X k X.A.in1 := Sub.in1 ⟨hr, rfl⟩
  have e0 : Env0 X.prog X.w X.K X.mg X.base X.A.in1 X.stack s H := by
    have e := I.env0
    exact ⟨by rw [sb.fr]; exact e.frames, e.mod, e.bs, e.bsz, e.funs, e.frf, e.hok, e.bare⟩
  have hl := F.len _ _ _ _ h
  have r2 : Vals [V.ref a] [Value.ref a] := .cons rfl .nil
  refine PySem.W.len_K hF I.ok.mod.kin J hs hf (wpAny_call (codeAny_mono (F.run X.A.in1 X.stack s H ⟨[.ref a], []⟩ [.ref a] [.ref a] _ E sb.room e0 (by
    have := hb s [.ref a] I.kIn (by simpa using hl)
    simpa using this) r2 h) fun r s' hq => ?_))
  cases r with
  | error e => exact hx pins σ H s e s' I hq
  | ok fl =>
    cases fl with
    | ret w =>
      obtain ⟨z, H', I', rz, i, rfl, h0, h1, q⟩ := I.after hq
      obtain ⟨t, rfl⟩ := rz
      exact ⟨⟨h0, h1⟩, .int i, H', I'.tok _, ⟨_, rfl⟩, q⟩
    | next => exact False.elim hq
    | brk => exact False.elim hq
    | cont => exact False.elim hq
end
end L2

/-! sorted of a list of data -/
namespace Fv
open PySem PySem.Spec PyProof.Rows L2 Evl StX
/-- data in Python's order -/
def sortD (ds : List PyData) : List PyData := ds.mergeSort (PySem.W.dataLe false id)
theorem sortD_perm (ds : List PyData) : (sortD ds).Perm ds := List.mergeSort_perm _ _
/-- what can be sorted -/
structure CanSort (ds : List PyData) : Prop where
  al : PySem.W.AllAlike ds
  so : PySem.W.Sortable ds
  dp : ∀ d ∈ ds, d.depth ≤ 10
def rSortG (K : PySem.W.Frag) : List V → Hp → VK → Prop := fun xs H Q => ∃ (l : Addr) (ps : List (V × PyData)), xs = [.ref l] ∧ H l = some (.lst (ps.map (·.1))) ∧ (∀ p ∈ ps, Rp K H p.1 p.2) ∧
  CanSort (ps.map (·.2)) ∧ ∀ (qs : List (V × PyData)) p, qs.Perm ps → qs.map (·.2) = sortD (ps.map (·.2)) → H p = none → Q (.ref p) (upd H p (.lst (qs.map (·.1))))
theorem c_sortG {X : Cx} {K : PySem.W.Frag} (hu : X.A.units + 65 < cLine) (h : X.K = K := by rfl) : CallR X (.builtin "sorted") (rSortG K) := by
  subst h
  intro pins s σ H xs us Q I r q
  obtain ⟨l, ps, rfl, hl, hp, hk, q⟩ := q
  rw [Vals.ref1 r]
  obtain ⟨its, rv, pl, hz⟩ := I.list (SqL.of hl)
  have ea : PySem.W.EachIs (fun u b => RelV b.1 u) its ps := each_of_vals rv
  have rd : ∀ u (b : V × PyData), b ∈ ps → RelV b.1 u → ∃ as, Reads s.heap u b.2 as := fun u b hb ru => Dp.reads I b.2 b.1 u (Rp.dp _ _ (hp b hb)) ru
  let hS : Heap := PySem.W.sortingHeap (PySem.W.copyHeap s.heap its) (s.heap.objs.size + 1) its
  have er0 : PySem.W.EachIs (fun u (b : V × PyData) => ∃ as, Reads hS u b.2 as) its ps := (PySem.W.each_mem ea).mono fun u b ⟨ru, hb⟩ => by
    obtain ⟨as, x⟩ := rd u b hb ru
    exact ⟨as, PyProof.Rows.Reads.keeps (fun _ _ => PySem.W.sorting_copy_old) x⟩
  have er1 : PySem.W.EachIs (fun u d => ∃ as, Reads hS u d as) its (ps.map fun b => b.2) := PySem.W.each_map (R := fun u d => ∃ as, Reads hS u d as) (fun b : V × PyData => b.2) er0
  have al : PySem.W.AllAlike (ps.map fun b => b.2) := hk.al
  have S : PySem.W.SortsAt X.prog X.w X.A.in1.in1 { s with heap := hS } (PySem.W.dataKind hS (ps.map fun b => b.2)) its := by
    refine PySem.W.SortsAt.data (s := { s with heap := hS }) er1 al hk.so fun d hd => ?_
    have := hk.dp d hd
    show X.A.units + 1 + 1 + _ < _
    omega
  have out := PySem.W.sortVals_data (h' := hS) (enc := fun b : V × PyData => b.2) false ea er0 al
  refine PySem.W.sorted_vals pl.isList S (by rw [← rv.length]; exact hz) ?_
  generalize PySem.W.sortVals (PySem.W.dataKind hS (ps.map fun b => b.2)) false its its = ou at out
  generalize eq : ps.mergeSort (PySem.W.dataLe false fun b : V × PyData => b.2) = qs at out
  have pq : qs.Perm ps := eq ▸ List.mergeSort_perm _ _
  have snd : qs.map (·.2) = sortD (ps.map (·.2)) := by
    rw [← eq]
    exact PySem.W.sort_maps (s := PySem.W.dataLe false id) (fun x : V × PyData => x.2) fun _ _ _ _ => rfl
  have vo : Vals (qs.map (·.1)) ou := vals_of_each out
  obtain ⟨c, hc⟩ := PyProof.Rows.sortedAll_at s.heap its ou.toArray
  have fr : H (s.heap.objs.size + 1) = none := I.hok.fresh (Nat.le_succ _)
  have len : (qs.map (·.1)).length ≤ sizeLine := by
    rw [List.length_map, pq.length_eq, ← List.length_map (f := (·.1))]; exact hz
  exact ⟨.ref (s.heap.objs.size + 1), upd H (s.heap.objs.size + 1) (.lst (qs.map (·.1))), I.laid (t' := s.toks) (fun _ _ => PyProof.Rows.sortedAll_old) (Nat.le_succ _) ⟨len, ou, c, vo, hc⟩, rfl, q qs _ pq snd fr⟩
section
variable {K : PySem.W.Frag} {w : World} {pt : Option Pt} {σ : L2.St} {F F' H : Hp} {te : TE}
theorem rp_pairs : ∀ {xs : List V} {ds : List PyData}, RpAll K F xs ds → (xs.zip ds).map (·.1) = xs ∧ (xs.zip ds).map (·.2) = ds ∧ ∀ p ∈ xs.zip ds, Rp K F p.1 p.2
  | _, [], h => by cases h; simp
  | _, d :: ds, h => by
    cases h with
    | cons h1 h2 =>
      obtain ⟨e1, e2, e3⟩ := rp_pairs h2
      refine ⟨by simp [e1], by simp [e2], fun p hp => ?_⟩
      rw [List.zip_cons_cons] at hp
      rcases List.mem_cons.mp hp with rfl | m
      · exact h1
      · exact e3 p m
theorem pairs_rp : ∀ {ps : List (V × PyData)}, (∀ p ∈ ps, Rp K F p.1 p.2) → RpAll K F (ps.map (·.1)) (ps.map (·.2))
  | [], _ => .nil
  | p :: ps, h => .cons (h p (by simp)) (pairs_rp fun q m => h q (List.mem_cons_of_mem _ m))
theorem g_sortG {ds : List PyData} (h : EvG K pt te σ F (Is (.list ds))) (hk : CanSort ds) : EvG K pt (tCB (rSortG K) (tCons te tNil)) σ F (Is (.list (sortD ds))) := fun H1 i g Q q =>
  h H1 i g _ fun d v F2 H2 hd s hv => by
    subst hd
    obtain ⟨a, xs, rfl, hl, ha⟩ := rp_lst hv
    obtain ⟨e1, e2, e3⟩ := rp_pairs ha
    refine ⟨a, xs.zip ds, rfl, by rw [e1]; exact s.inn _ _ hl, fun p hp => Rp.mono s.inn _ _ (e3 p hp), by rw [e2]; exact hk, fun qs p pq es hp => ?_⟩
    have s3 : Step pt F2 H2 (upd F2 p (.lst (qs.map (·.1)))) (upd H2 p (.lst (qs.map (·.1)))) := .laid s.inn s.good hp
    refine q _ _ _ _ rfl (s.trans s3) (.lst upd_same ?_)
    rw [e2] at es
    rw [← es]
    exact pairs_rp fun r hr => Rp.mono s3.sub _ _ (e3 r (pq.mem_iff.mp hr))
theorem alikeAll_rows : ∀ (a b : List (List Int)), PySem.W.alikeAll (a.map dT) (b.map dT) = true
  | [], _ => by rw [List.map_nil, PySem.W.alikeAll]
  | _ :: _, [] => by rw [List.map_nil, List.map_cons, PySem.W.alikeAll]
  | x :: a, y :: b => by
    have h : PySem.W.alike (dT x) (dT y) = true := by
      show PySem.W.alike (.tuple _) (.tuple _) = true
      rw [PySem.W.alike]; exact PySem.W.alike_ints x y
    rw [List.map_cons, List.map_cons, PySem.W.alikeAll, h, alikeAll_rows a b]; rfl
/-- lists of rows can be sorted -/
theorem canSort_rows (gs : List (List (List Int))) : CanSort (gs.map dLT) := by
  refine ⟨?_, .inr fun d hd => ?_, fun d hd => ?_⟩
  · refine PySem.W.AllAlike.of fun b b' => ?_
    show PySem.W.alike (.list _) (.list _) = true
    rw [PySem.W.alike]; exact alikeAll_rows b b'
  · obtain ⟨g, _, rfl⟩ := List.mem_map.mp hd
    exact ⟨(fun z => by cases z), (fun xs z => by cases z)⟩
  · obtain ⟨g, _, rfl⟩ := List.mem_map.mp hd
    have := depthAll_dT g
    simp only [dLT, PyData.depth]
    omega
end
end Fv

/-! two lists of one's own, one of them from a def that makes it anew -/
namespace Fv
open PySem PySem.Spec PyProof.Rows L2 Evl StX
section
variable {K : PySem.W.Frag} {pt : Option Pt} {σ : L2.St} {F F' F0 H0 H F2 H2 : Hp} {te ti ta tb : TE} {ts tr : TA} {t : TT} {R : PD} {d : PyData} {D : Ends} {tz tu tw : TS} {wi : TI} {l m a : Addr} {ls ms : List PyData}
theorem rp_beside {xs zs : List V} : ∀ {ns : List (List Int)}, F a = some (.lst zs) → RpAll K F xs (ns.map dT) → RpAll K (L2.del F a) xs (ns.map dT) := by
  induction xs with
  | nil =>
    intro ns hf h
    cases ns with
    | nil => exact .nil
    | cons n ns => cases h
  | cons x xs ih =>
    intro ns hf h
    cases ns with
    | nil => cases h
    | cons n ns =>
      cases h with
      | cons h1 h2 =>
        refine .cons ?_ (ih hf h2)
        obtain ⟨b, ys, rfl, hx, hb⟩ := rp_tup h1
        have e3 := rpAll_ints hb
        subst e3
        have z : b ≠ a := fun z => by rw [z, hf] at hx; cases hx
        exact .tup (by rw [L2.del_ne z]; exact hx) (rpAll_of_ints n)
/-- m = [], beside a list that was made anew -/
theorem t_thaw {j : Nat} {ns : List (List Int)} (g0 : Good pt F0 H0) (i0 : Ex F0 H0) (s : Step pt F0 H0 F H) (hr : Rp K F (.ref a) (dLT ns)) (ha : H0 a = none)
    (k : ∀ m F2 H2, Two K pt F0 H0 a m F2 H2 (ns.map dT) [] → Ex F0 F2 → tz D (σ.set j (some (.ref m))) H2) : tSeq (tAsg (tLst tNil) (gName j)) tz D σ H := by
  obtain ⟨b, xs, eb, hl, hxs⟩ := rp_lst hr
  cases eb
  have f0 : F0 a = none := not_in i0 ha
  have keepF : Ex F0 (L2.del F a) := fun b o h => by
    have z : b ≠ a := fun z => by rw [z, f0] at h; cases h
    rw [L2.del_ne z]; exact s.sub _ _ h
  have s1 : Step pt F0 H0 (L2.del F a) H := by
    refine ⟨keepF, fun b o h => ?_, s.keep, fun q hq => ⟨?_, (s.good q hq).2⟩, fun b h1 h2 => ?_⟩
    · by_cases z : b = a
      · rw [z, L2.del_same] at h; cases h
      · rw [L2.del_ne z] at h; exact s.inn _ _ h
    · by_cases z : q.p = a
      · rw [z, L2.del_same]
      · rw [L2.del_ne z]; exact (s.good q hq).1
    · by_cases z : b = a
      · rw [z, L2.del_same]
      · rw [L2.del_ne z]; exact s.new b h1 h2
  refine ⟨Nat.zero_le _, fun m hm => ?_⟩
  have hma : m ≠ a := fun z => by rw [z, s.inn _ _ hl] at hm; cases hm
  have hm0 := s.back m hm
  have fm : L2.del F a m = none := not_in s1.inn hm
  exact k m _ _ ⟨s1.put g0 hm0 fm, hma.symm, ha, hm0, L2.del_same, fm, ⟨xs, by rw [upd_ne hma.symm]; exact s.inn _ _ hl, rp_beside hl hxs⟩, ⟨[], upd_same, .nil⟩⟩ keepF
/-- the second list, read for a while as if it were fixed -/
theorem Two.fix (g0 : Good pt F0 H0) (w : Two K pt F0 H0 l m F H ls ms) : ∃ Fp, Ex F Fp ∧ Ex Fp H ∧ Good pt Fp H ∧ Rp K Fp (.ref m) (.list ms) ∧ ∀ F2 H2, Step pt Fp H F2 H2 → ∃ F3, Two K pt F0 H0 l m F3 H2 ls ms ∧ Ex F F3 := by
  obtain ⟨ys, b1, b2⟩ := w.e2
  obtain ⟨xs, a1, a2⟩ := w.e1
  have e1 : Ex F (upd F m (.lst ys)) := Ex.new w.o2
  have sp : Step pt F0 H0 (upd F m (.lst ys)) H := by
    refine ⟨w.step.sub.trans e1, fun b u hb => ?_, w.step.keep, fun q hq => ⟨?_, (w.step.good q hq).2⟩, fun b h1 h2 => ?_⟩
    · by_cases z : b = m
      · rw [z, upd_same] at hb; rw [z, b1]; exact hb
      · rw [upd_ne z] at hb; exact w.step.inn b u hb
    · rw [upd_ne (off_pot g0 w.h2 q hq).1.symm]; exact (w.step.good q hq).1
    · have z : b ≠ m := loose_ne h2 w.h2
      rw [upd_ne z]; exact w.step.new b h1 h2
  refine ⟨_, e1, sp.inn, sp.good, .lst upd_same (RpAll.mono e1 _ _ b2), fun F2 H2 s => ?_⟩
  have st := sp.trans s
  obtain ⟨f2l, h2l⟩ := Step.beside g0 w.h1 (by rw [upd_ne w.ne]; exact w.o1) a1 s
  have hm2 : F2 m = some (.lst ys) := s.sub _ _ upd_same
  have keepF : Ex F (L2.del F2 m) := fun b o h => by
    have z : b ≠ m := fun z => by rw [z, w.o2] at h; cases h
    rw [L2.del_ne z]; exact s.sub _ _ (e1 _ _ h)
  refine ⟨L2.del F2 m, ⟨⟨w.step.sub.trans keepF, fun b o h => ?_, st.keep, fun q hq => ⟨?_, (st.good q hq).2⟩, fun b h1 h2 => ?_⟩, w.ne, w.h1, w.h2, by rw [L2.del_ne w.ne]; exact f2l, L2.del_same, ⟨xs, h2l, RpAll.mono keepF _ _ a2⟩, ⟨ys, s.inn _ _ hm2, RpAll.mono keepF _ _ b2⟩⟩, keepF⟩
  · by_cases z : b = m
    · rw [z, L2.del_same] at h; cases h
    · rw [L2.del_ne z] at h; exact s.inn _ _ h
  · by_cases z : q.p = m
    · rw [z, L2.del_same]
    · rw [L2.del_ne z]; exact (st.good q hq).1
  · by_cases z : b = m
    · rw [z, L2.del_same]
    · rw [L2.del_ne z]; exact st.new b h1 h2
/-- if t: .. else: .., where t reads the second list -/
theorem t_if2Fix {b : Bool → Prop} (g0 : Good pt F0 H0) (w : Two K pt F0 H0 l m F H ls ms) (h : ∀ Fp, Ex F Fp → Rp K Fp (.ref m) (.list ms) → EtG pt t σ Fp b) (h1 : b true → ∀ F2 H2, Two K pt F0 H0 l m F2 H2 ls ms → Ex F F2 → tu D σ H2) (h2 : b false → ∀ F2 H2, Two K pt F0 H0 l m F2 H2 ls ms → Ex F F2 → tw D σ H2) : tIfS t tu tw D σ H := by
  obtain ⟨Fp, e1, e2, gd, r, back⟩ := w.fix g0
  exact h Fp e1 r H e2 gd _ fun c F2 H2 hc s => by
    obtain ⟨F3, w3, e3⟩ := back F2 H2 s
    cases c with
    | true => exact h1 hc F3 H2 w3 e3
    | false => exact h2 hc F3 H2 w3 e3
/-- if l: .. else: .. -/
theorem t_ifOwn2 {i : Nat} (w : Two K pt F0 H0 l m F H ls ms) (hl : σ[i]? = some (some (.ref l))) (h1 : ls ≠ [] → tu D σ H) (h2 : ls = [] → tw D σ H) : tIfS (fun σ H Q => tVar i σ H fun x H' => ∃ k, TruV K x H' k ∧ Q k H') tu tw D σ H := by
  obtain ⟨xs, a1, a2⟩ := w.e1
  have e : xs.isEmpty = ls.isEmpty := by have := a2.length; cases xs <;> cases ls <;> simp_all
  refine ⟨.ref l, hl, !xs.isEmpty, .inl ⟨xs, sq_of a1, rfl⟩, ?_⟩
  rw [e]
  cases ls with
  | nil => exact h2 rfl
  | cons x r => exact h1 (by simp)
/-- x = l.pop(draw(pot, len(l))) -/
theorem t_popAsg {q : Pt} {P : Int → Prop} {R : Int → PD} {E : XK} {il iv ip : Nat} (g0 : Good (some q) F0 H0) (w : Two K (some q) F0 H0 l m F H ls ms) (hl : σ[il]? = some (some (.ref l))) (hp : σ[ip]? = some (some (.ref q.p)))
    (hP : P (ls.length : Int)) (hz : ls.length ≤ 100000) (hR : ∀ d, R (ls.length : Int) d → ∃ k : Nat, d = .int (k : Int) ∧ k < ls.length)
    (k : ∀ (i : Nat) (hi : i < ls.length) v F2 H2, Two K (some q) F0 H0 l m F2 H2 (ls.eraseIdx i) ms → Ex F F2 → Rp K F2 v ls[i] → tz D (σ.set iv (some v)) H2) :
    tSeq (tAsg (tBM K "list" rPopAt (tVar il) (tCons (tCall (spP K P R) [] E (tCons (tVar ip) (tCons (tCB (rLen K) (tCons (tVar il) tNil)) tNil))) tNil)) (gName iv)) tz D σ H := by
  obtain ⟨xs, a1, a2⟩ := w.e1
  refine ⟨.ref l, hl, .inl ⟨rfl, xs, sq_of a1⟩, _, hp, .ref l, hl, l, xs, rfl, .inl (SqL.of a1), ?_⟩
  refine ⟨q, (xs.length : Int), F, rfl, by rw [a2.length]; exact hP, w.step.inn, w.step.good, fun d v F2 H2 hd s hv => ?_⟩
  rw [a2.length] at hd
  obtain ⟨j, rfl, hj⟩ := hR d hd
  obtain rfl := rp_int hv
  have w2 := w.run g0 s
  obtain ⟨xs', c1, c2⟩ := w2.e1
  have hxl := c2.length
  obtain ⟨y, hy, ry⟩ := RpAll.getD c2 (List.getElem?_eq_getElem hj)
  have w3 := w2.put1 g0 (RpAll.erase j c2)
  refine ⟨l, xs', (j : Int), j, y, rfl, rfl, c1, by omega, by omega, seqIndex_of (by omega) (by omega), hy, ?_⟩
  exact k j hj y _ _ w3 s.sub ry
end
end Fv

/-! sorted(xs, key=f), f a def of the text -/
namespace PySem.W
open PySem PySem.Calls PyProof.Rows
section
variable {prog : Program} {w : World} {A : Around} {E : Value → Shared → Prop} {s : Shared} {a ks : Addr} {b : Bool} {ws : List Value} {ep : Nat} {P : PySem.Fin → Shared → Prop} {dk : List PyData} {f : Value}
theorem keyI_rest (Iv : Nat → Array Value → Shared → Prop) (h0 : Iv 0 #[] s) (hka : ks ≠ a)
    (at_ : ∀ i kA s', Iv i kA s' → kA.size = i ∧ (∃ e, s'.heap.get? ks = some (seqObj "list" kA e)) ∧ s'.heap.get? a = some (seqObj "list" #[] ep))
    (turn : ∀ i v, ws[i]? = some v → ∀ kA s', Iv i kA s' → wpAny (model prog w) A (call f [v]) (fun u s'' => (∃ e, s''.heap.get? ks = some (seqObj "list" kA e)) ∧ Iv (i + 1) (kA.push u) { s'' with heap := s''.heap.update ks (Obj.mapSeq (·.push u)) }) (fun _ _ => False) s')
    (nl : dk.length = ws.length) (zl : ws.length ≤ sizeLine) (al : AllAlike dk) (so : Sortable dk) (up : ∀ d, d ∈ dk → A.units + d.depth < cLine)
    (fin : ∀ kA s', Iv ws.length kA s' → EachIs (fun v k => ∃ as, Reads s'.heap v k as) kA.toList dk ∧ ∀ h' tk out c, (∀ b o, b ≠ a → b ≠ ks → s'.heap.get? b = some o → h'.get? b = some o) → h'.get? a = some (seqObj "list" (List.toArray out) c) → KeyedOut b dk ws out → P (.done (.ret .none)) { s' with heap := h', toks := tk }) :
    wpAny (model prog w) A (ksk_rest a f b ws.toArray ep (.ref ks)) P E s := by
  unfold ksk_rest
  refine wpAny_bind (wpAny_rule ?_)
  first | rw [List.forIn_toArray] | (rw [← Array.forIn_toList]; simp only [List.toList_toArray]) | rw [← Array.forIn_toList]
  refine wpAny_bind (ksk_fold (fun i s' => ∃ kA, Iv i kA s') ws 0 s ⟨#[], h0⟩ ?step ?done)
  case step =>
    rintro j x s' hx ⟨kA, hI⟩
    simp only [Nat.zero_add] at hI ⊢
    have jl : j < ws.length := (List.getElem?_eq_some_iff.mp hx).1
    obtain ⟨hsz, _, _⟩ := at_ j kA s' hI
    refine wpAny_bind (wpAny_attempt (wpAny_mono (turn j x hx kA s' hI) (fun v s'' he => ?_) fun _ _ hF => hF.elim))
    obtain ⟨⟨e, nk⟩, hI2⟩ := he
    try dsimp only
    have hz : kA.size ≤ ws.length := by omega
    refine wpAny_bind (listUpdate_at nk rfl ?_ (Nat.le_trans hz zl) (Nat.le_trans (Nat.le_of_eq (Array.size_push ..)) (Nat.succ_le_succ (Nat.le_trans hz zl))))
    exact wpAny_pure ⟨rfl, kA.push v, hI2⟩
  case done =>
    rintro s' ⟨kA, hI⟩
    simp only [Nat.zero_add] at hI
    obtain ⟨hsz, ⟨e, nk⟩, na⟩ := at_ _ kA s' hI
    obtain ⟨hk', fin'⟩ := fin kA s' hI
    try dsimp only
    refine wpAny_bind (listItems_at nk rfl ?_)
    have sb := Heap.SameBut.update s'.heap ks fun o => { o with data := .freed }
    have gone : (s'.heap.update ks fun o => { o with data := .freed }).get? ks = none := PyProof.Rows.TI.get?_update_freed _ _
    refine keyH_end (κ := dataKind s'.heap dk) (h₁ := s'.heap.update ks fun o => { o with data := .freed }) (fun b o hb ob => ?_) gone nk na hka (SortsAt.data (s := s') hk' al so up) hsz zl fun h3 tk3 c k3 n3 => fin' h3 tk3 _ c (fun b o hb hbk ob => k3 b o hb ((sb.2 b hbk).trans ob)) n3 ⟨s'.heap, kA.toList, al, rfl, hk'⟩
    by_cases hbk : b = ks
    · rw [hbk, gone] at ob; cases ob
    · exact (sb.2 b hbk).symm.trans ob
theorem keyI_tree {n : Nat} (ob : s.heap.get? a = some (seqObj "list" ws.toArray n)) (zl : ws.length ≤ sizeLine)
    (body : ∀ h2 ep ks, (∀ b o, b ≠ a → s.heap.get? b = some o → h2.get? b = some o) → h2.get? a = some (seqObj "list" #[] ep) → ks ≠ a → s.heap.objs.size ≤ ks → h2.get? ks = some (seqObj "list" #[] 0) →
      wpAny (model prog w) A (ksk_rest a f b ws.toArray ep (.ref ks)) P E { s with heap := h2 }) :
    wpAny (model prog w) A (ksk_tree a f b) P E s := by
  have la : a < s.heap.objs.size := Heap.lt_size ob
  obtain ⟨ep, ob1⟩ : ∃ ep, (s.heap.update a (Obj.mapSeq fun _ => (#[] : Array Value))).get? a = some (seqObj "list" #[] ep) := ⟨_, get?_update_seq ob fun _ => #[]⟩
  have lk : ((s.heap.update a (Obj.mapSeq fun _ => (#[] : Array Value))).push (seqObj "tuple" ws.toArray 0)).objs.size = s.heap.objs.size + 1 := by rw [size_push', Heap.size_update]
  unfold ksk_tree
  refine wpAny_bind (listItems_at ob rfl ?_)
  refine wpAny_bind (listUpdate_at ob rfl ?_ (by rw [List.size_toArray]; exact zl) (Nat.zero_le _))
  refine wpAny_bind (seqEpoch_at ob1 rfl ?_)
  refine wpAny_bind (wpAny_newTuple ?_ (by show ws.length ≤ _; exact zl))
  refine wpAny_bind (wpAny_newList ?_ (Nat.zero_le _))
  refine wpAny_holding ?_
  exact body (((s.heap.update a (Obj.mapSeq fun _ => (#[] : Array Value))).push (seqObj "tuple" ws.toArray 0)).push (seqObj "list" #[] 0)) ep _ (fun b o hb q => sortingHeap_old hb q) (Heap.get?_push_of_some _ (Heap.get?_push_of_some _ ob1)) (by rw [lk]; exact Nat.ne_of_gt (Nat.lt_succ_of_lt la)) (by rw [lk]; exact Nat.le_succ _) (Heap.get?_push_size _ rfl)
end
end PySem.W

namespace Fv
open PySem PySem.Spec PyProof.Rows L2 Evl StX
def sortBy (ks : PyData → PyData) (ds : List PyData) : List PyData := ds.mergeSort (PySem.W.dataLe false ks)
theorem sortBy_perm (ks : PyData → PyData) (ds : List PyData) : (sortBy ks ds).Perm ds := List.mergeSort_perm _ _
section
variable {X : Cx} {K : PySem.W.Frag} {pt : Option Pt} {σ : L2.St} {F F' H : Hp} {te : TE} {ι : Type} {A : ι → List PyData} {Pi : ι → Prop} {fK : ι → PyData} {f : Addr} {fd : FuncData} {x : Str} {k : Nat}
def rSortKey (K : PySem.W.Frag) (A : ι → List PyData) (Pi : ι → Prop) (fK : ι → PyData) (f : Addr) (ks : PyData → PyData) : List V → List V → Hp → VK → Prop := fun xs zs H Q => ∃ (F : Hp) (l : Addr) (ps : List (V × PyData)), xs = [.ref l] ∧ zs = [.ref f] ∧ Ex F H ∧ F l = some (.lst (ps.map (·.1))) ∧ (∀ p ∈ ps, Rp K F p.1 p.2) ∧
  PySem.W.AllAlike (ps.map fun p => ks p.2) ∧ PySem.W.Sortable (ps.map fun p => ks p.2) ∧ (∀ p ∈ ps, (ks p.2).depth ≤ 10) ∧ (∀ p ∈ ps, ∃ i, A i = [p.2] ∧ Pi i ∧ fK i = ks p.2) ∧
  ∀ F2 H2 a, Step none F H F2 H2 → H2 a = none → Q (.ref a) (upd H2 a (.lst ((ps.mergeSort (PySem.W.dataLe false fun p => ks p.2)).map (·.1))))
theorem ad_ne {a b n : Nat} (h : a < n) (k : n ≤ b) : a ≠ b := by omega
/-- two new untracked objects beside what is tracked -/
theorem inv_pin {pins : List (Addr × Obj)} {s : Shared} {n : Nat} {a : Addr} {o : Obj} (I : Inv X pins σ H s) (hn : n ≤ a) (hs : X.env.locals < n) (hH : H a = none) (hf : a ∉ X.fs) (ho : s.heap.get? a = some o) (hd : ∀ v, o.data ≠ .cell v) : Inv X ((a, o) :: pins) σ H s :=
  I.pins_of fun p hp => by
    rcases List.mem_cons.mp hp with rfl | hp
    · exact ⟨ho, hH, (ad_ne hs hn).symm, hf, hd⟩
    · exact I.pin p (List.mem_append_right _ hp)
theorem inv_unpin {pins : List (Addr × Obj)} {s : Shared} {q : Addr × Obj} (I : Inv X (q :: pins) σ H s) : Inv X pins σ H s := I.pins_of fun p hp => I.pin p (List.mem_append_right _ (List.mem_cons_of_mem _ hp))
theorem reads_each {s : Shared} {pins : List (Addr × Obj)} (I : Inv X pins σ H s) : ∀ {vs : List V} {us : List Value} {ds : List PyData}, RpAll X.K H vs ds → Vals vs us → PySem.W.EachIs (fun v d => ∃ as, Reads s.heap v d as) us ds
  | _, _, [], h, r => by cases h; cases r; exact .nil
  | _, _, d :: ds, h, r => by
    cases h with
    | cons h1 h2 => cases r with
      | cons r1 r2 => exact .cons (Dp.reads I d _ _ (Rp.dp _ _ h1) r1) (reads_each I h2 r2)
theorem c_sortKey {ks : PyData → PyData} (G : FnOk X.prog X.w X.K X.mg X.base CX0 k f fd [x] (PSp K A Pi fK)) (hb : Binds X.K fd [x] []) (hr : Room (k + 2) X.A) (h : X.K = K := by rfl) : CallRK X (.builtin "sorted") [Str.ofString "key"] (rSortKey K A Pi fK f ks) := by
  subst h
  intro pins s σ H xs zs us ws Q I r rz q
  obtain ⟨F, l, ps, rfl, rfl, eF, hl, hp, hal, hso, hdp, hA, q⟩ := q
  obtain rfl := Vals.ref1 r
  obtain ⟨w1, rfl, e1⟩ := vals1 rz
  obtain rfl : w1 = Value.ref f := e1
  obtain ⟨its, rv, pl, hz⟩ := I.list (SqL.of (eF _ _ hl))
  have hz' : its.length ≤ sizeLine := by rw [← rv.length]; exact hz
  have ea : PySem.W.EachIs (fun u b => RelV b.1 u) its ps := each_of_vals rv
  have hlen : ps.length = its.length := ea.length.symm
  refine PySem.W.sorted_of_sort pl.isList hz' (PyProof.Rows.ksk_s1 _ _) (fun _ => PyProof.Rows.ksk_l1 _ _) fun E' => ?_
  show wpAny _ _ (Builtin.«list.sort» ⟨[.ref (s.heap.objs.size + 1)], [(Str.ofString "key", .ref f)]⟩) _ _ _
  rw [PyProof.Rows.ksk_t1]
  have n0 : s.heap.objs.size ≤ s.heap.objs.size + 1 := Nat.le_succ _
  have hsc : s.heap.objs.size + 1 < (PySem.W.copyHeap s.heap its).objs.size := Heap.lt_size (PySem.W.copyHeap_at s.heap its)
  refine PySem.W.keyI_tree (s := { s with heap := PySem.W.copyHeap s.heap its }) (PySem.W.copyHeap_at s.heap its) hz' fun h2 e1 kS kp na hka hkS nk => ?_
  have lkS : s.heap.objs.size ≤ kS := Nat.le_trans (Nat.le_of_lt (Nat.lt_of_succ_lt hsc)) hkS
  have k2 : ∀ b u, s.heap.get? b = some u → h2.get? b = some u := fun b u e => kp b u (Nat.ne_of_lt (Nat.lt_succ_of_lt (Heap.lt_size e))) (PySem.W.copyHeap_old e)
  have I2 : Inv X pins σ H { s with heap := h2 } := I.kept (t' := s.toks) k2
  have Ia : Inv X ((s.heap.objs.size + 1, seqObj "list" #[] e1) :: pins) σ H { s with heap := h2 } := inv_pin I2 n0 I.lt (I.hok.fresh n0) (I.nofs n0) na (fun v z => by cases z)
  have Ik : Inv X ((kS, seqObj "list" #[] 0) :: (s.heap.objs.size + 1, seqObj "list" #[] e1) :: pins) σ H { s with heap := h2 } := inv_pin Ia lkS I.lt (I.hok.fresh lkS) (I.nofs lkS) nk (fun v z => by cases z)
  have old : ∀ p ∈ X.pn ++ ((s.heap.objs.size + 1, seqObj "list" #[] e1) :: pins), p.1 ≠ kS := fun p hp z => by
    have hm : p ∈ X.pn ++ pins ∨ p = (s.heap.objs.size + 1, seqObj "list" #[] e1) := by
      rcases List.mem_append.mp hp with y | y
      · exact .inl (List.mem_append_left _ y)
      · rcases List.mem_cons.mp y with y | y
        · exact .inr y
        · exact .inl (List.mem_append_right _ y)
    rcases hm with y | y
    · exact ad_ne (Heap.lt_size (I.pin p y).1) lkS z
    · rw [y] at z; exact hka z.symm
  have cellk : ∀ y c, X.env.cells.lookup y = some c → c < s.heap.objs.size := fun y c e => by
    obtain ⟨v, o, ho, _⟩ := I.cell y c e
    exact Heap.lt_size ho
  refine PySem.W.keyI_rest (dk := ps.map fun p => ks p.2) (s := { s with heap := h2 }) (fun i kA s' => ∃ H' F' kvs e, Inv X ((kS, seqObj "list" kA e) :: (s.heap.objs.size + 1, seqObj "list" #[] e1) :: pins) σ H' s' ∧ Step none F H F' H' ∧ Vals kvs kA.toList ∧ RpAll X.K F' kvs ((ps.map fun p => ks p.2).take i) ∧ kA.size = i)
    ⟨H, F, [], 0, Ik, Step.refl eF .nil, .nil, .nil, rfl⟩ hka (fun i kA s' h => ?_) (fun i v hv kA s' h => ?_) (by rw [List.length_map]; exact hlen) hz' hal hso (fun d hd => ?_) (fun kA s' h => ?_)
  · obtain ⟨H', F', kvs, e, I', _, _, _, hs⟩ := h
    exact ⟨hs, ⟨e, (I'.pin _ (List.mem_append_right _ (List.mem_cons_self ..))).1⟩, (I'.pin (s.heap.objs.size + 1, seqObj "list" #[] e1) (List.mem_append_right _ (List.mem_cons_of_mem _ (List.mem_cons_self ..)))).1⟩
  · obtain ⟨H', F', kvs, e, I', st, rk, rp, hs⟩ := h
    have hi : i < its.length := (List.getElem?_eq_some_iff.mp hv).1
    obtain ⟨p, hpp⟩ : ∃ p, ps[i]? = some p := ⟨_, List.getElem?_eq_getElem (by omega)⟩
    obtain ⟨u, hu, ru⟩ := Vals.get rv (i := i) (x := p.1) (by rw [List.getElem?_map, hpp]; rfl)
    obtain rfl : u = v := by rw [hv] at hu; exact (Option.some.inj hu).symm
    have hm : p ∈ ps := List.mem_of_getElem? hpp
    obtain ⟨j, hj1, hj2, hj3⟩ := hA p hm
    have sp : PSp X.K A Pi fK [p.1] H' (fun v' H2 => ∃ F2, Step none F' H' F2 H2 ∧ Rp X.K F2 v' (ks p.2)) E0 := ⟨j, F', hj2, st.inn, by rw [hj1]; exact .one (Rp.mono st.sub _ _ (hp p hm)), fun v' F2 H2 s2 hv2 => ⟨F2, s2, by rw [← hj3]; exact hv2⟩⟩
    refine wpAny_call (codeAny_mono (G.run X.A.in1.in1 X.stack s' H' ⟨[u], []⟩ [u] [p.1] _ E0 hr.in1.in1 I'.env0.in1.in1 (by
      have := hb s' [u] I'.kIn rfl
      simpa using this) (.cons ru .nil) sp) fun r s'' hq => ?_)
    cases r with
    | error e => exact hq.elim
    | ok fl =>
      cases fl with
      | next => exact False.elim hq
      | brk => exact False.elim hq
      | cont => exact False.elim hq
      | ret w1 =>
        obtain ⟨v', H2, I3, rw1, F2, s2, hv2⟩ := I'.after hq
        have nk2 := (I3.pin (kS, seqObj "list" kA e) (List.mem_append_right _ (List.mem_cons_self ..)))
        refine ⟨⟨e, nk2.1⟩, ?_⟩
        have s1 := Heap.SameBut.update s''.heap kS (Obj.mapSeq (·.push w1))
        obtain ⟨c2, hc2⟩ : ∃ c2, (s''.heap.update kS (Obj.mapSeq (·.push w1))).get? kS = some (seqObj "list" (kA.push w1) c2) := ⟨_, get?_update_seq nk2.1 (·.push w1)⟩
        have I4 := (inv_unpin I3).turned (t' := s''.toks) (it := kS) (fun b o hb e => (s1.2 b hb).trans e) nk2.2.1 nk2.2.2.1 (.inr (Nat.le_trans I.sz lkS)) (fun y c e => ad_ne (cellk y c e) lkS) old
        have I5 := inv_pin I4 lkS I.lt nk2.2.1 nk2.2.2.2.1 hc2 (fun v z => by cases z)
        refine ⟨H2, F2, kvs ++ [v'], c2, I5, st.trans s2, ?_, ?_, ?_⟩
        · have : (kA.push w1).toList = kA.toList ++ [w1] := by simp
          rw [this]; exact rk.append (.cons rw1 .nil)
        · have : (ps.map fun p => ks p.2).take (i + 1) = (ps.map fun p => ks p.2).take i ++ [ks p.2] := by rw [List.take_add_one, List.getElem?_map, hpp]; rfl
          rw [this]; exact RpAll.append (RpAll.mono s2.sub _ _ rp) (.one hv2)
        · rw [Array.size_push, hs]
  · obtain ⟨p, hm, rfl⟩ := List.mem_map.mp hd
    have := hdp p hm
    have := hr.un
    show X.A.units + 1 + 1 + _ < _
    omega
  · obtain ⟨H', F', kvs, e, I', st, rk, rp, hs⟩ := h
    have tk : (ps.map fun p => ks p.2).take its.length = ps.map fun p => ks p.2 := List.take_of_length_le (by rw [List.length_map]; omega)
    rw [tk] at rp
    refine ⟨reads_each I' (RpAll.mono st.inn _ _ rp) rk, fun h' tk out c kk na' ko => ⟨rfl, ?_⟩⟩
    have out' := PySem.W.keyedOut_each (R := fun u (b : V × PyData) => RelV b.1 u) (fun b => ks b.2) ko ea
    generalize eq : ps.mergeSort (PySem.W.dataLe false fun b : V × PyData => ks b.2) = qs at out'
    have pq : qs.Perm ps := eq ▸ List.mergeSort_perm _ _
    have vo : Vals (qs.map (·.1)) out := vals_of_each out'
    have len : (qs.map (·.1)).length ≤ sizeLine := by rw [List.length_map, pq.length_eq]; omega
    have pa := I'.pin (s.heap.objs.size + 1, seqObj "list" #[] e1) (List.mem_append_right _ (List.mem_cons_of_mem _ (List.mem_cons_self ..)))
    have pk := I'.pin (kS, seqObj "list" kA e) (List.mem_append_right _ (List.mem_cons_self ..))
    have Hn : H' (s.heap.objs.size + 1) = none := pa.2.1
    have Hk : H' kS = none := pk.2.1
    have I6 := inv_unpin (inv_unpin I')
    have hq := q F' H' (s.heap.objs.size + 1) st Hn
    rw [eq] at hq
    refine ⟨.ref (s.heap.objs.size + 1), upd H' (s.heap.objs.size + 1) (.lst (qs.map (·.1))), ?_, rfl, hq⟩
    refine I6.step (g' := s'.gens) (d' := s'.drawn) (t' := tk) (ch := [s.heap.objs.size + 1, kS]) (fun b hb => ?_) (fun b o _ _ hc e _ => kk b o (fun z => hc (by simp [z])) (fun z => hc (by simp [z])) e) (fun b o _ _ hc e _ => ⟨o.slots, kk b o (fun z => hc (by simp [z])) (fun z => hc (by simp [z])) e⟩)
      (fun b o hc e n => by rw [upd_ne (fun z => hc (by simp [z]))]; exact n) (fun b o hc e => ⟨o, kk b o (fun z => hc (by simp [z])) (fun z => hc (by simp [z])) e⟩) (fun b xs e => by rw [upd_ne (ne_of_none e Hn)]; exact e) (fun b o u e => by rw [upd_ne (ne_of_none e Hn)]; exact e) (fun b p e => ⟨#[], by rw [upd_ne (ne_of_none e Hn), e]; simp⟩) (fun m hm => ?_) (fun b u e => ?_) I6.bare
    · have hb' : b = s.heap.objs.size + 1 ∨ b = kS := by simpa using hb
      have hb2 : s.heap.objs.size ≤ b := by
        rcases hb' with z | z
        · rw [z]; exact n0
        · rw [z]; exact lkS
      exact ⟨.inr (Nat.le_trans I.sz hb2), (ad_ne I.lt hb2).symm, fun y c e => ad_ne (cellk y c e) hb2, fun p hp => ad_ne (Heap.lt_size (I.pin p hp).1) hb2⟩
    · obtain ⟨o, es, ep, ho, r⟩ := hm
      exact ⟨o, es, ep, kk _ o (ad_ne I.lt n0) (ad_ne I.lt lkS) ho, r⟩
    · by_cases hb : b = s.heap.objs.size + 1
      · subst hb
        rw [upd_same] at e
        cases e
        exact ⟨len, out, c, vo, na'⟩
      · rw [upd_ne hb] at e
        refine (I6.hok b u e).stay (fun c v hc q => kk c v ?_ ?_ q) (fun c q => by rw [upd_ne (ne_of_none q Hn)]; exact q) fun c xs q => by rw [upd_ne (ne_of_none q Hn)]; exact q
        · rintro rfl
          rcases hc with z | z
          · exact hb z.symm
          · rw [Hn] at z; cases z
        · rintro rfl
          rcases hc with z | z
          · rw [← z, Hk] at e; cases e
          · rw [Hk] at z; cases z
theorem g_sortKey {ks : PyData → PyData} {ds : List PyData} (h : EvG K pt te σ F (Is (.list ds))) (hal : PySem.W.AllAlike (ds.map ks)) (hso : PySem.W.Sortable (ds.map ks)) (hdp : ∀ d ∈ ds, (ks d).depth ≤ 10) (hA : ∀ d ∈ ds, ∃ i, A i = [d] ∧ Pi i ∧ fK i = ks d) :
    EvG K pt (tCKw (rSortKey K A Pi fK f ks) (tCons te tNil) (tCons (tC (.ref f)) tNil)) σ F (Is (.list (sortBy ks ds))) := fun H1 i g Q q =>
  h H1 i g _ fun d v F2 H2 hd s hv => by
    subst hd
    obtain ⟨a, xs, rfl, hl, ha⟩ := rp_lst hv
    obtain ⟨e1, e2, e3⟩ := rp_pairs ha
    have e4 : ((xs.zip ds).map fun p => ks p.2) = ds.map ks := by rw [← e2, List.map_map, e2]; rfl
    have m2 : ∀ p ∈ xs.zip ds, p.2 ∈ ds := fun p hp => by rw [← e2]; exact List.mem_map_of_mem hp
    refine ⟨F2, a, xs.zip ds, rfl, rfl, s.inn, by rw [e1]; exact hl, e3, by rw [e4]; exact hal, by rw [e4]; exact hso, fun p hp => hdp _ (m2 p hp), fun p hp => hA _ (m2 p hp), fun F3 H3 p s2 hp => ?_⟩
    have s2' : Step pt F2 H2 F3 H3 := s2.lift s.good
    generalize eq : (xs.zip ds).mergeSort (PySem.W.dataLe false fun b : V × PyData => ks b.2) = qs
    have pq : qs.Perm (xs.zip ds) := eq ▸ List.mergeSort_perm _ _
    have snd : qs.map (·.2) = sortBy ks ds := by
      rw [← eq]
      have := PySem.W.sort_maps (r := PySem.W.dataLe false fun b : V × PyData => ks b.2) (s := PySem.W.dataLe false ks) (l := xs.zip ds) (fun x : V × PyData => x.2) fun _ _ _ _ => rfl
      rw [this, e2]; rfl
    have s3 : Step pt F3 H3 (upd F3 p (.lst (qs.map (·.1)))) (upd H3 p (.lst (qs.map (·.1)))) := .laid s2'.inn s2'.good hp
    refine q _ _ _ _ rfl ((s.trans s2').trans s3) (.lst upd_same ?_)
    rw [← snd]
    exact pairs_rp fun r hr => Rp.mono (s2'.sub.trans s3.sub) _ _ (e3 r (pq.mem_iff.mp hr))
end
end Fv

/-! an error of one's own whose context is told; comprehensions and calls while an error is handled -/
namespace Fv
open PySem PySem.Spec PyProof.Rows L2 L2H Evl StX
section
variable {X : Cx}
theorem pmk_oexN {CX : CXT} {x : Str} {C fI : Addr} {k : Nat} {fd : FuncData} {ps : List Str} {sp : Sp} {p pos : Pos} {e : Expr} {es : List Expr} {ta : TA} (T : OexC X.K C) (iC : PySem.W.findIn X.K (.ref C) "__init__" = some (some (.ref fI))) (tI : PySem.W.typeIn X.K (.ref fI) = some (.type "function"))
    (F1 : FnOk X.prog X.w X.K X.mg X.base CX k fI fd ps sp) (hr : Room (k + 1) X.A) (hb : Binds X.K fd ps []) (hx : Passes CX X (fun _ _ _ => False)) (hg : Gl X x) (hm : X.mg x = some (.ref C)) (ha : PA X (e :: es) ta)
    (hdb : (x == ("__debug__" : Str)) = false := by decide) (st : starEach (e :: es) X.env = (false, eval e X.env) :: starEach es X.env := by rfl) (np : (backTo pos (starEach es X.env)).any (·.1) = false := by rfl) :
 L2N.PMk X (.Call (.Name x p) (e :: es) [] pos) (tMkO C sp [] ta) := by
  intro pins s σ H Q I h
  obtain ⟨nm, qq, N, bs, bm, sn, sub, ab, col, dd, k0, k1, k2, k3, k5, hC, hbm⟩ := T.cls
  refine wpAny_Call_Name_kw (ld_glob I hg hm (PySem.W.callWith_K (h₀ := X.base) I.ok.mod.kin T.kC (thn (ha.run pos pins s σ H _ I h) fun us t z => ?_) st np) hdb)
  obtain ⟨vs, H1, I1, rv, few, q0⟩ := z
  refine ⟨I1.kIn, ?_⟩
  show wpAny _ _ (call (.ref C) us) _ _ _
  obtain ⟨hp, g, dr, tk, os⟩ := t
  have lo : hp.objs.size ≤ hp.objs.size + 1 := Nat.le_succ _
  have q1 := q0 (hp.objs.size + 1) (I1.hok.fresh lo)
  rw [List.append_nil] at q1
  have kk : ∀ b o, hp.get? b = some o → ((hp.push (PySem.W.kdv_tup us)).push (PySem.HandSPX.excO C hp.objs.size)).get? b = some o := fun _ _ z => Heap.get?_push_of_some _ (Heap.get?_push_of_some _ z)
  have got : ((hp.push (PySem.W.kdv_tup us)).push (PySem.HandSPX.excO C hp.objs.size)).get? (hp.objs.size + 1) = some (PySem.HandSPX.excO C hp.objs.size) := by heap_get
  have J : Inv X pins σ (upd H1 (hp.objs.size + 1) (exo (hp.objs.size + 1) C none)) ⟨(hp.push (PySem.W.kdv_tup us)).push (PySem.HandSPX.excO C hp.objs.size), g, dr, tk, os⟩ :=
    I1.laid (t' := tk) (a := hp.objs.size + 1) (o := exo (hp.objs.size + 1) C none) (h' := (hp.push (PySem.W.kdv_tup us)).push (PySem.HandSPX.excO C hp.objs.size)) kk lo (exo_ok got)
  have rv2 : Vals (V.ref (hp.objs.size + 1) :: vs) (Value.ref (hp.objs.size + 1) :: us) := .cons rfl rv
  have ln : (Value.ref (hp.objs.size + 1) :: us).length = ps.length := by rw [← rv2.length]; exact F1.len _ _ _ _ q1
  have few2 : us.length ≤ sizeLine := by rw [← Paired.length rv]; exact Nat.le_trans few (by decide)
  have bd := hb _ (Value.ref (hp.objs.size + 1) :: us) J.kIn (by simpa using ln)
  rw [List.append_nil] at bd
  refine wpAny_call (PySem.HandSPX.call_own F.excBase_ValueError (fun Y => PySem.HandSPX.refsVE_contains Y bm hbm) (I1.kIn _ _ hC) (PySem.W.looks_findIn I1.kIn iC) (fun self => PySem.W.bind_fn I1.kIn self tI) few2
    (codeAny_mono (F1.run _ X.stack _ _ ⟨Value.ref (hp.objs.size + 1) :: us, []⟩ (Value.ref (hp.objs.size + 1) :: us) _ _ (fun _ _ _ => False) (hr.make C us []) (J.env0.make C us []) bd rv2 q1) fun r s2 z => ?_))
  match r, z with
  | .error er, z => exact hx pins σ _ _ er s2 J z
  | .ok (.ret u), z =>
    obtain ⟨v, H2, os2, bare2, un2, hok2, rw2, ev, d, fs, ea, ed, hd1, q2⟩ := z
    subst ev
    obtain ⟨h2, g2, d2, t2, os'⟩ := s2
    obtain ⟨t0, G, J2, kG, ge, hoe, na⟩ := mk_end0 (d2 := d2) (t2 := t2) I1 lo kk un2 hok2 os2 bare2 ea ed hd1
    exact ⟨rw2, hp.objs.size + 1, _, _, ⟨G, g2, d2, t2, os'⟩, _, .ref C, some d, rfl, J2, kG, ge, hoe, ⟨rfl, rfl, fun vs hv => by cases hv; rfl⟩, rfl, rfl, na, rfl, bare2, raises_own T.exC T.tyC, q2⟩
theorem okXN {P : Program} {w : World} {K : PySem.W.Frag} {mg : Str → Option Value} {base : Heap} {x qual : Str} {st : Stmt} {f : Addr} {fd : FuncData} {N ps : List Str} {k : Nat} {sp : Sp} (Fn : Fun K x qual st f fd) (S : FnScope N ps (defScope st)) (len : ∀ vs H Q E, sp vs H Q E → vs.length = ps.length)
    (hb : ∀ (cv : Value) (A : Around) (out : List Env) (s : Shared) (H : Hp) (vs : List V) (Q : VK) (E : XK), Room k (A.deeper (envOfC qual (defScope st) s.heap.objs.size f cv)) → sp vs H Q E →
      ∃ t, PSs (cxOf (L2N.CX P w) P w K mg base N qual (defScope st) f cv A out s H E) (defBody st) t ∧ t { nx := fun _ H2 => Q .non H2, rt := Q } (start N vs) H) : FnOk P w K mg base (L2N.CX P w) (k + 1) f fd ps sp := by
  obtain ⟨oc, od, kV, doc, pm, an, cdv, ct, osl, rfl, lk, hc⟩ := Fn.ex
  exact fn_of lk hc S len fun A out s H vs Q E hr hs => hb cdv A out s H vs Q E hr hs
theorem okH {P : Program} {w : World} {K : PySem.W.Frag} {mg : Str → Option Value} {base : Heap} {x qual : Str} {st : Stmt} {f : Addr} {fd : FuncData} {N ps : List Str} {k : Nat} {sp : Sp} (Fn : Fun K x qual st f fd) (S : FnScope N ps (defScope st)) (len : ∀ vs H Q E, sp vs H Q E → vs.length = ps.length)
    (hb : ∀ (cv : Value) (A : Around) (out : List Env) (s : Shared) (H : Hp) (vs : List V) (Q : VK) (E : XK) (p : Addr × Obj), Hot1 A p → RoomH k (A.deeper (envOfC qual (defScope st) s.heap.objs.size f cv)) → sp vs H Q E →
      ∃ t, PSs (cxH CX0 P w K mg base N qual (defScope st) f cv A out s H E p) (defBody st) t ∧ t { nx := fun _ H2 => Q .non H2, rt := Q } (start N vs) H) : FnH P w K mg base CX0 (k + 1) f fd ps sp := by
  obtain ⟨oc, od, kV, doc, pm, an, cdv, ct, osl, rfl, lk, hc⟩ := Fn.ex
  exact fn_ofH lk hc S len fun A out s H vs Q E p hot hr hs => hb cdv A out s H vs Q E p hot hr hs
/-- the block of a comprehension keeps in mind what is handled -/
abbrev blkH (X : Cx) (s : Shared) (H : Hp) (sc : Scope) (en : Env) (fp : List Addr) : Cx := { X.blk s H sc en fp with pn := X.pn }
theorem blkH_ok {s : Shared} {H : Hp} {sc : Scope} {en : Env} {fp : List Addr} (o : (X.blk s H sc en fp).Ok) : (blkH X s H sc en fp).Ok :=
  ⟨o.mod, o.kind, o.glob, o.blt, o.above, o.inj, o.has, o.cab, o.hd, o.frames, o.stk, o.exf, o.bs, o.bsz, o.noex, o.exfs, o.funs, o.frf⟩
variable {pins : List (Addr × Obj)} {σ : L2.St} {H : Hp} {s : Shared}
theorem blkH_start {sc : Scope} {own : List (Str × Nat)} {fp : List Addr} (I : Inv X pins σ H s) (bo : BlkOk X.N X.env.scope sc own) (nd : X.N.Nodup) (hf : ∀ b ∈ fp, FpOk X pins H b ∧ b < s.heap.objs.size) :
    Inv (blkH X s H sc (compEnvC sc (cellsFrom (s.heap.objs.size + 1) sc.names (cloFrom X.env.cells sc.names [])) s.heap.objs.size X.env) fp) [] (wipe σ (own.map (·.2))) H { s with heap := pushCells (s.heap.push { cls := .type "dict", data := .dict #[] }) sc.names } := by
  have J := block_start I bo nd hf
  refine ⟨blkH_ok J.ok, J.os, J.bare, J.base, J.loc, J.cell, J.free, J.freeC, fun p hp => ?_, J.hok, J.len⟩
  have hm : p ∈ X.pn ++ pins := List.mem_append_left _ (by simpa using hp)
  obtain ⟨g1, g2, g3, g4, g5⟩ := I.pin p hm
  exact ⟨pushCells_keeps _ _ _ _ (Heap.get?_push_of_some _ g1), g2, ad_ne (Heap.lt_size g1) (Nat.le_refl _), fun z => (List.mem_cons.mp (I.stkSub p.1 z)).elim g3 g4, g5⟩
theorem pe_lcH {elt tg iter : Expr} {ifs : List Expr} {sc : Scope} {own : List (Str × Nat)} {pos : Pos} {wi : TI} {g : TG} {tt : TT} {te : TE} (hot : HotC X) (nd : X.N.Nodup) (hi : PIH X tg iter wi) (bo : BlkOk X.N X.env.scope sc own)
    (hg : ∀ (s : Shared) (H : Hp) (C : Addr) (cl : List (Str × Addr)) (fp : List Addr), PG (blkH X s H sc (compEnvC sc cl C X.env) fp) tg g) (ht : ∀ (s : Shared) (H : Hp) (C : Addr) (cl : List (Str × Addr)) (fp : List Addr), PTs (blkH X s H sc (compEnvC sc cl C X.env) fp) ifs tt)
    (he : ∀ (s : Shared) (H : Hp) (C : Addr) (cl : List (Str × Addr)) (fp : List Addr), PE (blkH X s H sc (compEnvC sc cl C X.env) fp) elt te) (hs : ∀ x, foldedSetIterable iter X.env x = pure x := by intro _; rfl) :
    PE X (.ListComp elt [⟨tg, iter, ifs, 0⟩] sc pos) (tLc wi g tt te (own.map (·.2))) := by
  refine ⟨fun pins s σ H Q I h => ?_⟩
  rw [eval_ListComp]
  have clo : ∀ y ∈ sc.names, y.2 = .free → ∃ c, X.env.cells.lookup y.1 = some c := fun y hy e => (bo.free y hy e).elim (fun z => I.ok.has _ (.inl z)) (fun z => I.ok.has _ (.inr z))
  refine wpAny_comprehension_free rfl hs (closure_ok clo) bo.kind (fun y hy e => by rw [bo.uniq y hy, e]) (thn (hi.run pins s σ H _ I h) fun xv s1 hx => thn hx fun itv s2 hh => ?_)
  obtain ⟨it, fp, tn, J, H2, rfl, I2, T, st2, f2, q⟩ := hh
  refine wpAny_newObj_type (newEnv_comp ?_) (by show 0 ≤ sizeLine; decide)
  -- the list that is made, at the end of the heap
  obtain ⟨D, hD⟩ : ∃ D, s2.heap.objs.size = D := ⟨_, rfl⟩
  rw [hD]
  obtain ⟨W, ⟨m0, w0⟩, turn⟩ := q D (I2.hok.fresh (Nat.le_of_eq hD))
  obtain ⟨s3, hs3⟩ : ∃ s3 : Shared, { s2 with heap := s2.heap.push { cls := .type "list", data := .seq ([] : List Value).toArray } } = s3 := ⟨_, rfl⟩
  have e3 : s3.heap = s2.heap.push { cls := .type "list", data := .seq ([] : List Value).toArray } := by rw [← hs3]
  have up3 : ∀ b o, s2.heap.get? b = some o → s3.heap.get? b = some o := fun b o z => by rw [e3]; exact Heap.get?_push_of_some _ z
  have I3 : Inv X pins σ (upd H2 D (.lst [])) s3 := by
    subst hs3
    exact I2.laid (t' := s2.toks) up3 (Nat.le_of_eq hD) ⟨Nat.zero_le _, [], 0, .nil, by rw [← hD]; exact Heap.get?_push_size _ rfl⟩
  have lt2 : ∀ b ∈ fp, b < s2.heap.objs.size := fun b hb => by
    obtain ⟨o, e, _⟩ := T.obj _ _ st2 b hb
    exact Heap.lt_size e
  have f3 : ∀ b ∈ fp, FpOk X pins (upd H2 D (.lst [])) b ∧ b < s3.heap.objs.size := fun b hb =>
    ⟨⟨by rw [upd_ne (ad_ne (lt2 b hb) (Nat.le_of_eq hD))]; exact (f2 b hb).1, (f2 b hb).2⟩, by rw [e3, Heap.size_push]; exact Nat.lt_succ_of_lt (lt2 b hb)⟩
  have I4 := blkH_start I3 bo nd f3
  have pg := hg s3 (upd H2 D (.lst [])) s3.heap.objs.size (cellsFrom (s3.heap.objs.size + 1) sc.names (cloFrom X.env.cells sc.names [])) fp
  have pt := ht s3 (upd H2 D (.lst [])) s3.heap.objs.size (cellsFrom (s3.heap.objs.size + 1) sc.names (cloFrom X.env.cells sc.names [])) fp
  have pe := he s3 (upd H2 D (.lst [])) s3.heap.objs.size (cellsFrom (s3.heap.objs.size + 1) sc.names (cloFrom X.env.cells sc.names [])) fp
  have n3 : ∀ b ∈ fp, (upd H2 D (.lst [])) b = none := fun b hb => (f3 b hb).1.1
  rw [hs3]
  show codeAny (model X.prog X.w) X.A (.compStart (.ListComp elt [⟨tg, iter, ifs, 0⟩] sc pos) 0 (.ref it) (.ref D) (compEnvC sc (cellsFrom (s3.heap.objs.size + 1) sc.names (cloFrom X.env.cells sc.names [])) s3.heap.objs.size X.env)) (compPost (model X.prog X.w) X.A X.xe none (EP X pins σ Q) (.ref D) s3.heap.objs.size) { s3 with heap := pushCells (s3.heap.push { cls := .type "dict", data := .dict #[] }) sc.names }
  generalize hce : compEnvC sc (cellsFrom (s3.heap.objs.size + 1) sc.names (cloFrom X.env.cells sc.names [])) s3.heap.objs.size X.env = ce at I4 pg pt pe ⊢
  have cL : ce.locals = s3.heap.objs.size := by subst hce; rfl
  generalize hH3 : upd H2 D (.lst []) = H3 at I3 I4 pg pt pe w0 n3 f3
  generalize hs4 : ({ s3 with heap := pushCells (s3.heap.push { cls := .type "dict", data := .dict #[] }) sc.names } : Shared) = s4 at I4 ⊢
  have st4 : tn 0 s4.heap := T.keep _ _ _ st2 fun b _ o z => by rw [← hs4]; exact pushCells_keeps _ _ _ _ (Heap.get?_push_of_some _ (up3 b o z))
  have hotB : HotC (blkH X s3 H3 sc ce fp) := by
    obtain ⟨p, h1, h2⟩ := hot
    exact ⟨p, h1, h2⟩
  have fpo : ∀ {σ' : L2.St} {H' : Hp} {s' : Shared}, Inv (blkH X s3 H3 sc ce fp) [] σ' H' s' → (∀ b ∈ fp, H' b = none) → ∀ b ∈ fp, FpOk (blkH X s3 H3 sc ce fp) [] H' b := fun {σ' H' s'} I' hn b hb =>
    ⟨hn b hb, (I'.ok.exf b hb).1, I'.ok.exfs b hb, .inl hb, fun x c e => (I'.ok.exf b hb).2 x c e, fun p hp => (f3 b hb).1.2.2.2.2.2 p (List.mem_append_left _ (by simpa using hp))⟩
  have loop : codeAny (model X.prog X.w) X.A (.compLoop (.ListComp elt [⟨tg, iter, ifs, 0⟩] sc pos) 0 (.ref it) (.ref D) ce) (compPost (model X.prog X.w) X.A X.xe none (EP X pins σ Q) (.ref D) s3.heap.objs.size) s4 := by
    refine compLoop_any (fun n s' => ∃ i H', Inv (blkH X s3 H3 sc ce fp) [] (wipe σ (own.map (·.2))) H' s' ∧ tn i s'.heap ∧ (∀ b ∈ fp, H' b = none) ∧ W i n H') (fun n s5 hyp => ?_) m0 ⟨0, H3, I4, st4, n3, w0⟩
    obtain ⟨i, H5, I5, st5, n5, w5⟩ := hyp
    rcases turn i n H5 w5 with ⟨stop, qq⟩ | ⟨go, Nx, hNx, step⟩
    · refine thnF (T.done (blkH X s3 H3 sc ce fp) rfl rfl rfl hotB i [] s5 _ H5 (fun _ _ => False) I5 (fpo I5 n5) st5 stop) fun r s6 z => ?_
      obtain ⟨rfl, I6⟩ := z
      have I7 : Inv X pins σ H5 s6 := I3.call' (ch := fp) I6.os I6.base I6.hok I6.bare fun b hb => ⟨(f3 b hb).1.2.2.2.1, (f3 b hb).1.2.1, (f3 b hb).1.2.2.2.2.1, (f3 b hb).1.2.2.2.2.2⟩
      have nC : H5 s3.heap.objs.size = none := by rw [← cL]; exact I6.free
      obtain ⟨m, ns, _⟩ := I6.loc
      have ns' : s6.heap.Ns s3.heap.objs.size m := by rw [← cL]; exact ns
      obtain ⟨z0, z1, z2, z3, z4, z5⟩ := I3.fpOk (Nat.le_refl _) nC
      exact ⟨m, ns', fun h'' sb => ⟨.ref D, H5, I7.turned (t' := s6.toks) (fun b o hb e => (sb.2 b hb).trans e) z0 z1 z3 z4 z5, rfl, qq⟩⟩
    · refine thnF (T.item (blkH X s3 H3 sc ce fp) rfl rfl rfl hotB i [] s5 _ H5 (fun _ _ => False) I5 (fpo I5 n5) st5 go) fun r s6 z => ?_
      obtain ⟨u, rfl, h6⟩ := z
      refine thnF h6 fun _ s7 z => ?_
      obtain ⟨x, H7, I7, r7, y7, st7, n7⟩ := z
      have pinned := I7.pinned (fpo I7 n7) (T.obj _ _ st7)
      refine thnF (pg.run _ s7 _ H7 x u _ pinned r7 (step x H7 y7)) fun _ s8 z => ?_
      obtain ⟨σ8, H8, I8, hw8, q8⟩ := z
      refine thnF (pt.run _ s8 σ8 H8 _ I8 q8) fun b s9 z => ?_
      obtain ⟨H9, I9, q9⟩ := z
      have fin : ∀ {t : Shared} {H' : Hp}, Inv (blkH X s3 H3 sc ce fp) ([] ++ pinsAt fp s7.heap) σ8 H' t → Nx H' → ∃ m, m < n ∧ ∃ i H', Inv (blkH X s3 H3 sc ce fp) [] (wipe σ (own.map (·.2))) H' t ∧ tn i t.heap ∧ (∀ b ∈ fp, H' b = none) ∧ W i m H' := fun {t H'} I' nx => by
        obtain ⟨m', hm, w'⟩ := hNx H' nx
        have pin' : ∀ b ∈ fp, ∀ o, s7.heap.get? b = some o → t.heap.get? b = some o ∧ H' b = none := fun b hb o e => by
          have z := I'.pin (b, o) (List.mem_append_right _ (List.mem_append_right _ (mem_pinsAt hb e)))
          exact ⟨z.1, z.2.1⟩
        refine ⟨m', hm, i + 1, H', (I'.unpinned (pins := [])).weak (by rw [← hw8, wipe_length]) (fun j v e => ?_), T.keep _ _ _ st7 fun b hb o e => (pin' b hb o e).1, fun b hb => ?_, w'⟩
        · rw [← hw8] at e
          exact (wipe_some e).1
        · obtain ⟨o, e, _⟩ := T.obj _ _ st7 b hb
          exact (pin' b hb o e).2
      cases b with
      | false => exact fin I9 (by simpa using q9)
      | true =>
        have q9' : te σ8 H9 fun y H4 => ∃ acc, H4 D = some (.lst acc) ∧ acc.length < sizeLine ∧ Nx (upd H4 D (.lst (acc ++ [y]))) := by simpa using q9
        refine thnF (pe.run _ s9 σ8 H9 _ I9 q9') fun z s10 hz => ?_
        obtain ⟨yv, H10, I10, r10, acc, hD10, hz10, nx⟩ := hz
        exact app_ok (X := blkH X s3 H3 sc ce fp) I10 hD10 hz10 r10 fun s11 I11 => fin I11 nx
  exact codeAny_compStart_list loop (T.self X.A 0 _ _ _ st4 loop)
end
end Fv

/-! d.setdefault(row, e) where rows are the keys; two values at once into two names -/
namespace Fv
open PySem PySem.Spec PyProof.Rows L2 Evl StX
def rSetdT : V → List V → Hp → VK → Prop := fun x vs H Q => ∃ (a b : Addr) (kvs : List (List Key × V)) (k : List Key) (z : V), x = .ref a ∧ vs = [.ref b, z] ∧ H a = some (.dT kvs) ∧ H b = some (.tup (k.map kV)) ∧ kvs.length < sizeLine ∧
  (∀ v, valV kvs k = some v → Q v H) ∧ (valV kvs k = none → Q z (upd H a (.dT (putK kvs k z))))
theorem mt_setdT {X : Cx} (hu : X.A.units + 1 < cLine) : MtR X "dict.setdefault" rSetdT := by
  intro pins s σ H x vs v us Q I r rv h
  obtain ⟨a, b, kvs, k, z, rfl, rfl, e, eb, hl, h1, h2⟩ := h
  obtain rfl : v = Value.ref a := r
  obtain ⟨u1, r1, rfl, ru, rz⟩ : ∃ u1 r1, us = [u1, r1] ∧ RelV (.ref b) u1 ∧ RelV z r1 := by
    cases rv with
    | cons r1 r2 => cases r2 with
      | cons r3 r4 => cases r4; exact ⟨_, _, rfl, r1, r3⟩
  obtain rfl : u1 = Value.ref b := ru
  obtain ⟨hz, hd, xs, rel, dd⟩ := dt_of I.hok e
  have hx : xs.length ≤ sizeLine := by rw [← Paired.length rel]; exact hz
  refine call_setdefault_heap (knd := tupleKind (mixKind X.prog X.w)) (tupleKind_room_in1 hu) (key_of I.hok eb) hd dd (fun p hp => ?_) (fun hn h' dd' hs => ?_) hx
  · have y := rel.val k
    rw [hp] at y
    cases w : valV kvs k with
    | none => rw [w] at y; exact (show False from y).elim
    | some v0 => rw [w] at y; exact ⟨v0, H, I.tok _, y, h1 v0 w⟩
  · have y := rel.val k
    rw [hn] at y
    cases w : valV kvs k with
    | some v0 => rw [w] at y; exact (show False from y).elim
    | none =>
      have l2 : (putK kvs k z).length ≤ sizeLine := by have := length_putK kvs k z; omega
      obtain ⟨q, es, ep, hq, g2, g3, g4, _, g5⟩ := dd'
      refine ⟨z, upd H a (.dT (putK kvs k z)), d_write I (by rw [e]; exact True.intro) hs ⟨q, hq⟩ ⟨l2, hd, _, (rel.put k eb rz).keeps fun c ys ec => ?_, q, es, ep, hq, g2, g3, g4, g5⟩, rz, h2 w⟩
      rw [upd_ne (ne_of ec e (fun z => nomatch z))]
      exact ec
section
variable {K : PySem.W.Frag} {pt : Option Pt} {σ : L2.St} {F F' F0 H0 H : Hp} {te ta tb : TE} {ts tr : TA} {t : TT} {D : Ends} {tz tu tw : TS}
/-- the truth of a number that is drawn -/
theorem et_truU {Pk : Int → Prop} (h : EvG K pt te σ F (fun d => ∃ k : Int, d = .int k ∧ Pk k)) : EtG pt (fun σ H Q => te σ H fun x H' => ∃ k, TruV K x H' k ∧ Q k H') σ F (fun _ => True) := fun H1 i g Q q =>
  h H1 i g _ fun d v F2 H2 ⟨k, hd, _⟩ s hv => by
    subst hd
    obtain rfl := rp_int hv
    exact ⟨k != 0, rfl, q _ F2 H2 trivial s⟩
theorem t_ifU (s : Step pt F0 H0 F H) (h : EtG pt t σ F (fun _ => True)) (h1 : ∀ F2 H2, Step pt F0 H0 F2 H2 → Ex F F2 → tu { D with nx := tz D } σ H2) (h2 : ∀ F2 H2, Step pt F0 H0 F2 H2 → Ex F F2 → tw { D with nx := tz D } σ H2) :
    tSeq (tIfS t tu tw) tz D σ H := h H s.inn s.good _ fun c F2 H2 _ s2 => by
  cases c with
  | true => exact h1 F2 H2 (s.trans s2) s2.sub
  | false => exact h2 F2 H2 (s.trans s2) s2.sub
/-- a, b = x, y where x, y are no data -/
theorem t_twoX {i j : Nat} {Φ Ψ : V → Hp → Prop} (s : Step pt F0 H0 F H) (h1 : EvX pt ta σ F Φ) (h2 : ∀ F', Ex F F' → EvX pt tb σ F' Ψ) (m1 : ∀ v F F', Ex F F' → Φ v F → Φ v F')
    (q : ∀ v u F2 H2, Φ v F2 → Ψ u F2 → Step pt F0 H0 F2 H2 → Ex F F2 → tz D ((σ.set i (some v)).set j (some u)) H2) :
    tSeq (tPar i j (tCons ta (tCons tb tNil))) tz D σ H :=
  h1 H s.inn s.good _ fun v F2 H2 hv s2 => h2 F2 s2.sub H2 s2.inn s2.good _ fun u F3 H3 hu s3 => ⟨v, u, rfl, q v u F3 H3 (m1 _ _ _ s3.sub hv) hu ((s.trans s2).trans s3) (s2.sub.trans s3.sub)⟩
/-- what a def has made, out of the part that stays -/
theorem Step.thaw {F2 H2 : Hp} {a : Addr} (s : Step pt F H F2 H2) (e : Ex F H) (h : H a = none) : Step pt F H (del F2 a) H2 := by
  have f : F a = none := by
    cases w : F a with
    | none => rfl
    | some o => rw [e _ _ w] at h; cases h
  refine ⟨fun b o hb => ?_, del_ex.trans s.inn, s.keep, fun q hq => ⟨?_, (s.good q hq).2⟩, fun b h1 h2 => ?_⟩
  · have : b ≠ a := fun z => by rw [z, f] at hb; cases hb
    rw [del_ne this]; exact s.sub b o hb
  · by_cases z : q.p = a
    · rw [z, del_same]
    · rw [del_ne z]; exact (s.good q hq).1
  · by_cases z : b = a
    · rw [z, del_same]
    · rw [del_ne z]; exact s.new b h1 h2
end
end Fv

/-! sorted(d), d a dict of rows -/
namespace PySem.W
open PySem PySem.Calls PyProof.Rows
section
variable {prog : Program} {w : World} {A : Around} {E : Value → Shared → Prop} {s : Shared} {T : String} {r d : Addr} {n : Nat} {P : Nat → Value → Prop} {OK : Heap → Prop} {Q : Value → Shared → Prop}
/-- sorted(r), r what has items: list.sort of a new list of them -/
theorem kdz_sorted (K : KdlSrc prog w T r d n P OK) (hh : A.handled = none) (hok : OK s.heap) (hn : n ≤ sizeLine)
    (h : ∀ (h' : Heap) (tk : Nat) (vs : List Value), (∀ b o, s.heap.get? b = some o → h'.get? b = some o) → vs.length = n → (∀ (j : Nat) (v : Value), vs[j]? = some v → P j v) →
      ∀ E' : Value → Shared → Prop, wpAny (model prog w) A.in1.in1 (Builtin.«list.sort» ⟨[.ref h'.objs.size], []⟩) (fun f s' => f = .done (.ret .none) ∧ Q (.ref h'.objs.size) s') E' { s with heap := h'.push (seqObj "list" vs.toArray 0), toks := tk }) :
    wpAny (model prog w) A (call (.builtin "sorted") [.ref r]) Q E s := by
  refine call_function_entry kind_sorted plain_sorted entry_sorted (args_sorted1 _) ?_
  unfold Builtin.«sorted»
  refine wpAny_bind (m := checkCount "sorted" 1 1 _) (wpAny_pure ?_)
  refine wpAny_bind (kdu_collect (A := A.in1) K hh hok hn fun h' tk acc hk hacc => ?_)
  have hl : acc.toList.length = n := by rw [Array.length_toList]; exact hacc.1
  refine wpAny_bind (wpAny_newList ?_ (by rw [hl]; exact hn))
  have hat : (h'.push (seqObj "list" acc.toList.toArray 0)).get? h'.objs.size = some (seqObj "list" acc.toList.toArray 0) := Heap.get?_push_size _ rfl
  refine wpAny_bind (wpAny_holding (wpAny_call_entry_kw slot_list_sort ⟨_, hat, rfl⟩ entry_list_sort ?body (args_list_sort _)))
  case body =>
    refine wpAny_mono (h h' tk acc.toList hk hl (fun j v e => hacc.2 j v (by rw [← Array.getElem?_toList]; exact e)) _) (fun f s' hf => ?_) fun _ _ e => e
    obtain ⟨rfl, hq⟩ := hf
    exact ⟨_, rfl, wpAny_pure ⟨_, rfl, hq⟩⟩
end
end PySem.W
namespace Fv
open PySem PySem.Spec PyProof.Rows L2 Evl StX
def rSortDT (K : PySem.W.Frag) : List V → Hp → VK → Prop := fun xs H Q => ∃ (d : Addr) (kvs : List (List Key × V)) (R : List (List Int)), xs = [.ref d] ∧ H d = some (.dT kvs) ∧ kvs.map (·.1) = R.map key ∧ CanSort (R.map dT) ∧
  ∀ (bs : List (Addr × List Int)) p, (bs.map (·.2)).Perm R → bs.map (·.2) = sortL R → (∀ b ∈ bs, H b.1 = some (.tup (b.2.map V.int))) → H p = none → Q (.ref p) (upd H p (.lst (bs.map fun b => V.ref b.1)))
theorem c_sortDT {X : Cx} {K : PySem.W.Frag} (hc : X.calm = true) (hu : X.A.units + 65 < cLine) (h : X.K = K := by rfl) : CallR X (.builtin "sorted") (rSortDT K) := by
  subst h
  intro pins s σ H xs us Q I r q
  obtain ⟨d, kvs, R, rfl, hd, hk, cs, q⟩ := q
  rw [Vals.ref1 r]
  obtain ⟨z, hs, ks, pr, o, es, ep, ho, hx, hdt, he, hn⟩ := (show ObjOk X.prog X.w H s.heap d (.dT kvs) from I.hok d _ hd)
  have l1 : es.size = ks.length := size_of_entries he
  have l2 : kvs.length = ks.length := Paired.length pr
  have l3 : kvs.length = R.length := by have := congrArg List.length hk; simpa using this
  refine PySem.W.kdz_sorted (kdl_raw hs hx hdt) (I.ok.hd hc) ho (by omega) fun h' tk vs kp hl hv E' => ?_
  -- the key's tuples
  let ps : List (Addr × List Int) := (ks.map fun x => x.2.1).zip R
  have pl : ps.length = R.length := by simp [ps]; omega
  have p2 : ps.map (·.2) = R := by
    show ((ks.map fun x => x.2.1).zip R).map Prod.snd = R
    exact List.map_snd_zip (by rw [List.length_map]; omega)
  have pg : ∀ (j : Nat) (b : Addr × List Int), ps[j]? = some b → H b.1 = some (.tup (b.2.map V.int)) ∧ vs[j]? = some (Value.ref b.1) := fun j b hb => by
    have hb' : ((ks.map fun x => x.2.1).zip R)[j]? = some b := hb
    rw [List.getElem?_zip_eq_some] at hb'
    obtain ⟨h1, h2⟩ := hb'
    rw [List.getElem?_map] at h1
    obtain ⟨x, hx1, hx2⟩ := Option.map_eq_some_iff.mp h1
    have hjv : j < vs.length := by have := (List.getElem?_eq_some_iff.mp hx1).1; omega
    have hjk : j < kvs.length := by have := (List.getElem?_eq_some_iff.mp hx1).1; omega
    obtain ⟨x', hx3, e1, e2, _⟩ := paired_get pr (List.getElem?_eq_getElem hjk)
    rw [hx1] at hx3
    cases hx3
    have ek : kvs[j].1 = key b.2 := by
      have a1 : (kvs.map (·.1))[j]? = some kvs[j].1 := by rw [List.getElem?_map, List.getElem?_eq_getElem hjk]; rfl
      rw [hk, List.getElem?_map, h2] at a1
      exact (Option.some.inj a1).symm
    refine ⟨?_, ?_⟩
    · rw [← hx2, e2, ek, key_kV]
    · obtain ⟨en, hen, hv2⟩ := hv j vs[j] (List.getElem?_eq_getElem hjv)
      have qe := entry_at he j
      rw [hen, hx1] at qe
      have e3 : en = entryOfKey (tupleKind (mixKind X.prog X.w)) x := Option.some.inj qe
      rw [List.getElem?_eq_getElem hjv, hv2, e3, ← hx2]; rfl
  have vl : vs.length = ps.length := by omega
  have ev : vs = ps.map fun b => Value.ref b.1 := by
    refine List.ext_getElem? fun j => ?_
    rw [List.getElem?_map]
    cases hb : ps[j]? with
    | none => rw [List.getElem?_eq_none_iff.mpr (by rw [vl]; exact List.getElem?_eq_none_iff.mp hb)]; rfl
    | some b => rw [(pg j b hb).2]; rfl
  have hps : ∀ b ∈ ps, H b.1 = some (.tup (b.2.map V.int)) := fun b hb => by
    obtain ⟨j, hj⟩ := List.getElem?_of_mem hb
    exact (pg j b hj).1
  have rv : Vals (ps.map fun b => V.ref b.1) vs := by
    have g : ∀ l : List (Addr × List Int), Vals (l.map fun b => V.ref b.1) (l.map fun b => Value.ref b.1) := fun l => by
      induction l with
      | nil => exact .nil
      | cons a r ih => exact .cons rfl ih
    rw [ev]; exact g ps
  have ea : PySem.W.EachIs (fun u (b : Addr × List Int) => RelV (V.ref b.1) u) vs ps := each_of_vals rv
  have I1 : Inv X pins σ H { s with heap := h', toks := tk } := I.kept (t' := tk) kp
  have rd : ∀ u (b : Addr × List Int), b ∈ ps → RelV (V.ref b.1) u → ∃ as, Reads h' u (dT b.2) as := fun u b hb ru => Dp.reads I1 (dT b.2) (V.ref b.1) u (Rp.dp _ _ (.tup (hps b hb) (rpAll_of_ints b.2))) ru
  let h1 : Heap := h'.push (seqObj "list" vs.toArray 0)
  have hat : h1.get? h'.objs.size = some (seqObj "list" vs.toArray 0) := Heap.get?_push_size _ rfl
  let hS : Heap := PySem.W.sortingHeap h1 h'.objs.size vs
  have kS : ∀ b o, h'.get? b = some o → hS.get? b = some o := fun b o e => PySem.W.sortingHeap_old (Nat.ne_of_lt (Heap.lt_size e)) (Heap.get?_push_of_some _ e)
  have er0 : PySem.W.EachIs (fun u (b : Addr × List Int) => ∃ as, Reads hS u (dT b.2) as) vs ps := (PySem.W.each_mem ea).mono fun u b ⟨ru, hb⟩ => by
    obtain ⟨as, x⟩ := rd u b hb ru
    exact ⟨as, PyProof.Rows.Reads.keeps (fun _ _ => kS _ _) x⟩
  have em : ps.map (fun b => dT b.2) = R.map dT := by
    have : ps.map (fun b => dT b.2) = (ps.map (·.2)).map dT := by rw [List.map_map]; rfl
    rw [this, p2]
  have er1 : PySem.W.EachIs (fun u d => ∃ as, Reads hS u d as) vs (ps.map fun b => dT b.2) := PySem.W.each_map (R := fun u d => ∃ as, Reads hS u d as) (fun b : Addr × List Int => dT b.2) er0
  have al : PySem.W.AllAlike (ps.map fun b => dT b.2) := by rw [em]; exact cs.al
  have S : PySem.W.SortsAt X.prog X.w X.A.in1.in1 { s with heap := hS, toks := tk } (PySem.W.dataKind hS (ps.map fun b => dT b.2)) vs := by
    refine PySem.W.SortsAt.data (s := { s with heap := hS, toks := tk }) er1 al (by rw [em]; exact cs.so) fun d hd => ?_
    have := cs.dp d (by rw [← em]; exact hd)
    show X.A.units + 1 + 1 + _ < _
    omega
  have out := PySem.W.sortVals_data (h' := hS) (enc := fun b : Addr × List Int => dT b.2) false ea er0 al
  refine PySem.W.list_sort_vals (s := { s with heap := h1, toks := tk }) hat S (by omega) ?_
  generalize PySem.W.sortVals (PySem.W.dataKind hS (ps.map fun b => dT b.2)) false vs vs = ou at out
  generalize eq : ps.mergeSort (PySem.W.dataLe false fun b : Addr × List Int => dT b.2) = qs at out
  have pq : qs.Perm ps := eq ▸ List.mergeSort_perm _ _
  have vo : Vals (qs.map fun b => V.ref b.1) ou := vals_of_each out
  obtain ⟨c, hc2⟩ := PyProof.Rows.sortedHeap_at (h := h1) (a := h'.objs.size) (vs := vs) (out := ou.toArray) hat
  have fr : H h'.objs.size = none := I1.hok.fresh (Nat.le_refl _)
  have len : (qs.map fun b => V.ref b.1).length ≤ sizeLine := by
    rw [List.length_map, pq.length_eq]; omega
  refine ⟨rfl, .ref h'.objs.size, upd H h'.objs.size (.lst (qs.map fun b => V.ref b.1)), I1.laid (t' := tk) (fun b u e => ?_) (Nat.le_refl _) ⟨len, ou, c, vo, hc2⟩, rfl, q qs _ ?_ ?_ (fun b hb => hps b (pq.mem_iff.mp hb)) fr⟩
  · have hl' := Heap.lt_size e
    exact (PyProof.Rows.sortedHeap_old (Nat.ne_of_lt hl') (by rw [size_push']; exact Nat.lt_succ_of_lt hl')).trans (Heap.get?_push_of_some _ e)
  · have := pq.map (·.2)
    rw [p2] at this; exact this
  · rw [← eq, ← p2]
    exact PySem.W.sort_maps (s := PySem.W.dataLe false dT) (fun x : Addr × List Int => x.2) fun _ _ _ _ => rfl
theorem canSort_rowsT {R : List (List Int)} (h : ∀ r ∈ R, r ≠ []) : CanSort (R.map dT) := by
  refine ⟨PySem.W.AllAlike.of fun b b' => ?_, .inl fun d hd => ?_, fun d hd => ?_⟩
  · show PySem.W.alike (.tuple _) (.tuple _) = true
    rw [PySem.W.alike]; exact PySem.W.alike_ints b b'
  · obtain ⟨g, hg, rfl⟩ := List.mem_map.mp hd
    cases g with
    | nil => exact absurd rfl (h _ hg)
    | cons a r => exact ⟨.int a, r.map PyData.int, rfl⟩
  · obtain ⟨g, _, rfl⟩ := List.mem_map.mp hd
    have := depth_dT g
    omega
section
variable {K : PySem.W.Frag} {pt : Option Pt} {σ : L2.St} {F F' H : Hp} {td : TE}
theorem rpAll_rows : ∀ {bs : List (Addr × List Int)}, (∀ b ∈ bs, F b.1 = some (.tup (b.2.map V.int))) → RpAll K F (bs.map fun b => V.ref b.1) ((bs.map (·.2)).map dT)
  | [], _ => .nil
  | b :: bs, h => .cons (.tup (h b (by simp)) (rpAll_of_ints b.2)) (rpAll_rows fun c hc => h c (List.mem_cons_of_mem _ hc))
theorem g_sortDT {R : List (List Int)} (hd : EvX pt td σ F (fun v F2 => ∃ (D : Addr) (kvs : List (List Key × V)), v = .ref D ∧ F2 D = some (.dT kvs) ∧ kvs.map (·.1) = R.map key)) (cs : CanSort (R.map dT)) :
    EvG K pt (tCB (rSortDT K) (tCons td tNil)) σ F (fun d => ∃ M : List (List Int), d = dLT M ∧ M.Perm R ∧ M = sortL R) := fun H1 i g Q q =>
  hd H1 i g _ fun v F2 H2 ⟨D, kvs, e, hD, hk⟩ s => by
    subst e
    refine ⟨D, kvs, R, rfl, s.inn _ _ hD, hk, cs, fun bs p hp hso hb hn => ?_⟩
    let G : Hp := fun a => if a ∈ bs.map (·.1) then H2 a else none
    have s3 : Step pt F2 H2 (join F2 G) H2 := Step.tups s.inn s.good fun a o h => by
      by_cases z : a ∈ bs.map (·.1)
      · have h' : H2 a = some o := by rw [← h]; exact (if_pos z).symm
        obtain ⟨b, hbm, rfl⟩ := List.mem_map.mp z
        rw [hb b hbm] at h'
        exact ⟨by rw [hb b hbm]; exact h', _, (Option.some.inj h').symm⟩
      · have : G a = none := if_neg z
        rw [this] at h; cases h
    have s4 : Step pt (join F2 G) H2 (upd (join F2 G) p (.lst (bs.map fun b => V.ref b.1))) (upd H2 p (.lst (bs.map fun b => V.ref b.1))) := .laid s3.inn s3.good hn
    have gi : Ex G H2 := fun a o h => by
      by_cases z : a ∈ bs.map (·.1)
      · rw [← h]; exact (if_pos z).symm
      · have : G a = none := if_neg z
        rw [this] at h; cases h
    refine q _ _ _ _ ⟨bs.map (·.2), rfl, hp, hso⟩ ((s.trans s3).trans s4) (.lst upd_same (rpAll_rows fun b hbm => s4.sub _ _ (join_r s.inn gi _ _ ?_)))
    have z : b.1 ∈ bs.map (·.1) := List.mem_map.mpr ⟨b, hbm, rfl⟩
    exact (if_pos z).trans (hb b hbm)
end
end Fv

/-! dicts whose keys are data: numbers, texts, None and tuples of such. The dict's one object is known (rawO); what it holds is told of that object (DNo); where the keys' tuples stand is told too -/
namespace Fv
open PySem PySem.Spec PyProof.Rows L2 Evl StX
abbrev NK := NestedKey
mutual
/-- data as a key -/
def nk : PyData → NK
  | .int i => .num i
  | .str x => .text x
  | .tuple ds => .tup (nkL ds)
  | _ => .none
def nkL : List PyData → List NK
  | [] => []
  | d :: ds => nk d :: nkL ds
end
mutual
/-- what may be a key -/
def kb : PyData → Bool
  | .none => true
  | .int _ => true
  | .str _ => true
  | .tuple ds => kbL ds
  | _ => false
def kbL : List PyData → Bool
  | [] => true
  | d :: ds => kb d && kbL ds
end
mutual
theorem nk_inj : ∀ {d e : PyData}, kb d = true → kb e = true → nk d = nk e → d = e
  | .none, .none, _, _, _ => rfl
  | .int a, .int b, _, _, h => by simp only [nk, NestedKey.num.injEq] at h; rw [h]
  | .str a, .str b, _, _, h => by simp only [nk, NestedKey.text.injEq] at h; rw [h]
  | .tuple a, .tuple b, ha, hb, h => by
    simp only [nk, NestedKey.tup.injEq] at h
    simp only [kb] at ha hb
    rw [nkL_inj ha hb h]
  | .none, .int _, _, _, h => by simp [nk] at h
  | .none, .str _, _, _, h => by simp [nk] at h
  | .none, .tuple _, _, _, h => by simp [nk] at h
  | .int _, .none, _, _, h => by simp [nk] at h
  | .int _, .str _, _, _, h => by simp [nk] at h
  | .int _, .tuple _, _, _, h => by simp [nk] at h
  | .str _, .none, _, _, h => by simp [nk] at h
  | .str _, .int _, _, _, h => by simp [nk] at h
  | .str _, .tuple _, _, _, h => by simp [nk] at h
  | .tuple _, .none, _, _, h => by simp [nk] at h
  | .tuple _, .int _, _, _, h => by simp [nk] at h
  | .tuple _, .str _, _, _, h => by simp [nk] at h
  | .bool _, _, h, _, _ => by simp [kb] at h
  | .list _, _, h, _, _ => by simp [kb] at h
  | .dict _, _, h, _, _ => by simp [kb] at h
  | _, .bool _, _, h, _ => by simp [kb] at h
  | _, .list _, _, h, _ => by simp [kb] at h
  | _, .dict _, _, h, _ => by simp [kb] at h
theorem nkL_inj : ∀ {a b : List PyData}, kbL a = true → kbL b = true → nkL a = nkL b → a = b
  | [], [], _, _, _ => rfl
  | [], _ :: _, _, _, h => by simp [nkL] at h
  | _ :: _, [], _, _, h => by simp [nkL] at h
  | d :: a, e :: b, ha, hb, h => by
    simp only [nkL, List.cons.injEq] at h
    simp only [kbL, Bool.and_eq_true] at ha hb
    rw [nk_inj ha.1 hb.1 h.1, nkL_inj ha.2 hb.2 h.2]
end
section
variable {X : Cx} {pins : List (Addr × Obj)} {σ : L2.St} {H : Hp} {s : Shared} {K : PySem.W.Frag}
mutual
/-- what represents such data is such a key -/
theorem rp_nested (I : Inv X pins σ H s) : ∀ (d : PyData) (v : V) (u : Value), kb d = true → Rp K H v d → RelV v u → NestedIs s.heap (nk d) u
  | .none, v, u, _, h, r => by cases h; cases r; exact .none
  | .int i, v, u, _, h, r => by cases h; obtain ⟨t, rfl⟩ := r; exact .int i t
  | .str x, v, u, _, h, r => by cases h; obtain ⟨t, rfl⟩ := r; exact .text x t
  | .tuple ds, v, u, hk, h, r => by
    obtain ⟨a, xs, rfl, ht, ha⟩ := rp_tup h
    cases (show u = Value.ref a from r)
    obtain ⟨_, its, rv, o, h1, h2, n, h3⟩ := (show ObjOk X.prog X.w H s.heap a (.tup xs) from I.hok a _ ht)
    simp only [kb] at hk
    exact .tup h1 h2 h3 (by simpa using rpL_nested I ds xs its hk ha rv)
  | .bool _, _, _, hk, _, _ => by simp [kb] at hk
  | .list _, _, _, hk, _, _ => by simp [kb] at hk
  | .dict _, _, _, hk, _, _ => by simp [kb] at hk
theorem rpL_nested (I : Inv X pins σ H s) : ∀ (ds : List PyData) (vs : List V) (us : List Value), kbL ds = true → RpAll K H vs ds → Vals vs us → NestedAll s.heap (nkL ds) us
  | [], vs, us, _, h, r => by cases h; cases r; exact .nil
  | d :: ds, vs, us, hk, h, r => by
    simp only [kbL, Bool.and_eq_true] at hk
    cases h with
    | cons h1 h2 =>
      cases r with
      | cons r1 r2 => exact .cons (rp_nested I d _ _ hk.1 h1 r1) (rpL_nested I ds _ _ hk.2 h2 r2)
end
end
/-- the one object at a -/
def rawO (a : Addr) (o : Obj) : HO := .ext fun h => h.get? a = some o
/-- an entry: the key, its tuple, the value -/
abbrev NEnt := NK × Addr × V
abbrev NPair : List NEnt → List (NK × Addr × Value) → Prop := Paired fun p q => p.1 = q.1 ∧ p.2.1 = q.2.1 ∧ RelV p.2.2 q.2.2
/-- the object o is a dict with the entries xs -/
def DNo (P : Program) (w : World) (o : Obj) (xs : List NEnt) : Prop := o.ExactDict ∧ (xs.map (·.1)).Nodup ∧ xs.length ≤ sizeLine ∧ ∃ es ep ys, o.data = .dict es ep ∧ es.toList = ys.map (entryOfKey (nestedKind P w)) ∧ NPair xs ys
def atN (xs : List NEnt) (k : NK) : Option (Addr × V) := (xs.find? fun x => decide (x.1 = k)).map (·.2)
def putAtN (k : NK) (v : V) (x : NEnt) : NEnt := if x.1 = k then (x.1, x.2.1, v) else x
def putN (xs : List NEnt) (k : NK) (a : Addr) (v : V) : List NEnt := if (atN xs k).isSome then xs.map (putAtN k v) else xs ++ [(k, a, v)]
theorem NPair.names {xs : List NEnt} {ys : List (NK × Addr × Value)} (h : NPair xs ys) : ys.map (·.1) = xs.map (·.1) := by
  induction h with
  | nil => rfl
  | cons a _ ih => rw [List.map_cons, List.map_cons, ih, a.1]
theorem NPair.at_ {xs : List NEnt} {ys : List (NK × Addr × Value)} (h : NPair xs ys) (k : NK) : match atN xs k, atKey ys k with
    | some p, some q => p.1 = q.1 ∧ RelV p.2 q.2
    | none, none => True
    | _, _ => False := by
  unfold atN atKey
  induction h with
  | nil => trivial
  | @cons p q ps qs a _ ih =>
    by_cases z : p.1 = k
    · rw [List.find?_cons_of_pos (by simpa using z), List.find?_cons_of_pos (by rw [← a.1]; simpa using z)]
      exact ⟨a.2.1, a.2.2⟩
    · rw [List.find?_cons_of_neg (by simpa using z), List.find?_cons_of_neg (by rw [← a.1]; simpa using z)]
      exact ih
theorem NPair.some_ {xs : List NEnt} {ys : List (NK × Addr × Value)} (h : NPair xs ys) {k : NK} {p : Addr × V} (e : atN xs k = some p) : ∃ q, atKey ys k = some q ∧ p.1 = q.1 ∧ RelV p.2 q.2 := by
  have := h.at_ k
  rw [e] at this
  cases w : atKey ys k with
  | none => rw [w] at this; exact this.elim
  | some q => rw [w] at this; exact ⟨q, rfl, this⟩
theorem NPair.none_ {xs : List NEnt} {ys : List (NK × Addr × Value)} (h : NPair xs ys) {k : NK} (e : atN xs k = none) : atKey ys k = none := by
  have := h.at_ k
  rw [e] at this
  cases w : atKey ys k with
  | none => rfl
  | some q => rw [w] at this; exact this.elim
theorem NPair.put {xs : List NEnt} {ys : List (NK × Addr × Value)} (h : NPair xs ys) (k : NK) (a : Addr) {v : V} {u : Value} (r : RelV v u) : NPair (putN xs k a v) (storedH ys k a u) := by
  unfold putN storedH
  cases w : atN xs k with
  | some p =>
    obtain ⟨q, hq, _⟩ := h.some_ w
    rw [hq]
    simp only [Option.isSome_some, if_true]
    clear w hq
    induction h with
    | nil => exact .nil
    | @cons p q ps qs b _ ih =>
      refine .cons ?_ ih
      unfold putAtN putAt
      by_cases z : p.1 = k
      · rw [if_pos z, if_pos (by rw [← b.1]; exact z)]; exact ⟨b.1, b.2.1, r⟩
      · rw [if_neg z, if_neg (by rw [← b.1]; exact z)]; exact b
  | none =>
    rw [h.none_ w]
    simp only [Option.isSome_none, Bool.false_eq_true, if_false]
    exact Paired.snoc h ⟨rfl, rfl, r⟩
theorem putN_len (xs : List NEnt) (k : NK) (a : Addr) (v : V) : (putN xs k a v).length ≤ xs.length + 1 := by
  unfold putN
  split
  · rw [List.length_map]; omega
  · simp
theorem NPair.length {xs : List NEnt} {ys : List (NK × Addr × Value)} (h : NPair xs ys) : xs.length = ys.length := Paired.length h
/-- the tuple of a key -/
def KeyOk (K : PySem.W.Frag) (H : Hp) (k : NK) (b : Addr) : Prop := ∃ d, Rp K H (.ref b) d ∧ kb d = true ∧ nk d = k ∧ k.depth ≤ 8
theorem KeyOk.mono {K : PySem.W.Frag} {H H' : Hp} {k : NK} {b : Addr} (e : Ex H H') (h : KeyOk K H k b) : KeyOk K H' k b := by
  obtain ⟨d, h1, h2⟩ := h
  exact ⟨d, Rp.mono e _ _ h1, h2⟩
/-- at a stands a dict with the entries xs -/
structure ND (P : Program) (w : World) (K : PySem.W.Frag) (H : Hp) (a : Addr) (xs : List NEnt) : Prop where
  low : (a == sysModules) = false
  ex : ∃ o, H a = some (rawO a o) ∧ DNo P w o xs
  keys : ∀ x ∈ xs, KeyOk K H x.1 x.2.1
theorem ND.mono {P : Program} {w : World} {K : PySem.W.Frag} {H H' : Hp} {a : Addr} {xs : List NEnt} (e : Ex H H') (h : ND P w K H a xs) : ND P w K H' a xs := by
  obtain ⟨o, h1, h2⟩ := h.ex
  exact ⟨h.low, ⟨o, e _ _ h1, h2⟩, fun x hx => (h.keys x hx).mono e⟩
section
variable {X : Cx} {pins : List (Addr × Obj)} {σ : L2.St} {H : Hp} {s : Shared} {K : PySem.W.Frag} {P : Program} {w : World}
theorem KeyOk.is (I : Inv X pins σ H s) {k : NK} {b : Addr} (h : KeyOk K H k b) : (nestedKind P w).is s.heap k b := by
  obtain ⟨d, h1, h2, h3, h4⟩ := h
  exact ⟨h3 ▸ rp_nested I d _ _ h2 h1 rfl, h4⟩
theorem ND.dict (I : Inv X pins σ H s) {a : Addr} {xs : List NEnt} (h : ND X.prog X.w K H a xs) : ∃ ys, NPair xs ys ∧ s.heap.DictOfH (nestedKind X.prog X.w) a ys ∧ ys.length ≤ sizeLine := by
  obtain ⟨o, h1, h2, h3, h4, es, ep, ys, h5, h6, h7⟩ := h.ex
  have ho : s.heap.get? a = some o := (show ObjOk X.prog X.w H s.heap a (rawO a o) from I.hok a _ h1).1
  refine ⟨ys, h7, ⟨o, es, ep, ho, h2, h5, h6, ?_, by rw [h7.names]; exact h3⟩, by rw [← h7.length]; exact h4⟩
  have all : ∀ {l : List NEnt} {m : List (NK × Addr × Value)}, NPair l m → (∀ x ∈ l, KeyOk K H x.1 x.2.1) → ∀ y ∈ m, (nestedKind X.prog X.w).is s.heap y.1 y.2.1 := by
    intro l m q
    induction q with
    | nil => intro _ y hy; exact nomatch hy
    | @cons p q ps qs a _ ih =>
      intro hk y hy
      rcases List.mem_cons.mp hy with e | hy
      · rw [e, ← a.1, ← a.2.1]; exact (hk p (by simp)).is I
      · exact ih (fun x hx => hk x (List.mem_cons_of_mem _ hx)) y hy
  exact all h7 h.keys
theorem raw_ok {h : Heap} {a : Addr} {o : Obj} (e : h.get? a = some o) : ObjOk P w H h a (rawO a o) := ⟨e, ⟨o, e⟩, fun _ _ h1 k => k _ h1⟩
theorem dno_of {h' : Heap} {a : Addr} {xs : List NEnt} {ys : List (NK × Addr × Value)} (hp : NPair xs ys) (hl : xs.length ≤ sizeLine) (hm : h'.DictOfH (nestedKind P w) a ys) : ∃ o, h'.get? a = some o ∧ DNo P w o xs := by
  obtain ⟨o, es, ep, h1, h2, h3, h4, _, h5⟩ := hm
  exact ⟨o, h1, h2, by rw [← hp.names]; exact h5, hl, es, ep, ys, h3, h4, hp⟩
end
/-! ### the rules -/
/-- {} -/
def tDNewN (P : Program) (w : World) : TE := fun _ H Q => ∀ a o, H a = none → (a == sysModules) = false → DNo P w o [] → Q (.ref a) (upd H a (rawO a o))
theorem pe_dnewN {X : Cx} {pos : Pos} {P : Program} {w : World} (hp : X.prog = P := by rfl) (hw : X.w = w := by rfl) : PE X (.Dict [] [] pos) (tDNewN P w) := ⟨fun pins s σ H Q I h => by
  subst hp; subst hw
  have low : (s.heap.objs.size == sysModules) = false := beq_eq_false_iff_ne.mpr (Ne.symm (Nat.ne_of_lt I.big))
  have at0 : (s.heap.push { cls := .type "dict", data := .dict #[] }).get? s.heap.objs.size = some { cls := .type "dict", data := .dict #[] } := Heap.get?_push_size _ rfl
  obtain ⟨o, h1, h2⟩ := dno_of (P := X.prog) (w := X.w) (xs := []) (ys := []) .nil (Nat.zero_le _) (Heap.DictOfH.new (knd := nestedKind X.prog X.w) s.heap)
  exact wpAny_Dict_empty ⟨.ref s.heap.objs.size, _, I.laid (a := s.heap.objs.size) (o := rawO s.heap.objs.size o) (t' := s.toks) (fun _ _ q => Heap.get?_push_of_some _ q) (Nat.le_refl _) (raw_ok h1), rfl, h _ o (I.hok.fresh (Nat.le_refl _)) low h2⟩⟩
/-- a key -/
def IsKey (K : PySem.W.Frag) (H : Hp) (b : Addr) (k : NK) : Prop := KeyOk K H k b
section
variable {X : Cx} {P : Program} {w : World} {K : PySem.W.Frag}
theorem roomN (hu : X.A.units + 65 < cLine) : (nestedKind X.prog X.w).room X.A.in1 := by
  show X.A.units + 1 + 8 < cLine
  omega
/-- d[k] -/
def rIxN (P : Program) (w : World) (K : PySem.W.Frag) : R2 := fun x y H Q => ∃ a xs k b p, x = .ref a ∧ y = .ref b ∧ ND P w K H a xs ∧ KeyOk K H k b ∧ atN xs k = some p ∧ Q p.2 H
theorem pe_dgetN {o i : Expr} {td ty : TE} {pos : Pos} (hu : X.A.units + 65 < cLine) (ho : PE X o td) (hi : PE X i ty) (hs : NoSl i) (hp : X.prog = P := by rfl) (hw : X.w = w := by rfl) : PE X (.Subscript o i pos) (tOp (rIxN P w K) td ty) := by
  subst hp; subst hw
  refine ⟨fun pins s σ H Q I h => ?_⟩
  refine subD_of PySem.F.slot_dict_getitem.lookup hs (thn (ho.run pins s σ H _ I h) fun u s1 ⟨x, H1, I1, rx, q1⟩ => thn (hi.run pins s1 σ H1 _ I1 q1) fun iv s2 ⟨y, H2, I2, ry, q2⟩ => ?_)
  obtain ⟨a, xs, k, b, p, rfl, rfl, nd, ko, hat, q⟩ := q2
  obtain rfl : u = Value.ref a := rx
  obtain rfl : iv = Value.ref b := ry
  obtain ⟨ys, hp, hm, hl⟩ := nd.dict I2
  obtain ⟨p', h1, h2, h3⟩ := hp.some_ hat
  exact ⟨hm.typeIs, wpAny_getItem_heap (roomN hu) (ko.is I2) hm h1 ⟨p.2, H2, I2.tok _, h3, q⟩⟩
/-- k in d, k not in d -/
def rInN (P : Program) (w : World) (K : PySem.W.Frag) (neg : Bool) : R2 := fun x y H Q => ∃ a xs k b, x = .ref b ∧ y = .ref a ∧ ND P w K H a xs ∧ KeyOk K H k b ∧ Q (.bl (if neg then !(atN xs k).isSome else (atN xs k).isSome)) H
theorem atN_some {xs : List NEnt} {ys : List (NK × Addr × Value)} (h : NPair xs ys) (k : NK) : (atKey ys k).isSome = (atN xs k).isSome := by
  cases w : atN xs k with
  | none => rw [h.none_ w]; rfl
  | some p => obtain ⟨q, h1, _⟩ := h.some_ w; rw [h1]; rfl
theorem o_inN (hu : X.A.units + 65 < cLine) (hp : X.prog = P := by rfl) (hw : X.w = w := by rfl) : OpR X (compareOp .In) (rInN P w K false) := by
  subst hp; subst hw
  intro pins s σ H x y v u Q I rx ry q
  obtain ⟨a, xs, k, b, rfl, rfl, nd, ko, q⟩ := q
  cases (show u = Value.ref a from ry)
  cases (show v = Value.ref b from rx)
  obtain ⟨ys, hp, hm, hl⟩ := nd.dict I
  refine wpAny_in_heap (roomN hu) (ko.is I) nd.low hm ?_
  rw [atN_some hp]
  exact ⟨.bl _, H, I.tok _, rfl, q⟩
theorem o_ninN (hu : X.A.units + 65 < cLine) (hp : X.prog = P := by rfl) (hw : X.w = w := by rfl) : OpR X (compareOp .NotIn) (rInN P w K true) := by
  subst hp; subst hw
  intro pins s σ H x y v u Q I rx ry q
  obtain ⟨a, xs, k, b, rfl, rfl, nd, ko, q⟩ := q
  cases (show u = Value.ref a from ry)
  cases (show v = Value.ref b from rx)
  obtain ⟨ys, hp, hm, hl⟩ := nd.dict I
  refine notIn_keyed (roomN hu) (ko.is I) nd.low ⟨ys, hm, rfl⟩ ?_
  rw [valueAt_pairsH, Option.isSome_map, atN_some hp]
  exact ⟨.bl _, H, I.tok _, rfl, q⟩
/-- d[k] = v -/
def rSetN (P : Program) (w : World) (K : PySem.W.Frag) : TSet := fun x y v H Q => ∃ a xs k b, x = .ref a ∧ y = .ref b ∧ ND P w K H a xs ∧ KeyOk K H k b ∧ xs.length < sizeLine ∧ ∀ o, DNo P w o (putN xs k b v) → Q (upd H a (rawO a o))
theorem set_N (hu : X.A.units + 65 < cLine) (hp : X.prog = P := by rfl) (hw : X.w = w := by rfl) : PSet X (rSetN P w K) := by
  subst hp; subst hw
  intro pins s σ H x y v ov iv u Q I rx ry rv q
  obtain ⟨a, xs, k, b, rfl, rfl, nd, ko, hz, q⟩ := q
  cases (show ov = Value.ref a from rx)
  cases (show iv = Value.ref b from ry)
  obtain ⟨ys, hp, hm, hl⟩ := nd.dict I
  refine wpAny_setItem_heap (hsz := hl) (roomN hu) (ko.is I) hm fun h' hm' hs => ?_
  obtain ⟨o, h1, h2⟩ := dno_of (hp.put k b rv) (by have := putN_len xs k b v; omega) hm'
  obtain ⟨o0, e0, _⟩ := nd.ex
  exact ⟨_, d_write I (by rw [e0]; exact True.intro) hs ⟨o, h1⟩ (raw_ok h1), q o h2⟩
/-- d.setdefault(k, v) -/
def rSdN (P : Program) (w : World) (K : PySem.W.Frag) : V → List V → Hp → VK → Prop := fun x vs H Q => ∃ a xs k b z, x = .ref a ∧ vs = [.ref b, z] ∧ ND P w K H a xs ∧ KeyOk K H k b ∧ xs.length < sizeLine ∧
  (∀ p, atN xs k = some p → Q p.2 H) ∧ (atN xs k = none → ∀ o, DNo P w o (putN xs k b z) → Q z (upd H a (rawO a o)))
theorem mt_sdN (hu : X.A.units + 65 < cLine) (hp : X.prog = P := by rfl) (hw : X.w = w := by rfl) : MtR X "dict.setdefault" (rSdN P w K) := by
  subst hp; subst hw
  intro pins s σ H x vs v us Q I r rv h
  obtain ⟨a, xs, k, b, z, rfl, rfl, nd, ko, hz, h1, h2⟩ := h
  obtain rfl : v = Value.ref a := r
  obtain ⟨u1, r1, rfl, ru, rz⟩ : ∃ u1 r1, us = [u1, r1] ∧ RelV (.ref b) u1 ∧ RelV z r1 := by
    cases rv with
    | cons r1 r2 => cases r2 with
      | cons r3 r4 => cases r4; exact ⟨_, _, rfl, r1, r3⟩
  obtain rfl : u1 = Value.ref b := ru
  obtain ⟨ys, hp, hm, hl⟩ := nd.dict I
  refine call_setdefault_heap (roomN hu) (ko.is I) nd.low hm (fun p hq => ?_) (fun hn h' hm' hs => ?_) hl
  · cases e : atN xs k with
    | none => rw [hp.none_ e] at hq; cases hq
    | some p' =>
      obtain ⟨p2, e1, e2, e3⟩ := hp.some_ e
      rw [hq] at e1
      cases e1
      exact ⟨p'.2, H, I.tok _, e3, h1 p' e⟩
  · have hn' : atN xs k = none := by
      cases e : atN xs k with
      | none => rfl
      | some p' => obtain ⟨p2, e1, _⟩ := hp.some_ e; rw [hn] at e1; cases e1
    obtain ⟨o, h3, h4⟩ := dno_of (hp.put k b rz) (by have := putN_len xs k b z; omega) hm'
    obtain ⟨o0, e0, _⟩ := nd.ex
    exact ⟨z, _, d_write I (by rw [e0]; exact True.intro) hs ⟨o, h3⟩ (raw_ok h3), rz, h2 hn' o h4⟩
/-- d.get(k) -/
def rGetN (P : Program) (w : World) (K : PySem.W.Frag) : V → List V → Hp → VK → Prop := fun x vs H Q => ∃ a xs k b, x = .ref a ∧ vs = [.ref b] ∧ ND P w K H a xs ∧ KeyOk K H k b ∧ Q (match atN xs k with | some p => p.2 | none => .non) H
theorem mt_getN (hu : X.A.units + 65 < cLine) (hp : X.prog = P := by rfl) (hw : X.w = w := by rfl) : MtR X "dict.get" (rGetN P w K) := by
  subst hp; subst hw
  intro pins s σ H x vs v us Q I r rv h
  obtain ⟨a, xs, k, b, rfl, rfl, nd, ko, q⟩ := h
  obtain rfl : v = Value.ref a := r
  obtain ⟨u1, rfl, ru⟩ : ∃ u1, us = [u1] ∧ RelV (.ref b) u1 := by
    cases rv with
    | cons r1 r2 => cases r2; exact ⟨_, rfl, r1⟩
  obtain rfl : u1 = Value.ref b := ru
  obtain ⟨ys, hp, hm, hl⟩ := nd.dict I
  refine get_keyed (roomN hu) (ko.is I) nd.low ⟨ys, hm, rfl⟩ ?_
  rw [valueAt_pairsH]
  cases e : atN xs k with
  | none => rw [hp.none_ e]; rw [e] at q; exact ⟨.non, H, I.tok _, rfl, q⟩
  | some p' =>
    obtain ⟨p2, e1, e2, e3⟩ := hp.some_ e
    rw [e1]; rw [e] at q
    exact ⟨p'.2, H, I.tok _, e3, q⟩
/-- len(d) -/
def rLenN (P : Program) (w : World) (K : PySem.W.Frag) : List V → Hp → VK → Prop := fun vs H Q => ∃ a xs, vs = [.ref a] ∧ ND P w K H a xs ∧ Q (.int ((xs.length : Nat) : Int)) H
theorem c_lenN (hp : X.prog = P := by rfl) (hw : X.w = w := by rfl) : CallR X (.builtin "len") (rLenN P w K) := by
  subst hp; subst hw
  intro pins s σ H vs us Q I r h
  obtain ⟨a, xs, rfl, nd, q⟩ := h
  obtain ⟨u, rfl, rx⟩ := vals1 r
  obtain rfl : u = .ref a := rx
  obtain ⟨ys, hp, hm, hl⟩ := nd.dict I
  refine call_len_dictH nd.low hm (by rw [sizeLine_eq] at hl; omega) ?_
  rw [← hp.length]
  exact ⟨.int ((xs.length : Nat) : Int), H, I.tok _, ⟨_, rfl⟩, q⟩
/-- isinstance(d, c) -/
def rIsiN (P : Program) (w : World) (K : PySem.W.Frag) : List V → Hp → VK → Prop := fun vs H Q => ∃ a xs c u b, vs = [.ref a, c] ∧ ClsV c u ∧ ND P w K H a xs ∧ PySem.W.kitOne K (.type "dict") u = some b ∧ Q (.bl b) H
theorem c_isiN (h : X.K = K := by rfl) (hp : X.prog = P := by rfl) (hw : X.w = w := by rfl) : CallR X (.builtin "isinstance") (rIsiN P w K) := by
  subst h; subst hp; subst hw
  intro pins s σ H vs us Q I r h
  obtain ⟨a, xs, c, u, b, rfl, k, nd, e, q⟩ := h
  obtain ⟨u1, u2, rfl, r1, r2⟩ := vals2 r
  have e2 := k.eq r2
  subst e2
  obtain rfl : u1 = Value.ref a := r1
  obtain ⟨o, h1, h2, _⟩ := nd.ex
  have ho : s.heap.get? a = some o := (show ObjOk X.prog X.w H s.heap a (rawO a o) from I.hok a _ h1).1
  exact PySem.W.kia_one PySem.W.kitx_dict I.kIn ⟨o, ho, h2.1⟩ e (fun z => nomatch z) fun tk => ⟨.bl b, H, I.tok tk, rfl, q⟩
/-- the call of a method of such a dict -/
def tyN (x : V) (H : Hp) : Prop := ∃ p o, x = .ref p ∧ H p = some (rawO p o) ∧ o.ExactDict
theorem tyN_is {pins : List (Addr × Obj)} {σ : L2.St} {H : Hp} {s : Shared} {x : V} {v : Value} (I : Inv X pins σ H s) (r : RelV x v) (ty : tyN x H) : s.TypeIs v "dict" ∧ ∀ a, v = .ref a → ∃ ob, s.heap.get? a = some ob ∧ ob.dict = none := by
  obtain ⟨p, o, rfl, h, ex⟩ := ty
  obtain rfl : v = Value.ref p := r
  have ho : s.heap.get? p = some o := (show ObjOk X.prog X.w H s.heap p (rawO p o) from I.hok p _ h).1
  exact ⟨⟨o, ho, ex.1⟩, fun a e => by cases e; exact ⟨o, ho, ex.2.1⟩⟩
theorem ND.ty {H : Hp} {a : Addr} {xs : List NEnt} (h : ND P w K H a xs) : tyN (.ref a) H := by
  obtain ⟨o, h1, h2, _⟩ := h.ex
  exact ⟨a, o, rfl, h1, h2⟩
def tBMN (r : V → List V → Hp → VK → Prop) (to : TE) (t : TA) : TE := fun σ H Q => to σ H fun x H1 => tyN x H1 ∧ t σ H1 fun xs H2 => r x xs H2 Q
theorem pe_bmN {o e : Expr} {es : List Expr} {to : TE} {t : TA} {name : Str} {apos cpos : Pos} {id : String} {r : V → List V → Hp → VK → Prop} (pa : PlainAttrs "dict") (slot : Slot "dict" name id) (hty : typeOf (.builtin id) = pure (.type "method_descriptor")) (hm : MtR X id r) (ho : PE X o to) (ha : PA X (e :: es) t)
    (hbase : attributeBase o name X.env (eval o X.env) = eval o X.env := by rfl)
    (hfew : ((backTo cpos (starEach (e :: es) X.env)).all (fun x => !x.1) && (backToKw cpos (keywordEach [] X.env)).all (fun x => x.1.isSome)
      && decide ((e :: es).length + ([] : List Keyword).length + (if ([] : List Keyword).isEmpty then 0 else 1) < 30)) = true := by rfl)
    (hline : (apos.endLine == cpos.line) = true := by rfl) (hs : starEach (e :: es) X.env = (false, eval e X.env) :: starEach es X.env := by rfl) (hplain : (backTo cpos (starEach es X.env)).any (·.1) = false := by rfl) :
    PE X (.Call (.Attribute o name apos) (e :: es) [] cpos) (tBMN r to t) := by
  refine ⟨fun pins s σ H Q I h => ?_⟩
  refine wpAny_Call_method_late hbase hfew hline rfl (thn (ho.run pins s σ H _ I h) fun v s1 ⟨x, H1, I1, r1, ty, q1⟩ => ?_)
  obtain ⟨h1, h2⟩ := tyN_is I1 r1 ty
  refine ⟨"dict", id, pa, slot, hty, h1, h2, ?_⟩
  have hA := ha.run cpos pins s1 σ H1 _ I1 q1
  rw [hs] at hA ⊢
  refine Calls.callWith_builtin (by show (false || (backTo cpos (starEach es X.env)).any (·.1)) = false; rw [hplain] <;> rfl) (Calls.evalArgs_plain ?_)
  exact thn hA fun us s2 ⟨vs, H2, I2, r2, q2⟩ => hm pins s2 σ H2 x vs v us Q I2 r1 r2 q2
/-- the keys' tuples, in order -/
def Itkn (P : Program) (w : World) (d : Addr) (o : Obj) (xs : List NEnt) : It :=
  ⟨fun i H => H d = some (rawO d o) ∧ i < xs.length, fun i H x H' => H' = H ∧ ∃ e, xs[i]? = some e ∧ x = .ref e.2.1, fun i H => H d = some (rawO d o) ∧ xs.length ≤ i⟩
theorem DNo.entries {o : Obj} {xs : List NEnt} (h : DNo P w o xs) : ∃ es ep, o.data = .dict es ep ∧ es.size = xs.length ∧ ∀ (i : Nat) (e : NEnt), xs[i]? = some e → ∃ en : DictEntry, es[i]? = some en ∧ en.key = .ref e.2.1 := by
  obtain ⟨_, _, _, es, ep, ys, h1, h2, h3⟩ := h
  refine ⟨es, ep, h1, ?_, fun i e he => ?_⟩
  · have := size_of_entries h2
    rw [this, h3.length]
  · obtain ⟨y, hy, e1⟩ := paired_get h3 he
    have q := entry_at h2 i
    rw [hy] at q
    exact ⟨_, q, by rw [e1.2.1]; rfl⟩
theorem turn_keysN {tg : Expr} {d : Addr} {o : Obj} {xs : List NEnt} {es : Array DictEntry} {ep : Nat} (dn : DNo P w o xs) (it : Addr) (hod : o.data = .dict es ep) : Turn P w K tg (Itkn P w d o xs) [it] it (fun i h => h.IsKeyIter it d i xs.length ep) where
  mem := by simp
  obj := fun i h st b hb => by
    have e : b = it := by simpa using hb
    subst e
    obtain ⟨oi, e, c, dd⟩ := st
    exact ⟨oi, e, fun v z => by rw [dd] at z; cases z⟩
  keep := fun i h h' st k => st.at fun oi e => k it (by simp) oi e
  item := by
    intro X hP hw hK hc i pins s σ H E I hf st hg
    subst hP hw hK
    obtain ⟨hd, hi⟩ := hg
    obtain ⟨f0, f1, f2, f3, f4, f5⟩ := hf it (by simp)
    obtain ⟨es', ep', hdt, hsz, ent⟩ := dn.entries
    obtain ⟨rfl, rfl⟩ := dict_ep hod hdt
    have hgd : s.heap.get? d = some o := (show ObjOk X.prog X.w H s.heap d (rawO d o) from I.hok d _ hd).1
    obtain ⟨e0, he0⟩ : ∃ p, xs[i]? = some p := ⟨xs[i], List.getElem?_eq_getElem hi⟩
    obtain ⟨en, hen, hkey⟩ := ent i e0 he0
    refine next_key_item st hgd hdt hsz hen fun h' st' sb => ?_
    have I1 : Inv X pins σ H { s with heap := h' } := I.turned (t' := s.toks) (fun b ob hb e => (sb.2 b hb).trans e) f0 f1 f3 f4 f5
    obtain ⟨oi, e, c, dd⟩ := id st'
    exact ⟨en.key, rfl, go_of (s := { s with heap := h' }) e c dd (by decide) ⟨.ref e0.2.1, H, I1, hkey, ⟨rfl, e0, he0, rfl⟩, st', fun b hb => (hf b hb).1⟩⟩
  done := by
    intro X hP hw hK hc i pins s σ H E I hf st hg
    subst hP hw hK
    obtain ⟨hd, hi⟩ := hg
    obtain ⟨f0, f1, f2, f3, f4, f5⟩ := hf it (by simp)
    obtain ⟨es', ep', hdt, hsz, ent⟩ := dn.entries
    obtain ⟨rfl, rfl⟩ := dict_ep hod hdt
    have hgd : s.heap.get? d = some o := (show ObjOk X.prog X.w H s.heap d (rawO d o) from I.hok d _ hd).1
    exact next_key_end (I.ok.hd hc) st hgd hdt hsz hi fun h' eb => ⟨rfl, I.turned (t' := s.toks) (fun b ob hb e => eb b ob hb e) f0 f1 f3 f4 f5⟩
  self := fun A i s Q E st h => by
    refine wpAny_pyIter_slot st.typeIs F.slot_dict_keyiterator_iter (wpAny_call_entry F.slot_dict_keyiterator_iter st.typeIs F.entry_dict_keyiterator_iter ?_ (F.args_dict_keyiterator_iter_1 _))
    show wpAny _ _ (ret (.ref it)) _ _ s
    exact wpAny_pure ⟨_, rfl, "dict_keyiterator", _, st.typeIs, F.slot_dict_keyiterator_next.lookup, h⟩
/-- for k in d -/
def iKeysN (P : Program) (w : World) (td : TE) : TI := fun σ H R => td σ H fun x H1 => ∃ d o xs, x = .ref d ∧ (d == sysModules) = false ∧ H1 d = some (rawO d o) ∧ DNo P w o xs ∧ R (Itkn P w d o xs) H1
theorem pi_keysN {tg e : Expr} {td : TE} (he : PE X e td) (hp : X.prog = P := by rfl) (hw : X.w = w := by rfl) : PI X tg e (iKeysN P w td) := by
  subst hp; subst hw
  refine ⟨fun pins s σ H R I h => ?_⟩
  refine thn (he.run pins s σ H _ I h) fun u s1 ⟨x, H1, I1, rx, d, o, xs, ex, low, hd, dn, q⟩ => ?_
  subst ex
  obtain rfl : u = Value.ref d := rx
  obtain ⟨es, ep, hdt, hsz, ent⟩ := dn.entries
  have hgd : s1.heap.get? d = some o := (show ObjOk X.prog X.w H1 s1.heap d (rawO d o) from I1.hok d _ hd).1
  refine iter_keys low hgd dn.1 hdt (pi_one (tk := s1.toks) I1 _ (turn_keysN dn _ hdt) ⟨_, Heap.get?_push_size _ rfl, rfl, ?_⟩ q)
  rw [hsz] <;> rfl
end
end Fv

/-! dicts whose keys are data, as part of what stays, or one's own; dicts of rows with any values, by comprehension -/
namespace Fv
open PySem PySem.Spec PyProof.Rows L2 L2H Evl StX
/-- what one has made is taken among what stays -/
theorem Step.freeze {pt : Option Pt} {F0 H0 F H : Hp} {a : Addr} {o : HO} (s : Step pt F0 H0 F H) (g : Good pt F0 H0) (h0 : H0 a = none) (f : F a = none) (h : H a = some o) : Step pt F0 H0 (upd F a o) H := by
  refine ⟨s.sub.trans (Ex.new f), fun b u hb => ?_, s.keep, fun q hq => ⟨?_, (s.good q hq).2⟩, fun b h1 h2 => ?_⟩
  · by_cases z : b = a
    · rw [z, upd_same] at hb; rw [z, h]; exact hb
    · rw [upd_ne z] at hb; exact s.inn b u hb
  · rw [upd_ne (off_pot g h0 q hq).1.symm]; exact (s.good q hq).1
  · rw [upd_ne (loose_ne h2 h0)]; exact s.new b h1 h2
theorem kbL_opt : ∀ l : List (Option Int), kbL (l.map optD) = true
  | [] => rfl
  | o :: l => by
    rw [List.map_cons, kbL, kbL_opt l]
    cases o <;> rfl
theorem kb_dO (vw : List (Option Int)) : kb (dO vw) = true := by rw [kb]; exact kbL_opt vw
theorem nk_opt (o : Option Int) : (nk (optD o)).depth = 0 := by cases o <;> rfl
theorem nkL_depth : ∀ l : List (Option Int), NestedKey.depthAll (nkL (l.map optD)) = 0
  | [] => rfl
  | o :: l => by
    rw [List.map_cons, nkL, NestedKey.depthAll, nk_opt, nkL_depth l]; rfl
theorem depth_dO (vw : List (Option Int)) : (nk (dO vw)).depth ≤ 8 := by
  rw [nk, NestedKey.depth, nkL_depth]; decide
theorem optD_inj {a b : Option Int} (h : optD a = optD b) : a = b := by
  cases a <;> cases b <;> simp [optD] at h
  · rfl
  · rw [h]
theorem dO_inj {a b : List (Option Int)} (h : dO a = dO b) : a = b := by
  injection h with h
  exact (List.map_inj_right (fun x y h => optD_inj h)).mp h
theorem nkO_inj {a b : List (Option Int)} (h : nk (dO a) = nk (dO b)) : a = b := dO_inj (nk_inj (kb_dO a) (kb_dO b) h)
section
variable {K : PySem.W.Frag} {P : Program} {w : World} {pt : Option Pt} {σ : L2.St} {F F' F0 H0 H F2 H2 : Hp} {te ta tb td ty tv : TE} {ts : TA} {t : TT} {D : Ends} {tz : TS} {l a : Addr} {xs : List NEnt} {wi : TI}
theorem keyO {vw : List (Option Int)} (h : Rp K F (.ref a) (dO vw)) : KeyOk K F (nk (dO vw)) a := ⟨_, h, kb_dO vw, rfl, depth_dO vw⟩
/-! a dict that stays -/
/-- d[view] -/
theorem g_dgetO {i : Nat} {z : PyData} {vw : List (Option Int)} {p : Addr × V} (h0 : σ[i]? = some (some (.ref l))) (nd : ND P w K F l xs) (h : EvG K pt ty σ F (Is (dO vw))) (hp : atN xs (nk (dO vw)) = some p) (hz : Rp K F p.2 z) : EvG K pt (tOp (rIxN P w K) (tVar i) ty) σ F (Is z) := fun H1 e g Q q =>
  ⟨_, h0, h H1 e g _ fun d v F2 H2 hd s hv => by
    subst hd
    obtain ⟨a, ys, rfl, hl, ha⟩ := rp_tup hv
    exact ⟨l, xs, _, a, p, rfl, rfl, nd.mono (s.sub.trans s.inn), (keyO hv).mono s.inn, hp, q _ p.2 F2 H2 rfl s (Rp.mono s.sub _ _ hz)⟩⟩
/-- the keys -/
theorem w_keysN {i : Nat} {ds : List PyData} (h0 : σ[i]? = some (some (.ref l))) (nd : ND P w K F l xs) (hk : RpAll K F (xs.map fun x => V.ref x.2.1) ds) : WiG K pt (iKeysN P w (tVar i)) σ F (· = ds) := fun H1 e g RR q => by
  obtain ⟨o, h1, h2⟩ := nd.ex
  have hl : xs.length = ds.length := by have := hk.length; rwa [List.length_map] at this
  refine ⟨_, h0, l, o, xs, rfl, nd.low, e _ _ h1, h2, q ds _ F H1 rfl (.refl e g) ⟨fun i H e hi => ⟨e _ _ h1, by omega⟩, fun H e => ⟨e _ _ h1, by omega⟩, fun i H x H' e hi y => ⟨y.1, ?_⟩⟩⟩
  obtain ⟨en, he, hx⟩ := y.2
  rw [hx]
  exact hk.get (by rw [List.getElem?_map, he]; rfl)
/-! a dict of one's own -/
structure Nst (P : Program) (w : World) (K : PySem.W.Frag) (pt : Option Pt) (F0 H0 : Hp) (D : Addr) (F H : Hp) (xs : List NEnt) : Prop where
  step : Step pt F0 H0 F H
  off : F D = none
  low : (D == sysModules) = false
  ex : ∃ o, H D = some (rawO D o) ∧ DNo P w o xs
  keys : ∀ x ∈ xs, KeyOk K F x.1 x.2.1
theorem Nst.nd (g : Nst P w K pt F0 H0 l F H xs) : ND P w K H l xs := ⟨g.low, g.ex, fun x hx => (g.keys x hx).mono g.step.inn⟩
theorem Nst.run (g0 : Good pt F0 H0) (h0 : H0 l = none) (g : Nst P w K pt F0 H0 l F H xs) (s : Step pt F H F2 H2) : Nst P w K pt F0 H0 l F2 H2 xs := by
  obtain ⟨o, h1, h2⟩ := g.ex
  exact ⟨g.step.trans s, s.new l g.off ⟨_, h1, fun ys z => nomatch z⟩, g.low, ⟨o, s.keep l _ (fun q hq => (off_pot g0 h0 q hq).1) h1, h2⟩, fun x hx => (g.keys x hx).mono s.sub⟩
theorem Nst.done (g0 : Good pt F0 H0) (h0 : H0 l = none) (g : Nst P w K pt F0 H0 l F H xs) : ∃ F2, Step pt F0 H0 F2 H ∧ Ex F F2 ∧ ND P w K F2 l xs := by
  obtain ⟨o, h1, h2⟩ := g.ex
  have e1 : Ex F (upd F l (rawO l o)) := Ex.new g.off
  exact ⟨_, g.step.freeze g0 h0 g.off h1, e1, g.low, ⟨o, upd_same, h2⟩, fun x hx => (g.keys x hx).mono e1⟩
theorem t_newN {i : Nat} (s : Step pt F0 H0 F H) (q : ∀ l H2, H l = none → H0 l = none → Nst P w K pt F0 H0 l F H2 [] → tz D (σ.set i (some (.ref l))) H2) : tSeq (tAsg (tDNewN P w) (gName i)) tz D σ H := fun l o hl low hd =>
  q l _ hl (s.back l hl) ⟨s.trans (.litter s.inn s.good hl), (by
    cases w : F l with
    | none => rfl
    | some o => rw [s.inn _ _ w] at hl; cases hl), low, ⟨o, upd_same, hd⟩, fun x hx => by cases hx⟩
/-- d[view] = e -/
theorem t_putN {i : Nat} {vw : List (Option Int)} {R : PD} (g0 : Good pt F0 H0) (h0 : H0 l = none) (g : Nst P w K pt F0 H0 l F H xs) (hi : σ[i]? = some (some (.ref l))) (hz : xs.length < 50000) (he : EvG K pt te σ F R) (hk : ∀ F', Ex F F' → EvG K pt ty σ F' (Is (dO vw)))
    (q : ∀ d v b F2 H2, R d → Nst P w K pt F0 H0 l F2 H2 (putN xs (nk (dO vw)) b v) → Ex F F2 → Rp K F2 v d → Rp K F2 (.ref b) (dO vw) → D.nx σ H2) : tAsg te (gSub (tVar i) ty (rSetN P w K)) D σ H :=
  he H g.step.inn g.step.good _ fun d v F2 H2 hd s hv => ⟨_, hi, hk F2 s.sub H2 s.inn s.good _ fun d2 v2 F3 H3 hd2 s2 hv2 => by
    subst hd2
    obtain ⟨b, ys, rfl, hl, ha⟩ := rp_tup hv2
    have g2 := (g.run g0 h0 s).run g0 h0 s2
    refine ⟨l, xs, _, b, rfl, rfl, g2.nd, (keyO hv2).mono s2.inn, Nat.lt_of_lt_of_le hz (by decide), fun o ho => ?_⟩
    refine q d v b F3 _ hd ⟨g2.step.put g0 h0 g2.off, g2.off, g2.low, ⟨o, upd_same, ho⟩, fun x hx => ?_⟩ (s.sub.trans s2.sub) (Rp.mono s2.sub _ _ hv) hv2
    unfold putN at hx
    split at hx
    · obtain ⟨y, hy, rfl⟩ := List.mem_map.mp hx
      have := g2.keys y hy
      unfold putAtN
      split
      · exact this
      · exact this
    · rcases List.mem_append.mp hx with m | m
      · exact g2.keys x m
      · rw [List.mem_singleton.mp m]; exact keyO hv2⟩
/-! dicts of rows with any values -/
abbrev DV (K : PySem.W.Frag) (F : Hp) : List (List Key × V) → List (List Int × PyData) → Prop := Paired fun kv pd => kv.1 = key pd.1 ∧ Rp K F kv.2 pd.2
theorem DV.mono {kvs : List (List Key × V)} {ps : List (List Int × PyData)} (e : Ex F F') (h : DV K F kvs ps) : DV K F' kvs ps := Paired.mapP h fun _ _ z => ⟨z.1, Rp.mono e _ _ z.2⟩
theorem DV.keys {kvs : List (List Key × V)} {ps : List (List Int × PyData)} (h : DV K F kvs ps) : kvs.map (·.1) = (ps.map (·.1)).map key := by
  induction h with
  | nil => rfl
  | cons a _ ih => rw [List.map_cons, List.map_cons, List.map_cons, ih, a.1]
theorem DV.none_ {kvs : List (List Key × V)} {ps : List (List Int × PyData)} (h : DV K F kvs ps) {r : List Int} (hr : r ∉ ps.map (·.1)) : valV kvs (key r) = none := by
  cases w : valV kvs (key r) with
  | none => rfl
  | some v =>
    have h1 := valV_any (key r) kvs
    have e1 : (kvs.any fun kv => decide (kv.1 = key r)) = ((kvs.map (·.1)).any fun k => decide (k = key r)) := by rw [List.any_map]; rfl
    rw [w, e1, h.keys, List.any_map, Option.isSome_some, List.any_eq_true] at h1
    obtain ⟨x, hx, e⟩ := h1
    have : key x = key r := by simpa using e
    rw [key_inj this] at hx
    exact absurd hx hr
theorem DV.get {kvs : List (List Key × V)} {ps : List (List Int × PyData)} (h : DV K F kvs ps) : (ps.map (·.1)).Nodup → ∀ {r : List Int} {d : PyData}, (r, d) ∈ ps → ∃ v, valV kvs (key r) = some v ∧ Rp K F v d := by
  induction h with
  | nil => intro _ r d hm; cases hm
  | @cons kv pd kvs ps a _ ih =>
    intro nd r d hm
    rw [List.map_cons, List.nodup_cons] at nd
    rcases List.mem_cons.mp hm with e | m
    · subst e
      exact ⟨kv.2, valV_pos a.1, a.2⟩
    · obtain ⟨v, h1, h2⟩ := ih nd.2 m
      refine ⟨v, ?_, h2⟩
      have ne : ¬ kv.1 = key r := by
        rw [a.1]
        intro z
        exact nd.1 (by rw [key_inj z]; exact List.mem_map.mpr ⟨_, m, rfl⟩)
      rw [valV_neg ne]; exact h1
theorem x_dcV {α : Type} {j : Nat} {vs : List Nat} (enc : α → PyData) (ys : List α) (p : α → Bool) (row : α → List Int) (val : α → PyData) (hw : WiG K pt wi σ F (· = ys.map enc)) (hz : ys.length ≤ 20000) (nd : ((ys.filter p).map row).Nodup) (hwp : ∀ x, wipe ((wipe σ vs).set j (some x)) vs = wipe σ vs)
    (ht : ∀ y ∈ ys, ∀ F', Ex F F' → ∀ v, Rp K F' v (enc y) → EtG pt t ((wipe σ vs).set j (some v)) F' (· = p y))
    (hk : ∀ y ∈ ys, p y = true → ∀ F', Ex F F' → ∀ v, Rp K F' v (enc y) → EvG K pt te ((wipe σ vs).set j (some v)) F' (Is (dT (row y)))) (hv : ∀ y ∈ ys, p y = true → ∀ F', Ex F F' → ∀ v, Rp K F' v (enc y) → EvG K pt tv ((wipe σ vs).set j (some v)) F' (Is (val y))) :
    EvX pt (tDcT wi (gName j) t te tv vs) σ F (fun v F2 => ∃ D kvs, v = .ref D ∧ F2 D = some (.dT kvs) ∧ DV K F2 kvs ((ys.filter p).map fun y => (row y, val y))) := fun H0 i0 g0 Q q =>
  hw H0 i0 g0 _ fun ds J F1 H1 hds s1 Y => fun D hD => by
    subst hds
    have gi := s1.inn
    have gg := s1.good
    have f1 : F1 D = none := by
      cases w : F1 D with
      | none => rfl
      | some o => rw [gi _ _ w] at hD; cases hD
    have hlen : (ys.map enc).length = ys.length := by simp
    refine ⟨fun i m H => m = ys.length - i ∧ i ≤ ys.length ∧ ∃ F' kvs, Step pt F1 H1 F' H ∧ F' D = none ∧ H D = some (.dT kvs) ∧ DV K F' kvs (((ys.take i).filter p).map fun y => (row y, val y)), ⟨ys.length, by simp, Nat.zero_le _, F1, [], .litter gi gg hD, f1, upd_same, .nil⟩, ?_⟩
    rintro i m H ⟨rfl, hi, F', kvs, s, f, e, dv⟩
    have eH : Ex F1 H := s.sub.trans s.inn
    by_cases hlt : i < ys.length
    · refine .inr ⟨Y.go i H eH (by rw [hlen]; exact hlt), fun H => ∃ F' kvs, Step pt F1 H1 F' H ∧ F' D = none ∧ H D = some (.dT kvs) ∧ DV K F' kvs (((ys.take (i + 1)).filter p).map fun y => (row y, val y)), fun H' p' => ⟨ys.length - (i + 1), by omega, rfl, hlt, p'⟩, fun v H' y => ?_⟩
      obtain ⟨rfl, d, hd, hx⟩ := Y.yld i H v H' eH (by rw [hlen]; exact hlt) y
      obtain ⟨y0, hy0, rfl⟩ := get_map hd
      have hm : y0 ∈ ys := List.mem_of_getElem? hy0
      refine ⟨hwp v, ?_⟩
      have off : ∀ q, pt = some q → D ≠ q.p := fun q hq => (off_pot gg hD q hq).1
      refine ht y0 hm F' (s1.sub.trans s.sub) v (Rp.mono s.sub _ _ hx) H' s.inn s.good _ fun b F1' H1' hb s1' => ?_
      have fA := s1'.new D f (by rw [e]; simp)
      have eA := s1'.keep D _ off e
      have sA := s.trans s1'
      rw [take_succA hy0, List.filter_append]
      cases hpy : p y0 with
      | false =>
        rw [hpy] at hb
        subst hb
        rw [if_neg (by simp)]
        refine ⟨F1', kvs, sA, fA, eA, ?_⟩
        rw [show [y0].filter p = [] by simp [hpy], List.append_nil]
        exact dv.mono s1'.sub
      | true =>
        rw [hpy] at hb
        subst hb
        rw [if_pos rfl]
        refine hk y0 hm hpy F1' (s1.sub.trans sA.sub) v (Rp.mono sA.sub _ _ hx) H1' sA.inn sA.good _ fun d2 y2 F2 H2 hd2 s2 hy2 => ?_
        have f2 := s2.new D fA (by rw [eA]; simp)
        have e2 := s2.keep D _ off eA
        refine hv y0 hm hpy F2 ((s1.sub.trans sA.sub).trans s2.sub) v (Rp.mono (sA.sub.trans s2.sub) _ _ hx) H2 s2.inn s2.good _ fun d3 y3 F3 H3 hd3 s3 hy3 => ?_
        have f3 := s3.new D f2 (by rw [e2]; simp)
        have e3 := s3.keep D _ off e2
        subst hd2; subst hd3
        obtain ⟨q2, zs, rfl, hq2, ha⟩ := rp_tup hy2
        have e1 := rpAll_ints ha
        subst e1
        have dv3 := dv.mono ((s1'.sub.trans s2.sub).trans s3.sub)
        have hnew : row y0 ∉ (((ys.take i).filter p).map fun y => (row y, val y)).map (·.1) := by
          have nd2 : (((ys.take (i + 1)).filter p).map row).Nodup := List.Nodup.sublist (((List.take_sublist (i + 1) ys).filter p).map row) nd
          rw [take_succA hy0, List.filter_append, show [y0].filter p = [y0] by simp [hpy], List.map_append, List.nodup_append] at nd2
          intro hmem
          rw [List.map_map] at hmem
          exact nd2.2.2 (row y0) hmem (row y0) (by simp) rfl
        have pn : putK kvs (key (row y0)) y3 = kvs ++ [(key (row y0), y3)] := putK_new y3 (dv3.none_ hnew)
        refine ⟨_, key (row y0), q2, rfl, by rw [key_kV]; exact s3.inn _ _ (s3.sub _ _ hq2), e3, sz_lt ?_, F3, kvs ++ [(key (row y0), y3)], ?_, f3, ?_, ?_⟩
        · have h1 : kvs.length = _ := Paired.length dv
          have h2 := List.length_filter_le p (ys.take i)
          rw [List.length_map] at h1
          rw [List.length_take] at h2
          omega
        · exact ((sA.trans s2).trans s3).put gg hD f3
        · rw [pn]; exact upd_same
        · rw [show [y0].filter p = [y0] by simp [hpy], List.map_append]
          exact Paired.snoc dv3 ⟨rfl, hy3⟩
    · have hE : i = ys.length := Nat.le_antisymm hi (Nat.le_of_not_lt hlt)
      subst hE
      rw [List.take_length] at dv
      have e1 : Ex F' (upd F' D (.dT kvs)) := Ex.new f
      exact .inl ⟨by have := Y.stop H eH; rw [hlen] at this; exact this, q _ (upd F' D (.dT kvs)) H ⟨D, kvs, rfl, upd_same, dv.mono e1⟩ (s1.trans (s.freeze gg hD f e))⟩
end
end Fv

/-! dicts whose keys are data: what is popped out of them -/
namespace Fv
open PySem PySem.Spec PyProof.Rows L2 L2H Evl StX
section
variable {X : Cx} {P : Program} {w : World} {K : PySem.W.Frag} {pt : Option Pt} {σ : L2.St} {F H F0 H0 F2 H2 : Hp} {l : Addr} {xs : List NEnt} {te tm ty : TE} {D : Ends} {tz : TS}
def delN (xs : List NEnt) (k : NK) : List NEnt := xs.filter fun x => decide (x.1 ≠ k)
theorem NPair.del {xs : List NEnt} {ys : List (NK × Addr × Value)} (h : NPair xs ys) (k : NK) : NPair (delN xs k) (withoutH ys k) := by
  induction h with
  | nil => exact .nil
  | cons h1 h2 ih =>
    unfold delN withoutH
    rw [List.filter_cons, List.filter_cons, h1.1]
    split
    · exact .cons h1 ih
    · exact ih
theorem delN_len (xs : List NEnt) (k : NK) : (delN xs k).length ≤ xs.length := List.length_filter_le _ _
theorem delN_sub {xs : List NEnt} {k : NK} {x : NEnt} (h : x ∈ delN xs k) : x ∈ xs := (List.mem_filter.mp h).1
def rPopN (P : Program) (w : World) (K : PySem.W.Frag) : V → List V → Hp → VK → Prop := fun x vs H Q => ∃ a xs k b p, x = .ref a ∧ vs = [.ref b] ∧ ND P w K H a xs ∧ KeyOk K H k b ∧ atN xs k = some p ∧ ∀ o, DNo P w o (delN xs k) → Q p.2 (upd H a (rawO a o))
theorem mt_popN (hu : X.A.units + 65 < cLine) (hp : X.prog = P := by rfl) (hw : X.w = w := by rfl) : MtR X "dict.pop" (rPopN P w K) := by
  subst hp; subst hw
  intro pins s σ H x vs v us Q I r rv h
  obtain ⟨a, xs, k, b, p, rfl, rfl, nd, ko, hat, h2⟩ := h
  obtain rfl : v = Value.ref a := r
  obtain ⟨u1, rfl, ru⟩ : ∃ u1, us = [u1] ∧ RelV (.ref b) u1 := by
    cases rv with
    | cons r1 r2 => cases r2; exact ⟨_, rfl, r1⟩
  obtain rfl : u1 = Value.ref b := ru
  obtain ⟨ys, hp, hm, hl⟩ := nd.dict I
  obtain ⟨p2, e1, e2, e3⟩ := hp.some_ hat
  refine call_pop_heap (.inl rfl) (PySem.F.args_dict_pop_2 _ _) (roomN hu) (ko.is I) nd.low hm e1 (fun h' hm' hs => ?_) hl
  obtain ⟨o, h3, h4⟩ := dno_of (hp.del k) (by have := delN_len xs k; have := hp.length; omega) hm'
  obtain ⟨o0, e0, _⟩ := nd.ex
  exact ⟨p.2, _, d_write I (by rw [e0]; exact True.intro) hs ⟨o, h3⟩ (raw_ok h3), e3, h2 o h4⟩
end
end Fv

/-! walking a list or a tuple, not known which; len(set(row)) -/
namespace Fv
open PySem PySem.Spec PyProof.Rows L2 L2H Evl StX
def iSeq (K : PySem.W.Frag) (tl : TE) : TI := fun σ H R => tl σ H fun x H1 => ∃ a, x = .ref a ∧ ((∃ xs, SqL K H1 a xs) ∧ R (Itl K a) H1 ∨ (∃ xs, SqT K H1 a xs) ∧ R (Itt K a) H1)
theorem pi_seq {X : Cx} {K : PySem.W.Frag} {tg l : Expr} {tl : TE} (hl : PE X l tl) (h : X.K = K := by rfl) : PI X tg l (iSeq K tl) := by
  subst h
  constructor
  intro pins s σ H R I ht
  refine thn (hl.run pins s σ H _ I ht) ?_
  rintro v s1 ⟨x, H1, I1, r1, a, rfl, z⟩
  cases r1
  have one : ∀ b ∈ [s1.heap.objs.size], FpOk X pins H1 b := fun b hb => by
    obtain rfl := List.mem_singleton.mp hb
    exact I1.fpOk (Nat.le_refl _) (I1.hok.fresh (Nat.le_refl _))
  rcases z with ⟨⟨xs, hq⟩, q⟩ | ⟨⟨xs, hq⟩, q⟩
  · obtain ⟨its, rv, p, hz⟩ := I1.list hq
    exact wpAny_pyIter_list p.isList ⟨_, [s1.heap.objs.size], _, _, H1, rfl, I1.kept (t' := s1.toks) fun b o e => Heap.get?_push_of_some _ e, turn_list a _, ⟨_, Heap.get?_push_size _ rfl, rfl, rfl⟩, one, q⟩
  · obtain ⟨its, rv, p, hz⟩ := I1.tuple hq
    exact wpAny_pyIter_tuple (show s1.heap.IsTuple a its.toArray from p) ⟨_, [s1.heap.objs.size], _, _, H1, rfl, I1.kept (t' := s1.toks) fun b o e => Heap.get?_push_of_some _ e, turn_tuple a _, ⟨_, Heap.get?_push_size _ rfl, rfl, rfl⟩, one, q⟩
section
variable {K : PySem.W.Frag} {w : World} {pt : Option Pt} {σ : L2.St} {F F' : Hp} {te : TE}
theorem w_seqI {d : PyData} {ds : List PyData} (hd : d = .list ds ∨ d = .tuple ds) (h : EvG K pt te σ F (Is d)) : WiG K pt (iSeq K te) σ F (· = ds) := fun H1 i g RR q =>
  h H1 i g _ fun d' v F2 H2 hd' s hv => by
    subst hd'
    rcases hd with rfl | rfl
    · obtain ⟨a, xs, rfl, hl, ha⟩ := rp_lst hv
      refine ⟨a, rfl, .inl ⟨⟨xs, sq_of (s.inn _ _ hl)⟩, q ds _ F2 H2 rfl s ⟨fun i H e hi => ?_, fun H e => ⟨xs, sq_of (e _ _ hl), Nat.le_of_eq ha.length⟩, fun i H x H' e hi y => ⟨y.1, ha.get (y.2 xs (sq_of (e _ _ hl)))⟩⟩⟩⟩
      have hi' : i < xs.length := by rw [ha.length]; exact hi
      exact ⟨xs, xs[i], sq_of (e _ _ hl), List.getElem?_eq_getElem hi'⟩
    · obtain ⟨a, xs, rfl, hl, ha⟩ := rp_tup hv
      refine ⟨a, rfl, .inr ⟨⟨xs, tx s.inn hl⟩, q ds _ F2 H2 rfl s ⟨fun i H e hi => ?_, fun H e => ⟨xs, tx e hl, Nat.le_of_eq ha.length⟩, fun i H x H' e hi y => ⟨y.1, ha.get (y.2 xs (tx e hl))⟩⟩⟩⟩
      have hi' : i < xs.length := by rw [ha.length]; exact hi
      exact ⟨xs, xs[i], tx e hl, List.getElem?_eq_getElem hi'⟩
/-- len(s) of a set of whole numbers: how many there are, told by any list of them without double -/
def rLenS (w : World) : List V → Hp → VK → Prop := fun vs H Q => ∃ a S n, vs = [.ref a] ∧ H a = some (SetO w a S n) ∧ ∀ ks : List Int, ks.Nodup → ks.length = n → (∀ k, S k = true ↔ k ∈ ks) → Q (.int ((n : Nat) : Int)) H
theorem c_lenS {X : Cx} {w : World} (hw : X.w = w := by rfl) : CallR X (.builtin "len") (rLenS w) := by
  subst hw
  rintro pins s σ H vs us Q I r ⟨a, S, n, rfl, hs, q⟩
  rw [Vals.ref1 r]
  obtain ⟨o, es, ep, t, ho, hex, hd, _, nd, hm, hb, hf, hn, _⟩ := setO_get I hs
  refine call_len_set ho hex hd hf (by unfold scanBound at hb; omega) ⟨.int ((n : Nat) : Int), H, I.tok _, ⟨_, by rw [hn]⟩, ?_⟩
  exact q _ nd (by rw [List.length_map, Array.length_toList]; exact hn) hm
def rSetU (K : PySem.W.Frag) (w : World) : List V → Hp → VK → Prop := fun xs H Q => rSetT K w xs H Q ∨ rSetLi K w xs H Q
theorem c_setU {X : Cx} (hc : X.calm = true := by rfl) (h : X.K = K := by rfl) (hw : X.w = w := by rfl) : CallR X (.type "set") (rSetU K w) := by
  intro pins s σ H xs us Q I r hq
  rcases hq with hq | hq
  · exact c_setT hc h hw pins s σ H xs us Q I r hq
  · exact c_setL hc h hw pins s σ H xs us Q I r hq
def once : List Int → List Int
  | [] => []
  | x :: xs => if x ∈ xs then once xs else x :: once xs
theorem once_mem : ∀ (b : List Int) (k : Int), k ∈ once b ↔ k ∈ b
  | [], _ => Iff.rfl
  | x :: xs, k => by
    rw [once]
    split
    · rename_i h
      rw [once_mem xs, List.mem_cons]
      exact ⟨.inr, fun z => z.elim (fun e => e ▸ h) id⟩
    · rw [List.mem_cons, List.mem_cons, once_mem xs]
theorem once_nd : ∀ b : List Int, (once b).Nodup
  | [] => List.nodup_nil
  | x :: xs => by
    rw [once]
    split
    · exact once_nd xs
    · rename_i h
      exact List.nodup_cons.mpr ⟨fun z => h ((once_mem xs x).mp z), once_nd xs⟩
theorem once_len : ∀ b : List Int, (once b).length ≤ b.length ∧ ((once b).length = b.length → b.Nodup)
  | [] => ⟨Nat.le_refl _, fun _ => List.nodup_nil⟩
  | x :: xs => by
    obtain ⟨h1, h2⟩ := once_len xs
    rw [once]
    split
    · exact ⟨by rw [List.length_cons]; omega, fun z => by rw [List.length_cons] at z; omega⟩
    · rename_i h
      refine ⟨by rw [List.length_cons, List.length_cons]; omega, fun z => List.nodup_cons.mpr ⟨h, h2 ?_⟩⟩
      rw [List.length_cons, List.length_cons] at z; omega
theorem nodup_same {a b : List Int} (ha : a.Nodup) (hm : ∀ k, k ∈ a ↔ k ∈ b) : a.length = b.length ↔ b.Nodup := by
  have e1 : a.length = (once b).length := ((List.perm_ext_iff_of_nodup ha (once_nd b)).mpr fun k => by rw [hm, once_mem]).length_eq
  refine ⟨fun h => (once_len b).2 (by omega), fun hb => ((List.perm_ext_iff_of_nodup ha hb).mpr hm).length_eq⟩
theorem g_lenSet {d : PyData} {ns : List Int} (hd : d = .list (ns.map .int) ∨ d = .tuple (ns.map .int)) (h : EvG K pt te σ F (Is d)) (hz : ns.length ≤ 60) : EvG K pt (tCB (rLenS w) (tCons (tCB (rSetU K w) (tCons te tNil)) tNil)) σ F
    (fun x => ∃ m : Nat, x = .int (m : Int) ∧ (m = ns.length ↔ ns.Nodup)) := fun H1 i g Q q =>
  h H1 i g _ fun d' v F2 H2 hd' s hv => by
    subst hd'
    have fin : ∀ b c, H2 b = none → rLenS w [V.ref b] (upd H2 b (SetO w b (fun j => decide (j ∈ ns)) c)) Q := fun b c hb => by
      have s3 : Step pt F2 H2 F2 (upd H2 b (SetO w b (fun j => decide (j ∈ ns)) c)) := .litter s.inn s.good hb
      exact ⟨b, _, c, rfl, upd_same, fun ks nd hl hm => q _ _ _ _ ⟨c, rfl, by rw [← hl]; exact nodup_same nd fun k => by rw [← hm k, decide_eq_true_eq]⟩ (s.trans s3) (.int _)⟩
    rcases hd with rfl | rfl
    · obtain ⟨a, xs, rfl, hl, ha⟩ := rp_lst hv
      have e1 := rpAll_ints ha
      subst e1
      exact .inr ⟨a, ns, rfl, SqL.of (s.inn _ _ hl), hz, fun b c hb _ => fin b c hb⟩
    · obtain ⟨a, xs, rfl, hl, ha⟩ := rp_tup hv
      have e1 := rpAll_ints ha
      subst e1
      exact .inl ⟨a, ns, rfl, tx s.inn hl, hz, fun b c hb _ => fin b c hb⟩
/-- a op b op c -/
theorem g_chain {tl tm tr : TE} {x y z : PyData} {r r' : L2.R2} {b : Bool} {R : PD} (ha : EvG K pt tl σ F (Is x)) (hb : EvG K pt tm σ F (Is y)) (hc : EvG K pt tr σ F (Is z)) (h1 : RvG K r x y (Is (.bool b))) (h2 : b = true → RvG K r' y z R) (hf : b = false → R (.bool false)) : EvG K pt (tChain r r' tl tm tr) σ F R := fun H1 i g Q q =>
  ha H1 i g _ fun d v F2 H2 hd s hv => hb.mono s.sub H2 s.inn s.good _ fun e u F3 H3 he s3 hu => by
    subst hd; subst he
    refine h1 F3 H3 v u s3.inn (Rp.mono s3.sub _ _ hv) hu _ fun d2 k F4 H4 hd2 s4 hk => ?_
    subst hd2
    obtain rfl := rp_bool hk
    have s04 := (s.trans s3).trans (s4.lift s3.good)
    refine ⟨b, rfl, ?_⟩
    split
    · rename_i hb1
      exact hc.mono s04.sub H4 s04.inn s04.good _ fun e w' F5 H5 he5 s5 hw => by
        subst he5
        exact h2 hb1 F5 H5 u w' s5.inn (Rp.mono (s4.sub.trans s5.sub) _ _ hu) hw Q fun z x F6 H6 hz s6 hx => q z x F6 H6 hz ((s04.trans s5).trans (s6.lift s5.good)) hx
    · rename_i hb1
      exact q _ _ F4 H4 (hf (by simpa using hb1)) s04 (.bl false)
/-- a slice of a list or a tuple, not known which -/
def like : PyData → List PyData → PyData
  | .list _, es => .list es
  | _, es => .tuple es
theorem like_seq (src : PyData) (es : List PyData) : like src es = .list es ∨ like src es = .tuple es := by cases src <;> first | exact .inl rfl | exact .inr rfl
def rSlU (K : PySem.W.Frag) : V → Option Int → Option Int → Hp → VK → Prop := fun x lo hi H Q => rSlL K x lo hi H Q ∨ rSlA K x lo hi H Q
theorem s_any {X : Cx} (h : X.K = K := by rfl) : SlR X (rSlU K) := SlR.or (s_list h) (s_tup h)
theorem cut_upto {xs : List V} {lo : Option Int} {i : Nat} (hlo : HT.sIx xs.length 0 lo = 0) : cutV xs lo (some (i : Int)) = xs.take i := by
  unfold cutV
  rw [hlo, show HT.sIx xs.length xs.length (some (i : Int)) = min i xs.length from HT.sIx_nat _ _ i, List.drop_zero, Nat.sub_zero]
  by_cases z : i ≤ xs.length
  · rw [Nat.min_eq_left z]
  · rw [Nat.min_eq_right (by omega), List.take_of_length_le (Nat.le_refl _), List.take_of_length_le (by omega)]
theorem slU_run {F2 H2 H1 H : Hp} {Q : VK} {src : PyData} {ds : List PyData} {lo : Option Int} {i : Nat} {v : V} (hs : src = .list ds ∨ src = .tuple ds) (hlo : ∀ n : Nat, HT.sIx n 0 lo = 0) (s : Step pt F H1 F2 H2) (hv : Rp K F2 v src)
    (q : ∀ z v F3 H3, z = like src (ds.take i) → Step pt F H1 F3 H3 → Rp K F3 v z → Q v H3) : rSlU K v lo (some (i : Int)) H2 Q := by
  rcases hs with rfl | rfl
  · obtain ⟨a, xs, rfl, hl, ha⟩ := rp_lst hv
    refine .inl ⟨a, xs, rfl, SqL.of (s.inn _ _ hl), fun p hp => ?_⟩
    rw [cut_upto (hlo _)]
    have s3 : Step pt F2 H2 (upd F2 p (.lst (xs.take i))) (upd H2 p (.lst (xs.take i))) := .laid s.inn s.good hp
    exact q _ _ _ _ rfl (s.trans s3) (.lst upd_same (RpAll.mono s3.sub _ _ (RpAll.take i ha)))
  · obtain ⟨a, xs, rfl, hl, ha⟩ := rp_tup hv
    have hln := ha.length
    refine .inr ⟨a, xs, rfl, tx s.inn hl, fun hw => ?_, fun hw p hp => ?_⟩
    · rw [show HT.sIx xs.length xs.length (some (i : Int)) = min i xs.length from HT.sIx_nat _ _ i] at hw
      refine q _ _ F2 H2 rfl s ?_
      show Rp K F2 _ (.tuple (ds.take i))
      rw [List.take_of_length_le (by omega)]
      exact .tup hl ha
    · rw [cut_upto (hlo _)]
      have s3 : Step pt F2 H2 (upd F2 p (.tup (xs.take i))) (upd H2 p (.tup (xs.take i))) := .laid s.inn s.good hp
      exact q _ _ _ _ rfl (s.trans s3) (.tup upd_same (RpAll.mono s3.sub _ _ (RpAll.take i ha)))
theorem g_slU {ti : TE} {src : PyData} {ds : List PyData} {i : Nat} (hs : src = .list ds ∨ src = .tuple ds) (h : EvG K pt te σ F (Is src)) (hi : EvG K pt ti σ F (Is (.int (i : Int)))) : EvG K pt (tSl (rSlU K) te tNoPart (tPart ti)) σ F (Is (like src (ds.take i))) := fun H1 e g Q q =>
  h H1 e g _ fun d v F2 H2 hd s hv => hi.mono s.sub H2 s.inn s.good _ fun e u F3 H3 he s2 hu => by
    subst hd; subst he
    exact ⟨(i : Int), rp_int hu, slU_run (H := H2) hs (fun _ => rfl) (s.trans s2) (Rp.mono s2.sub _ _ hv) q⟩
theorem g_slU0 {ti : TE} {src : PyData} {ds : List PyData} {i : Nat} (hs : src = .list ds ∨ src = .tuple ds) (h : EvG K pt te σ F (Is src)) (hi : EvG K pt ti σ F (Is (.int (i : Int)))) : EvG K pt (tSl (rSlU K) te (tPart (tC (.int 0))) (tPart ti)) σ F (Is (like src (ds.take i))) := fun H1 e g Q q =>
  h H1 e g _ fun d v F2 H2 hd s hv => ⟨0, rfl, hi.mono s.sub H2 s.inn s.good _ fun e u F3 H3 he s2 hu => by
    subst hd; subst he
    exact ⟨(i : Int), rp_int hu, slU_run (H := H2) hs (fun n => by rw [show (some (0 : Int)) = some ((0 : Nat) : Int) from rfl, HT.sIx_nat]; exact Nat.min_eq_left (Nat.zero_le _)) (s.trans s2) (Rp.mono s2.sub _ _ hv) q⟩⟩
/-- a view in a dict of views -/
theorem et_inN {P : Program} {l : Addr} {xs : List NEnt} {i : Nat} {vw : List (Option Int)} (h : EvG K pt te σ F (Is (dO vw))) (h0 : σ[i]? = some (some (.ref l))) (nd : ND P w K F l xs) : EtG pt (tTest (tOp (rInN P w K false) te (tVar i))) σ F (· = (atN xs (nk (dO vw))).isSome) := fun H1 e g Q q =>
  h H1 e g _ fun d v F2 H2 hd s hv => ⟨_, h0, by
    subst hd
    obtain ⟨a, ys, rfl, hl, ha⟩ := rp_tup hv
    exact ⟨l, xs, _, a, rfl, rfl, nd.mono (s.sub.trans s.inn), (keyO hv).mono s.inn, _, rfl, q _ F2 H2 rfl s⟩⟩
end
end Fv

/-! whether a dict of views holds something -/
namespace PySem
open PySem PySem.Spec PyProof.Rows
section
variable {prog : Program} {w : World} {A : Around} {E : Value → Shared → Prop} {s : Shared} {KK : Type} [DecidableEq KK] {knd : HeapKind prog w KK}
theorem truthy_views {d : Addr} {xs : List (KK × Addr × Value)} {Q : Bool → Shared → Prop} (hd : (d == sysModules) = false) (hm : s.heap.DictOfH knd d xs) (hfit : (xs.length : Int) < 2 ^ 63)
    (h : Q (!xs.isEmpty) { s with toks := s.toks + 1 + 1 }) : wpAny (model prog w) A (truthy (.ref d)) Q E s := by
  have hne : ((xs.length : Int) != 0) = !xs.isEmpty := by cases xs <;> simp <;> omega
  have key : wpAny (model prog w) A (runValue (.builtin "len" ⟨[.ref d], []⟩)) (fun r s' => r = .int xs.length (s.toks + 1) ∧ Q (!xs.isEmpty) s') E s := by
    refine wpAny_runValue (codeAny_builtin entry_len ?_)
    rw [Around.under_plainId plain_len _]
    refine wpAny_mono (wpAny_len_body_dictH (Q := fun r s' => r = .int xs.length (s.toks + 1) ∧ Q (!xs.isEmpty) s') hd hm hfit ⟨rfl, h⟩) (fun fin s' h' => ?_) fun _ _ e => e
    obtain ⟨r, rfl, hq⟩ := h'
    exact hq
  unfold truthy
  refine wpAny_bind ?_
  first
    | (refine wpAny_callSpecial?_none (name := Str.ofString "__bool__") hm.typeIs noBool_dict ?_)
    | (refine wpAny_pure (wpAny_bind (wpAny_callSpecial?_none (name := Str.ofString "__bool__") hm.typeIs noBool_dict ?_)))
  refine wpAny_bind ?_
  first
    | (refine wpAny_specialOf (name := Str.ofString "__len__") hm.typeIs F.slot_dict_len.lookup ?_)
    | (refine wpAny_pure (wpAny_bind (wpAny_specialOf (name := Str.ofString "__len__") hm.typeIs F.slot_dict_len.lookup ?_)))
  refine wpAny_bind ?_
  first
    | exact wpAny_mono key (fun r s' h' => by obtain ⟨rfl, hq⟩ := h'; exact wpAny_pure (hne ▸ hq)) fun _ _ e => e
    | exact wpAny_pure (wpAny_bind (wpAny_mono key (fun r s' h' => by obtain ⟨rfl, hq⟩ := h'; exact wpAny_pure (hne ▸ hq)) fun _ _ e => e))
end
end PySem
namespace Fv
open PySem PySem.Spec PyProof.Rows L2 L2H Evl StX
section
variable {X : Cx} {P : Program} {w : World} {K : PySem.W.Frag} {pt : Option Pt} {σ : L2.St} {F H : Hp} {l : Addr} {xs : List NEnt} {te : TE}
theorem e_truN {a : Expr} {ta : TE} (ha : PE X a ta) (hp : X.prog = P := by rfl) (hw : X.w = w := by rfl) (he : ∀ whole, isTrue a X.env whole = (do let v ← whole; standAt a.pos; holding [v] (truthy v)) := by intro _; rfl) :
    PT X a (fun σ H Q => ta σ H fun x H' => ∃ d xs, x = .ref d ∧ ND P w K H' d xs ∧ Q (!xs.isEmpty) H') := by
  subst hp; subst hw
  constructor
  intro pins s σ H Q I h
  refine isTrue_plain (thn (ha.run pins s σ H _ I h) fun v s1 ⟨x, H1, I1, r1, d, xs, e, nd, q⟩ => ?_) (he _)
  subst e
  obtain rfl : v = Value.ref d := r1
  obtain ⟨ys, hp, hm, hl⟩ := nd.dict I1
  refine truthy_views nd.low hm (by rw [sizeLine_eq] at hl; omega) ⟨H1, I1.tok _, ?_⟩
  have : ys.isEmpty = xs.isEmpty := by cases hp <;> rfl
  rw [this]; exact q
end
end Fv

/-! two promises of one def -/
namespace Fv
open PySem PySem.Spec PyProof.Rows L2 Evl StX
theorem FnOk.or {P : Program} {w : World} {K : PySem.W.Frag} {mg : Str → Option Value} {base : Heap} {CX : CXT} {k : Nat} {f : Addr} {fd : FuncData} {ps : List Str} {s1 s2 : Sp} (h1 : FnOk P w K mg base CX k f fd ps s1) (h2 : FnOk P w K mg base CX k f fd ps s2) : FnOk P w K mg base CX k f fd ps (fun vs H Q E => s1 vs H Q E ∨ s2 vs H Q E) :=
  ⟨fun vs H Q E h => h.elim (h1.len vs H Q E) (h2.len vs H Q E), fun A out s H as us vs Q E r e0 b rv h => h.elim (h1.run A out s H as us vs Q E r e0 b rv) (h2.run A out s H as us vs Q E r e0 b rv)⟩
section
variable {K : PySem.W.Frag} {pt : Option Pt} {σ : L2.St} {F F' F0 H0 H : Hp} {te ta tb : TE} {ts tr : TA}
theorem g_andU {a : Bool} {R : PD} (h1 : EvG K pt ta σ F (Is (.bool a))) (h2 : a = true → EvG K pt tb σ F R) (h3 : a = false → R (.bool false)) : EvG K pt (tAndV ta tb) σ F R := fun H1 i g Q q => h1 H1 i g _ fun d v F2 H2 hd s hv => by
  subst hd
  refine ⟨a, rp_bool hv, ?_⟩
  cases a with
  | true => exact (h2 rfl).mono s.sub H2 s.inn s.good Q fun d' v' F3 H3 hd' s3 hv' => q d' v' F3 H3 hd' (s.trans s3) hv'
  | false => exact q _ _ F2 H2 (h3 rfl) s (.bl false)
theorem g_int1U {S : Int → Prop} (h : EvG K pt te σ F (fun d => (∃ k, d = .int k ∧ S k) ∨ ∃ b : Bool, d = .bool b ∧ S (if b then 1 else 0))) : EvG K pt (tCB (fun xs H Q => (∃ i, xs = [.int i] ∧ Q (.int i) H) ∨ ∃ k, xs = [.bl k] ∧ Q (.int (if k then 1 else 0)) H) (tCons te tNil)) σ F (fun d => ∃ k, d = .int k ∧ S k) := fun H1 i g Q q => h H1 i g _ fun d v F2 H2 hd s hv => by
  rcases hd with ⟨k, rfl, hk⟩ | ⟨b, rfl, hk⟩
  · obtain rfl := rp_int hv
    exact .inl ⟨k, rfl, q _ _ F2 H2 ⟨k, rfl, hk⟩ s (.int k)⟩
  · obtain rfl := rp_bool hv
    exact .inr ⟨b, rfl, q _ _ F2 H2 ⟨_, rfl, hk⟩ s (.int _)⟩
/-- drawn items that know their place -/
theorem g_lcIx {β : Type} {j n : Nat} {vs : List Nat} {wi : TI} (enc : β → PyData) (R : Nat → β → Prop) (hw : WiG K pt wi σ F (· = (List.range n).map natD)) (hz : n ≤ 50000) (hwp : ∀ x, wipe ((wipe σ vs).set j (some x)) vs = wipe σ vs)
    (he : ∀ k, k < n → ∀ F', Ex F F' → ∀ v, Rp K F' v (natD k) → EvG K pt te ((wipe σ vs).set j (some v)) F' (fun x => ∃ y, x = enc y ∧ R k y)) :
    EvG K pt (tLc wi (gName j) tYes te vs) σ F (fun x => ∃ ys : List β, x = .list (ys.map enc) ∧ ys.length = n ∧ ∀ k (h : k < ys.length), R k ys[k]) := by
  refine (g_lc (RS := (· = (List.range n).map natD)) (fun _ i l => ∃ ys : List β, l = ys.map enc ∧ ys.length = i ∧ ∀ k (h : k < ys.length), R k ys[k]) hw (fun ds e => by rw [e]; simp; omega) hwp (fun ds i l _ a => ?_) (fun _ _ => ⟨[], rfl, rfl, fun k h => absurd h (Nat.not_lt_zero k)⟩) (fun ds' i d e hd => ?_)).imp fun x hx => ?_
  · obtain ⟨ys, rfl, e, _⟩ := a
    rw [List.length_map, e]; exact Nat.le_refl _
  · subst e
    obtain ⟨k, hk, rfl⟩ := get_map hd
    have hi : i < n := by
      have := (List.getElem?_eq_some_iff.mp hk).1
      rwa [List.length_range] at this
    have hki : k = i := by
      rw [List.getElem?_range hi] at hk
      exact (Option.some.inj hk).symm
    subst hki
    refine ⟨(· = true), fun x => ∃ y, x = enc y ∧ R k y, fun _ l x a ex => ?_, (fun hp => by cases hp), fun F' e v hv => ⟨et_yes, fun _ => he k hi F' e v hv⟩⟩
    obtain ⟨ys, rfl, e, hP⟩ := a
    obtain ⟨y, rfl, py⟩ := ex
    refine ⟨ys ++ [y], by simp, by simp [e], fun k2 h2 => ?_⟩
    by_cases z : k2 < ys.length
    · rw [List.getElem_append_left z]; exact hP k2 z
    · have : k2 = ys.length := by rw [List.length_append] at h2; simp at h2; omega
      subst this
      rw [List.getElem_append_right (Nat.le_refl _)]
      simp [e]; exact py
  · obtain ⟨ds', l, e1, e2, ys, rfl, e4, e5⟩ := hx
    subst e2
    exact ⟨ys, e1, by rw [e4]; simp, e5⟩
end
end Fv

namespace KC
open PySem PySem.Spec PyProof.Rows L2 L2H Fv Evl StX
def topS (i : Nat) : Stmt := PySem.Challenge.pw_firmvalues_k78_whole_deciding_sooner_is.main.body.getD i (.Pass ⟨0, 0, 0, 0⟩)
structure Tx (mg : Str → Option Value) : Prop where
  isinstance : mg "isinstance" = none
  list : mg "list" = none
  tuple : mg "tuple" = none
  bool : mg "bool" = none
  int : mg "int" = none
  str : mg "str" = none
  all : mg "all" = none
  any : mg "any" = none
  range : mg "range" = none
  sorted : mg "sorted" = none
  set : mg "set" = none
  max : mg "max" = none
  len : mg "len" = none
  min : mg "min" = none
  repr : mg "repr" = none
abbrev s_is_whole : Stmt := topS 11
theorem sc_is_whole : FnScope ["thing", "low", "high"] ["thing", "low", "high"] (defScope s_is_whole) := ⟨rfl, rfl, rfl, by decide +kernel, rfl, by decide +kernel, by decide +kernel⟩
abbrev s_is_sequence : Stmt := topS 12
theorem sc_is_sequence : FnScope ["thing"] ["thing"] (defScope s_is_sequence) := ⟨rfl, rfl, rfl, by decide +kernel, rfl, by decide +kernel, by decide +kernel⟩
abbrev s_is_whole_row : Stmt := topS 13
theorem sc_is_whole_row : FnScope ["thing", "item"] ["thing"] (defScope s_is_whole_row) := ⟨rfl, rfl, rfl, by decide +kernel, rfl, by decide +kernel, by decide +kernel⟩
abbrev s_view_within : Stmt := topS 17
theorem sc_view_within : FnScope ["one", "other", "house"] ["one", "other"] (defScope s_view_within) := ⟨rfl, rfl, rfl, by decide +kernel, rfl, by decide +kernel, by decide +kernel⟩
abbrev s_goes_on : Stmt := topS 18
theorem sc_goes_on : FnScope ["view", "entry"] ["view", "entry"] (defScope s_goes_on) := ⟨rfl, rfl, rfl, by decide +kernel, rfl, by decide +kernel, by decide +kernel⟩
abbrev s_check_entry : Stmt := topS 15
theorem sc_check_entry : FnScope ["houses", "values", "entry", "house"] ["houses", "values", "entry"] (defScope s_check_entry) := ⟨rfl, rfl, rfl, by decide +kernel, rfl, by decide +kernel, by decide +kernel⟩
abbrev s_checked_inputs : Stmt := topS 27
theorem sc_checked_inputs : FnScope ["houses", "values", "inputs", "checked", "index", "entry"] ["houses", "values", "inputs"] (defScope s_checked_inputs) := ⟨rfl, rfl, rfl, by decide +kernel, rfl, by decide +kernel, by decide +kernel⟩
abbrev s_as_tuples : Stmt := topS 14
theorem sc_as_tuples : FnScope ["thing", "part"] ["thing"] (defScope s_as_tuples) := ⟨rfl, rfl, rfl, by decide +kernel, rfl, by decide +kernel, by decide +kernel⟩
abbrev s_places_in : Stmt := topS 30
theorem sc_places_in : FnScope ["inputs", "at"] ["inputs"] (defScope s_places_in) := ⟨rfl, rfl, rfl, by decide +kernel, rfl, by decide +kernel, by decide +kernel⟩
/-- is_whole has two defaults -/
abbrev FunW (K : PySem.W.Frag) (f : Addr) (fd : FuncData) : Prop := L2.FunD K "is_whole" "is_whole" (defArgs s_is_whole) (defBody s_is_whole) (defScope s_is_whole) [.non, .non] [] f fd
theorem okD {P : Program} {w : World} {K : PySem.W.Frag} {mg : Str → Option Value} {base : Heap} {x qual : Str} {params : Arguments} {body : List Stmt} {scope : Scope} {dvs : List V} {kws : List (Str × V)} {f : Addr} {fd : FuncData} {N ps : List Str} {k : Nat} {sp : Sp} (F : L2.FunD K x qual params body scope dvs kws f fd) (S : FnScope N ps scope) (len : ∀ vs H Q E, sp vs H Q E → vs.length = ps.length)
    (hbody : ∀ (cdv : Value) (A : Around) (outer : List Env) (s : Shared) (H : Hp) (vs : List V) (Q : VK) (E : XK), Room k (A.deeper (envOfC qual scope s.heap.objs.size f cdv)) → sp vs H Q E →
      ∃ t, PSs (cxOf CX0 P w K mg base N qual scope f cdv A outer s H E).nox body t ∧ t { nx := fun _ H' => Q .non H', rt := Q } (start N vs) H) : FnOk P w K mg base CX0 (k + 1) f fd ps sp :=
  F.ok S len fun cdv A outer s H vs Q E hr h => by
    obtain ⟨t, h1, q⟩ := hbody cdv A outer s H vs Q E hr h
    exact ⟨t, h1.nox, q⟩
def isL : PyData → Bool
  | .list _ => true
  | _ => false
def isT : PyData → Bool
  | .tuple _ => true
  | _ => false
def isB : PyData → Bool
  | .bool _ => true
  | _ => false
def isI : PyData → Bool
  | .bool _ => true
  | .int _ => true
  | _ => false
theorem kit_list : ∀ d : PyData, kitB (tyD d) "list" = some (isL d)
  | .none => by decide +kernel
  | .bool _ => by show kitB "bool" "list" = some false; decide +kernel
  | .int _ => by show kitB "int" "list" = some false; decide +kernel
  | .str _ => by show kitB "str" "list" = some false; decide +kernel
  | .list _ => by show kitB "list" "list" = some true; decide +kernel
  | .tuple _ => by show kitB "tuple" "list" = some false; decide +kernel
  | .dict _ => by show kitB "dict" "list" = some false; decide +kernel
theorem kit_tuple : ∀ d : PyData, kitB (tyD d) "tuple" = some (isT d)
  | .none => by decide +kernel
  | .bool _ => by show kitB "bool" "tuple" = some false; decide +kernel
  | .int _ => by show kitB "int" "tuple" = some false; decide +kernel
  | .str _ => by show kitB "str" "tuple" = some false; decide +kernel
  | .list _ => by show kitB "list" "tuple" = some false; decide +kernel
  | .tuple _ => by show kitB "tuple" "tuple" = some true; decide +kernel
  | .dict _ => by show kitB "dict" "tuple" = some false; decide +kernel
theorem kit_bool : ∀ d : PyData, kitB (tyD d) "bool" = some (isB d)
  | .none => by decide +kernel
  | .bool _ => by show kitB "bool" "bool" = some true; decide +kernel
  | .int _ => by show kitB "int" "bool" = some false; decide +kernel
  | .str _ => by show kitB "str" "bool" = some false; decide +kernel
  | .list _ => by show kitB "list" "bool" = some false; decide +kernel
  | .tuple _ => by show kitB "tuple" "bool" = some false; decide +kernel
  | .dict _ => by show kitB "dict" "bool" = some false; decide +kernel
theorem kit_int : ∀ d : PyData, kitB (tyD d) "int" = some (isI d)
  | .none => by decide +kernel
  | .bool _ => by show kitB "bool" "int" = some true; decide +kernel
  | .int _ => by show kitB "int" "int" = some true; decide +kernel
  | .str _ => by show kitB "str" "int" = some false; decide +kernel
  | .list _ => by show kitB "list" "int" = some false; decide +kernel
  | .tuple _ => by show kitB "tuple" "int" = some false; decide +kernel
  | .dict _ => by show kitB "dict" "int" = some false; decide +kernel
/-- None or a whole number -/
def oD : Option Int → PyData
  | none => .none
  | some i => .int i
def loOk (i : Int) : Option Int → Bool
  | none => true
  | some l => decide (l ≤ i)
def hiOk (i : Int) : Option Int → Bool
  | none => true
  | some h => decide (i ≤ h)
def isWhole (lo hi : Option Int) : PyData → Bool
  | .int i => loOk i lo && hiOk i hi
  | _ => false
section
variable {P : Program} {w : World} {K : PySem.W.Frag} {mg : Str → Option Value} {base : Heap}
theorem rpAll1 {F : Hp} {vs : List V} {d : PyData} (h : RpAll K F vs [d]) : ∃ v, vs = [v] ∧ Rp K F v d := by
  cases h with
  | cons h1 h2 => cases h2; exact ⟨_, rfl, h1⟩
theorem rpAll2 {F : Hp} {vs : List V} {d e : PyData} (h : RpAll K F vs [d, e]) : ∃ v x, vs = [v, x] ∧ Rp K F v d ∧ Rp K F x e := by
  cases h with
  | cons h1 h2 =>
    obtain ⟨x, rfl, hx⟩ := rpAll1 h2
    exact ⟨_, x, rfl, h1, hx⟩
theorem rpAll3 {F : Hp} {vs : List V} {d e g : PyData} (h : RpAll K F vs [d, e, g]) : ∃ v x y, vs = [v, x, y] ∧ Rp K F v d ∧ Rp K F x e ∧ Rp K F y g := by
  cases h with
  | cons h1 h2 =>
    obtain ⟨x, y, rfl, hx, hy⟩ := rpAll2 h2
    exact ⟨_, x, y, rfl, h1, hx, hy⟩
/-! is_sequence -/
abbrev spSeq (K : PySem.W.Frag) : Sp := PSp K (fun d : PyData => [d]) (fun _ => True) (fun d => .bool (isL d || isT d))
theorem ok_seq {f : Addr} {fd : FuncData} (Fn : Fun K "is_sequence" "is_sequence" s_is_sequence f fd) (T : Tx mg) : FnOk P w K mg base CX0 1 f fd ["thing"] (spSeq K) := by
  refine Fn.ok sc_is_sequence (PSp.len (fun _ => rfl)) (fun cdv A outer s H vs Q E hr h => ?_)
  obtain ⟨d, F, _, e, ha, q⟩ := h
  obtain ⟨v, rfl, hv⟩ := rpAll1 ha
  exact ⟨_, (pss_one (ps_ret (pe_callB (c_isiT (K := K)) (by rfl) T.isinstance (by decide +kernel) (pa_cons (pv 0) (pa_cons (pe_tup (pa_cons (pe_bltn (v := .ty "list") (by rfl) T.list (by decide +kernel) rfl) (pa_cons (pe_bltn (v := .ty "tuple") (by rfl) T.tuple (by decide +kernel) rfl) pa_nil))) pa_nil))))), t_retI (Step.refl e .nil) (g_isi2 (g_var rfl hv) (kit_list d) (kit_tuple d)) q⟩
/-! is_whole -/
abbrev spWhole (K : PySem.W.Frag) : Sp := PSp K (fun i : PyData × Option Int × Option Int => [i.1, oD i.2.1, oD i.2.2]) (fun _ => True) (fun i => .bool (isWhole i.2.1 i.2.2 i.1))
theorem ok_whole {f : Addr} {fd : FuncData} (Fn : FunW K f fd) (T : Tx mg) : FnOk P w K mg base CX0 1 f fd ["thing", "low", "high"] (spWhole K) := by
  refine okD Fn sc_is_whole (PSp.len (fun _ => rfl)) (fun cdv A outer s H vs Q E hr h => ?_)
  obtain ⟨⟨d, lo, hi⟩, F, _, e, ha, q⟩ := h
  obtain ⟨v, x, y, rfl, hv, hx, hy⟩ := rpAll3 ha
  refine ⟨_, (pss_cons (ps_if (PW.pt (pw_or (pt_val (pe_callB (c_isi (K := K)) (by rfl) T.isinstance (by decide +kernel) (pa_cons (pv 0) (pa_cons (pe_bltn (v := .ty "bool") (by rfl) T.bool (by decide +kernel) rfl) pa_nil)))) (pw_or1 (pt_not (pt_val (pe_callB (c_isi (K := K)) (by rfl) T.isinstance (by decide +kernel) (pa_cons (pv 0) (pa_cons (pe_bltn (v := .ty "int") (by rfl) T.int (by decide +kernel) rfl) pa_nil)))))))) (pss_one (ps_ret pe_bl)) pss_nil)
    (pss_one (ps_ret (pe_and (pe_or (pe_cmpR op_isN (pv 1) pe_non (nomark _)) (pe_one (pe_cmpR op_ge (pv 0) (pv 1) (nomark _)))) (pe_one (pe_or (pe_cmpR op_isN (pv 2) pe_non (nomark _)) (pe_one (pe_cmpR op_le (pv 0) (pv 2) (nomark _))))))))), ?_⟩
  refine t_when (b := isB d || !isI d) (Step.refl e .nil) (et_or (et_B (g_isi (g_var rfl hv) (kit_bool d))) fun _ => et_not (et_B (g_isi (g_var rfl hv) (kit_int d)))) (fun hb F2 H2 s2 e2 => ?_) (fun hb F2 H2 s2 e2 => ?_)
  · refine t_retI (K := K) s2 g_bl fun v F3 H3 s3 hv3 => q v F3 H3 s3 ?_
    have : isWhole lo hi d = false := by cases d <;> simp_all [isB, isI, isWhole]
    show Rp K F3 v (.bool (isWhole lo hi d))
    rw [this]; exact hv3
  · obtain ⟨i, rfl⟩ : ∃ i, d = .int i := by cases d <;> simp_all [isB, isI]
    have v1 := Rp.mono e2 _ _ hv
    have x1 := Rp.mono e2 _ _ hx
    have y1 := Rp.mono e2 _ _ hy
    refine t_retI s2 (g_andV (a := loOk i lo) (b := hiOk i hi) ?_ fun _ => ?_) q
    · refine (g_orV (a := isNone (oD lo)) (b := loOk i lo) (g_op (g_var rfl x1) g_non fun _ _ h1 h2 => h1 ▸ h2 ▸ rv_isN) fun hn => ?_).is ?_
      · cases lo with
        | none => cases hn
        | some l => exact g_op (g_var rfl v1) (g_var rfl x1) fun _ _ h1 h2 => h1 ▸ h2 ▸ rv_bl (g := fun i j => decide (j ≤ i))
      · cases lo <;> simp [oD, isNone, loOk]
    · refine (g_orV (a := isNone (oD hi)) (b := hiOk i hi) (g_op (g_var rfl y1) g_non fun _ _ h1 h2 => h1 ▸ h2 ▸ rv_isN) fun hn => ?_).is ?_
      · cases hi with
        | none => cases hn
        | some l => exact g_op (g_var rfl v1) (g_var rfl y1) fun _ _ h1 h2 => h1 ▸ h2 ▸ rv_bl (g := fun i j => decide (i ≤ j))
      · cases hi <;> simp [oD, isNone, hiOk]
/-! lot_within -/
end
end KC

namespace KC
open PySem PySem.Spec PyProof.Rows L2 L2H Fv Evl StX
/-- a view goes on to an input -/
def goesB (v : List (Option Int)) (r : List Int) : Bool := (List.range v.length).all fun k => (v.getD k none).isNone || decide (v.getD k none = some (r.getD k 0))
abbrev Row (n m : Nat) (r : List Int) : Prop := r.length = n ∧ ∀ k ∈ r, 0 ≤ k ∧ k < (m : Int)
theorem rv_neI {K : PySem.W.Frag} {i j : Int} : RvG K rNe (.int i) (.int j) (Is (.bool (!decide (i = j)))) := rv_val fun F H x y _ hx hy => by
  rw [rp_int hx, rp_int hy]
  refine ⟨.bl (!decide (V.int i = V.int j)), fun Q q => ⟨rfl, q⟩, ?_⟩
  have : decide (V.int i = V.int j) = decide (i = j) := by by_cases h : i = j <;> simp [h]
  rw [this]; exact .bl _
section
variable {P : Program} {w : World} {K : PySem.W.Frag} {mg : Str → Option Value} {base : Heap}
variable {pt : Option Pt} {σ : L2.St} {F F0 H0 H : Hp} {te ta tb : TE} {ts tr : TA} {D : Ends} {tz : TS}
theorem g_whole1 {E : XK} {d : PyData} (h : EvG K pt te σ F (Is d)) : EvG K pt (tCall (spWhole K) [.non, .non] E (tCons te tNil)) σ F (Is (.bool (isWhole none none d))) := fun H1 e g Q q => h H1 e g _ fun d' v F2 H2 hd s hv => by
  subst hd
  exact ⟨(d', none, none), F2, trivial, s.inn, .cons hv (.cons .non (.cons .non .nil)), fun v F3 H3 s3 hv3 => q _ v F3 H3 rfl (s.trans (s3.lift s.good)) hv3⟩
abbrev spRow (K : PySem.W.Frag) : Sp := PSp K (fun r : List Int => [dT r]) (fun r => r.length ≤ 1000) (fun _ => .bool true)
theorem ok_row {f fS fW : Addr} {fd fdS fdW : FuncData} (Fn : Fun K "is_whole_row" "is_whole_row" s_is_whole_row f fd) (T : Tx mg)
    (F_is_sequence : Fun K "is_sequence" "is_sequence" s_is_sequence fS fdS) (b_is_sequence : Binds K fdS ["thing"] []) (g_is_sequence : mg "is_sequence" = some (.ref fS))
    (F_is_whole : FunW K fW fdW) (g_is_whole : mg "is_whole" = some (.ref fW)) : FnOk P w K mg base CX0 2 f fd ["thing"] (spRow K) := by
  have G_is_sequence : FnOk P w K mg base CX0 1 fS fdS ["thing"] (spSeq K) := ok_seq F_is_sequence T
  have G_is_whole : FnOk P w K mg base CX0 1 fW fdW ["thing", "low", "high"] (spWhole K) := ok_whole F_is_whole T
  obtain ⟨ds1, v1_is_whole, b1_is_whole⟩ := L2.FunD.binds1 F_is_whole (ps := ["thing", "low", "high"]) 1 0 (by simp) rfl fun T kV doc pm an cdv ct us its hl hi => match us, its, hl, hi with | [_], [_, _], _, _ => ⟨_, rfl, rfl⟩
  refine Fn.ok sc_is_whole_row (PSp.len (fun _ => rfl)) (fun cdv A outer s H vs Q E hr h => ?_)
  obtain ⟨r, F, hf, e, ha, q⟩ := h
  obtain ⟨v, rfl, hv⟩ := rpAll1 ha
  refine ⟨_, (pss_one (ps_ret (pe_and (pe_call G_is_sequence (hr.mono (by decide)) (by rfl) g_is_sequence F_is_sequence.kp b_is_sequence .nil pass0 (pa_cons (pv 0) pa_nil)) (pe_one (pe_callB (c_all (K := K)) (by rfl) T.all (by decide +kernel) (pa_cons (pe_lc (own := [("item", 1)]) (g := gName 1) rfl sc_is_whole_row.nd (i_tup (K := K) (pv 0)) (blkOk_by (own := [("item", 1)]) (N := ["thing", "item"]) (sc := (defScope s_is_whole_row)) (by decide +kernel)) (fun _ _ _ _ _ => pg_name (i := 1) sc_is_whole_row.nd rfl (by first | exact Or.inl rfl | exact Or.inr rfl)) (fun _ _ _ _ _ => pts_nil) (fun _ _ _ _ _ => (pe_call G_is_whole (hr.mono (by decide)) (by rfl) g_is_whole F_is_whole.kp b1_is_whole v1_is_whole pass0 (pa_cons (pv 1) pa_nil)))) pa_nil)))))), ?_⟩
  exact t_retI (K := K) (Step.refl e .nil) ((g_andV (a := true) (b := true) (g_call (dT r) (gs_one (g_var rfl hv)) rfl trivial) fun hb =>
    (g_cbI (gs_one ((g_lcEM PyData.int r (fun _ => .bool true) (w_tupI (g_var rfl hv)) (Nat.le_trans hf (by decide)) (fun _ => rfl) fun x hx F' e' y hy => g_whole1 (g_var rfl hy)))) (rc_allM r fun _ => true)).is (by simp)).is rfl) q
abbrev spVW (K : PySem.W.Frag) : Sp := PSp K (fun i : List (Option Int) × List Int => [dO i.1, dT i.2]) (fun i => i.1.length = i.2.length ∧ i.1.length ≤ 100) (fun i => .bool (goesB i.1 i.2))
theorem ok_vw {f : Addr} {fd : FuncData} (Fn : Fun K "view_within" "view_within" s_view_within f fd) (T : Tx mg) : FnOk P w K mg base CX0 1 f fd ["one", "other"] (spVW K) := by
  refine Fn.ok sc_view_within (PSp.len (fun _ => rfl)) (fun cdv A outer s H vs Q E hr h => ?_)
  obtain ⟨⟨vw, r⟩, F, ⟨hl, hz⟩, e, ha, q⟩ := h
  replace hl : vw.length = r.length := hl
  replace hz : vw.length ≤ 100 := hz
  obtain ⟨v, x, rfl, hv, hx⟩ := rpAll2 ha
  refine ⟨_, (pss_one (ps_ret (pe_callB (c_all (K := K)) (by rfl) T.all (by decide +kernel) (pa_cons (pe_lc (own := [("house", 2)]) (g := gName 2) rfl sc_view_within.nd (pi_range1 (by rfl) T.range (pa_cons (pe_callB (c_len (K := K)) (by rfl) T.len (by decide +kernel) (pa_cons (pv 0) pa_nil)) pa_nil)) (blkOk_by (own := [("house", 2)]) (N := ["one", "other", "house"]) (sc := (defScope s_view_within)) (by decide +kernel)) (fun _ _ _ _ _ => pg_name (i := 2) sc_view_within.nd rfl (by first | exact Or.inl rfl | exact Or.inr rfl)) (fun _ _ _ _ _ => pts_nil) (fun _ _ _ _ _ => (pe_or (pe_cmpR op_isN (pe_ix (o_ixT (K := K)) (pv 0) (pv 2) (fun _ _ => rfl)) pe_non (nomark _)) (pe_one (pe_cmpR op_eq (pe_ix (o_ixT (K := K)) (pv 0) (pv 2) (fun _ _ => rfl)) (pe_ix (o_ixT (K := K)) (pv 1) (pv 2) (fun _ _ => rfl)) (nomark _)))))) pa_nil)))), ?_⟩
  exact t_retI (K := K) (Step.refl e .nil) (g_cbI (gs_one (g_lcEM natD (List.range vw.length) (fun k => .bool ((vw.getD k none).isNone || decide (vw.getD k none = some (r.getD k 0)))) (w_len (g_var rfl hv) (by simp) (by omega)) (by simp; omega) (fun _ => rfl) fun k hk F' e' y hy => by
    have hk' : k < vw.length := List.mem_range.mp hk
    have i1 : ∀ {F'' : Hp} {σ' : L2.St}, Ex F' F'' → σ'[0]? = some (some v) → σ'[2]? = some (some y) → EvG K none (tOp (rIxT K) (tVar 0) (tVar 2)) σ' F'' (Is (optD (vw.getD k none))) := fun ee h0 h2 => g_ixO (g_var h0 (Rp.mono (e'.trans ee) _ _ hv)) (g_var h2 (Rp.mono ee _ _ hy)) hk'
    exact g_orV (g_opI (i1 (Ex.refl _) rfl rfl) g_non rv_isO) fun _ => g_opI (i1 (Ex.refl _) rfl rfl) (g_opI (g_var rfl (Rp.mono e' _ _ hx)) (g_var rfl hy) (rv_ixT (d := optD (some (r.getD k 0))) (atI_nat (by rw [List.getElem?_map, List.getElem?_eq_getElem (hl ▸ hk' : k < r.length), List.getD_eq_getElem?_getD, List.getElem?_eq_getElem (hl ▸ hk' : k < r.length)]; rfl)))) rv_eqO)) (rc_allM (List.range vw.length) _)) q
theorem ok_goes {f fV : Addr} {fd fdV : FuncData} (Fn : Fun K "goes_on" "goes_on" s_goes_on f fd) (T : Tx mg)
    (F_view_within : Fun K "view_within" "view_within" s_view_within fV fdV) (b_view_within : Binds K fdV ["one", "other"] []) (g_view_within : mg "view_within" = some (.ref fV)) : FnOk P w K mg base CX0 2 f fd ["view", "entry"] (spVW K) := by
  have G_view_within : FnOk P w K mg base CX0 1 fV fdV ["one", "other"] (spVW K) := ok_vw F_view_within T
  refine Fn.ok sc_goes_on (PSp.len (fun _ => rfl)) (fun cdv A outer s H vs Q E hr h => ?_)
  obtain ⟨⟨vw, r⟩, F, hp, e, ha, q⟩ := h
  obtain ⟨v, x, rfl, hv, hx⟩ := rpAll2 ha
  exact ⟨_, (pss_one (ps_ret (pe_call G_view_within (hr.mono (by decide)) (by rfl) g_view_within F_view_within.kp b_view_within .nil pass0 (pa_cons (pv 0) (pa_cons (pv 1) pa_nil))))), t_retI (K := K) (Step.refl e .nil) (g_call (vw, r) (gs_two (g_var rfl hv) (g_var rfl hx)) rfl hp) q⟩
abbrev spEnt (K : PySem.W.Frag) : Sp := PSp K (fun i : Nat × Nat × List Int => [.int i.1, .int i.2.1, dT i.2.2]) (fun i => i.1 ≤ 5 ∧ i.2.1 ≤ 5 ∧ i.2.2.length = i.1 ∧ ∀ k ∈ i.2.2, 0 ≤ k ∧ k < (i.2.1 : Int)) (fun i => dT i.2.2)
theorem ok_gentry {f fS fW : Addr} {fd fdS fdW : FuncData} (Fn : Fun K "check_entry" "check_entry" s_check_entry f fd) (T : Tx mg)
    (F_is_sequence : Fun K "is_sequence" "is_sequence" s_is_sequence fS fdS) (b_is_sequence : Binds K fdS ["thing"] []) (g_is_sequence : mg "is_sequence" = some (.ref fS))
    (F_is_whole : FunW K fW fdW) (b_is_whole : Binds K fdW ["thing", "low", "high"] []) (g_is_whole : mg "is_whole" = some (.ref fW)) : FnOk P w K mg base CX0 2 f fd ["houses", "values", "entry"] (spEnt K) := by
  have G_is_sequence : FnOk P w K mg base CX0 1 fS fdS ["thing"] (spSeq K) := ok_seq F_is_sequence T
  have G_is_whole : FnOk P w K mg base CX0 1 fW fdW ["thing", "low", "high"] (spWhole K) := ok_whole F_is_whole T
  refine Fn.ok sc_check_entry (PSp.len (fun _ => rfl)) (fun cdv A outer s H vs Q E hr h => ?_)
  obtain ⟨⟨n, m, row⟩, F, ⟨hn, hm, hl, hk⟩, e, ha, q⟩ := h
  simp only at hn hm hl hk
  obtain ⟨v1, v2, v, rfl, h1, h2, hv⟩ := rpAll3 ha
  obtain rfl := rp_int h1
  obtain rfl := rp_int h2
  have sq : dT row = .list (row.map PyData.int) ∨ dT row = .tuple (row.map PyData.int) := .inr rfl
  refine ⟨_, (pss_cons (ps_if (PW.pt (pw_or (pt_not (pt_val (pe_call G_is_sequence (hr.mono (by decide)) (by rfl) g_is_sequence F_is_sequence.kp b_is_sequence .nil pass0 (pa_cons (pv 2) pa_nil)))) (pw_or1 (pt_cmpR op_ne (pe_callB (c_len (K := K)) (by rfl) T.len (by decide +kernel) (pa_cons (pv 2) pa_nil)) (pv 0) (nomark _))))) (pss_one ps_never) pss_nil)
    (pss_cons (ps_for PassesOwn.never rfl (pi_range1 (by rfl) T.range (pa_cons (pv 0) pa_nil)) (pg_name (i := 3) sc_check_entry.nd rfl (by first | exact Or.inl rfl | exact Or.inr rfl)) (pss_one (ps_if (pt_not (pt_val (pe_call G_is_whole (hr.mono (by decide)) (by rfl) g_is_whole F_is_whole.kp b_is_whole .nil pass0 (pa_cons (pe_ix (o_ix (K := K)) (pv 2) (pv 3) (fun _ _ => rfl)) (pa_cons pe_int (pa_cons (pe_op op_sub (pv 1) pe_int) pa_nil)))))) (pss_one ps_never) pss_nil)))
    (pss_one (ps_ret (pe_callTy (c_tup (K := K)) (by rfl) T.tuple (by decide +kernel) (pa_cons (pv 2) pa_nil)))))), ?_⟩
  refine t_skip (Step.refl e .nil) ((et_or (a := false) (b := false) ((et_not (b := true) (et_B (g_call (dT row) (gs_one (g_var rfl hv)) rfl trivial))).is rfl) fun _ => (et_of (g_opI (g_cbI (gs_one (g_var rfl hv)) (rc_lenS sq)) (g_var (v := .int n) rfl (.int _)) rv_neI)).is (by simp [hl])).is rfl) fun F2 H2 s2 e2 => ?_
  refine t_for (K := K) (ds := rng 0 n) s2 (w_rng1I (n := (n : Int)) (gs_one (g_var (v := .int n) rfl (.int _))) (by omega) (by omega)) (fun k σ' F' => ∃ z, σ' = [some (.int n), some (.int m), some v, z]) (fun F2 e2 => ⟨none, rfl⟩) (fun k d' hd σ' F' H' u hI s' e' hu N hN => ?_) (fun σ' F' H' hI s' e' => ?_)
  · obtain ⟨z, rfl⟩ := hI
    have hkn : k < n := by
      obtain ⟨hi, _⟩ := List.getElem?_eq_some_iff.mp hd
      rw [rng_len] at hi; exact hi
    rw [rng_get hkn] at hd
    obtain rfl := Option.some.inj hd
    have hkr : k < row.length := by omega
    have ix : atI (row.map PyData.int) (0 + (k : Int)) = some (.int row[k]) := by
      rw [Int.zero_add]; exact atI_nat (by rw [List.getElem?_map, List.getElem?_eq_getElem hkr]; rfl)
    obtain ⟨r0, r1⟩ := hk row[k] (List.getElem_mem hkr)
    have ok : isWhole (some 0) (some ((m : Int) - 1)) (.int row[k]) = true := by
      simp only [isWhole, loOk, hiOk, Bool.and_eq_true, decide_eq_true_eq]
      omega
    have ixv : ∀ {F' : Hp}, Ex F F' → ∀ {u : V}, Rp K F' u (.int (0 + (k : Int))) → EvG K none (tOp (rIx K) (tVar 2) (tVar 3)) [some (.int n), some (.int m), some v, some u] F' (Is (.int row[k])) := fun e2 _ hu => g_opI (g_var rfl (Rp.mono e2 _ _ hv)) (g_var rfl hu) (rv_ix sq ix)
    have whole : EtG none (tNot (tB (tCall (spWhole K) [] E0 (tCons (tOp (rIx K) (tVar 2) (tVar 3)) (tCons (tC (.int 0)) (tCons (tOp rSub (tVar 1) (tC (.int 1))) tNil)))))) [some (.int n), some (.int m), some v, some u] F' (· = false) :=
      (et_not (et_B (g_call (.int row[k], some 0, some ((m : Int) - 1)) (gs_three (ixv (e2.trans e') hu) g_int (g_opI (g_var (v := .int m) (d := .int m) rfl (.int _)) g_int rv_sub)) rfl trivial))).is (by show (!isWhole (some 0) (some ((m : Int) - 1)) (.int row[k])) = false; rw [ok]; rfl)
    exact t_if1 (b := false) s' whole (fun z => by cases z) (fun _ F3 H3 s3 e3 => hN _ F3 H3 ⟨_, rfl⟩ s3 e3)
  · obtain ⟨z, rfl⟩ := hI
    exact t_retI (K := K) s' (g_cbI (gs_one (g_var rfl (Rp.mono (e2.trans e') _ _ hv))) rc_tupT) q

/-- a list or a tuple of rows -/
abbrev RowsD (d : PyData) (rs : List (List Int)) : Prop := d = .list (rs.map dT) ∨ d = .tuple (rs.map dT)
abbrev spChk (K : PySem.W.Frag) : Sp := PSp K (fun i : Nat × Nat × PyData × List (List Int) => [.int i.1, .int i.2.1, i.2.2.1]) (fun i => i.1 ≤ 5 ∧ i.2.1 ≤ 5 ∧ RowsD i.2.2.1 i.2.2.2 ∧ i.2.2.2.length ≤ 300 ∧ ∀ r ∈ i.2.2.2, Row i.1 i.2.1 r) (fun i => dLT i.2.2.2)
theorem ok_chk {f fS fW fL : Addr} {fd fdS fdW fdL : FuncData} (Fn : Fun K "_checked_inputs" "_checked_inputs" s_checked_inputs f fd) (T : Tx mg)
    (F_is_sequence : Fun K "is_sequence" "is_sequence" s_is_sequence fS fdS) (b_is_sequence : Binds K fdS ["thing"] []) (g_is_sequence : mg "is_sequence" = some (.ref fS))
    (F_is_whole : FunW K fW fdW) (b_is_whole : Binds K fdW ["thing", "low", "high"] []) (g_is_whole : mg "is_whole" = some (.ref fW))
    (F_check_entry : Fun K "check_entry" "check_entry" s_check_entry fL fdL) (b_check_entry : Binds K fdL ["houses", "values", "entry"] []) (g_check_entry : mg "check_entry" = some (.ref fL)) :
    FnOk P w K mg base CX0 3 f fd ["houses", "values", "inputs"] (spChk K) := by
  have G_check_entry : FnOk P w K mg base CX0 2 fL fdL ["houses", "values", "entry"] (spEnt K) := ok_gentry F_check_entry T F_is_sequence b_is_sequence g_is_sequence F_is_whole b_is_whole g_is_whole
  refine Fn.ok sc_checked_inputs (PSp.len (fun _ => rfl)) (fun cdv A outer s H vs Q E hr h => ?_)
  obtain ⟨⟨n, m, src, ls⟩, F, ⟨hn, hm5, hsrc, hz, hls⟩, e, ha, q⟩ := h
  simp only at hn hm5 hsrc hz hls
  obtain ⟨v, x, y, rfl, hv, hx, hy⟩ := rpAll3 ha
  refine ⟨_, (pss_cons (ps_set (i := 3) sc_checked_inputs.nd rfl (by first | exact Or.inl rfl | exact Or.inr rfl) (pe_lst pa_nil))
    (pss_cons (ps_for PassesOwn.never rfl (pi_range1 (by rfl) T.range (pa_cons (pe_callB (c_len (K := K)) (by rfl) T.len (by decide +kernel) (pa_cons (pv 2) pa_nil)) pa_nil)) (pg_name (i := 4) sc_checked_inputs.nd rfl (by first | exact Or.inl rfl | exact Or.inr rfl)) (pss_cons (ps_try_thru0 (pss_one (ps_set (i := 5) sc_checked_inputs.nd rfl (by first | exact Or.inl rfl | exact Or.inr rfl) (pe_call G_check_entry (hr.mono (by decide)) (by rfl) g_check_entry F_check_entry.kp b_check_entry .nil pass0 (pa_cons (pv 0) (pa_cons (pv 1) (pa_cons (pe_ix (o_ix (K := K)) (pv 2) (pv 4) (fun _ _ => rfl)) pa_nil)))))))
    (pss_one (ps_expr (pe_bm PySem.F.plainAttrs_list PySem.F.slot_list_append PySem.F.type_list_append mt_append (pv 3) (pa_cons (pv 5) pa_nil))))))
    (pss_one (ps_ret (pv 3))))), ?_⟩
  have g0 : Good none F H := .nil
  refine t_newL (K := K) (Step.refl e .nil) (fun l h0 hl g => ?_) (fun _ h => h)
  refine t_forG (K := K) (ds := rng 0 (ls.length : Int).toNat) g0 h0 g (w_rng1I (n := (ls.length : Int)) (gs_one ((g_cbI (gs_one (g_var rfl hy)) (rc_lenS hsrc)).is (by simp))) (by omega) (by omega))
    (fun i σ' F' l' => (∃ z1 z2, σ' = [some v, some x, some y, some (.ref l), z1, z2]) ∧ l' = (ls.take i).map dT) (fun F2 e2 => ⟨⟨none, none, rfl⟩, by simp⟩) (fun i d hd σ' F' H' u l' hI g' e' hu N hN => ?_) (fun σ' F' H' l' hI g' e' => ?_)
  · obtain ⟨⟨z1, z2, rfl⟩, rfl⟩ := hI
    have hil : i < ls.length := by
      have := (List.getElem?_eq_some_iff.mp hd).1
      rw [rng_len] at this
      simpa using this
    have ed : d = .int (i : Int) := by
      rw [rng_get (by simpa using hil)] at hd
      have := Option.some.inj hd
      rw [← this]; simp
    subst ed
    have hm : ls[i] ∈ ls := List.getElem_mem hil
    obtain ⟨hm1, hm2⟩ := hls _ hm
    have hat : atI (ls.map dT) (i : Int) = some (dT ls[i]) := atI_nat (by rw [List.getElem?_map, List.getElem?_eq_getElem hil]; rfl)
    refine t_asg (K := K) (Step.refl g'.step.inn .nil) (g_call (n, m, ls[i]) (gs_three (g_var rfl (Rp.mono e' _ _ hv)) (g_var rfl (Rp.mono e' _ _ hx)) (g_opI (g_var (d := src) rfl (Rp.mono e' _ _ hy)) (g_var rfl hu) (rv_ix hsrc hat))) rfl ⟨hn, hm5, hm1, hm2⟩) fun d2 v2 F2 H2 hd2 s2 e2 hv2 => ?_
    subst hd2
    have g2 := g'.run g0 h0 s2
    refine t_app (K := K) g0 h0 g2 rfl (g_var rfl hv2) (by simp; omega) fun d4 F4 H4 hd4 g4 e4 => ?_
    subst hd4
    refine hN _ F4 H4 _ ⟨⟨_, _, rfl⟩, ?_⟩ g4 (e2.trans e4)
    rw [take_succA (List.getElem?_eq_getElem hil), List.map_append]
    rfl
  · obtain ⟨⟨z1, z2, rfl⟩, rfl⟩ := hI
    obtain ⟨F2, s2, e2, r2⟩ := g'.done g0 h0
    refine t_retI (K := K) s2 (g_var rfl r2) fun v3 F3 H3 s3 hv3 => q v3 F3 H3 s3 ?_
    rw [rng_len] at hv3
    simpa [dLT, Function.comp_def] using hv3
end
end KC

namespace KC
open PySem PySem.Spec PyProof.Rows L2 L2H Fv Evl StX
abbrev s_Book___init__ : Stmt := inClass (topS 26) 0
theorem sc_Book___init__ : FnScope ["self", "houses", "values", "inputs", "entry"] ["self", "houses", "values", "inputs"] (defScope s_Book___init__) := ⟨rfl, rfl, rfl, by decide +kernel, rfl, by decide +kernel, by decide +kernel⟩
theorem nd_len {α : Type} [DecidableEq α] : ∀ {a b : List α}, a.Nodup → (∀ x ∈ a, x ∈ b) → a.length ≤ b.length
  | [], _, _, _ => Nat.zero_le _
  | x :: a, b, h, hs => by
    have hx : x ∈ b := hs x (by simp)
    obtain ⟨h1, h2⟩ := List.nodup_cons.mp h
    have := nd_len (a := a) (b := b.erase x) h2 fun y hy => (List.mem_erase_of_ne (fun z : y = x => h1 (z ▸ hy))).mpr (hs y (List.mem_cons_of_mem _ hy))
    rw [List.length_erase_of_mem hx] at this
    have := List.length_pos_of_mem hx
    rw [List.length_cons]; omega
/-- an instance of Book: n houses, m values, the rows -/
structure Bk (K : PySem.W.Frag) (C : Addr) (F : Hp) (x : Addr) (n m : Nat) (R : List (List Int)) : Prop where
  ex : ∃ dx it d, F x = some (.ins C dx [("n", .int n), ("m", .int m), ("inputs", it), ("_held", .ref d)]) ∧ F dx = some (.own x) ∧ Rp K F it (dTT R) ∧ F d = some (.dT (letD R))
theorem Bk.mono {K : PySem.W.Frag} {C : Addr} {F F' : Hp} {x : Addr} {n m : Nat} {R : List (List Int)} (h : Bk K C F x n m R) (e : Ex F F') : Bk K C F' x n m R := by
  obtain ⟨dx, it, d, h1, h2, h3, h4⟩ := h.ex
  exact ⟨dx, it, d, e _ _ h1, e _ _ h2, Rp.mono e _ _ h3, e _ _ h4⟩
structure BookC (K : PySem.W.Frag) (C : Addr) : Prop where
  cl : Cls K C
  nN : NoAttr K C "n"
  nM : NoAttr K C "m"
  nI : NoAttr K C "inputs"
  nH : NoAttr K C "_held"
section
variable {P : Program} {w : World} {K : PySem.W.Frag} {mg : Str → Option Value} {base : Heap}
def spBook (K : PySem.W.Frag) (C : Addr) : Sp := fun vs H Q _ => ∃ x dx n m src rs F v, vs = [.ref x, .int (n : Nat), .int (m : Nat), v] ∧ H x = some (.ins C dx []) ∧ H dx = some (.own x) ∧ dx ≠ x ∧ F x = none ∧ F dx = none ∧ Ex F H ∧ Rp K F v src ∧
  RowsD src rs ∧ (2 ≤ n ∧ n ≤ 5) ∧ (1 ≤ m ∧ m ≤ 4) ∧ rs.length < 64 ∧ (∀ r ∈ rs, Row n m r) ∧ ∀ F2 H2 R, Step none F (Fv.del (Fv.del H x) dx) F2 H2 → Asc R → (∀ r, r ∈ R ↔ r ∈ rs) → Bk K C F2 x n m R → Q .non H2
theorem Row.bd {n m : Nat} {r : List Int} (h : Row n m r) (hm : m ≤ 4) : r.length = n ∧ TS.Bd 4 r := ⟨h.1, fun k hk => by have := h.2 k hk; omega⟩
theorem ok_book {f fS fW fL fC C : Addr} {fd fdS fdW fdL fdC : FuncData} (Fn : Fun K "__init__" "Book.__init__" s_Book___init__ f fd) (T : Tx mg) (BC : BookC K C) {tM : Tok} (c_MOST_INPUTS : mg "MOST_INPUTS" = some (.int 256 tM))
    (F_is_sequence : Fun K "is_sequence" "is_sequence" s_is_sequence fS fdS) (b_is_sequence : Binds K fdS ["thing"] []) (g_is_sequence : mg "is_sequence" = some (.ref fS))
    (F_is_whole : FunW K fW fdW) (b_is_whole : Binds K fdW ["thing", "low", "high"] []) (g_is_whole : mg "is_whole" = some (.ref fW))
    (F_check_entry : Fun K "check_entry" "check_entry" s_check_entry fL fdL) (b_check_entry : Binds K fdL ["houses", "values", "entry"] []) (g_check_entry : mg "check_entry" = some (.ref fL))
    (F_checked_inputs : Fun K "_checked_inputs" "_checked_inputs" s_checked_inputs fC fdC) (b_checked_inputs : Binds K fdC ["houses", "values", "inputs"] []) (g_checked_inputs : mg "_checked_inputs" = some (.ref fC)) :
    FnOk P w K mg base CX0 4 f fd ["self", "houses", "values", "inputs"] (spBook K C) := by
  have G_is_sequence : FnOk P w K mg base CX0 1 fS fdS ["thing"] (spSeq K) := ok_seq F_is_sequence T
  have G_is_whole : FnOk P w K mg base CX0 1 fW fdW ["thing", "low", "high"] (spWhole K) := ok_whole F_is_whole T
  have G_checked_inputs : FnOk P w K mg base CX0 3 fC fdC ["houses", "values", "inputs"] (spChk K) := ok_chk F_checked_inputs T F_is_sequence b_is_sequence g_is_sequence F_is_whole b_is_whole g_is_whole F_check_entry b_check_entry g_check_entry
  refine Fn.ok sc_Book___init__ (fun vs H Q E ⟨_, _, _, _, _, _, _, _, h, _⟩ => by rw [h]; rfl) (fun cdv A outer s H vs Q E hr h => ?_)
  obtain ⟨x, dx, n, m, src, rs, F, v, rfl, hox, hodx, hne, fx, fdx, e, hv, hsrc, ⟨hn2, hn5⟩, ⟨hm1, hm4⟩, hfew, hrow, q⟩ := h
  refine ⟨_, (pss_cons (ps_if (pt_not (pt_val (pe_call G_is_whole (hr.mono (by decide)) (by rfl) g_is_whole F_is_whole.kp b_is_whole .nil pass0 (pa_cons (pv 1) (pa_cons pe_int (pa_cons pe_int pa_nil)))))) (pss_one ps_never) pss_nil)
    (pss_cons (ps_if (pt_not (pt_val (pe_call G_is_whole (hr.mono (by decide)) (by rfl) g_is_whole F_is_whole.kp b_is_whole .nil pass0 (pa_cons (pv 2) (pa_cons pe_int (pa_cons pe_int pa_nil)))))) (pss_one ps_never) pss_nil)
    (pss_cons (ps_if (PW.pt (pw_or (pt_not (pt_val (pe_call G_is_sequence (hr.mono (by decide)) (by rfl) g_is_sequence F_is_sequence.kp b_is_sequence .nil pass0 (pa_cons (pv 3) pa_nil)))) (pw_or1 (pt_cmpR op_gt (pe_callB (c_len (K := K)) (by rfl) T.len (by decide +kernel) (pa_cons (pv 3) pa_nil)) (pe_glob (v := .int 256) (by rfl) c_MOST_INPUTS ⟨_, rfl⟩) (nomark _))))) (pss_one ps_never) pss_nil)
    (pss_cons (ps_fld (pv 0) (pv 1) rfl)
    (pss_cons (ps_fld (pv 0) (pv 2) rfl)
    (pss_cons (ps_fld (pv 0) (pe_callTy (c_tup (K := K)) (by rfl) T.tuple (by decide +kernel) (pa_cons (pe_callB (c_sortSetR (K := K) (P := P) (w := w)) (by rfl) T.sorted (by decide +kernel) (pa_cons (pe_callTy (c_setR (K := K) (P := P) (w := w) (hu65 hr)) (by rfl) T.set (by decide +kernel) (pa_cons (pe_call G_checked_inputs (hr.mono (by decide)) (by rfl) g_checked_inputs F_checked_inputs.kp b_checked_inputs .nil pass0 (pa_cons (pv 1) (pa_cons (pv 2) (pa_cons (pv 3) pa_nil)))) pa_nil)) pa_nil)) pa_nil)) rfl)
    (pss_one (ps_fld (pv 0) (pe_dcT (own := [("entry", 4)]) (g := gName 4) rfl (hu_of hr) sc_Book___init__.nd (i_tup (K := K) (e_fld (K := K) (pv 0) rfl)) (blkOk_by (own := [("entry", 4)]) (N := ["self", "houses", "values", "inputs", "entry"]) (sc := (defScope s_Book___init__)) (by decide +kernel)) (fun _ _ _ _ _ => pg_name (i := 4) sc_Book___init__.nd rfl (by first | exact Or.inl rfl | exact Or.inr rfl)) (fun _ _ _ _ _ => pts_nil) (fun _ _ _ _ _ => (pv 4)) (fun _ _ _ _ _ => pe_bl)) rfl)))))))), ?_⟩
  have h0x : Fv.del (Fv.del H x) dx x = none := by rw [Fv.del_ne hne.symm, Fv.del_same]
  -- the first tests
  refine t_skip (Step.refl e .nil) ((et_not (b := true) ((et_B (g_call (.int n, some 2, some 5) (gs_three (g_var (v := .int n) rfl (.int _)) g_int g_int) rfl trivial)).is ?_)).is rfl) fun F1 H1 s1 e1 => ?_
  · simp only [isWhole, loOk, hiOk, Bool.and_eq_true, decide_eq_true_eq]; omega
  refine t_skip s1 ((et_not (b := true) ((et_B (g_call (.int m, some 1, some 4) (gs_three (g_var (v := .int m) rfl (.int _)) g_int g_int) rfl trivial)).is ?_)).is rfl) fun F2 H2 s2 e2 => ?_
  · simp only [isWhole, loOk, hiOk, Bool.and_eq_true, decide_eq_true_eq]; omega
  have e12 := e1.trans e2
  refine t_skip s2 ((et_or (a := false) (b := false) ((et_not (b := true) ((et_B (g_call src (gs_one (g_var rfl (Rp.mono e12 _ _ hv))) rfl trivial)).is ?_)).is rfl) fun _ => ((et_of (K := K) (g_op (g_cbI (gs_one (g_var rfl (Rp.mono e12 _ _ hv))) (rc_lenS hsrc)) g_int fun _ _ h1 h2 => by subst h1 h2; exact rv_bl (g := fun i j => decide (j < i)))).is ?_)).is rfl) fun F3 H3 s3 e3 => ?_
  · rcases hsrc with rfl | rfl <;> rfl
  · simp; omega
  -- what the instance has been through
  have f3x : F3 x = none := s3.new x fx (by rw [hox]; simp)
  have h3x : H3 x = some (.ins C dx []) := s3.keep.ex x _ hox
  have b0 : Fv.del H x x = none := Fv.del_same
  have e13 := e12.trans e3
  refine t_fld (K := K) ((Step.own1 e x).trans s3) b0 f3x rfl h3x BC.cl BC.nN (by decide) (EvG.toX (g_var (K := K) (d := .int n) (v := .int n) rfl (.int _))) fun v6 F6 H6 hv6 s6 e6 f6x h6x => ?_
  have hv6' := rp_int hv6
  subst hv6'
  refine t_fld (K := K) s6 b0 f6x rfl h6x BC.cl BC.nM (by show 1 < 1000; decide) (EvG.toX (g_var (K := K) (d := .int m) (v := .int m) rfl (.int _))) fun v7 F7 H7 hv7 s7 e7 f7x h7x => ?_
  have hv7' := rp_int hv7
  subst hv7'
  have hI : EvG K none (tCB (rTup K) (tCons (tCB (rSortedT K P w) (tCons (tCB (rSetOfT K P w) (tCons (tCall (spChk K) [] E0 (tCons (tVar 1) (tCons (tVar 2) (tCons (tVar 3) tNil)))) tNil)) tNil)) tNil)) (start ["self", "houses", "values", "inputs", "entry"] [.ref x, .int n, .int m, v]) F7 (fun d => ∃ R, d = dTT R ∧ Asc R ∧ ∀ r, r ∈ R ↔ r ∈ rs) :=
    g_cb (g_consR (g_sortSetR (n := n) (g_call (n, m, src, rs) (gs_three (g_var (v := .int n) rfl (.int _)) (g_var (v := .int m) rfl (.int _)) (g_var rfl (Rp.mono ((e13.trans e6).trans e7) _ _ hv))) rfl ⟨hn5, by simp only; omega, hsrc, by simp only; omega, hrow⟩) hfew (by omega) fun r hr' => (hrow r hr').bd hm4)) fun ds ⟨d, h1, R, h2, h3, h4⟩ => by
      subst h1; subst h2
      intro F H vs e hvs Q q
      exact rc_tupL F H vs e hvs Q fun z v F2 H2 hz s hv => q z v F2 H2 ⟨R, hz, h3, h4⟩ s hv
  refine t_fld (K := K) (Φ := fun v F2 => ∃ R, Rp K F2 v (dTT R) ∧ Asc R ∧ ∀ r, r ∈ R ↔ r ∈ rs) s7 b0 f7x rfl h7x BC.cl BC.nI (by show 2 < 1000; decide) (fun H' i' g' Q' q' => hI H' i' g' Q' fun d v F2 H2 ⟨R, h1, h2, h3⟩ s hv => q' v F2 H2 ⟨R, by rw [← h1]; exact hv, h2, h3⟩ s) fun v8 F8 H8 hv8 s8 e8 f8x h8x => ?_
  obtain ⟨R, hR, hasc, hmem⟩ := hv8
  have lenR : R.length ≤ 300 := by
    have : R.length ≤ rs.length := nd_len hasc.nd fun r hr => (hmem r).mp hr
    omega
  refine t_fldAt1 (K := K) (Φ := fun v F2 => ∃ D, v = .ref D ∧ F2 D = some (.dT (letD R))) s8 b0 f8x rfl h8x BC.cl BC.nH (by show 3 < 1000; decide) (fun Fp ep ip hp Q' q' => ?_) (fun v F2 F3 h1 h2 ⟨D, h3, h4⟩ => ⟨D, h3, h2 D _ (fun z => by rw [z, h1] at h4; cases h4) h4⟩) fun v9 F9 H9 hv9 s9 e9 f9x h9x => ?_
  · exact x_dcT (K := K) (w_tupI (g_fld (K := K) rfl hp BC.cl BC.nI rfl (Rp.mono ep _ _ hR))) lenR (fun _ => rfl) (fun l hl F' e' u hu => g_var rfl hu) (fun _ _ _ => g_bl) H8 ip .nil Q' q'
  obtain ⟨D, rfl, hD⟩ := hv9
  have hdx : (Fv.del H x) dx = some (.own x) := by rw [Fv.del_ne hne]; exact hodx
  have f9d : F9 dx = none := s9.new dx fdx (by rw [hdx]; simp)
  have h9d : H9 dx = some (.own x) := s9.keep.ex dx _ hdx
  have s10 : Step none F (Fv.del (Fv.del H x) dx) (upd F9 dx (.own x)) H9 := (s9.less Fv.del_ex).add f9d h9d Fv.del_same
  have f10x : upd F9 dx (.own x) x = none := by rw [upd_ne hne.symm]; exact f9x
  have s11 := s10.add (a := x) f10x h9x (by rw [Fv.del_ne hne.symm, Fv.del_same])
  have ee : Ex F9 (upd (upd F9 dx (.own x)) x (.ins C dx (putF "_held" (.ref D) (putF "inputs" v8 (putF "m" (.int m) (putF "n" (.int n) [])))))) := (Ex.new f9d).trans (Ex.new f10x)
  refine q _ H9 R s11 hasc hmem ⟨dx, v8, D, upd_same, ?_, Rp.mono (e9.trans ee) _ _ hR, ee _ _ hD⟩
  rw [upd_ne hne]; exact upd_same
end
end KC

namespace Fv
open PySem PySem.Spec L2
end Fv
namespace KC
open PySem PySem.Spec PyProof.Rows L2 L2H Fv Evl StX
abbrev s_Outcomes___init__ : Stmt := inClass (topS 29) 0
theorem sc_Outcomes___init__ : FnScope ["self", "inputs", "told"] ["self", "inputs", "told"] (defScope s_Outcomes___init__) := ⟨rfl, rfl, rfl, by decide +kernel, rfl, by decide +kernel, by decide +kernel⟩
abbrev s_Outcomes_value_of : Stmt := inClass (topS 29) 2
theorem sc_Outcomes_value_of : FnScope ["self", "entry"] ["self", "entry"] (defScope s_Outcomes_value_of) := ⟨rfl, rfl, rfl, by decide +kernel, rfl, by decide +kernel, by decide +kernel⟩
/-- rows to their places -/
def plD (rs : List (List Int)) : List (List Key × V) := rs.zipIdx.foldl (fun es p => putK es (key p.1) (.int (p.2 : Nat))) []
theorem plD_snoc (rs : List (List Int)) (r : List Int) : plD (rs ++ [r]) = putK (plD rs) (key r) (.int (rs.length : Nat)) := by
  unfold plD
  rw [List.zipIdx_append, List.foldl_append]
  simp
theorem plD_len : ∀ (k : Nat) (rs : List (List Int)), rs.length = k → (plD rs).length ≤ k
  | 0, rs, h => by rw [List.eq_nil_of_length_eq_zero h]; simp [plD]
  | k + 1, rs, h => by
    obtain ⟨r, x, rfl⟩ : ∃ r x, rs = r ++ [x] := ⟨rs.dropLast, rs.getLast (by intro z; rw [z] at h; simp at h), (List.dropLast_concat_getLast _).symm⟩
    have h1 := plD_len k r (by simpa using h)
    rw [plD_snoc]
    have h2 := length_putK (plD r) (key x) (.int (r.length : Nat))
    omega
theorem valV_plD : ∀ (k : Nat) (rs : List (List Int)), rs.length = k → rs.Nodup → (∀ i (h : i < rs.length), valV (plD rs) (key rs[i]) = some (.int (i : Nat))) ∧ ∀ m, m ∉ rs → valV (plD rs) (key m) = none
  | 0, rs, h, _ => by
    have := List.eq_nil_of_length_eq_zero h
    subst this
    exact ⟨fun i h => by simp at h, fun m _ => by simp [plD, valV_nil]⟩
  | k + 1, rs, h, nd => by
    obtain ⟨r, x, rfl⟩ : ∃ r x, rs = r ++ [x] := ⟨rs.dropLast, rs.getLast (by intro z; rw [z] at h; simp at h), (List.dropLast_concat_getLast _).symm⟩
    have hr : r.length = k := by simpa using h
    have nd' := List.nodup_append.mp nd
    have hx : x ∉ r := fun z => nd'.2.2 x z x (by simp) rfl
    obtain ⟨h1, h2⟩ := valV_plD k r hr nd'.1
    refine ⟨fun i hi => ?_, fun m hm => ?_⟩
    · rw [plD_snoc, valV_put]
      by_cases z : i < r.length
      · rw [List.getElem_append_left z, if_neg (fun e => hx (by rw [← key_inj e]; exact List.getElem_mem z))]
        exact h1 i z
      · have : i = r.length := by rw [List.length_append] at hi; simp at hi; omega
        subst this
        rw [List.getElem_append_right (Nat.le_refl _)]
        simp
    · rw [plD_snoc, valV_put, if_neg (fun e => hm (by rw [key_inj e]; simp))]
      exact h2 m fun z => hm (List.mem_append_left _ z)
/-- an instance of Outcomes: the rows, a value each -/
structure Oc (K : PySem.W.Frag) (C : Addr) (F : Hp) (x : Addr) (R : List (List Int)) (ts : List Int) : Prop where
  ex : ∃ dx it tt d, F x = some (.ins C dx [("inputs", it), ("told", tt), ("_places", .ref d)]) ∧ F dx = some (.own x) ∧ Rp K F it (dTT R) ∧ Rp K F tt (dT ts) ∧ F d = some (.dT (plD R))
theorem Oc.mono {K : PySem.W.Frag} {C : Addr} {F F' : Hp} {x : Addr} {R : List (List Int)} {ts : List Int} (h : Oc K C F x R ts) (e : Ex F F') : Oc K C F' x R ts := by
  obtain ⟨dx, it, tt, d, h1, h2, h3, h4, h5⟩ := h.ex
  exact ⟨dx, it, tt, d, e _ _ h1, e _ _ h2, Rp.mono e _ _ h3, Rp.mono e _ _ h4, e _ _ h5⟩
structure OutC (K : PySem.W.Frag) (C : Addr) : Prop where
  cl : Cls K C
  nI : NoAttr K C "inputs"
  nT : NoAttr K C "told"
  nP : NoAttr K C "_places"
section
variable {P : Program} {w : World} {K : PySem.W.Frag} {mg : Str → Option Value} {base : Heap}
variable {pt : Option Pt} {σ : L2.St} {F F0 H0 H : Hp} {te ta tb : TE} {ts tr : TA} {D : Ends} {tz : TS}
theorem never_ok {f : Addr} {fd : FuncData} {ps : List Str} : FnOk P w K mg base CX0 0 f fd ps (fun _ _ _ _ => False) := ⟨fun _ _ _ _ h => h.elim, fun _ _ _ _ _ _ _ _ _ _ _ _ _ h => h.elim⟩
/-! as_tuples -/
abbrev spAs0 (K : PySem.W.Frag) : Sp := PSp K (fun d : Int => [.int d]) (fun _ => True) (fun d => .int d)
abbrev spAs1 (K : PySem.W.Frag) : Sp := PSp K (fun r : List Int => [dT r]) (fun r => r.length ≤ 1000) (fun r => dT r)
abbrev spAs2 (K : PySem.W.Frag) : Sp := PSp K (fun rs : List (List Int) => [dTT rs]) (fun rs => rs.length ≤ 1000 ∧ ∀ r ∈ rs, r.length ≤ 1000) (fun rs => dTT rs)
theorem ok_as0 {f fS : Addr} {fd fdS : FuncData} (Fn : Fun K "as_tuples" "as_tuples" s_as_tuples f fd) (T : Tx mg) (b_as_tuples : Binds K fd ["thing"] []) (g_as_tuples : mg "as_tuples" = some (.ref f))
    (F_is_sequence : Fun K "is_sequence" "is_sequence" s_is_sequence fS fdS) (b_is_sequence : Binds K fdS ["thing"] []) (g_is_sequence : mg "is_sequence" = some (.ref fS)) : FnOk P w K mg base CX0 2 f fd ["thing"] (spAs0 K) := by
  have G_is_sequence : FnOk P w K mg base CX0 1 fS fdS ["thing"] (spSeq K) := ok_seq F_is_sequence T
  have F_as_tuples := Fn
  have G_as_tuples : FnOk P w K mg base CX0 0 f fd ["thing"] (fun _ _ _ _ => False) := never_ok
  refine Fun.ok Fn sc_as_tuples (PSp.len (fun _ => rfl)) (fun cdv A outer s H vs Q E hr h => ?_)
  obtain ⟨d, F, _, e, ha, q⟩ := h
  obtain ⟨v, rfl, hv⟩ := rpAll1 ha
  refine ⟨_, (pss_cons (ps_if (pt_val (pe_call G_is_sequence (hr.mono (by decide)) (by rfl) g_is_sequence F_is_sequence.kp b_is_sequence .nil pass0 (pa_cons (pv 0) pa_nil))) (pss_one (ps_ret (pe_callTy (c_tup (K := K)) (by rfl) T.tuple (by decide +kernel) (pa_cons (pe_lc (own := [("part", 1)]) (g := gName 1) rfl sc_as_tuples.nd (i_tup (K := K) (pv 0)) (blkOk_by (own := [("part", 1)]) (N := ["thing", "part"]) (sc := (defScope s_as_tuples)) (by decide +kernel)) (fun _ _ _ _ _ => pg_name (i := 1) sc_as_tuples.nd rfl (by first | exact Or.inl rfl | exact Or.inr rfl)) (fun _ _ _ _ _ => pts_nil) (fun _ _ _ _ _ => (pe_call G_as_tuples (hr.mono (by decide)) (by rfl) g_as_tuples F_as_tuples.kp b_as_tuples .nil pass0 (pa_cons (pv 1) pa_nil)))) pa_nil)))) pss_nil)
    (pss_one (ps_ret (pv 0)))), ?_⟩
  refine t_when (b := false) (Step.refl e .nil) ((et_B (g_call (PyData.int d) (gs_one (g_var rfl hv)) rfl trivial)).is rfl) (fun z => by cases z) (fun _ F2 H2 s2 e2 => ?_)
  exact t_retI (K := K) s2 (g_var rfl (Rp.mono e2 _ _ hv)) q
theorem ok_as1 {f fS : Addr} {fd fdS : FuncData} (Fn : Fun K "as_tuples" "as_tuples" s_as_tuples f fd) (T : Tx mg) (b_as_tuples : Binds K fd ["thing"] []) (g_as_tuples : mg "as_tuples" = some (.ref f))
    (F_is_sequence : Fun K "is_sequence" "is_sequence" s_is_sequence fS fdS) (b_is_sequence : Binds K fdS ["thing"] []) (g_is_sequence : mg "is_sequence" = some (.ref fS)) : FnOk P w K mg base CX0 3 f fd ["thing"] (spAs1 K) := by
  have G_is_sequence : FnOk P w K mg base CX0 1 fS fdS ["thing"] (spSeq K) := ok_seq F_is_sequence T
  have F_as_tuples := Fn
  have G_as_tuples : FnOk P w K mg base CX0 2 f fd ["thing"] (spAs0 K) := ok_as0 Fn T b_as_tuples g_as_tuples F_is_sequence b_is_sequence g_is_sequence
  refine Fun.ok Fn sc_as_tuples (PSp.len (fun _ => rfl)) (fun cdv A outer s H vs Q E hr h => ?_)
  obtain ⟨r, F, hr1, e, ha, q⟩ := h
  obtain ⟨v, rfl, hv⟩ := rpAll1 ha
  refine ⟨_, (pss_cons (ps_if (pt_val (pe_call G_is_sequence (hr.mono (by decide)) (by rfl) g_is_sequence F_is_sequence.kp b_is_sequence .nil pass0 (pa_cons (pv 0) pa_nil))) (pss_one (ps_ret (pe_callTy (c_tup (K := K)) (by rfl) T.tuple (by decide +kernel) (pa_cons (pe_lc (own := [("part", 1)]) (g := gName 1) rfl sc_as_tuples.nd (i_tup (K := K) (pv 0)) (blkOk_by (own := [("part", 1)]) (N := ["thing", "part"]) (sc := (defScope s_as_tuples)) (by decide +kernel)) (fun _ _ _ _ _ => pg_name (i := 1) sc_as_tuples.nd rfl (by first | exact Or.inl rfl | exact Or.inr rfl)) (fun _ _ _ _ _ => pts_nil) (fun _ _ _ _ _ => (pe_call G_as_tuples (hr.mono (by decide)) (by rfl) g_as_tuples F_as_tuples.kp b_as_tuples .nil pass0 (pa_cons (pv 1) pa_nil)))) pa_nil)))) pss_nil)
    (pss_one (ps_ret (pv 0)))), ?_⟩
  refine t_when (b := true) (Step.refl e .nil) ((et_B (g_call (dT r) (gs_one (g_var rfl hv)) rfl trivial)).is rfl) (fun _ F2 H2 s2 e2 => ?_) (fun z => by cases z)
  exact t_retI (K := K) s2 (g_cbI (gs_one (g_lcEM PyData.int r PyData.int (w_tupI (g_var rfl (Rp.mono e2 _ _ hv))) (Nat.le_trans hr1 (by decide)) (fun _ => rfl) fun k hk F' e' y hy => g_call k (gs_one (g_var rfl hy)) rfl trivial)) rc_tupL) q
theorem ok_as2 {f fS : Addr} {fd fdS : FuncData} (Fn : Fun K "as_tuples" "as_tuples" s_as_tuples f fd) (T : Tx mg) (b_as_tuples : Binds K fd ["thing"] []) (g_as_tuples : mg "as_tuples" = some (.ref f))
    (F_is_sequence : Fun K "is_sequence" "is_sequence" s_is_sequence fS fdS) (b_is_sequence : Binds K fdS ["thing"] []) (g_is_sequence : mg "is_sequence" = some (.ref fS)) : FnOk P w K mg base CX0 4 f fd ["thing"] (spAs2 K) := by
  have G_is_sequence : FnOk P w K mg base CX0 1 fS fdS ["thing"] (spSeq K) := ok_seq F_is_sequence T
  have F_as_tuples := Fn
  have G_as_tuples : FnOk P w K mg base CX0 3 f fd ["thing"] (spAs1 K) := ok_as1 Fn T b_as_tuples g_as_tuples F_is_sequence b_is_sequence g_is_sequence
  refine Fun.ok Fn sc_as_tuples (PSp.len (fun _ => rfl)) (fun cdv A outer s H vs Q E hr h => ?_)
  obtain ⟨rs, F, ⟨h1, h2⟩, e, ha, q⟩ := h
  obtain ⟨v, rfl, hv⟩ := rpAll1 ha
  refine ⟨_, (pss_cons (ps_if (pt_val (pe_call G_is_sequence (hr.mono (by decide)) (by rfl) g_is_sequence F_is_sequence.kp b_is_sequence .nil pass0 (pa_cons (pv 0) pa_nil))) (pss_one (ps_ret (pe_callTy (c_tup (K := K)) (by rfl) T.tuple (by decide +kernel) (pa_cons (pe_lc (own := [("part", 1)]) (g := gName 1) rfl sc_as_tuples.nd (i_tup (K := K) (pv 0)) (blkOk_by (own := [("part", 1)]) (N := ["thing", "part"]) (sc := (defScope s_as_tuples)) (by decide +kernel)) (fun _ _ _ _ _ => pg_name (i := 1) sc_as_tuples.nd rfl (by first | exact Or.inl rfl | exact Or.inr rfl)) (fun _ _ _ _ _ => pts_nil) (fun _ _ _ _ _ => (pe_call G_as_tuples (hr.mono (by decide)) (by rfl) g_as_tuples F_as_tuples.kp b_as_tuples .nil pass0 (pa_cons (pv 1) pa_nil)))) pa_nil)))) pss_nil)
    (pss_one (ps_ret (pv 0)))), ?_⟩
  refine t_when (b := true) (Step.refl e .nil) ((et_B (g_call (dTT rs) (gs_one (g_var rfl hv)) rfl trivial)).is rfl) (fun _ F2 H2 s2 e2 => ?_) (fun z => by cases z)
  exact t_retI (K := K) s2 (g_cbI (gs_one (g_lcEM dT rs dT (w_tupI (g_var rfl (Rp.mono e2 _ _ hv))) (by omega) (fun _ => rfl) fun k hk F' e' y hy => g_call k (gs_one (g_var rfl hy)) rfl (h2 k hk))) rc_tupL) q
/-! _places_in -/
theorem x_dcP {j : Nat} {vs : List Nat} {wi : TI} {t : TT} {te tv : TE} {ls : List (List Int)} (hw : WiG K pt wi σ F (· = (List.range ls.length).map natD)) (hz : ls.length ≤ 300) (hwp : ∀ x, wipe ((wipe σ vs).set j (some x)) vs = wipe σ vs)
    (ht : ∀ i (h : i < ls.length), ∀ F', Ex F F' → ∀ v, Rp K F' v (natD i) → EtG pt t ((wipe σ vs).set j (some v)) F' (· = true))
    (hk : ∀ i (h : i < ls.length), ∀ F', Ex F F' → ∀ v, Rp K F' v (natD i) → EvG K pt te ((wipe σ vs).set j (some v)) F' (Is (dT ls[i]))) (hv : ∀ i (h : i < ls.length), ∀ F', Ex F F' → ∀ v, Rp K F' v (natD i) → EvG K pt tv ((wipe σ vs).set j (some v)) F' (Is (natD i))) :
    EvX pt (tDcT wi (gName j) t te tv vs) σ F (fun v F2 => ∃ D, v = .ref D ∧ F2 D = some (.dT (plD ls))) := fun H0 i0 g0 Q q =>
  hw H0 i0 g0 _ fun ds J F1 H1 hds s1 Y => fun D hD => by
    subst hds
    have gi := s1.inn
    have gg := s1.good
    have f1 : F1 D = none := by
      cases w : F1 D with
      | none => rfl
      | some o => rw [gi _ _ w] at hD; cases hD
    have hlen : ((List.range ls.length).map natD).length = ls.length := by simp
    refine ⟨fun i m H => m = ls.length - i ∧ i ≤ ls.length ∧ ∃ F', Step pt F1 H1 F' H ∧ F' D = none ∧ H D = some (.dT (plD (ls.take i))), ⟨ls.length, by simp, Nat.zero_le _, F1, .litter gi gg hD, f1, upd_same⟩, ?_⟩
    rintro i m H ⟨rfl, hi, F', s, f, e⟩
    have eH : Ex F1 H := s.sub.trans s.inn
    by_cases hlt : i < ls.length
    · refine .inr ⟨Y.go i H eH (by rw [hlen]; exact hlt), fun H => ∃ F', Step pt F1 H1 F' H ∧ F' D = none ∧ H D = some (.dT (plD (ls.take (i + 1)))), fun H' p' => ⟨ls.length - (i + 1), by omega, rfl, hlt, p'⟩, fun v H' y => ?_⟩
      obtain ⟨rfl, d, hd, hx⟩ := Y.yld i H v H' eH (by rw [hlen]; exact hlt) y
      have ed : d = natD i := by
        rw [List.getElem?_map, List.getElem?_range hlt] at hd
        exact (Option.some.inj hd).symm
      subst ed
      refine ⟨hwp v, ?_⟩
      refine ht i hlt F' (s1.sub.trans s.sub) v (Rp.mono s.sub _ _ hx) H' s.inn s.good _ fun b F1' H1' hb s1' => ?_
      rw [if_pos hb]
      have off : ∀ q, pt = some q → D ≠ q.p := fun q hq => (off_pot gg hD q hq).1
      have fA := s1'.new D f (by rw [e]; simp)
      have eA := s1'.keep D _ off e
      have sA := s.trans s1'
      refine hk i hlt F1' (s1.sub.trans sA.sub) v (Rp.mono sA.sub _ _ hx) H1' sA.inn sA.good _ fun d2 y2 F2 H2 hd2 s2 hy2 => ?_
      have f2 := s2.new D fA (by rw [eA]; simp)
      have e2 := s2.keep D _ off eA
      refine hv i hlt F2 ((s1.sub.trans sA.sub).trans s2.sub) v (Rp.mono (sA.sub.trans s2.sub) _ _ hx) H2 s2.inn s2.good _ fun d3 y3 F3 H3 hd3 s3 hy3 => ?_
      have f3 := s3.new D f2 (by rw [e2]; simp)
      have e3 := s3.keep D _ off e2
      subst hd2; subst hd3
      rw [rp_int hy3]
      obtain ⟨q2, xs, rfl, hq2, ha⟩ := rp_tup hy2
      have e1 := rpAll_ints ha
      subst e1
      refine ⟨_, key ls[i], q2, rfl, by rw [key_kV]; exact s3.inn _ _ (s3.sub _ _ hq2), e3, sz_lt ?_, F3, ((sA.trans s2).trans s3).put gg hD f3, f3, ?_⟩
      · have := plD_len _ (ls.take i) rfl
        rw [List.length_take] at this
        omega
      · have hl : ls[i]? = some ls[i] := List.getElem?_eq_getElem hlt
        rw [take_succA hl, plD_snoc, List.length_take, Nat.min_eq_left (Nat.le_of_lt hlt)]
        exact upd_same
    · have hE : i = ls.length := Nat.le_antisymm hi (Nat.le_of_not_lt hlt)
      subst hE
      rw [List.take_length] at e
      refine .inl ⟨by have := Y.stop H eH; rw [hlen] at this; exact this, q _ (upd F' D (.dT (plD ls))) H ⟨D, rfl, upd_same⟩ (s1.trans ⟨s.sub.trans (Ex.new f), fun b u hb => ?_, s.keep, fun z hz => ⟨?_, (s.good z hz).2⟩, fun b h1 h2 => ?_⟩)⟩
      · by_cases z : b = D
        · rw [z, upd_same] at hb; rw [z, e]; exact hb
        · rw [upd_ne z] at hb; exact s.inn b u hb
      · rw [upd_ne (off_pot gg hD z hz).1.symm]; exact (s.good z hz).1
      · have z : b ≠ D := loose_ne h2 hD
        rw [upd_ne z]; exact s.new b h1 h2
def spPl (K : PySem.W.Frag) : Sp := fun vs H Q _ => ∃ v rs F, vs = [v] ∧ (rs.length ≤ 300 ∧ ∀ r ∈ rs, r.length ≤ 1000) ∧ Ex F H ∧ Rp K F v (dTT rs) ∧ ∀ D F2 H2, Step none F H F2 H2 → F2 D = some (.dT (plD rs)) → Q (.ref D) H2
theorem ok_pl {f fR fS fW : Addr} {fd fdR fdS fdW : FuncData} (Fn : Fun K "_places_in" "_places_in" s_places_in f fd) (T : Tx mg)
    (F_is_whole_row : Fun K "is_whole_row" "is_whole_row" s_is_whole_row fR fdR) (b_is_whole_row : Binds K fdR ["thing"] []) (g_is_whole_row : mg "is_whole_row" = some (.ref fR))
    (F_is_sequence : Fun K "is_sequence" "is_sequence" s_is_sequence fS fdS) (b_is_sequence : Binds K fdS ["thing"] []) (g_is_sequence : mg "is_sequence" = some (.ref fS))
    (F_is_whole : FunW K fW fdW) (g_is_whole : mg "is_whole" = some (.ref fW)) : FnOk P w K mg base CX0 3 f fd ["inputs"] (spPl K) := by
  have G_is_sequence : FnOk P w K mg base CX0 1 fS fdS ["thing"] (spSeq K) := ok_seq F_is_sequence T
  have G_is_whole_row : FnOk P w K mg base CX0 2 fR fdR ["thing"] (spRow K) := ok_row F_is_whole_row T F_is_sequence b_is_sequence g_is_sequence F_is_whole g_is_whole
  refine Fun.ok Fn sc_places_in (fun vs H Q E ⟨_, _, _, h, _⟩ => by rw [h]; rfl) (fun cdv A outer s H vs Q E hr h => ?_)
  obtain ⟨v, rs, F, rfl, ⟨h1, h2⟩, e, hv, q⟩ := h
  refine ⟨_, (pss_cons (ps_if (pt_not (pt_val (pe_call G_is_sequence (hr.mono (by decide)) (by rfl) g_is_sequence F_is_sequence.kp b_is_sequence .nil pass0 (pa_cons (pv 0) pa_nil)))) (pss_one (ps_ret pe_dnewK)) pss_nil)
    (pss_one (ps_ret (pe_dcT (own := [("at", 1)]) (g := gName 1) rfl (hu_of hr) sc_places_in.nd (pi_range1 (by rfl) T.range (pa_cons (pe_callB (c_len (K := K)) (by rfl) T.len (by decide +kernel) (pa_cons (pv 0) pa_nil)) pa_nil)) (blkOk_by (own := [("at", 1)]) (N := ["inputs", "at"]) (sc := (defScope s_places_in)) (by decide +kernel)) (fun _ _ _ _ _ => pg_name (i := 1) sc_places_in.nd rfl (by first | exact Or.inl rfl | exact Or.inr rfl)) (fun _ _ _ _ _ => (pts_one (pt_val (pe_call G_is_whole_row (hr.mono (by decide)) (by rfl) g_is_whole_row F_is_whole_row.kp b_is_whole_row .nil pass0 (pa_cons (pe_ix (o_ixT (K := K)) (pv 0) (pv 1) (fun _ _ => rfl)) pa_nil))))) (fun _ _ _ _ _ => (pe_ix (o_ixT (K := K)) (pv 0) (pv 1) (fun _ _ => rfl))) (fun _ _ _ _ _ => (pv 1)))))), ?_⟩
  refine t_when (b := false) (Step.refl e .nil) ((et_not (b := true) (et_B (g_call (dTT rs) (gs_one (g_var rfl hv)) rfl trivial))).is rfl) (fun z => by cases z) (fun _ F2 H2 s2 e2 => ?_)
  have ix : ∀ i (h : i < rs.length), ∀ F', Ex F2 F' → ∀ y, Rp K F' y (natD i) → EvG K none (tOp (rIxT K) (tVar 0) (tVar 1)) [some v, some y] F' (Is (dT rs[i])) := fun i h F' e' y hy =>
    g_opI (g_var rfl (Rp.mono (e2.trans e') _ _ hv)) (g_var rfl hy) (rv_ixT (atI_nat (by rw [List.getElem?_map, List.getElem?_eq_getElem h]; rfl)))
  refine t_retX s2 (x_dcP (K := K) (ls := rs) (w_len (g_var rfl (Rp.mono e2 _ _ hv)) (by simp) (by omega)) h1 (fun _ => rfl) (fun i h F' e' y hy => (et_B (g_call rs[i] (gs_one (ix i h F' e' y hy)) rfl (h2 _ (List.getElem_mem h))))) (fun i h F' e' y hy => ix i h F' e' y hy) (fun i h F' e' y hy => g_var rfl hy)) fun z F3 H3 ⟨D, ez, hD⟩ s3 => ?_
  rw [ez]
  exact q D F3 H3 s3 hD
end
end KC

namespace KC
open PySem PySem.Spec PyProof.Rows L2 L2H Fv Evl StX
section
variable {P : Program} {w : World} {K : PySem.W.Frag} {mg : Str → Option Value} {base : Heap}
variable {pt : Option Pt} {σ : L2.St} {F F' F0 H0 H : Hp} {te ta tb ty td : TE} {ts tr : TA} {D : Ends} {tz : TS}
def spAsU (K : PySem.W.Frag) : Sp := fun vs H Q E => spAs1 K vs H Q E ∨ spAs2 K vs H Q E
theorem g_as1 {E : XK} {r : List Int} (h : EvG K pt te σ F (Is (dT r))) (hr : r.length ≤ 1000) : EvG K pt (tCall (spAsU K) [] E (tCons te tNil)) σ F (Is (dT r)) := fun H1 e g Q q => h H1 e g _ fun d v F2 H2 hd s hv => by
  subst hd
  exact .inl ⟨r, F2, hr, s.inn, .cons hv .nil, fun v F3 H3 s3 hv3 => q _ v F3 H3 rfl (s.trans (s3.lift s.good)) hv3⟩
theorem g_as2 {E : XK} {rs : List (List Int)} (h : EvG K pt te σ F (Is (dTT rs))) (hr : rs.length ≤ 1000 ∧ ∀ r ∈ rs, r.length ≤ 1000) : EvG K pt (tCall (spAsU K) [] E (tCons te tNil)) σ F (Is (dTT rs)) := fun H1 e g Q q => h H1 e g _ fun d v F2 H2 hd s hv => by
  subst hd
  exact .inr ⟨rs, F2, hr, s.inn, .cons hv .nil, fun v F3 H3 s3 hv3 => q _ v F3 H3 rfl (s.trans (s3.lift s.good)) hv3⟩
theorem g_dnotin {m : List Int} {kvs : List (List Key × V)} (hk : EvG K pt ty σ F (Is (dT m))) (hd : ∀ F', Ex F F' → EvX pt td σ F' (fun v F2 => ∃ D, v = .ref D ∧ F2 D = some (.dT kvs))) : EvG K pt (tDNotIn ty td) σ F (Is (.bool (!(valV kvs (key m)).isSome))) := fun H1 i g Q q =>
  hk H1 i g _ fun d v F2 H2 hd' s hv => hd F2 s.sub H2 s.inn s.good _ fun u F3 H3 ⟨D, hu, hD⟩ s2 => by
    subst hd'
    obtain ⟨a, xs, rfl, hl, ha⟩ := rp_tup hv
    have e1 := rpAll_ints ha
    subst e1
    exact ⟨D, _, hu, DGet.t (k := key m) (s2.inn _ _ hD) (by rw [key_kV]; exact s2.inn _ _ (s2.sub _ _ hl)), q _ _ F3 H3 rfl (s.trans s2) (.bl _)⟩
theorem g_dget {m : List Int} {kvs : List (List Key × V)} {i : Int} (hd : EvX pt td σ F (fun v F2 => ∃ D, v = .ref D ∧ F2 D = some (.dT kvs))) (hk : ∀ F', Ex F F' → EvG K pt ty σ F' (Is (dT m))) (hi : valV kvs (key m) = some (.int i)) : EvG K pt (tDGet td ty) σ F (Is (.int i)) := fun H1 ii g Q q =>
  hd H1 ii g _ fun u F2 H2 ⟨D, hu, hD⟩ s => hk F2 s.sub H2 s.inn s.good _ fun d v F3 H3 hd' s2 hv => by
    subst hd'
    obtain ⟨a, xs, rfl, hl, ha⟩ := rp_tup hv
    have e1 := rpAll_ints ha
    subst e1
    exact ⟨D, .int i, hu, hi ▸ DGet.t (k := key m) (s2.inn _ _ (s2.sub _ _ hD)) (by rw [key_kV]; exact s2.inn _ _ hl), q _ _ F3 H3 rfl (s.trans s2) (.int i)⟩
def spOut (K : PySem.W.Frag) (C : Addr) : Sp := fun vs H Q _ => ∃ x dx R ts F v u, vs = [.ref x, v, u] ∧ H x = some (.ins C dx []) ∧ H dx = some (.own x) ∧ dx ≠ x ∧ F x = none ∧ F dx = none ∧ Ex F H ∧ Rp K F v (dTT R) ∧ Rp K F u (dT ts) ∧
  R.length ≤ 300 ∧ ts.length ≤ 300 ∧ (∀ r ∈ R, r.length ≤ 1000) ∧ ∀ F2 H2, Step none F (Fv.del (Fv.del H x) dx) F2 H2 → Oc K C F2 x R ts → Q .non H2
theorem ok_out {f fA fP C : Addr} {fd fdA fdP : FuncData} (Fn : Fun K "__init__" "Outcomes.__init__" s_Outcomes___init__ f fd) (T : Tx mg) (OC : OutC K C)
    (F_as_tuples : Fun K "as_tuples" "as_tuples" s_as_tuples fA fdA) (b_as_tuples : Binds K fdA ["thing"] []) (g_as_tuples : mg "as_tuples" = some (.ref fA)) (G_as_tuples : FnOk P w K mg base CX0 4 fA fdA ["thing"] (spAsU K))
    (F_places_in : Fun K "_places_in" "_places_in" s_places_in fP fdP) (b_places_in : Binds K fdP ["inputs"] []) (g_places_in : mg "_places_in" = some (.ref fP)) (G_places_in : FnOk P w K mg base CX0 3 fP fdP ["inputs"] (spPl K)) :
    FnOk P w K mg base CX0 5 f fd ["self", "inputs", "told"] (spOut K C) := by
  refine Fn.ok sc_Outcomes___init__ (fun vs H Q E ⟨_, _, _, _, _, _, _, h, _⟩ => by rw [h]; rfl) (fun cdv A outer s H vs Q E hr h => ?_)
  obtain ⟨x, dx, R, ts, F, v, u, rfl, hox, hodx, hne, fx, fdx, e, hv, hu, hR, hts, hrow, q⟩ := h
  refine ⟨_, (pss_cons (ps_fld (pv 0) (pe_call G_as_tuples (hr.mono (by decide)) (by rfl) g_as_tuples F_as_tuples.kp b_as_tuples .nil pass0 (pa_cons (pv 1) pa_nil)) rfl)
    (pss_cons (ps_fld (pv 0) (pe_call G_as_tuples (hr.mono (by decide)) (by rfl) g_as_tuples F_as_tuples.kp b_as_tuples .nil pass0 (pa_cons (pv 2) pa_nil)) rfl)
    (pss_one (ps_fld (pv 0) (pe_call G_places_in (hr.mono (by decide)) (by rfl) g_places_in F_places_in.kp b_places_in .nil pass0 (pa_cons (e_fld (K := K) (pv 0) rfl) pa_nil)) rfl)))), ?_⟩
  have h0x : Fv.del (Fv.del H x) dx x = none := by rw [Fv.del_ne hne.symm, Fv.del_same]
  have b0 : Fv.del H x x = none := Fv.del_same
  refine t_fld (K := K) (Step.own1 e x) b0 fx rfl hox OC.cl OC.nI (by decide) (EvG.toX (g_as2 (g_var rfl hv) ⟨by omega, hrow⟩)) fun v6 F6 H6 hv6 s6 e6 f6x h6x => ?_
  refine t_fld (K := K) s6 b0 f6x rfl h6x OC.cl OC.nT (by show 1 < 1000; decide) (EvG.toX (g_as1 (g_var rfl (Rp.mono e6 _ _ hu)) (by omega))) fun v7 F7 H7 hv7 s7 e7 f7x h7x => ?_
  have hv6' := Rp.mono e7 _ _ hv6
  refine t_fldAt1 (K := K) (Φ := fun v F2 => ∃ D, v = .ref D ∧ F2 D = some (.dT (plD R))) s7 b0 f7x rfl h7x OC.cl OC.nP (by show 2 < 1000; decide) (fun Fp ep ip hp Q' q' => ?_) (fun v F2 F3 h1 h2 ⟨D, h3, h4⟩ => ⟨D, h3, h2 D _ (fun z => by rw [z, h1] at h4; cases h4) h4⟩) fun v9 F9 H9 hv9 s9 e9 f9x h9x => ?_
  · refine gs_one (g_fld (K := K) rfl hp OC.cl OC.nI rfl (Rp.mono ep _ _ hv6')) H7 ip .nil _ fun ds vs F8 H8 hd s8 hvs => ?_
    subst hd
    obtain ⟨z, rfl, hz⟩ := rpAll1 hvs
    exact ⟨z, R, F8, rfl, ⟨hR, hrow⟩, s8.inn, hz, fun D F10 H10 s10 hD => q' _ F10 H10 ⟨D, rfl, hD⟩ (s8.trans s10)⟩
  obtain ⟨D, rfl, hD⟩ := hv9
  have hdx : (Fv.del H x) dx = some (.own x) := by rw [Fv.del_ne hne]; exact hodx
  have f9d : F9 dx = none := s9.new dx fdx (by rw [hdx]; simp)
  have h9d : H9 dx = some (.own x) := s9.keep.ex dx _ hdx
  have s10 : Step none F (Fv.del (Fv.del H x) dx) (upd F9 dx (.own x)) H9 := (s9.less Fv.del_ex).add f9d h9d Fv.del_same
  have f10x : upd F9 dx (.own x) x = none := by rw [upd_ne hne.symm]; exact f9x
  have s11 := s10.add (a := x) f10x h9x (by rw [Fv.del_ne hne.symm, Fv.del_same])
  have ee : Ex F9 (upd (upd F9 dx (.own x)) x (.ins C dx (putF "_places" (.ref D) (putF "told" v7 (putF "inputs" v6 []))))) := (Ex.new f9d).trans (Ex.new f10x)
  refine q _ H9 s11 ⟨dx, v6, v7, D, upd_same, ?_, Rp.mono (e9.trans ee) _ _ hv6', Rp.mono (e9.trans ee) _ _ hv7, ee _ _ hD⟩
  rw [upd_ne hne]; exact upd_same
def spVal (K : PySem.W.Frag) (C : Addr) : Sp := fun vs H Q _ => ∃ (x : Addr) (R : List (List Int)) (ts : List Int) (i : Nat) (F : Hp) (v : V) (h1 : i < R.length) (h2 : i < ts.length), vs = [.ref x, v] ∧ R.Nodup ∧ (∀ r ∈ R, r.length ≤ 1000) ∧ Ex F H ∧ Oc K C F x R ts ∧ Rp K F v (dT R[i]) ∧
  ∀ u F2 H2, Step none F H F2 H2 → Rp K F2 u (.int ts[i]) → Q u H2
theorem ok_val {f fR fS fW C : Addr} {fd fdR fdS fdW : FuncData} (Fn : Fun K "value_of" "Outcomes.value_of" s_Outcomes_value_of f fd) (T : Tx mg) (OC : OutC K C)
    (F_is_whole_row : Fun K "is_whole_row" "is_whole_row" s_is_whole_row fR fdR) (b_is_whole_row : Binds K fdR ["thing"] []) (g_is_whole_row : mg "is_whole_row" = some (.ref fR))
    (F_is_sequence : Fun K "is_sequence" "is_sequence" s_is_sequence fS fdS) (b_is_sequence : Binds K fdS ["thing"] []) (g_is_sequence : mg "is_sequence" = some (.ref fS))
    (F_is_whole : FunW K fW fdW) (g_is_whole : mg "is_whole" = some (.ref fW)) : FnOk P w K mg base CX0 3 f fd ["self", "entry"] (spVal K C) := by
  have G_is_whole_row : FnOk P w K mg base CX0 2 fR fdR ["thing"] (spRow K) := ok_row F_is_whole_row T F_is_sequence b_is_sequence g_is_sequence F_is_whole g_is_whole
  refine Fn.ok sc_Outcomes_value_of (fun vs H Q E ⟨_, _, _, _, _, _, _, _, h, _⟩ => by rw [h]; rfl) (fun cdv A outer s H vs Q E hr h => ?_)
  obtain ⟨x, R, ts, i, F, v, h1, h2, rfl, nd, hrow, e, oc, hv, q⟩ := h
  obtain ⟨dx, it, tt, d, o1, o2, o3, o4, o5⟩ := oc.ex
  refine ⟨_, (pss_cons (ps_if (PW.pt (pw_or (pt_not (pt_val (pe_call G_is_whole_row (hr.mono (by decide)) (by rfl) g_is_whole_row F_is_whole_row.kp b_is_whole_row .nil pass0 (pa_cons (pv 1) pa_nil)))) (pw_or1 (pt_cmp (pc_dnotin (hu_of hr) (pe_callTy (c_tup (K := K)) (by rfl) T.tuple (by decide +kernel) (pa_cons (pv 1) pa_nil)) (e_fld (K := K) (pv 0) rfl)) rfl)))) (pss_one ps_never) pss_nil)
    (pss_one (ps_ret (pe_ix (o_ixT (K := K)) (e_fld (K := K) (pv 0) rfl) (pe_dget (hu_of hr) (e_fld (K := K) (pv 0) rfl) (pe_callTy (c_tup (K := K)) (by rfl) T.tuple (by decide +kernel) (pa_cons (pv 1) pa_nil)) (fun _ _ => rfl)) (fun _ _ => rfl))))), ?_⟩
  have hval := (valV_plD _ R rfl nd).1 i h1
  have hd : ∀ {F' : Hp} {σ' : L2.St}, Ex F F' → σ'[0]? = some (some (.ref x)) → EvX none (tFld K (tVar 0) "_places") σ' F' (fun v F2 => ∃ D, v = .ref D ∧ F2 D = some (.dT (plD R))) := fun ee h0 => x_fld h0 (ee _ _ o1) OC.cl OC.nP rfl fun F'' e'' => ⟨d, rfl, e'' _ _ (ee _ _ o5)⟩
  refine t_skip (Step.refl e .nil) ((et_or (a := false) (b := false) ((et_not (b := true) (et_B (g_call R[i] (gs_one (g_var rfl hv)) rfl (hrow _ (List.getElem_mem h1))))).is rfl) fun _ => (et_B (g_dnotin (g_cbI (gs_one (g_var rfl hv)) rc_tupT) fun F' e' => hd e' rfl)).is (by rw [hval]; rfl)).is rfl) fun F2 H2 s2 e2 => ?_
  refine t_retI (K := K) s2 (g_opI (g_fld (K := K) rfl (e2 _ _ o1) OC.cl OC.nT rfl (Rp.mono e2 _ _ o4)) (g_dget (hd e2 rfl) (fun F' e' => g_cbI (gs_one (g_var rfl (Rp.mono (e2.trans e') _ _ hv))) rc_tupT) hval) (rv_ixT (d := .int ts[i]) (atI_nat (by rw [List.getElem?_map, List.getElem?_eq_getElem h2]; rfl)))) q
end
end KC

namespace KC
open PySem PySem.Spec PyProof.Rows L2 L2H Fv Evl StX
abbrev s_NotInBook___init__ : Stmt := inClass (topS 5) 0
theorem sc_NotInBook___init__ : FnScope ["self", "entry"] ["self", "entry"] (defScope s_NotInBook___init__) := ⟨rfl, rfl, rfl, by decide +kernel, rfl, by decide +kernel, by decide +kernel⟩
abbrev s_inputs_behind : Stmt := topS 20
theorem sc_inputs_behind : FnScope ["book", "view", "entry"] ["book", "view"] (defScope s_inputs_behind) := ⟨rfl, rfl, rfl, by decide +kernel, rfl, by decide +kernel, by decide +kernel⟩
abbrev s_settled_values : Stmt := topS 21
theorem sc_settled_values : FnScope ["book", "outcomes", "view", "entry"] ["book", "outcomes", "view"] (defScope s_settled_values) := ⟨rfl, rfl, rfl, by decide +kernel, rfl, by decide +kernel, by decide +kernel⟩
/-- FirmError, at CF -/
structure FirmC (K : PySem.W.Frag) (mg : Str → Option Value) (CF : Addr) (mc : Value) : Prop where
  g : mg "FirmError" = some (.ref CF)
  r : ClX.CRead K CF mc
  v : PySem.W.findCls K (.ref CF) mc "__init__" = some (.val (.builtin "ValueError.__init__"))
/-- an error class nm of the text, at C, its maker at fI, with the fields fl -/
structure ErrC (K : PySem.W.Frag) (mg : Str → Option Value) (CF C fI : Addr) (nm : Str) (fl : List Str) : Prop where
  T : OexC K C
  iC : PySem.W.findIn K (.ref C) "__init__" = some (some (.ref fI))
  tI : PySem.W.typeIn K (.ref fI) = some (.type "function")
  no : ∀ f ∈ fl, PySem.W.findIn K (.ref C) f = some none
  g : mg nm = some (.ref C)
  xf : XfC K C
  self : PySem.W.exmOne K (.ref C) (.ref C) = some true
  up : PySem.W.kitOne K (.ref C) (.ref CF) = some true
  kv : PySem.W.kitOne K (.ref C) (.type "ValueError") = some true

/-- the value of a row -/
def valR (R : List (List Int)) (ts : List Int) (r : List Int) : Int := ts.getD (R.idxOf r) 0
/-- the values of rows, ascending -/
def valsR (R : List (List Int)) (ts : List Int) (fit : List (List Int)) : List Int := (lotOf 4 (fit.map (valR R ts)))
section
variable {P : Program} {w : World} {K : PySem.W.Frag} {mg : Str → Option Value} {base : Heap} {CF C fI CB CO : Addr} {mc : Value}
variable {pt : Option Pt} {σ : L2.St} {F F' F0 H0 H : Hp} {te ta tb ty td : TE} {ts tr : TA} {D : Ends} {tz : TS}
def spIv (C : Addr) (f1 : Str) : Sp := fun vs H Q _ => ∃ (a : Addr) (v : V), vs = [.ref a, v] ∧ H a = some (exo a C none) ∧
  ∀ dx, H dx = none → dx ≠ a → Q .non (upd (upd H dx (exd dx [(f1, v)])) a (exo a C (some dx)))
theorem ok_outE {fd : FuncData} (Fn : Fun K "__init__" "NotInBook.__init__" s_NotInBook___init__ fI fd) (FC : FirmC K mg CF mc) (EC : ErrC K mg CF C fI "NotInBook" ["entry"]) : FnOk P w K mg base CX0 1 fI fd ["self", "entry"] (spIv C "entry") := by
  refine Fn.ok sc_NotInBook___init__ (fun vs H Q E ⟨_, _, h, _⟩ => by rw [h]; rfl) (fun cdv A outer s H vs Q E hr h => ?_)
  obtain ⟨a, x, rfl, ho, q⟩ := h
  refine ⟨_, (pss_cons (ps_expr (pe_fminit (by rfl) FC.g FC.r FC.v (pa_cons (pv 0) (pa_cons pe_str pa_nil)))) (pss_one (ps_ost (pv 0) (pv 1)))), ?_⟩
  exact ⟨_, rfl, ⟨a, C, _, rfl, by simp, EC.T, ho, _, rfl, _, rfl, a, C, rfl, EC.T, EC.no _ (by simp), .inl ⟨ho, fun dx h1 h2 => q dx h1 h2⟩⟩⟩
theorem r_mkv {f1 : Str} {d : PyData} {Q : XK} (e : Ex F H) (h : EvsG K none ts σ F (· = [d])) (q : ∀ F2 H2 dx, Step none F H F2 H2 → (∃ v, F2 dx = some (.xd [(f1, v)]) ∧ Rp K F2 v d) → Q (.ref C) (some dx) H2) :
    tMkO C (spIv C f1) [] ts σ H Q := h H e .nil _ fun ds vs F2 H2 hd st hv => by
  subst hd
  obtain ⟨v1, rfl, hd1⟩ := rpAll1 hv
  refine ⟨by simp, fun a ha => ⟨a, v1, rfl, upd_same, fun dx h1 h2 => ⟨rfl, dx, [(f1, v1)], upd_same, ?_, ?_, ?_⟩⟩⟩
  · rw [upd_ne h2]; exact upd_same
  · rw [upd_ne h2] at h1; exact h1
  · rw [upd_ne h2] at h1
    have eh : ∀ (y z : HO) (fs : List (Str × V)), upd (L2.del (upd (upd (upd H2 a y) dx z) a (exo a C (some dx))) a) dx (.xd fs) = upd H2 dx (.xd fs) := fun y z fs => by
      funext b
      by_cases zz : b = dx
      · rw [zz, upd_same, upd_same]
      · rw [upd_ne zz, upd_ne zz]
        by_cases yy : b = a
        · rw [yy, L2.del_same, ha]
        · rw [L2.del_ne yy, upd_ne yy, upd_ne zz, upd_ne yy]
    rw [eh]
    have s3 : Step none F2 H2 (upd F2 dx (.xd [(f1, v1)])) (upd H2 dx (.xd [(f1, v1)])) := .laid st.inn .nil h1
    exact q _ _ dx (st.trans s3) ⟨v1, upd_same, Rp.mono s3.sub _ _ hd1⟩

/-! what a view goes on to -/
def spBeh (K : PySem.W.Frag) (CB : Addr) : Sp := fun vs H Q _ => ∃ (x : Addr) (n m : Nat) (R : List (List Int)) (vw : List (Option Int)) (F : Hp) (v : V), vs = [.ref x, v] ∧ (vw.length = n ∧ n ≤ 5 ∧ R.length ≤ 60 ∧ ∀ r ∈ R, r.length = n) ∧ Ex F H ∧ Bk K CB F x n m R ∧ Rp K F v (dO vw) ∧
  ∀ u F2 H2, Step none F H F2 H2 → Rp K F2 u (dLT (R.filter (goesB vw))) → Q u H2
theorem ok_beh {f fG : Addr} {fd fdG : FuncData} (Fn : Fun K "_inputs_behind" "_inputs_behind" s_inputs_behind f fd) (T : Tx mg) (BC : BookC K CB)
    (F_goes_on : Fun K "goes_on" "goes_on" s_goes_on fG fdG) (b_goes_on : Binds K fdG ["view", "entry"] []) (g_goes_on : mg "goes_on" = some (.ref fG)) (G_goes_on : FnOk P w K mg base CX0 2 fG fdG ["view", "entry"] (spVW K)) : FnOk P w K mg base CX0 3 f fd ["book", "view"] (spBeh K CB) := by
  refine Fn.ok sc_inputs_behind (fun vs H Q E ⟨_, _, _, _, _, _, _, h, _⟩ => by rw [h]; rfl) (fun cdv A outer s H vs Q E hr h => ?_)
  obtain ⟨x, n, m, R, vw, F, v, rfl, ⟨h1, h2, h3, h4⟩, e, bk, hv, q⟩ := h
  obtain ⟨dx, it, d, o1, o2, o3, _⟩ := bk.ex
  refine ⟨_, (pss_one (ps_ret (pe_lc (own := [("entry", 2)]) (g := gName 2) rfl sc_inputs_behind.nd (i_tup (K := K) (e_fld (K := K) (pv 0) rfl)) (blkOk_by (own := [("entry", 2)]) (N := ["book", "view", "entry"]) (sc := (defScope s_inputs_behind)) (by decide +kernel)) (fun _ _ _ _ _ => pg_name (i := 2) sc_inputs_behind.nd rfl (by first | exact Or.inl rfl | exact Or.inr rfl)) (fun _ _ _ _ _ => (pts_one (pt_val (pe_call G_goes_on (hr.mono (by decide)) (by rfl) g_goes_on F_goes_on.kp b_goes_on .nil pass0 (pa_cons (pv 1) (pa_cons (pv 2) pa_nil)))))) (fun _ _ _ _ _ => (pv 2))))), ?_⟩
  exact t_retI (K := K) (Step.refl e .nil) (g_lcE dT R (goesB vw) dT (w_tupI (g_fld (K := K) rfl o1 BC.cl BC.nI rfl o3)) (by omega) (fun _ => rfl) (fun r hr' F' e' u hu => et_B (g_call (vw, r) (gs_two (g_var rfl (Rp.mono e' _ _ hv)) (g_var rfl hu)) rfl ⟨by simp only; rw [h1, h4 r hr'], by simp only; omega⟩)) (fun r _ _ F' e' u hu => g_var rfl hu)) q
theorem g_beh {E : XK} {i j x : Nat} {n m : Nat} {R : List (List Int)} {vw : List (Option Int)} {v : V} (h0 : σ[i]? = some (some (.ref x))) (bk : Bk K CB F x n m R) (h1 : σ[j]? = some (some v)) (hv : Rp K F v (dO vw)) (hp : vw.length = n ∧ n ≤ 5 ∧ R.length ≤ 60 ∧ ∀ r ∈ R, r.length = n) :
    EvG K none (tCall (spBeh K CB) [] E (tCons (tVar i) (tCons (tVar j) tNil))) σ F (Is (dLT (R.filter (goesB vw)))) := fun H1 e g Q q =>
  ⟨_, h0, _, h1, x, n, m, R, vw, F, v, rfl, hp, e, bk, hv, fun u F2 H2 s hu => q _ u F2 H2 rfl s hu⟩
theorem g_val {E : XK} {i x : Nat} {Ro : List (List Int)} {vs : List Int} {r : List Int} (h0 : σ[i]? = some (some (.ref x))) (oc : Oc K CO F x Ro vs) (nd : Ro.Nodup) (hl : vs.length = Ro.length) (hrow : ∀ r ∈ Ro, r.length ≤ 1000) (hr : r ∈ Ro) (h : EvG K pt te σ F (Is (dT r))) :
    EvG K pt (tMeth CO "value_of" (spVal K CO) [] E (tVar i) (tCons te tNil)) σ F (Is (.int (valR Ro vs r))) := by
  obtain ⟨dx, it, tt, d, o1, o2, o3, o4, o5⟩ := oc.ex
  have h1 : Ro.idxOf r < Ro.length := List.idxOf_lt_length_iff.mpr hr
  refine g_methD h0 o1 rfl (gs_one h) fun F1 H1 vs' e1 e2 hv Q q => ?_
  obtain ⟨v, rfl, hv1⟩ := rpAll1 hv
  refine ⟨x, Ro, vs, Ro.idxOf r, F1, v, h1, by omega, rfl, nd, hrow, e2, oc.mono e1, by rw [List.getElem_idxOf h1]; exact hv1, fun u F2 H2 s hu => q u F2 H2 s ?_⟩
  unfold valR
  rw [List.getD_eq_getElem?_getD, List.getElem?_eq_getElem (by omega)]
  exact hu
end
end KC

namespace KC
open PySem PySem.Spec PyProof.Rows L2 L2H Fv Evl StX
structure Side (n : Nat) (R Ro : List (List Int)) (vals : List Int) (vw : List (Option Int)) : Prop where
  lw : vw.length = n
  n5 : n ≤ 5
  few : R.length ≤ 60
  len : ∀ r ∈ R, r.length = n
  nd : Ro.Nodup
  vl : vals.length = Ro.length
  lo : ∀ r ∈ Ro, r.length ≤ 1000
  sub : ∀ r ∈ R, r ∈ Ro
  bd : ∀ k ∈ vals, 0 ≤ k ∧ k < 4
theorem Side.beh {n : Nat} {R Ro : List (List Int)} {vals : List Int} {vw : List (Option Int)} (h : Side n R Ro vals vw) : vw.length = n ∧ n ≤ 5 ∧ R.length ≤ 60 ∧ ∀ r ∈ R, r.length = n := ⟨h.lw, h.n5, h.few, h.len⟩
theorem Side.val {n : Nat} {R Ro : List (List Int)} {vals : List Int} {vw : List (Option Int)} (h : Side n R Ro vals vw) {r : List Int} (hr : r ∈ Ro) : 0 ≤ valR Ro vals r ∧ valR Ro vals r < 4 := by
  have h1 : Ro.idxOf r < vals.length := by rw [h.vl]; exact List.idxOf_lt_length_iff.mpr hr
  unfold valR
  rw [List.getD_eq_getElem?_getD, List.getElem?_eq_getElem h1]
  exact h.bd _ (List.getElem_mem h1)
/-- the first couple with unlike values -/
def unlikeR (R : List (List Int)) (ts : List Int) (fit : List (List Int)) : PyData := match fit, fit.filter (fun r => !decide (valR R ts r = valR R ts (fit.headD []))) with
  | a :: _, b :: _ => .tuple [dT a, dT b]
  | _, _ => .none
def firstR (vs : List Int) : PyData := if vs.length = 1 then .int (vs.headD 0) else .none
section
variable {P : Program} {w : World} {K : PySem.W.Frag} {mg : Str → Option Value} {base : Heap} {CF C fI CB CO CE fE : Addr} {mc : Value}
variable {pt : Option Pt} {σ : L2.St} {F F' F0 H0 H : Hp} {te ta tb ty td : TE} {ts tr : TA} {D : Ends} {tz : TS}
/-- a def of a book, outcomes and a view -/
def spBov (K : PySem.W.Frag) (CB CO : Addr) (P : List (List Int) → Prop) (f : List (List Int) → List Int → List (List Int) → PyData) : Sp := fun vs H Q _ => ∃ (x y : Addr) (n m : Nat) (R Ro : List (List Int)) (vals : List Int) (vw : List (Option Int)) (F : Hp) (v : V), vs = [.ref x, .ref y, v] ∧ Side n R Ro vals vw ∧ P (R.filter (goesB vw)) ∧ Ex F H ∧ Bk K CB F x n m R ∧ Oc K CO F y Ro vals ∧ Rp K F v (dO vw) ∧
  ∀ u F2 H2, Step none F H F2 H2 → Rp K F2 u (f Ro vals (R.filter (goesB vw))) → Q u H2
theorem bov_len {P : List (List Int) → Prop} {f : List (List Int) → List Int → List (List Int) → PyData} {vs : List V} {H : Hp} {Q : VK} {E : XK} (h : spBov K CB CO P f vs H Q E) : vs.length = 3 := by
  obtain ⟨_, _, _, _, _, _, _, _, _, _, h, _⟩ := h
  rw [h]; rfl
theorem g_bov {Pz : List (List Int) → Prop} {f : List (List Int) → List Int → List (List Int) → PyData} {E : XK} {i j k : Nat} {x y : Addr} {n m : Nat} {R Ro : List (List Int)} {vals : List Int} {vw : List (Option Int)} {v : V} (h0 : σ[i]? = some (some (.ref x))) (bk : Bk K CB F x n m R) (h1 : σ[j]? = some (some (.ref y))) (oc : Oc K CO F y Ro vals) (h2 : σ[k]? = some (some v)) (hv : Rp K F v (dO vw)) (sd : Side n R Ro vals vw) (hp : Pz (R.filter (goesB vw))) :
    EvG K none (tCall (spBov K CB CO Pz f) [] E (tCons (tVar i) (tCons (tVar j) (tCons (tVar k) tNil)))) σ F (Is (f Ro vals (R.filter (goesB vw)))) := fun H1 e g Q q =>
  ⟨_, h0, _, h1, _, h2, x, y, n, m, R, Ro, vals, vw, F, v, rfl, sd, hp, e, bk, oc, hv, fun u F2 H2 s hu => q _ u F2 H2 rfl s hu⟩
abbrev spSet (K : PySem.W.Frag) (CB CO : Addr) : Sp := spBov K CB CO (fun _ => True) (fun Ro vals fit => dT (valsR Ro vals fit))
theorem ok_set {f fB fV : Addr} {fd fdB fdV : FuncData} (Fn : Fun K "settled_values" "settled_values" s_settled_values f fd) (T : Tx mg) (FC : OutC K CO)
    (F_inputs_behind : Fun K "_inputs_behind" "_inputs_behind" s_inputs_behind fB fdB) (b_inputs_behind : Binds K fdB ["book", "view"] []) (g_inputs_behind : mg "_inputs_behind" = some (.ref fB)) (G_inputs_behind : FnOk P w K mg base CX0 3 fB fdB ["book", "view"] (spBeh K CB))
    (m_value_of : Meth K CO "value_of" fV) (G_value_of : FnOk P w K mg base CX0 3 fV fdV ["self", "entry"] (spVal K CO)) (b_value_of : Binds K fdV ["self", "entry"] []) :
    FnOk P w K mg base CX0 4 f fd ["book", "outcomes", "view"] (spSet K CB CO) := by
  refine Fn.ok sc_settled_values (fun vs H Q E h => by rw [bov_len h]; rfl) (fun cdv A outer s H vs Q E hr h => ?_)
  obtain ⟨x, y, n, m, R, Ro, vals, vw, F, v, rfl, sd, _, e, bk, oc, hv, q⟩ := h
  refine ⟨_, (pss_one (ps_ret (pe_callTy (c_tup (K := K)) (by rfl) T.tuple (by decide +kernel) (pa_cons (pe_callB (c_sortedSet (w := w)) (by rfl) T.sorted (by decide +kernel) (pa_cons (pe_callTy (c_setL (K := K) (w := w)) (by rfl) T.set (by decide +kernel) (pa_cons (pe_lc (own := [("entry", 3)]) (g := gName 3) rfl sc_settled_values.nd (i_list (K := K) (pe_call G_inputs_behind (hr.mono (by decide)) (by rfl) g_inputs_behind F_inputs_behind.kp b_inputs_behind .nil pass0 (pa_cons (pv 0) (pa_cons (pv 2) pa_nil)))) (blkOk_by (own := [("entry", 3)]) (N := ["book", "outcomes", "view", "entry"]) (sc := (defScope s_settled_values)) (by decide +kernel)) (fun _ _ _ _ _ => pg_name (i := 3) sc_settled_values.nd rfl (by first | exact Or.inl rfl | exact Or.inr rfl)) (fun _ _ _ _ _ => pts_nil) (fun _ _ _ _ _ => (pe_meth (pv 1) FC.cl m_value_of G_value_of (hr.mono (by decide)) b_value_of .nil pass0 (pa_cons (pv 3) pa_nil)))) pa_nil)) pa_nil)) pa_nil)))), ?_⟩
  have hin : ∀ r ∈ R.filter (goesB vw), r ∈ Ro := fun r hr' => sd.sub r (List.mem_filter.mp hr').1
  have hlen : (R.filter (goesB vw)).length ≤ 60 := Nat.le_trans (List.length_filter_le _ _) sd.few
  refine t_retI (K := K) (Step.refl e .nil) (g_cb (g_consR (g_sortedSetL (ns := (R.filter (goesB vw)).map (valR Ro vals)) ((g_lcEM dT (R.filter (goesB vw)) (fun r => .int (valR Ro vals r)) (w_listI (g_beh rfl bk rfl hv sd.beh)) (by omega) (fun _ => rfl) fun r hr' F' e' u hu => g_val rfl (oc.mono e') sd.nd sd.vl sd.lo (hin r hr') (g_var rfl hu)).is (by show PyData.list _ = PyData.list (((R.filter (goesB vw)).map (valR Ro vals)).map PyData.int); rw [List.map_map]; rfl)) (by rw [List.length_map]; omega))) fun ds hds => ?_) q
  obtain ⟨d, rfl, ms, rfl, hp, hm⟩ := hds
  have := sorted_is (n := 4) hp hm (fun k hk => by
    obtain ⟨r, hr', rfl⟩ := List.mem_map.mp hk
    have := sd.val (hin r hr')
    omega)
  subst this
  exact rc_tupL
theorem vals_ne {n : Nat} {R Ro : List (List Int)} {vals : List Int} {vw : List (Option Int)} (sd : Side n R Ro vals vw) (h : R.filter (goesB vw) ≠ []) : valsR Ro vals (R.filter (goesB vw)) ≠ [] := by
  intro z
  cases e : R.filter (goesB vw) with
  | nil => exact h e
  | cons a r =>
    rw [e] at z
    have hin : a ∈ Ro := sd.sub a (List.mem_filter.mp (by rw [e]; exact List.mem_cons_self)).1
    have hv := sd.val hin
    have : valR Ro vals a ∈ valsR Ro vals (a :: r) := by
      unfold valsR
      rw [mem_lotOf]
      exact ⟨by omega, by simp⟩
    rw [z] at this; cases this
end
end KC

namespace KC
open PySem PySem.Spec PyProof.Rows L2 Fv Evl StX
abbrev s_law_pot : Stmt := topS 58
theorem sc_law_pot : FnScope ["_law_script", "_law_salt", "_law_cell"] ["_law_script", "_law_salt"] (defScope s_law_pot) := ⟨rfl, rfl, rfl, by decide +kernel, rfl, by decide +kernel, by decide +kernel⟩
abbrev s_law_draw : Stmt := topS 57
theorem sc_law_draw : FnScope ["_law_pot_here", "_law_many", "_law_cell", "_law_digit"] ["_law_pot_here", "_law_many"] (defScope s_law_draw) := ⟨rfl, rfl, rfl, by decide +kernel, rfl, by decide +kernel, by decide +kernel⟩
section
variable {P : Program} {w : World} {K : PySem.W.Frag} {mg : Str → Option Value} {base : Heap}
abbrev spDraw (K : PySem.W.Frag) : Sp := spP K (fun m => 1 ≤ m ∧ m < 10000000000000000000000000000001) (fun m d => ∃ k : Int, d = .int k ∧ 0 ≤ k ∧ k < m)
theorem cm {i j : Int} (h0 : 0 ≤ i) (h1 : i < 2147483647) : CMul i j := .inl ⟨by omega, by omega⟩
theorem ok_draw {f : Addr} {fd : FuncData} (Fn : Fun K "_law_draw" "_law_draw" s_law_draw f fd) (T : Tx mg) : FnOk P w K mg base CX0 1 f fd ["_law_pot_here", "_law_many"] (spDraw K) := by
  refine Fn.ok sc_law_draw spP.len (fun cdv A outer s H vs Q E hr h => ?_)
  obtain ⟨q, m, F, rfl, ⟨m1, m2⟩, e, g, k0⟩ := h
  have k : ∀ k F2 H2, 0 ≤ k → k < m → Step (some q) F H F2 H2 → Q (.int k) H2 := fun k F2 H2 h1 h2 s => k0 _ _ F2 H2 ⟨k, rfl, h1, h2⟩ s (.int k)
  refine ⟨_, (pss_cons (ps_if (PW.pt (pw_and (pt_cmpR op_eq (pe_ix (o_ixL (K := K)) (pv 0) pe_int (fun _ _ => rfl)) pe_int (nomark _)) (pw_and1 (pt_cmpR op_lt (pe_ix (o_ixL (K := K)) (pv 0) pe_int (fun _ _ => rfl)) (pe_callB (c_len (K := K)) (by rfl) T.len (by decide +kernel) (pa_cons (pe_ix (o_ixL (K := K)) (pv 0) pe_int (fun _ _ => rfl)) pa_nil)) (nomark _))))) (pss_cons (ps_set (i := 2) sc_law_draw.nd rfl (by first | exact Or.inl rfl | exact Or.inr rfl) (pe_ix (o_ixL (K := K)) (pe_ix (o_ixL (K := K)) (pv 0) pe_int (fun _ _ => rfl)) (pe_ix (o_ixL (K := K)) (pv 0) pe_int (fun _ _ => rfl)) (fun _ _ => rfl)))
    (pss_cons (ps_asg (pe_op op_add (pe_ix (o_ixL (K := K)) (pv 0) pe_int (fun _ _ => rfl)) pe_int) (pg_sub (pv 0) pe_int set_list))
    (pss_one (ps_if (pt_cmpR op_ge (pv 2) pe_int (nomark _)) (pss_one (ps_asg (pv 2) (pg_sub (pv 0) pe_int set_list))) (pss_one (ps_asg (pe_op op_modN (pe_op op_add (pe_op op_add (pe_op op_mul (pe_ix (o_ixL (K := K)) (pv 0) pe_int (fun _ _ => rfl)) pe_int) (pe_op op_mul (pe_op op_modN (pe_callTy call_int1 (by rfl) T.int (by decide +kernel) (pa_cons (pv 2) pa_nil)) pe_int) pe_int)) pe_int) pe_int) (pg_sub (pv 0) pe_int set_list))))))) pss_nil)
    (pss_cons (ps_if (pt_cmpR op_gt (pe_ix (o_ixL (K := K)) (pv 0) pe_int (fun _ _ => rfl)) pe_int (nomark _)) (pss_cons (ps_set (i := 3) sc_law_draw.nd rfl (by first | exact Or.inl rfl | exact Or.inr rfl) (pe_op op_modN (pe_callTy call_int1 (by rfl) T.int (by decide +kernel) (pa_cons (pe_ix (o_ixL (K := K)) (pv 0) pe_int (fun _ _ => rfl)) pa_nil)) (pv 1)))
    (pss_cons (ps_asg (pe_op op_fdivW (pe_ix (o_ixL (K := K)) (pv 0) pe_int (fun _ _ => rfl)) (pv 1)) (pg_sub (pv 0) pe_int set_list))
    (pss_one (ps_ret (pv 3))))) pss_nil)
    (pss_cons (ps_asg (pe_op op_modN (pe_op op_add (pe_op op_mul (pe_ix (o_ixL (K := K)) (pv 0) pe_int (fun _ _ => rfl)) pe_int) pe_int) pe_int) (pg_sub (pv 0) pe_int set_list))
    (pss_one (ps_ret (pe_op op_modN (pe_op op_fdivN (pe_callTy call_int1 (by rfl) T.int (by decide +kernel) (pa_cons (pe_op op_modN (pe_op op_mul (pe_ix (o_ixL (K := K)) (pv 0) pe_int (fun _ _ => rfl)) pe_int) pe_int) pa_nil)) pe_int) (pv 1))))))), ?_⟩
  have get : ∀ {σ : L2.St} {H' : Hp} {a b c : Int}, σ[0]? = some (some (.ref q.p)) → Pot H' q a b c → ∀ {i : Int} {v : V}, atI [V.int a, .int b, .int c, .ref q.l] i = some v → EvC (tOp (rIxL K) (tVar 0) (tC (.int i))) σ H' v := fun h p _ _ hi => ec_ixL (ec_var h) ec_int p.at_ hi
  obtain ⟨a, b, c, p⟩ := Pot.of (g q rfl).2
  let J : L2.St → Hp → Prop := fun σ' H' => ∃ a b c x y, σ' = [some (.ref q.p), some (.int m), x, y] ∧ Pot H' q a b c ∧ Step (some q) F H F H'
  have mk : ∀ {H' : Hp} {a b c : Int}, Pot H' q a b c → Step (some q) F H F H' → ∀ {a' b' c' : Int}, 0 ≤ a' → 0 ≤ b' → b' < 2147483647 → 0 ≤ c' → c' ≤ q.ns.length → Pot (upd H' q.p (.lst [.int a', .int b', .int c', .ref q.l])) q a' b' c' ∧ Step (some q) F H F (upd H' q.p (.lst [.int a', .int b', .int c', .ref q.l])) := fun p s _ _ _ h1 h2 h3 h4 h5 => by
    have p' := p.put h1 h2 h3 h4 h5
    exact ⟨p', s.trans (Step.pot s.inn s.good p'.pot)⟩
  have s0 : Step (some q) F H F H := Step.refl e g
  refine ts_when J (b := decide (a = 0) && decide (c < (q.ns.map V.int).length)) (etc_and (etc_of (ec_eq (get rfl p rfl) ec_int)) fun _ => etc_of (ec_I0 (g := fun i j => .bl (decide (i < j))) (get rfl p rfl) (ec_len (get rfl p rfl) p.ls))) (fun hb N hN => ?_) (fun _ => ⟨a, b, c, none, none, rfl, p, s0⟩) (fun σ' H' hJ => ?_)
  · simp only [Bool.and_eq_true, decide_eq_true_eq, List.length_map] at hb
    obtain ⟨_, hc⟩ := hb
    have c0 := p.c0
    obtain ⟨j, rfl⟩ : ∃ j : Nat, c = (j : Int) := ⟨c.toNat, by omega⟩
    have hj : j < q.ns.length := by omega
    have hcell : atI (q.ns.map V.int) (j : Int) = some (.int q.ns[j]) := atI_nat (by rw [List.getElem?_map, List.getElem?_eq_getElem hj]; rfl)
    refine ts_asg (ec_ixL (get rfl p rfl) (get rfl p rfl) p.ls hcell) ?_
    -- pot[2] = pot[2] + 1
    obtain ⟨p1, s1⟩ := mk p s0 (a' := a) (b' := b) (c' := (j : Int) + 1) p.a0 p.b0 p.b1 (by omega) (by omega)
    refine ts_put (q := q) (j := 2) (ec_I0 (g := fun i j => .int (i + j)) (get rfl p rfl) ec_int) rfl p.at_ rfl ?_
    show tIfS _ _ _ _ _ (upd H q.p (.lst [.int a, .int b, .int ((j : Int) + 1), .ref q.l]))
    refine ts_if1 (etc_of (ec_I0 (g := fun i j => .bl (decide (j ≤ i))) (ec_var rfl) ec_int)) (fun hb2 => ?_) (fun hb2 => ?_)
    · simp only [decide_eq_true_eq] at hb2
      obtain ⟨p2, s2⟩ := mk p1 s1 (a' := q.ns[j]) (b' := b) (c' := (j : Int) + 1) (by omega) p.b0 p.b1 (by omega) (by omega)
      refine ts_put1 (q := q) (j := 0) (ec_var rfl) rfl p1.at_ rfl ?_
      exact hN _ _ ⟨_, _, _, _, _, rfl, p2, s2⟩
    · obtain ⟨z1, z2⟩ := fm0 (b * 48271 + (q.ns[j]).fmod 1000003 * 69621 + 77) (j := 2147483647) (by decide)
      obtain ⟨p2, s2⟩ := mk p1 s1 (a' := a) (c' := (j : Int) + 1) p.a0 z1 z2 (by omega) (by omega)
      have e1 : EvC _ _ _ _ := ec_I (C := CMul) (g := fun i j => .int (i * j)) (get (σ := [some (.ref q.p), some (.int m), some (.int q.ns[j]), none]) rfl p1 (i := 1) rfl) (ec_int (i := 48271)) (cm p.b0 p.b1)
      have e2 : EvC _ _ _ _ := ec_I (C := CMul) (g := fun i j => .int (i * j)) (ec_I (C := fun _ j => j ≠ 0) (g := fun i j => .int (i.fmod j)) (ec_int1 (ec_var (σ := [some (.ref q.p), some (.int m), some (.int q.ns[j]), none]) (i := 2) (H := upd H q.p (.lst [.int a, .int b, .int ((j : Int) + 1), .ref q.l])) rfl)) (ec_int (i := 1000003)) (by decide)) (ec_int (i := 69621)) (cm (fm0 _ (by decide)).1 (Int.lt_trans (fm0 _ (by decide)).2 (by decide)))
      refine ts_put1 (q := q) (j := 1) (ec_I (C := fun _ j => j ≠ 0) (g := fun i j => .int (i.fmod j)) (ec_I0 (g := fun i j => .int (i + j)) (ec_I0 (g := fun i j => .int (i + j)) e1 e2) ec_int) ec_int (show (2147483647 : Int) ≠ 0 by decide)) rfl p1.at_ rfl ?_
      exact hN _ _ ⟨_, _, _, _, _, rfl, p2, s2⟩
  · obtain ⟨a, b, c, x, y, rfl, p, s⟩ := hJ
    have m0 : m ≠ 0 := by omega
    refine ts_if (etc_of (ec_I0 (g := fun i j => .bl (decide (j < i))) (get rfl p rfl) ec_int)) (fun hb => ?_) (fun hb => ?_)
    · obtain ⟨z1, z2⟩ := fm0 a (j := m) (by omega)
      refine ts_asg (ec_I (C := fun _ j => j ≠ 0) (g := fun i j => .int (i.fmod j)) (ec_int1 (get rfl p rfl)) (ec_var rfl) m0) ?_
      obtain ⟨p1, s1⟩ := mk p s (a' := a / m) (b' := b) (c' := c) (Int.ediv_nonneg p.a0 (by omega)) p.b0 p.b1 p.c0 p.c1
      refine ts_put (q := q) (j := 0) (ec_I (C := CDivW) (g := fun i j => .int (i / j)) (get rfl p rfl) (ec_var rfl) ⟨by omega, by
        have h1 : m.natAbs < 2 ^ 110 := by
          have : (2 : Nat) ^ 110 = 1298074214633706907132624082305024 := by decide
          omega
        have := PySem.Flt.log2_lt_of (by decide) h1
        omega⟩) rfl p.at_ rfl ?_
      exact ts_ret (ec_var rfl) (k _ _ _ z1 z2 s1)
    · obtain ⟨z1, z2⟩ := fm0 (b * 48271 + 1013904223) (j := 2147483647) (by decide)
      obtain ⟨p1, s1⟩ := mk p s (a' := a) (c' := c) p.a0 z1 z2 p.c0 p.c1
      refine ts_put (q := q) (j := 1) (ec_I (C := fun _ j => j ≠ 0) (g := fun i j => .int (i.fmod j)) (ec_I0 (g := fun i j => .int (i + j)) (ec_I (C := CMul) (g := fun i j => .int (i * j)) (get rfl p rfl) ec_int (cm p.b0 p.b1)) ec_int) ec_int (show (2147483647 : Int) ≠ 0 by decide)) rfl p.at_ rfl ?_
      obtain ⟨y1, y2⟩ := fm0 ((((b * 48271 + 1013904223).fmod 2147483647 * 16807).fmod 2147483629).fdiv 5) (j := m) (by omega)
      refine ts_ret (ec_I (C := fun _ j => j ≠ 0) (g := fun i j => .int (i.fmod j)) (ec_I (C := CDivN) (g := fun i j => .int (i.fdiv j)) (ec_int1 (ec_I (C := fun _ j => j ≠ 0) (g := fun i j => .int (i.fmod j)) (ec_I (C := CMul) (g := fun i j => .int (i * j)) (get rfl p1 rfl) ec_int (cm p1.b0 p1.b1)) ec_int (show (2147483629 : Int) ≠ 0 by decide))) ec_int (show CDivN _ 5 from ⟨by decide, by decide⟩)) (ec_var rfl) m0) (k _ _ _ y1 y2 s1)
def spPot (K : PySem.W.Frag) : Sp := fun vs H Q _ => ∃ (a : Addr) (ns : List Int) (c : Int) (F : Hp), vs = [.ref a, .int c] ∧ SqL K F a (ns.map V.int) ∧ 0 ≤ c ∧ c < 2147483647 ∧ Ex F H ∧
  ∀ (q : Pt) F2 H2, Step none F H F2 H2 → Good (some q) F2 H2 → H q.p = none → Q (.ref q.p) H2
theorem ok_pot {f : Addr} {fd : FuncData} (Fn : Fun K "_law_pot" "_law_pot" s_law_pot f fd) (T : Tx mg) : FnOk P w K mg base CX0 1 f fd ["_law_script", "_law_salt"] (spPot K) := by
  refine Fn.ok sc_law_pot (fun vs H Q E ⟨_, _, _, _, h, _⟩ => by rw [h]; rfl) (fun cdv A outer s H vs Q E hr h => ?_)
  obtain ⟨a, ns, c, F, rfl, hl, c0, c1, e, k⟩ := h
  refine ⟨_, (pss_one (ps_ret (pe_lst (pa_cons pe_int (pa_cons (pv 1) (pa_cons pe_int (pa_cons (pe_lc (own := [("_law_cell", 2)]) (g := gName 2) rfl sc_law_pot.nd (i_list (K := K) (pe_slice (s_list (K := K)) (pv 0) (po_some pe_int) (po_some pe_int))) (blkOk_by (own := [("_law_cell", 2)]) (N := ["_law_script", "_law_salt", "_law_cell"]) (sc := (defScope s_law_pot)) (by decide +kernel)) (fun _ _ _ _ _ => pg_name (i := 2) sc_law_pot.nd rfl (by first | exact Or.inl rfl | exact Or.inr rfl)) (fun _ _ _ _ _ => pts_nil) (fun _ _ _ _ _ => (pe_callTy call_int1 (by rfl) T.int (by decide +kernel) (pa_cons (pv 2) pa_nil)))) pa_nil))))))), ?_⟩
  have hz : (ns.take 60).length ≤ 60 := by rw [List.length_take]; omega
  refine t_retLst (K := K) (Step.refl e .nil) (gs_consI (K := K) g_int (gs_consI (g_var (v := .int c) (d := .int c) rfl (.int c)) (gs_consI g_int (gs_one (g_lcEM PyData.int (ns.take 60) PyData.int (w_listI (g_slS (i := 0) rfl hl)) (by omega) (fun _ => rfl) fun i hi F' e' y hy => g_cbI (gs_one (g_var rfl hy)) rc_int1))))) fun vs F2 H2 s hv => ?_
  obtain ⟨v4, rfl, hv4⟩ : ∃ v4, vs = [.int 0, .int c, .int 0, v4] ∧ Rp K F2 v4 (.list ((ns.take 60).map .int)) := by
    cases hv with
    | cons a1 b1 =>
      cases b1 with
      | cons a2 b2 =>
        cases b2 with
        | cons a3 b3 =>
          cases b3 with
          | cons a4 b4 =>
            cases b4
            rw [rp_int a1, rp_int a2, rp_int a3]
            exact ⟨_, rfl, a4⟩
  obtain ⟨l, xs, rfl, hl4, hxs⟩ := rp_lst hv4
  have := rpAll_ints hxs
  subst this
  refine ⟨by show 4 ≤ _; decide, fun p hp => ?_⟩
  have hlp : l ≠ p := fun z => by rw [z] at hl4; have := s.inn _ _ hl4; rw [hp] at this; cases this
  have fp : F2 p = none := by
    cases z : F2 p with
    | none => rfl
    | some o => have := s.inn _ _ z; rw [hp] at this; cases this
  refine k ⟨p, l, ns.take 60⟩ F2 _ ?_ ?_ (s.back p hp)
  · exact ⟨s.sub, s.inn.trans (Ex.new hp), s.keep.trans (Keep.of (Ex.new hp)), .nil, s.new⟩
  · intro q hq
    obtain rfl := Option.some.inj hq
    refine ⟨fp, hlp, ?_, hz, 0, c, 0, upd_same, Int.le_refl _, c0, c1, Int.le_refl _, by omega⟩
    show upd H2 p _ l = _
    rw [upd_ne hlp]; exact s.inn _ _ hl4
end
end KC

namespace KC
open PySem PySem.Spec PyProof.Rows L2 L2H Fv Evl StX
/-- the houses 0 .. n - 1 -/
def hs (n : Nat) : List Int := (List.range n).map Int.ofNat
theorem rng_hs (n : Nat) : rng 0 n = (hs n).map PyData.int := by
  unfold rng hs
  rw [List.map_map]
  refine List.map_congr_left fun k _ => ?_
  simp
section
variable {P : Program} {w : World} {K : PySem.W.Frag} {mg : Str → Option Value} {base : Heap}
variable {pt : Option Pt} {σ : L2.St} {F F0 H0 H : Hp} {te ta tb : TE} {ts tr : TA} {D : Ends} {tz : TS}
/-! lot_within -/
theorem g_ifX {d : PyData} {b : Bool} {tt : TT} (h : EtG pt tt σ F (· = b)) (ha : b = true → EvG K pt ta σ F (Is d)) (hb : b = false → EvG K pt tb σ F (Is d)) : EvG K pt (tIf tt ta tb) σ F (Is d) := fun H1 i g Q q => h H1 i g _ fun c F2 H2 hc s => by
  subst hc
  cases c with
  | true => exact (ha rfl).mono s.sub H2 s.inn s.good Q fun d v F3 H3 hd s3 hv => q d v F3 H3 hd (s.trans s3) hv
  | false => exact (hb rfl).mono s.sub H2 s.inn s.good Q fun d v F3 H3 hd s3 hv => q d v F3 H3 hd (s.trans s3) hv
end
end KC

namespace KC
open PySem PySem.Spec PyProof.Rows L2 L2H Fv Evl StX
abbrev s_law_sizes : Stmt := topS 59
theorem sc_law_sizes : FnScope ["_law_pot_here", "_law_n", "_law_m"] ["_law_pot_here"] (defScope s_law_sizes) := ⟨rfl, rfl, rfl, by decide +kernel, rfl, by decide +kernel, by decide +kernel⟩
abbrev s_law_goes : Stmt := topS 55
theorem sc_law_goes : FnScope ["_law_view", "_law_row", "_law_k"] ["_law_view", "_law_row"] (defScope s_law_goes) := ⟨rfl, rfl, rfl, by decide +kernel, rfl, by decide +kernel, by decide +kernel⟩
abbrev ORow := List (Option Int)
theorem hs_len (n : Nat) : (hs n).length = n := by simp [hs]
theorem hs_mem {n : Nat} {k : Int} : k ∈ hs n ↔ 0 ≤ k ∧ k < (n : Int) := by
  unfold hs
  rw [List.mem_map]
  constructor
  · rintro ⟨j, hj, rfl⟩
    rw [List.mem_range] at hj
    simp only [Int.ofNat_eq_natCast]; omega
  · rintro ⟨h1, h2⟩
    exact ⟨k.toNat, by rw [List.mem_range]; omega, by simp only [Int.ofNat_eq_natCast]; omega⟩
def capN (n : Nat) : Nat := [0, 0, 4, 3, 2, 2].getD n 0
theorem cap_get {n : Nat} (h : n ≤ 5) : atI ([0, 0, 4, 3, 2, 2].map PyData.int) (n : Int) = some (.int (capN n)) := by
  have : n = 0 ∨ n = 1 ∨ n = 2 ∨ n = 3 ∨ n = 4 ∨ n = 5 := by omega
  rcases this with rfl | rfl | rfl | rfl | rfl | rfl
  · exact atI_nat (xs := [0, 0, 4, 3, 2, 2].map PyData.int) (j := 0) rfl
  · exact atI_nat (xs := [0, 0, 4, 3, 2, 2].map PyData.int) (j := 1) rfl
  · exact atI_nat (xs := [0, 0, 4, 3, 2, 2].map PyData.int) (j := 2) rfl
  · exact atI_nat (xs := [0, 0, 4, 3, 2, 2].map PyData.int) (j := 3) rfl
  · exact atI_nat (xs := [0, 0, 4, 3, 2, 2].map PyData.int) (j := 4) rfl
  · exact atI_nat (xs := [0, 0, 4, 3, 2, 2].map PyData.int) (j := 5) rfl
theorem cap_few {n : Nat} (h2 : 2 ≤ n) (h5 : n ≤ 5) : 2 ≤ capN n ∧ capN n ≤ 4 := by
  have : n = 2 ∨ n = 3 ∨ n = 4 ∨ n = 5 := by omega
  rcases this with rfl | rfl | rfl | rfl <;> decide
theorem cap_pow : ∀ n ∈ [2, 3, 4, 5], ∀ m ∈ List.range 5, m ≤ capN n → ∀ i ∈ List.range (n + 1), (m + 1) ^ i ≤ 256 := by decide +kernel
section
variable {P : Program} {w : World} {K : PySem.W.Frag} {mg : Str → Option Value} {base : Heap}
variable {pt : Option Pt} {σ : L2.St} {F F' F0 H0 H : Hp} {te ta tb ty td : TE} {ts tr : TA} {D : Ends} {tz : TS}
theorem gs_int {i : Int} {ds : List PyData} (h : EvsG K pt tr σ F (· = ds)) : EvsG K pt (tCons (tC (.int i)) tr) σ F (· = .int i :: ds) := gs_consI g_int h
/-! sizes -/
abbrev SizeD (d : PyData) : Prop := ∃ n m : Nat, d = .tuple [.int n, .int m] ∧ n ∈ [2, 3, 4, 5] ∧ 1 ≤ m ∧ m ≤ capN n
abbrev spSizes (K : PySem.W.Frag) : Sp := spQ K (fun _ : Unit => []) (fun _ => True) (fun _ => SizeD)
theorem ok_sizes {f fD : Addr} {fd fdD : FuncData} (Fn : Fun K "_law_sizes" "_law_sizes" s_law_sizes f fd) (T : Tx mg)
    (F_law_draw : Fun K "_law_draw" "_law_draw" s_law_draw fD fdD) (b_law_draw : Binds K fdD ["_law_pot_here", "_law_many"] []) (g_law_draw : mg "_law_draw" = some (.ref fD)) : FnOk P w K mg base CX0 2 f fd ["_law_pot_here"] (spSizes K) := by
  have G_law_draw : FnOk P w K mg base CX0 1 fD fdD ["_law_pot_here", "_law_many"] (spDraw K) := ok_draw F_law_draw T
  refine Fn.ok sc_law_sizes (spQ.len (n := 0) (fun _ => rfl)) (fun cdv A outer s H vs Q E hr h => ?_)
  obtain ⟨q, _, F, as, rfl, _, e, g, ha, k⟩ := h
  cases ha
  refine ⟨_, (pss_cons (ps_set (i := 1) sc_law_sizes.nd rfl (by first | exact Or.inl rfl | exact Or.inr rfl) (pe_ix (o_ixL (K := K)) (pe_lst (pa_cons pe_int (pa_cons pe_int (pa_cons pe_int (pa_cons pe_int (pa_cons pe_int (pa_cons pe_int (pa_cons pe_int (pa_cons pe_int pa_nil))))))))) (pe_call G_law_draw (hr.mono (by decide)) (by rfl) g_law_draw F_law_draw.kp b_law_draw .nil pass0 (pa_cons (pv 0) (pa_cons pe_int pa_nil))) (fun _ _ => rfl)))
    (pss_cons (ps_set (i := 2) sc_law_sizes.nd rfl (by first | exact Or.inl rfl | exact Or.inr rfl) (pe_ix (o_ixL (K := K)) (pe_lst (pa_cons pe_int (pa_cons pe_int (pa_cons pe_int (pa_cons pe_int (pa_cons pe_int (pa_cons pe_int (pa_cons pe_int (pa_cons pe_int pa_nil))))))))) (pe_call G_law_draw (hr.mono (by decide)) (by rfl) g_law_draw F_law_draw.kp b_law_draw .nil pass0 (pa_cons (pv 0) (pa_cons pe_int pa_nil))) (fun _ _ => rfl)))
    (pss_one (ps_ret (pe_tup (pa_cons (pv 1) (pa_cons (pe_callB c_min2 (by rfl) T.min (by decide +kernel) (pa_cons (pv 2) (pa_cons (pe_ix (o_ixL (K := K)) (pe_lst (pa_cons pe_int (pa_cons pe_int (pa_cons pe_int (pa_cons pe_int (pa_cons pe_int (pa_cons pe_int pa_nil))))))) (pv 1) (fun _ _ => rfl)) pa_nil))) pa_nil))))))), ?_⟩
  refine t_asg (K := K) (R := fun d => ∃ n : Nat, d = .int n ∧ n ∈ [2, 3, 4, 5]) (Step.refl e g) (g_pick (c := 8) (g_lstI (gs_int (gs_int (gs_int (gs_int (gs_int (gs_int (gs_int (gs_int gs_nil)))))))) (by decide)) (g_callP (m := 8) rfl g_int (by decide)) (by decide) fun d hd => ?_) fun d v F1 H1 hd s1 e1 hv => ?_
  · simp only [List.mem_cons, List.not_mem_nil, or_false] at hd
    rcases hd with rfl | rfl | rfl | rfl | rfl | rfl | rfl | rfl
    · exact ⟨2, rfl, by decide⟩
    · exact ⟨2, rfl, by decide⟩
    · exact ⟨2, rfl, by decide⟩
    · exact ⟨3, rfl, by decide⟩
    · exact ⟨3, rfl, by decide⟩
    · exact ⟨3, rfl, by decide⟩
    · exact ⟨4, rfl, by decide⟩
    · exact ⟨5, rfl, by decide⟩
  obtain ⟨n, rfl, hn⟩ := hd
  obtain rfl := rp_int hv
  have nb : 2 ≤ n ∧ n ≤ 5 := by simp only [List.mem_cons, List.not_mem_nil, or_false] at hn; omega
  obtain ⟨c2, c4⟩ := cap_few nb.1 nb.2
  refine t_asg (K := K) (R := fun d => ∃ j : Int, d = .int j ∧ 1 ≤ j) s1 (g_pick (c := 8) (g_lstI (gs_int (gs_int (gs_int (gs_int (gs_int (gs_int (gs_int (gs_int gs_nil)))))))) (by decide)) (g_callP (m := 8) rfl g_int (by decide)) (by decide) fun d hd => ?_) fun d v F2 H2 hd s2 e2 hv2 => ?_
  · simp only [List.mem_cons, List.not_mem_nil, or_false] at hd
    rcases hd with rfl | rfl | rfl | rfl | rfl | rfl | rfl | rfl <;> exact ⟨_, rfl, by decide⟩
  obtain ⟨j, rfl, j1⟩ := hd
  obtain rfl := rp_int hv2
  refine t_retI (K := K) s2 (g_tupI (gs_two (g_var (v := .int n) rfl (.int _)) (g_cbI (gs_two (g_var (v := .int j) rfl (.int _)) (g_opI (g_lstI (gs_int (gs_int (gs_int (gs_int (gs_int (gs_int gs_nil)))))) (by decide)) (g_var (v := .int n) rfl (.int _)) (rv_ixL (cap_get nb.2)))) rc_min2)) (by simp)) fun v F3 H3 s3 hv3 => k _ v F3 H3 ?_ s3 hv3
  by_cases z : ((capN n : Nat) : Int) < j
  · exact ⟨n, capN n, by rw [if_pos z], hn, by omega, Nat.le_refl _⟩
  · exact ⟨n, j.toNat, by rw [if_neg z, show ((j.toNat : Nat) : Int) = j by omega], hn, by omega, by omega⟩
abbrev spGoes (K : PySem.W.Frag) : Sp := PSp K (fun i : ORow × List Int => [dO i.1, dT i.2]) (fun i => i.1.length = i.2.length ∧ i.1.length ≤ 100) (fun i => .bool (goesB i.1 i.2))
theorem ok_goesL {f : Addr} {fd : FuncData} (Fn : Fun K "_law_goes" "_law_goes" s_law_goes f fd) (T : Tx mg) : FnOk P w K mg base CX0 1 f fd ["_law_view", "_law_row"] (spGoes K) := by
  refine Fn.ok sc_law_goes (PSp.len (fun _ => rfl)) (fun cdv A outer s H vs Q E hr h => ?_)
  obtain ⟨⟨vw, r⟩, F, ⟨hl, hz⟩, e, ha, q⟩ := h
  replace hl : vw.length = r.length := hl
  replace hz : vw.length ≤ 100 := hz
  obtain ⟨v, x, rfl, hv, hx⟩ := rpAll2 ha
  refine ⟨_, (pss_one (ps_ret (pe_notT (pe_lc (own := [("_law_k", 2)]) (g := gName 2) rfl sc_law_goes.nd (pi_range1 (by rfl) T.range (pa_cons (pe_callB (c_len (K := K)) (by rfl) T.len (by decide +kernel) (pa_cons (pv 1) pa_nil)) pa_nil)) (blkOk_by (own := [("_law_k", 2)]) (N := ["_law_view", "_law_row", "_law_k"]) (sc := (defScope s_law_goes)) (by decide +kernel)) (fun _ _ _ _ _ => pg_name (i := 2) sc_law_goes.nd rfl (by first | exact Or.inl rfl | exact Or.inr rfl)) (fun _ _ _ _ _ => (pts_one (PW.pt (pw_and (pt_cmpR op_notN (pe_ix (o_ixT (K := K)) (pv 0) (pv 2) (fun _ _ => rfl)) pe_non (nomark _)) (pw_and1 (pt_cmpR op_ne (pe_ix (o_ixT (K := K)) (pv 0) (pv 2) (fun _ _ => rfl)) (pe_ix (o_ixT (K := K)) (pv 1) (pv 2) (fun _ _ => rfl)) (nomark _))))))) (fun _ _ _ _ _ => (pv 2)))))), ?_⟩
  refine t_retI (K := K) (Step.refl e .nil) ((g_notTL (g_lcE natD (List.range r.length) (fun k => !((vw.getD k none).isNone) && !decide (vw.getD k none = some (r.getD k 0))) natD (w_len (g_var rfl hx) (by simp) (by omega)) (by simp; omega) (fun _ => rfl) (fun k hk F' e' y hy => ?_) (fun k _ _ F' e' y hy => g_var rfl hy))).is ?_) q
  · have hk' : k < r.length := List.mem_range.mp hk
    have i1 : ∀ {F'' : Hp} {σ' : L2.St}, Ex F' F'' → σ'[0]? = some (some v) → σ'[2]? = some (some y) → EvG K none (tOp (rIxT K) (tVar 0) (tVar 2)) σ' F'' (Is (optD (vw.getD k none))) := fun ee h0 h2 => g_ixO (g_var h0 (Rp.mono (e'.trans ee) _ _ hv)) (g_var h2 (Rp.mono ee _ _ hy)) (hl ▸ hk')
    exact et_and (et_of (g_opI (i1 (Ex.refl _) rfl rfl) g_non rv_notO)) fun _ => et_of (g_opI (i1 (Ex.refl _) rfl rfl) (g_opI (g_var rfl (Rp.mono e' _ _ hx)) (g_var rfl hy) (rv_ixT (d := optD (some (r.getD k 0))) (atI_nat (by rw [List.getElem?_map, List.getElem?_eq_getElem hk', List.getD_eq_getElem?_getD, List.getElem?_eq_getElem hk']; rfl)))) rv_neO)
  · refine congrArg PyData.bool ?_
    unfold goesB
    rw [hl]
    rw [Bool.eq_iff_iff]
    simp only [List.isEmpty_iff, List.map_eq_nil_iff, List.filter_eq_nil_iff, List.all_eq_true, Bool.and_eq_true, not_and, Bool.or_eq_true, Bool.not_eq_true']
    constructor
    · intro h k hk
      cases z : (vw.getD k none).isNone
      · right; simpa using h k hk z
      · left; rfl
    · intro h k hk z
      rcases h k hk with y | y
      · rw [y] at z; cases z
      · simpa using y
theorem g_listRg {m : Nat} (h : EvG K pt te σ F (Is (.int (m : Int)))) (hm : m ≤ 1000) : EvG K pt (tLstRg (tRg1 te)) σ F (Is (dI (hs m))) := fun H1 i g Q q =>
  h H1 i g _ fun d v F2 H2 hd s hv => by
    subst hd
    refine ⟨m, rp_int hv, .of_le (Int.le_refl _) (by omega) (by omega) (by omega), fun p hp => ?_⟩
    have s3 : Step pt F2 H2 (upd F2 p (.lst (rgV 0 m))) (upd H2 p (.lst (rgV 0 m))) := .laid s.inn s.good hp
    refine q _ _ _ _ rfl (s.trans s3) (.lst upd_same ?_)
    have := rgV_rng (K := K) 0 (m : Int) (upd F2 p (.lst (rgV 0 m)))
    rw [Int.sub_zero, show ((m : Nat) : Int).toNat = m by omega, rng_hs] at this
    exact this
end
end KC

namespace KC
open PySem PySem.Spec PyProof.Rows L2 Fv Evl StX
abbrev s_law_lot : Stmt := topS 60
theorem sc_law_lot : FnScope ["_law_pot_here", "_law_n", "_law_bits", "_law_house"] ["_law_pot_here", "_law_n"] (defScope s_law_lot) := ⟨rfl, rfl, rfl, by decide +kernel, rfl, by decide +kernel, by decide +kernel⟩
abbrev s_law_lots : Stmt := topS 61
theorem sc_law_lots : FnScope ["_law_pot_here", "_law_n", "_law_word", "_law_singles", "_law_house", "_law_k", "_law_sure", "_law_rows_here", "_law_lot_here", "_law_cut"] ["_law_pot_here", "_law_n"] (defScope s_law_lots) := ⟨rfl, rfl, rfl, by decide +kernel, rfl, by decide +kernel, by decide +kernel⟩
def OneGood (n : Nat) (l : List Int) : Prop := l.length ≤ 60 ∧ (∀ k ∈ l, 0 ≤ k ∧ k < (n : Int)) ∧ (lotOf n l).length ≠ n
theorem not_all {n : Nat} {l : List Int} {k : Int} (h0 : 0 ≤ k) (h1 : k < n) (h : k ∉ l) : (lotOf n l).length ≠ n := by
  have hl : ((List.range n).map Int.ofNat).length = n := by simp
  intro e
  rw [← hl] at e
  unfold lotOf at e
  rw [hl] at e
  have e2 : (((List.range n).map Int.ofNat).filter fun k => decide (k ∈ l)).length = ((List.range n).map Int.ofNat).length := by rw [hl]; exact e
  rw [List.length_filter_eq_length_iff] at e2
  have := e2 k (by rw [List.mem_map]; exact ⟨k.toNat, by rw [List.mem_range]; omega, by simp only [Int.ofNat_eq_natCast]; omega⟩)
  simp at this; exact h this
def bitLot (n : Nat) (bits : Int) : List Int := (hs n).filter fun h => (Builtin.bitAnd (bits / 2 ^ h.toNat) 1 != 0)
theorem bits_good : ∀ n ∈ List.range 6, ∀ b ∈ List.range (2 ^ n - 1), (bitLot n b).length ≤ 60 ∧ (∀ k ∈ bitLot n b, 0 ≤ k ∧ k < (n : Int)) ∧ (lotOf n (bitLot n b)).length ≠ n := by decide +kernel
section
variable {P : Program} {w : World} {K : PySem.W.Frag} {mg : Str → Option Value} {base : Heap}
/-- n as the law has it -/
abbrev NOk (m : Int) : Prop := 2 ≤ m ∧ m ≤ 5
abbrev RO (n : Nat) : PD := fun d => ∃ l, d = dT l ∧ OneGood n l
abbrev RL (n c : Nat) : PD := fun d => ∃ ls, d = dLT ls ∧ (∀ l ∈ ls, OneGood n l) ∧ ls.length ≤ c
abbrev RL1 (n c : Nat) : PD := fun d => ∃ ls, d = dLT ls ∧ (∀ l ∈ ls, OneGood n l) ∧ ls.length ≤ c ∧ 1 ≤ ls.length
abbrev spLawLot (K : PySem.W.Frag) : Sp := spP K NOk (fun m => RO m.toNat)
theorem ok_law_lot {f fD : Addr} {fd fdD : FuncData} (Fn : Fun K "_law_lot" "_law_lot" s_law_lot f fd) (T : Tx mg)
    (F_law_draw : Fun K "_law_draw" "_law_draw" s_law_draw fD fdD) (b_law_draw : Binds K fdD ["_law_pot_here", "_law_many"] []) (g_law_draw : mg "_law_draw" = some (.ref fD)) : FnOk P w K mg base CX0 2 f fd ["_law_pot_here", "_law_n"] (spLawLot K) := by
  have G_law_draw : FnOk P w K mg base CX0 1 fD fdD ["_law_pot_here", "_law_many"] (spDraw K) := ok_draw F_law_draw T
  refine Fn.ok sc_law_lot spP.len (fun cdv A outer s H vs Q E hr h => ?_)
  obtain ⟨q, m, F, rfl, ⟨m1, m2⟩, e, g, k⟩ := h
  obtain ⟨n, rfl⟩ : ∃ n : Nat, m = (n : Int) := ⟨m.toNat, by omega⟩
  refine ⟨_, (pss_cons (ps_set (i := 2) sc_law_lot.nd rfl (by first | exact Or.inl rfl | exact Or.inr rfl) (pe_call G_law_draw (hr.mono (by decide)) (by rfl) g_law_draw F_law_draw.kp b_law_draw .nil pass0 (pa_cons (pv 0) (pa_cons (pe_op op_sub (pe_op op_shl pe_int (pv 1)) pe_int) pa_nil))))
    (pss_one (ps_ret (pe_callTy (c_tup (K := K)) (by rfl) T.tuple (by decide +kernel) (pa_cons (pe_lc (own := [("_law_house", 3)]) (g := gName 3) rfl sc_law_lot.nd (pi_range1 (by rfl) T.range (pa_cons (pv 1) pa_nil)) (blkOk_by (own := [("_law_house", 3)]) (N := ["_law_pot_here", "_law_n", "_law_bits", "_law_house"]) (sc := (defScope s_law_lot)) (by decide +kernel)) (fun _ _ _ _ _ => pg_name (i := 3) sc_law_lot.nd rfl (by first | exact Or.inl rfl | exact Or.inr rfl)) (fun _ _ _ _ _ => (pts_one (e_truth (K := K) (pe_op op_and (pe_op op_shr (pv 2) (pv 3)) pe_int)))) (fun _ _ _ _ _ => (pv 3))) pa_nil))))), ?_⟩
  have p1 : (1 : Int) ≤ 2 ^ n - 1 ∧ (2 : Int) ^ n - 1 < 10000000000000000000000000000001 := by
    have : n = 2 ∨ n = 3 ∨ n = 4 ∨ n = 5 := by omega
    rcases this with rfl | rfl | rfl | rfl <;> decide
  refine t_asg (K := K) (Step.refl e g) (g_callP (m := 2 ^ n - 1) rfl (g_op (g_op g_int (g_var (v := .int n) (d := .int n) rfl (.int _)) fun _ _ h1 h2 => by subst h1 h2; exact rv_shl (by omega)) g_int fun _ _ h1 h2 => by subst h1 h2; exact rv_sub) p1) fun d v F1 H1 hd s1 e1 hv => ?_
  obtain ⟨b, rfl, b0, b1⟩ := hd
  obtain ⟨b, rfl⟩ : ∃ b' : Nat, b = (b' : Int) := ⟨b.toNat, by omega⟩
  refine t_retI (K := K) s1 (g_cbI (gs_one (g_lcE PyData.int (hs n) (fun h => (Builtin.bitAnd ((b : Int) / 2 ^ h.toNat) 1 != 0)) PyData.int ?_ (by rw [hs_len]; omega) (fun _ => rfl) (fun h hh F' e' u hu => ?_) (fun h _ _ F' e' u hu => g_var rfl hu))) rc_tupL) fun v F2 H2 s2 hv => k _ v F2 H2 ⟨bitLot n b, rfl, ?_⟩ s2 hv
  · have := w_rng1I (K := K) (pt := some q) (σ := [some (.ref q.p), some (.int n), some v, none]) (F := F1) (n := (n : Int)) (gs_one (g_var (v := .int n) (i := 1) rfl (.int _))) (by omega) (by omega)
    rw [show (n : Int).toNat = n by omega, rng_hs] at this
    exact this
  · exact et_truI (g_op (g_op (g_var rfl (Rp.mono e' _ _ hv)) (g_var rfl hu) fun _ _ h1 h2 => by subst h1 h2; exact rv_shr (hs_mem.mp hh).1) g_int fun _ _ h1 h2 => by subst h1 h2; exact rv_and)
  · have hb : b < 2 ^ n - 1 := by
      have : ((2 ^ n : Nat) : Int) = 2 ^ n := by simp
      omega
    rw [show (n : Int).toNat = n by omega]
    exact bits_good n (by rw [List.mem_range]; omega) b (List.mem_range.mpr hb)
/-! lists of good lots -/
variable {pt : Option Pt} {σ : L2.St} {F : Hp} {te ta tb : TE} {ts tr : TA} {n a b : Nat}
theorem OneGood.to (h : EvG K pt te σ F (RO n)) : True := trivial
abbrev RLs (n c : Nat) : List PyData → Prop := fun ds => ∃ ls : List (List Int), ds = ls.map dT ∧ (∀ l ∈ ls, OneGood n l) ∧ ls.length ≤ c
theorem gs_nilR : EvsG K pt tNil σ F (RLs n 0) := fun H1 i g Q q => gs_nil (K := K) H1 i g Q fun ds vs F2 H2 hd s hv => q ds vs F2 H2 ⟨[], by rw [hd]; rfl, by simp, by simp⟩ s hv
theorem gs_consRO (h : EvG K pt te σ F (RO n)) (h2 : EvsG K pt ts σ F (RLs n a)) : EvsG K pt (tCons te ts) σ F (RLs n (a + 1)) := fun H1 i g Q q => gs_cons h h2 H1 i g Q fun ds vs F2 H2 hd s hv => by
  obtain ⟨d, ds', rfl, ⟨l, rfl, hl⟩, ls, rfl, hls, hz⟩ := hd
  refine q _ vs F2 H2 ⟨l :: ls, rfl, fun x hx => ?_, by simp; omega⟩ s hv
  rcases List.mem_cons.mp hx with rfl | m
  · exact hl
  · exact hls x m
theorem g_lstRL (h : EvsG K pt ts σ F (RLs n a)) (hz : a ≤ 100) : EvG K pt (tLst ts) σ F (RL n a) := (g_lst h fun ds ⟨ls, e, _, hl⟩ => by rw [e, List.length_map]; omega).imp fun d ⟨ds, e, ls, e2, hg, hl⟩ => ⟨ls, by rw [e, e2], hg, hl⟩
theorem g_catRL (ha : EvG K pt ta σ F (RL n a)) (hb : EvG K pt tb σ F (RL n b)) (hz : a + b ≤ 100) : EvG K pt (tOp rCat ta tb) σ F (RL n (a + b)) := g_op ha hb fun d e ⟨ls, e1, g1, l1⟩ ⟨ms, e2, g2, l2⟩ => by
  subst e1 e2
  intro F H x y i hx hy Q q
  refine rv_cat (by simp; omega) F H x y i hx hy Q fun z v F2 H2 hz' s hv => q z v F2 H2 ⟨ls ++ ms, by rw [show z = _ from hz']; exact congrArg PyData.list List.map_append.symm, fun l hl => ?_, by simp; omega⟩ s hv
  rcases List.mem_append.mp hl with m | m
  · exact g1 l m
  · exact g2 l m
theorem g_catRL1 (ha : EvG K pt ta σ F (RL1 n a)) (hb : EvG K pt tb σ F (RL n b)) (hz : a + b ≤ 100) : EvG K pt (tOp rCat ta tb) σ F (RL1 n (a + b)) := g_op ha hb fun d e ⟨ls, e1, g1, l1, l1'⟩ ⟨ms, e2, g2, l2⟩ => by
  subst e1 e2
  intro F H x y i hx hy Q q
  refine rv_cat (by simp; omega) F H x y i hx hy Q fun z v F2 H2 hz' s hv => q z v F2 H2 ⟨ls ++ ms, by rw [show z = _ from hz']; exact congrArg PyData.list List.map_append.symm, fun l hl => ?_, by simp; omega, by simp; omega⟩ s hv
  rcases List.mem_append.mp hl with m | m
  · exact g1 l m
  · exact g2 l m
theorem rlI1 {ls : List (List Int)} (h : EvG K pt te σ F (Is (dLT ls))) (hg : ∀ l ∈ ls, OneGood n l) (hz : ls.length ≤ a) (h1 : 1 ≤ ls.length) : EvG K pt te σ F (RL1 n a) := h.imp fun d e => ⟨ls, e, hg, hz, h1⟩
theorem RL1.less {d : PyData} {c : Nat} (h : RL1 n c d) : RL n c d := by
  obtain ⟨ls, h1, h2, h3, _⟩ := h
  exact ⟨ls, h1, h2, h3⟩
theorem roI {l : List Int} (h : EvG K pt te σ F (Is (dT l))) (hg : OneGood n l) : EvG K pt te σ F (RO n) := h.imp fun d e => ⟨l, e, hg⟩
theorem rlI {ls : List (List Int)} (h : EvG K pt te σ F (Is (dLT ls))) (hg : ∀ l ∈ ls, OneGood n l) (hz : ls.length ≤ a) : EvG K pt te σ F (RL n a) := h.imp fun d e => ⟨ls, e, hg, hz⟩
theorem w_hs {i : Nat} (h : σ[i]? = some (some (.int (n : Int)))) (hn : NOk (n : Int)) : WiG K pt (iRng1 (tCons (tVar i) tNil)) σ F (· = (hs n).map .int) := by
  have := w_rng1I (K := K) (pt := pt) (σ := σ) (F := F) (n := (n : Int)) (gs_one (g_var (v := .int n) (i := i) h (.int _))) (by omega) (by omega)
  rw [show (n : Int).toNat = n by omega, rng_hs] at this
  exact this
theorem w_rngD {c : Int} (hc : c ≤ 100) (h : EvG K pt te σ F (fun d => ∃ k : Int, d = .int k ∧ 0 ≤ k ∧ k < c)) : WiG K pt (iRng1 (tCons (tOp (rI0 fun i j => .int (i + j)) (tC (.int 1)) te) tNil)) σ F (fun l => l.length ≤ c.toNat ∧ 1 ≤ l.length) := fun H1 i g RR q =>
  w_rng1 (R0 := fun ds => ∃ k : Int, ds = [.int (1 + k)] ∧ 0 ≤ k ∧ k < c) (fun H1 i g Q q => g_consR (R := fun d => ∃ k : Int, d = .int (1 + k) ∧ 0 ≤ k ∧ k < c) (g_op g_int h fun d e hd ⟨k, he, k0, k1⟩ => by
      subst hd he
      intro F H x y i hx hy Q q
      exact rv_add F H x y i hx hy Q fun z v F2 H2 hz s hv => q z v F2 H2 ⟨k, hz, k0, k1⟩ s hv) H1 i g Q fun ds vs F2 H2 ⟨d, hd, k, hk, k0, k1⟩ s hv => q ds vs F2 H2 ⟨k, by rw [hd, hk], k0, k1⟩ s hv)
    (fun ds ⟨k, e, k0, k1⟩ => ⟨_, e, by omega, by omega⟩) H1 i g RR fun ds J F2 H2 ⟨n, ⟨k, e, k0, k1⟩, hl⟩ => q ds J F2 H2 (by
      show ds.length ≤ c.toNat ∧ 1 ≤ ds.length
      rw [hl, rng_len]
      have : n = 1 + k := by simpa using e
      omega)
def singles (n : Nat) : List (List Int) := (hs n).map fun h => [h]
theorem singles_good (h : 2 ≤ n) : (∀ l ∈ singles n, OneGood n l) ∧ (singles n).length ≤ n ∧ 1 ≤ (singles n).length := by
  refine ⟨fun l hl => ?_, by simp [singles, hs_len], by simp [singles, hs_len]; omega⟩
  obtain ⟨k, hk, rfl⟩ := List.mem_map.mp hl
  have := hs_mem.mp hk
  refine ⟨by simp, by simp; omega, ?_⟩
  by_cases z : k = 0
  · exact not_all (k := 1) (by omega) (by omega) (by simp [z])
  · exact not_all (k := 0) (by omega) (by omega) (by simpa using fun e => z e.symm)
abbrev spLawLots (K : PySem.W.Frag) : Sp := spP K NOk (fun m => RL1 m.toNat 20)
theorem ok_law_lots {f fD fL : Addr} {fd fdD fdL : FuncData} (Fn : Fun K "_law_lots" "_law_lots" s_law_lots f fd) (T : Tx mg)
    (F_law_draw : Fun K "_law_draw" "_law_draw" s_law_draw fD fdD) (b_law_draw : Binds K fdD ["_law_pot_here", "_law_many"] []) (g_law_draw : mg "_law_draw" = some (.ref fD))
    (F_law_lot : Fun K "_law_lot" "_law_lot" s_law_lot fL fdL) (b_law_lot : Binds K fdL ["_law_pot_here", "_law_n"] []) (g_law_lot : mg "_law_lot" = some (.ref fL)) : FnOk P w K mg base CX0 3 f fd ["_law_pot_here", "_law_n"] (spLawLots K) := by
  have G_law_draw : FnOk P w K mg base CX0 1 fD fdD ["_law_pot_here", "_law_many"] (spDraw K) := ok_draw F_law_draw T
  have G_law_lot : FnOk P w K mg base CX0 2 fL fdL ["_law_pot_here", "_law_n"] (spLawLot K) := ok_law_lot F_law_lot T F_law_draw b_law_draw g_law_draw
  refine Fn.ok sc_law_lots spP.len (fun cdv A outer s H vs Q E hr h => ?_)
  obtain ⟨q, m, F, rfl, ⟨m1, m2⟩, e, g, k0⟩ := h
  obtain ⟨n, rfl⟩ : ∃ n : Nat, m = (n : Int) := ⟨m.toNat, by omega⟩
  have k : ∀ d v F2 H2, RL1 n 20 d → Step (some q) F H F2 H2 → Rp K F2 v d → Q v H2 := k0
  have hn : NOk (n : Int) := ⟨m1, m2⟩
  have toN : (n : Int).toNat = n := by omega
  refine ⟨_, (pss_cons (ps_set (i := 2) sc_law_lots.nd rfl (by first | exact Or.inl rfl | exact Or.inr rfl) (pe_call G_law_draw (hr.mono (by decide)) (by rfl) g_law_draw F_law_draw.kp b_law_draw .nil pass0 (pa_cons (pv 0) (pa_cons pe_int pa_nil))))
    (pss_cons (ps_setLc (i := 3) (own := [("_law_house", 4)]) (g := gName 4) rfl sc_law_lots.nd rfl rfl (sw_true rfl rfl rfl (by decide +kernel)) (pi_range1 (by rfl) T.range (pa_cons (pv 1) pa_nil)) (blkOk_by (own := [("_law_house", 4)]) (N := ["_law_pot_here", "_law_n", "_law_word", "_law_singles", "_law_house", "_law_k", "_law_sure", "_law_rows_here", "_law_lot_here", "_law_cut"]) (sc := (defScope s_law_lots)) (by decide +kernel)) (fun _ _ _ _ _ => pg_name (i := 4) sc_law_lots.nd rfl (by first | exact Or.inl rfl | exact Or.inr rfl)) (fun _ _ _ _ _ => pts_nil) (fun _ _ _ _ _ => (pe_tup (pa_cons (pv 4) pa_nil))))
    (pss_cons (ps_if (pt_cmpR op_lt (pv 2) pe_int (nomark _)) (pss_one (ps_ret (pv 3))) pss_nil)
    (pss_cons (ps_if (pt_cmpR op_eq (pv 2) pe_int (nomark _)) (pss_one (ps_ret (pe_lc (own := [("_law_k", 5)]) (g := gName 5) rfl sc_law_lots.nd (pi_range1 (by rfl) T.range (pa_cons (pe_op op_add pe_int (pe_call G_law_draw (hr.mono (by decide)) (by rfl) g_law_draw F_law_draw.kp b_law_draw .nil pass0 (pa_cons (pv 0) (pa_cons pe_int pa_nil)))) pa_nil)) (blkOk_by (own := [("_law_k", 5)]) (N := ["_law_pot_here", "_law_n", "_law_word", "_law_singles", "_law_house", "_law_k", "_law_sure", "_law_rows_here", "_law_lot_here", "_law_cut"]) (sc := (defScope s_law_lots)) (by decide +kernel)) (fun _ _ _ _ _ => pg_name (i := 5) sc_law_lots.nd rfl (by first | exact Or.inl rfl | exact Or.inr rfl)) (fun _ _ _ _ _ => pts_nil) (fun _ _ _ _ _ => (pe_call G_law_lot (hr.mono (by decide)) (by rfl) g_law_lot F_law_lot.kp b_law_lot .nil pass0 (pa_cons (pv 0) (pa_cons (pv 1) pa_nil))))))) pss_nil)
    (pss_cons (ps_if (pt_cmpR op_eq (pv 2) pe_int (nomark _)) (pss_one (ps_ret (pe_op op_cat (pv 3) (pe_lc (own := [("_law_k", 5)]) (g := gName 5) rfl sc_law_lots.nd (pi_range1 (by rfl) T.range (pa_cons (pe_op op_add pe_int (pe_call G_law_draw (hr.mono (by decide)) (by rfl) g_law_draw F_law_draw.kp b_law_draw .nil pass0 (pa_cons (pv 0) (pa_cons pe_int pa_nil)))) pa_nil)) (blkOk_by (own := [("_law_k", 5)]) (N := ["_law_pot_here", "_law_n", "_law_word", "_law_singles", "_law_house", "_law_k", "_law_sure", "_law_rows_here", "_law_lot_here", "_law_cut"]) (sc := (defScope s_law_lots)) (by decide +kernel)) (fun _ _ _ _ _ => pg_name (i := 5) sc_law_lots.nd rfl (by first | exact Or.inl rfl | exact Or.inr rfl)) (fun _ _ _ _ _ => pts_nil) (fun _ _ _ _ _ => (pe_call G_law_lot (hr.mono (by decide)) (by rfl) g_law_lot F_law_lot.kp b_law_lot .nil pass0 (pa_cons (pv 0) (pa_cons (pv 1) pa_nil)))))))) pss_nil)
    (pss_cons (ps_if (pt_cmpR op_eq (pv 2) pe_int (nomark _)) (pss_cons (ps_set (i := 6) sc_law_lots.nd rfl (by first | exact Or.inl rfl | exact Or.inr rfl) (pe_call G_law_draw (hr.mono (by decide)) (by rfl) g_law_draw F_law_draw.kp b_law_draw .nil pass0 (pa_cons (pv 0) (pa_cons (pv 1) pa_nil))))
    (pss_cons (ps_set (i := 7) sc_law_lots.nd rfl (by first | exact Or.inl rfl | exact Or.inr rfl) (pe_op op_cat (pv 3) (pe_lst (pa_cons (pe_call G_law_lot (hr.mono (by decide)) (by rfl) g_law_lot F_law_lot.kp b_law_lot .nil pass0 (pa_cons (pv 0) (pa_cons (pv 1) pa_nil))) (pa_cons (pe_call G_law_lot (hr.mono (by decide)) (by rfl) g_law_lot F_law_lot.kp b_law_lot .nil pass0 (pa_cons (pv 0) (pa_cons (pv 1) pa_nil))) pa_nil)))))
    (pss_one (ps_ret (pe_lc (own := [("_law_lot_here", 8)]) (g := gName 8) rfl sc_law_lots.nd (i_list (K := K) (pv 7)) (blkOk_by (own := [("_law_lot_here", 8)]) (N := ["_law_pot_here", "_law_n", "_law_word", "_law_singles", "_law_house", "_law_k", "_law_sure", "_law_rows_here", "_law_lot_here", "_law_cut"]) (sc := (defScope s_law_lots)) (by decide +kernel)) (fun _ _ _ _ _ => pg_name (i := 8) sc_law_lots.nd rfl (by first | exact Or.inl rfl | exact Or.inr rfl)) (fun _ _ _ _ _ => pts_nil) (fun _ _ _ _ _ => (pe_callTy (c_tup (K := K)) (by rfl) T.tuple (by decide +kernel) (pa_cons (pe_lc (own := [("_law_house", 4)]) (g := gName 4) rfl sc_law_lots.nd (i_tup (K := K) (pv 8)) (blkOk_by (own := [("_law_house", 4)]) (N := ["_law_pot_here", "_law_n", "_law_word", "_law_singles", "_law_house", "_law_k", "_law_sure", "_law_rows_here", "_law_lot_here", "_law_cut"]) (by rfl)) (fun _ _ _ _ _ => pg_name (i := 4) sc_law_lots.nd rfl (by first | exact Or.inl rfl | exact Or.inr rfl)) (fun _ _ _ _ _ => (pts_one (pt_cmpR op_ne (pv 4) (pv 6) (nomark _)))) (fun _ _ _ _ _ => (pv 4))) pa_nil)))))))) pss_nil)
    (pss_cons (ps_set (i := 9) sc_law_lots.nd rfl (by first | exact Or.inl rfl | exact Or.inr rfl) (pe_op op_add (pe_call G_law_draw (hr.mono (by decide)) (by rfl) g_law_draw F_law_draw.kp b_law_draw .nil pass0 (pa_cons (pv 0) (pa_cons (pe_op op_sub (pv 1) pe_int) pa_nil))) pe_int))
    (pss_one (ps_ret (pe_op op_cat (pv 3) (pe_lst (pa_cons (pe_tupRg rfl (by rfl) T.tuple (prg_1 (by rfl) T.range (pv 9))) (pa_cons (pe_tupRg rfl (by rfl) T.tuple (prg_2 (by rfl) T.range (pv 9) (pv 1))) (pa_cons (pe_call G_law_lot (hr.mono (by decide)) (by rfl) g_law_lot F_law_lot.kp b_law_lot .nil pass0 (pa_cons (pv 0) (pa_cons (pv 1) pa_nil))) pa_nil)))))))))))))), ?_⟩
  have lot : ∀ {F' : Hp} {σ' : L2.St} {E' : XK}, σ'[0]? = some (some (.ref q.p)) → σ'[1]? = some (some (.int n)) → EvG K (some q) (tCall (spLawLot K) [] E' (tCons (tVar 0) (tCons (tVar 1) tNil))) σ' F' (RO n) := fun {F' σ' E'} h0 h1 =>
    (g_callP (E := E') (F := F') (P := NOk) (R := fun m => RO m.toNat) (m := n) h0 (g_var (v := .int n) (d := .int n) h1 (.int _)) hn).imp fun d hd => by
      obtain ⟨l, h1, h2⟩ := hd
      exact ⟨l, h1, by rw [toN] at h2; exact h2⟩
  -- the word
  refine t_asg (K := K) (Step.refl e g) (g_callP (m := 6) rfl g_int (by decide)) fun d v F1 H1 hd s1 e1 hv => ?_
  obtain ⟨b, rfl, b0, b1⟩ := hd
  -- singles
  refine t_asgI (K := K) s1 (g_lcEM PyData.int (hs n) (fun h => dT [h]) (w_hs rfl hn) (by rw [hs_len]; omega) (fun _ => rfl) fun h hh F' e' u hu => g_tupI (gs_one (g_var rfl hu)) (by simp)) fun sv F2 H2 s2 e2 hsv => ?_
  obtain rfl := rp_int hv
  have hsv' : Rp K F2 sv (dLT (singles n)) := by unfold singles dLT; rw [List.map_map]; exact hsv
  obtain ⟨sg, sl, sl1⟩ := singles_good (n := n) (by omega)
  have lots : ∀ {F' : Hp} {σ' : L2.St} {j c : Nat} {te : TE} {te' : TE} {vs : List Nat}, (c : Int) ≤ 100 → EvG K (some q) te' σ' F' (fun d => ∃ k : Int, d = .int k ∧ 0 ≤ k ∧ k < (c : Int)) → (∀ x, wipe ((wipe σ' vs).set j (some x)) vs = wipe σ' vs) → (∀ F'' v, EvG K (some q) te ((wipe σ' vs).set j (some v)) F'' (RO n)) →
      EvG K (some q) (tLc (iRng1 (tCons (tOp (rI0 fun i j => .int (i + j)) (tC (.int 1)) te') tNil)) (gName j) tYes te vs) σ' F' (RL1 n c) := fun {F' σ' j c te te' vs} hc h hw he =>
    (g_lcR (α := Unit) dT (OneGood n) (w_rngD hc h) (fun ds hd => by omega) hw fun F'' _ v => he F'' v).imp fun d ⟨ds, ys, hds, hd, hl, hg⟩ => ⟨ys, hd, hg, by have : ds.length ≤ (c : Int).toNat ∧ 1 ≤ ds.length := hds; omega, by have : ds.length ≤ (c : Int).toNat ∧ 1 ≤ ds.length := hds; omega⟩
  -- word < 2
  refine t_when s2 (et_of (K := K) (g_op (g_var rfl (.int b)) g_int fun _ _ h1 h2 => by subst h1 h2; exact rv_bl (g := fun i j => decide (i < j)))) (fun _ F3 H3 s3 e3 => ?_) (fun _ F3 H3 s3 e3 => ?_)
  · exact t_ret s3 (rlI1 (g_var rfl (Rp.mono e3 _ _ hsv')) sg (a := 20) (by omega) sl1) fun d v F4 H4 hd s4 hv => k d v F4 H4 hd s4 hv
  -- word == 2
  refine t_when s3 (et_of (K := K) (g_op (g_var rfl (.int b)) g_int fun _ _ h1 h2 => by subst h1 h2; exact rv_eqI)) (fun _ F4 H4 s4 e4 => ?_) (fun _ F4 H4 s4 e4 => ?_)
  · exact t_ret s4 (lots (c := 4) (by decide) (g_callP (m := 4) rfl g_int (by decide)) (fun _ => rfl) fun F'' v => lot rfl rfl) fun d v F5 H5 ⟨ls, h1, h2, h3, h4⟩ s5 hv => k d v F5 H5 ⟨ls, h1, h2, by omega, h4⟩ s5 hv
  -- word == 3
  refine t_when s4 (et_of (K := K) (g_op (g_var rfl (.int b)) g_int fun _ _ h1 h2 => by subst h1 h2; exact rv_eqI)) (fun _ F5 H5 s5 e5 => ?_) (fun _ F5 H5 s5 e5 => ?_)
  · exact t_ret s5 (g_catRL1 (a := n) (b := 3) (rlI1 (g_var rfl (Rp.mono ((e3.trans e4).trans e5) _ _ hsv')) sg sl sl1) ((lots (c := 3) (by decide) (g_callP (m := 3) rfl g_int (by decide)) (fun _ => rfl) fun F'' v => lot rfl rfl).imp fun d hd => RL1.less hd) (by omega)) fun d v F6 H6 ⟨ls, h1, h2, h3, h4⟩ s6 hv => k d v F6 H6 ⟨ls, h1, h2, by omega, h4⟩ s6 hv
  -- word == 4
  refine t_when s5 (et_of (K := K) (g_op (g_var rfl (.int b)) g_int fun _ _ h1 h2 => by subst h1 h2; exact rv_eqI)) (fun _ F6 H6 s6 e6 => ?_) (fun _ F6 H6 s6 e6 => ?_)
  · -- the sure house
    refine t_asg (K := K) s6 (g_callP (m := n) rfl (g_var (v := .int n) (d := .int n) rfl (.int _)) ⟨by omega, by omega⟩) fun d v F7 H7 hd s7 e7 hv => ?_
    obtain ⟨c, rfl, c0, c1⟩ := hd
    obtain rfl := rp_int hv
    refine t_asg (K := K) s7 (g_catRL1 (a := n) (b := 2) (rlI1 (g_var rfl (Rp.mono (((e3.trans e4).trans e5).trans (e6.trans e7)) _ _ hsv')) sg sl sl1) (g_lstRL (gs_consRO (lot rfl rfl) (gs_consRO (lot rfl rfl) gs_nilR)) (by decide)) (by omega)) fun d v F8 H8 hd s8 e8 hv => ?_
    obtain ⟨ls, rfl, hg, hl, hl1⟩ := hd
    refine t_retI (K := K) s8 (g_lcEM dT ls (fun l => dT (l.filter fun h => !decide (h = c))) (w_listI (g_var rfl hv)) (by omega) (fun _ => rfl) fun l hl F' e' y hy => g_cbI (gs_one (g_lcE PyData.int l (fun h => !decide (h = c)) PyData.int (w_tupI (g_var rfl hy)) (by have := (hg l hl).1; omega) (fun _ => rfl) (fun h hh F'' e'' u hu => ?_) (fun h _ _ F'' e'' u hu => g_var rfl hu))) rc_tupL) fun v F9 H9 s9 hv9 => k _ v F9 H9 ⟨ls.map fun l => l.filter fun h => !decide (h = c), ?_, ?_, ?_, ?_⟩ s9 hv9
    · exact et_of (g_op (g_var rfl hu) (g_var (v := .int c) (d := .int c) rfl (.int c)) fun _ _ h1 h2 => by subst h1 h2; exact rv_neI)
    · unfold dLT; rw [List.map_map]; rfl
    · intro l hl
      obtain ⟨l0, hl0, rfl⟩ := List.mem_map.mp hl
      obtain ⟨g1, g2, g3⟩ := hg l0 hl0
      exact ⟨Nat.le_trans (List.length_filter_le _ _) g1, fun x hx => g2 x (List.mem_filter.mp hx).1, not_all c0 c1 (by simp)⟩
    · rw [List.length_map]; omega
    · rw [List.length_map]; omega
  · -- a cut
    refine t_asg (K := K) (R := fun d => ∃ c : Int, d = .int (c + 1) ∧ 0 ≤ c ∧ c < n - 1) s6 (g_op (g_callP (m := n - 1) rfl (g_op (g_var (v := .int n) (d := .int n) rfl (.int _)) g_int fun _ _ h1 h2 => by subst h1 h2; exact rv_sub) ⟨by omega, by omega⟩) g_int fun d e hd he => ?_) fun d v F7 H7 hd s7 e7 hv => ?_
    · obtain ⟨c, rfl, c0, c1⟩ := hd
      subst he
      intro F H x y i hx hy Q q
      exact rv_add F H x y i hx hy Q fun z v F2 H2 hz s hv => q z v F2 H2 ⟨c, hz, c0, c1⟩ s hv
    obtain ⟨c, rfl, c0, c1⟩ := hd
    obtain rfl := rp_int hv
    obtain ⟨j, rfl⟩ : ∃ j : Nat, c = (j : Int) := ⟨c.toNat, by omega⟩
    refine t_ret s7 (g_catRL1 (a := n) (b := 3) (rlI1 (g_var rfl (Rp.mono (((e3.trans e4).trans e5).trans (e6.trans e7)) _ _ hsv')) sg sl sl1) (g_lstRL (gs_consRO (roI (l := hs (j + 1)) ((g_tupR1 (g_var (v := .int ((j : Int) + 1)) (d := .int ((j : Int) + 1)) rfl (.int _)) (by omega) (by omega)).is ?_) ?_) (gs_consRO (roI (l := (List.range (n - (j + 1))).map fun i : Nat => ((j + 1 : Nat) : Int) + (i : Int)) ((g_tupR2 (g_var (v := .int ((j : Int) + 1)) (d := .int ((j : Int) + 1)) rfl (.int _)) (g_var (v := .int n) (d := .int n) rfl (.int _)) (by omega) (by omega) (by omega) (by omega)).is ?_) ?_) (gs_consRO (lot rfl rfl) gs_nilR))) (by decide)) (by omega)) fun d v F8 H8 ⟨ls, h1, h2, h3, h4⟩ s8 hv => k d v F8 H8 ⟨ls, h1, h2, by omega, h4⟩ s8 hv
    · rw [show ((j : Int) + 1).toNat = j + 1 by omega, rng_hs]
    · refine ⟨by rw [hs_len]; omega, fun x hx => ?_, not_all (k := (n : Int) - 1) (by omega) (by omega) fun hx => ?_⟩
      · have := hs_mem.mp hx; omega
      · have := hs_mem.mp hx; omega
    · rw [show ((n : Int) - ((j : Int) + 1)).toNat = n - (j + 1) by omega]
      unfold rng dT
      rw [List.map_map]
      rfl
    · refine ⟨by simp; omega, fun x hx => ?_, not_all (k := 0) (by omega) (by omega) fun hx => ?_⟩
      · obtain ⟨i, hi, rfl⟩ := List.mem_map.mp hx
        have := List.mem_range.mp hi; omega
      · obtain ⟨i, hi, e⟩ := List.mem_map.mp hx
        omega
end
end KC

namespace KC
open PySem PySem.Spec PyProof.Rows L2 Fv Evl StX
abbrev s_law_lets : Stmt := topS 65
theorem sc_law_lets : FnScope ["_law_lots_here", "_law_lot_here", "_law_other", "_law_house"] ["_law_lots_here", "_law_lot_here"] (defScope s_law_lets) := ⟨rfl, rfl, rfl, by decide +kernel, rfl, by decide +kernel, by decide +kernel⟩
abbrev s_law_longer : Stmt := topS 62
theorem sc_law_longer : FnScope ["_law_rows_here", "_law_marks", "_law_longer_here", "_law_row", "_law_mark"] ["_law_rows_here", "_law_marks"] (defScope s_law_longer) := ⟨rfl, rfl, rfl, by decide +kernel, rfl, by decide +kernel, by decide +kernel⟩
abbrev s_law_rows : Stmt := topS 63
theorem sc_law_rows : FnScope ["_law_n", "_law_m", "_law_rows_here", "_law_house"] ["_law_n", "_law_m"] (defScope s_law_rows) := ⟨rfl, rfl, rfl, by decide +kernel, rfl, by decide +kernel, by decide +kernel⟩
abbrev s_law_differ : Stmt := topS 66
theorem sc_law_differ : FnScope ["_law_one", "_law_other", "_law_k"] ["_law_one", "_law_other"] (defScope s_law_differ) := ⟨rfl, rfl, rfl, by decide +kernel, rfl, by decide +kernel, by decide +kernel⟩
def inLot (l o : List Int) : Bool := (l.filter fun h => !decide (h ∈ o)).isEmpty
def lets (ls : List (List Int)) (l : List Int) : Bool := l.isEmpty || ls.any fun o => inLot l o
def everyTo (n : Nat) (ls : List (List Int)) (i : Nat) : List (List Int) := ((List.range i).map fun b : Nat => bitLot n b).filter fun l => lets ls l
def everyOf (n : Nat) (ls : List (List Int)) : List (List Int) := everyTo n ls (2 ^ n)
def both (n : Nat) (a b : List Int) : Bool := ((hs n).filter fun h => !decide (h ∈ a) && !decide (h ∈ b)).isEmpty
def coversOf (n : Nat) (ls : List (List Int)) : Bool := ls.any fun a => ls.any fun b => both n a b
theorem bitLot_len (n : Nat) (b : Int) : (bitLot n b).length ≤ n := Nat.le_trans (List.length_filter_le _ _) (by rw [hs_len]; exact Nat.le_refl _)
def at_ (e : List Int) (h : Int) : Int := e.getD h.toNat 0
def longer (rows : List (List Int)) (marks : List Int) : List (List Int) := rows.flatMap fun r => marks.map fun m => r ++ [m]
def rowsOf (m : Nat) : Nat → List (List Int)
  | 0 => [[]]
  | n + 1 => longer (rowsOf m n) (hs m)
def differ (a b : List Int) : List Int := (hs a.length).filter fun h => !decide (at_ a h = at_ b h)
theorem longer_len (rows : List (List Int)) (marks : List Int) : (longer rows marks).length = rows.length * marks.length := by
  induction rows with
  | nil => simp [longer]
  | cons r rs ih =>
    have : longer (r :: rs) marks = (marks.map fun m => r ++ [m]) ++ longer rs marks := rfl
    rw [this, List.length_append, ih, List.length_map, List.length_cons, Nat.succ_mul]; omega
theorem rows_len (m : Nat) : ∀ n, (rowsOf m n).length = m ^ n ∧ ∀ r ∈ rowsOf m n, r.length = n ∧ ∀ k ∈ r, 0 ≤ k ∧ k < (m : Int)
  | 0 => ⟨rfl, fun r hr => by rw [List.mem_singleton.mp hr]; simp⟩
  | n + 1 => by
    obtain ⟨h1, h2⟩ := rows_len m n
    refine ⟨by show (longer _ _).length = _; rw [longer_len, h1, hs_len, Nat.pow_succ], fun r hr => ?_⟩
    obtain ⟨r0, hr0, hr1⟩ := List.mem_flatMap.mp hr
    obtain ⟨k, hk, rfl⟩ := List.mem_map.mp hr1
    obtain ⟨h3, h4⟩ := h2 r0 hr0
    refine ⟨by simp [h3], fun j hj => ?_⟩
    rcases List.mem_append.mp hj with z | z
    · exact h4 j z
    · rw [List.mem_singleton.mp z]; exact hs_mem.mp hk
theorem rows_all (m : Nat) : ∀ (n : Nat) (r : List Int), r.length = n → (∀ k ∈ r, 0 ≤ k ∧ k < (m : Int)) → r ∈ rowsOf m n
  | 0, r, h, _ => by rw [List.length_eq_zero_iff.mp h]; simp [rowsOf]
  | n + 1, r, h, hk => by
    obtain ⟨r0, k, rfl⟩ : ∃ r0 k, r = r0 ++ [k] := ⟨r.dropLast, r.getLast (by intro z; rw [z] at h; cases h), (List.dropLast_concat_getLast _).symm⟩
    have h0 : r0.length = n := by simpa using h
    exact List.mem_flatMap.mpr ⟨r0, rows_all m n r0 h0 fun j hj => hk j (by simp [hj]), List.mem_map.mpr ⟨k, hs_mem.mpr (hk k (by simp)), rfl⟩⟩
section
variable {P : Program} {w : World} {K : PySem.W.Frag} {mg : Str → Option Value} {base : Heap}
abbrev spLets (K : PySem.W.Frag) : Sp := PSp K (fun i : List (List Int) × List Int => [dLT i.1, dT i.2]) (fun i => i.2.length ≤ 50000) (fun i => .bool (lets i.1 i.2))
theorem ok_lets {f : Addr} {fd : FuncData} (Fn : Fun K "_law_lets" "_law_lets" s_law_lets f fd) (T : Tx mg) : FnOk P w K mg base CX0 1 f fd ["_law_lots_here", "_law_lot_here"] (spLets K) := by
  refine Fn.ok sc_law_lets (PSp.len (fun _ => rfl)) (fun cdv A outer s H vs Q E hr h => ?_)
  obtain ⟨⟨ls, l⟩, F, hz, e, ha, q⟩ := h
  simp only at hz
  obtain ⟨v, x, rfl, hv, hx⟩ := rpAll2 ha
  refine ⟨_, (pss_cons (ps_if (pt_not (e_truth (K := K) (pv 1))) (pss_one (ps_ret pe_bl)) pss_nil)
    (pss_cons (ps_for PassesOwn.never rfl (i_list (K := K) (pv 0)) (pg_name (i := 2) sc_law_lets.nd rfl (by first | exact Or.inl rfl | exact Or.inr rfl)) (pss_one (ps_if (pt_not (e_truth (K := K) (pe_lc (own := [("_law_house", 3)]) (g := gName 3) rfl sc_law_lets.nd (i_tup (K := K) (pv 1)) (blkOk_by (own := [("_law_house", 3)]) (N := ["_law_lots_here", "_law_lot_here", "_law_other", "_law_house"]) (sc := (defScope s_law_lets)) (by decide +kernel)) (fun _ _ _ _ _ => pg_name (i := 3) sc_law_lets.nd rfl (by first | exact Or.inl rfl | exact Or.inr rfl)) (fun _ _ _ _ _ => (pts_one (pt_cmpR (o_notIn (K := K)) (pv 3) (pv 2) (by rfl)))) (fun _ _ _ _ _ => (pv 3))))) (pss_one (ps_ret pe_bl)) pss_nil)))
    (pss_one (ps_ret pe_bl)))), ?_⟩
  refine t_when (b := !(!(l.map PyData.int).isEmpty)) (Step.refl e .nil) (et_not (et_truT (g_var rfl hx))) (fun hb F1 H1 s1 e1 => ?_) (fun hb F1 H1 s1 e1 => ?_)
  · refine t_retI (K := K) s1 g_bl fun v F2 H2 s2 hv => q v F2 H2 s2 ?_
    have : lets ls l = true := by
      unfold lets
      have : l.isEmpty = true := by simpa using hb
      rw [this]; rfl
    show Rp K F2 v (.bool (lets ls l))
    rw [this]; exact hv
  · have he : l.isEmpty = false := by simpa using hb
    refine t_for (K := K) (ds := ls.map dT) s1 (w_listI (g_var rfl (Rp.mono e1 _ _ hv))) (fun i σ' F' => (∃ a b, σ' = [some v, some x, a, b]) ∧ ∀ o ∈ ls.take i, inLot l o = false) (fun F2 e2 => ⟨⟨none, none, rfl⟩, by simp⟩) (fun i d hd σ' F' H' u hI s' e' hu N hN => ?_) (fun σ' F' H' hI s' e' => ?_)
    · obtain ⟨⟨a, b, rfl⟩, hno⟩ := hI
      obtain ⟨o, ho, rfl⟩ := get_map hd
      refine t_if1 (b := !(!((l.filter fun h => !decide (h ∈ o)).map PyData.int).isEmpty)) s' (et_not (et_truL (g_lcE PyData.int l (fun h => !decide (h ∈ o)) PyData.int (w_tupI (g_var rfl (Rp.mono (e1.trans e') _ _ hx))) hz (fun _ => rfl) (fun h hh F'' e'' u2 hu2 => ?_) (fun h _ _ F'' e'' u2 hu2 => g_var rfl hu2)))) (fun hb F2 H2 s2 e2 => ?_) (fun hb F2 H2 s2 e2 => ?_)
      · exact et_of (g_op (g_var rfl hu2) (g_var rfl (Rp.mono e'' _ _ hu)) fun _ _ h1 h2 => by subst h1 h2; exact rv_ninT)
      · refine t_retI (K := K) s2 g_bl fun v F3 H3 s3 hv => q v F3 H3 s3 ?_
        have : lets ls l = true := by
          unfold lets
          rw [he, Bool.false_or, List.any_eq_true]
          exact ⟨o, List.mem_of_getElem? ho, by unfold inLot; simpa using hb⟩
        show Rp K F3 v (.bool (lets ls l))
        rw [this]; exact hv
      · refine hN _ F2 H2 ⟨⟨_, _, rfl⟩, fun z hz => ?_⟩ s2 e2
        rw [take_succA ho] at hz
        rcases List.mem_append.mp hz with m | m
        · exact hno z m
        · rw [List.mem_singleton.mp m]; unfold inLot; simpa using hb
    · obtain ⟨⟨a, b, rfl⟩, hno⟩ := hI
      refine t_retI (K := K) s' g_bl fun v F3 H3 s3 hv => q v F3 H3 s3 ?_
      have : lets ls l = false := by
        unfold lets
        rw [he, Bool.false_or, List.any_eq_false]
        intro o ho
        rw [List.length_map, List.take_length] at hno
        rw [hno o ho]; simp
      show Rp K F3 v (.bool (lets ls l))
      rw [this]; exact hv
variable {pt : Option Pt} {σ : L2.St} {F F0 H0 H : Hp} {te ta tb : TE} {ts tr : TA} {D : Ends} {tz : TS} {C : Addr}
theorem ix_int {e : List Int} {h : Int} (hh : h ∈ hs e.length) : RvG K (rIxT K) (dT e) (.int h) (Is (.int (at_ e h))) := by
  obtain ⟨h0, h1⟩ := hs_mem.mp hh
  refine rv_ixT ?_
  obtain ⟨j, rfl⟩ : ∃ j : Nat, h = (j : Int) := ⟨h.toNat, by omega⟩
  have hj : j < e.length := by omega
  refine atI_nat ?_
  rw [List.getElem?_map, List.getElem?_eq_getElem hj]
  unfold at_
  rw [show ((j : Int)).toNat = j by omega, List.getD_eq_getElem?_getD, List.getElem?_eq_getElem hj]; rfl
theorem w_lenT {e : List Int} (h : EvG K pt te σ F (Is (dT e))) (hz : e.length ≤ 100000) : WiG K pt (iRng1 (tCons (tCB (Fv.rLen K) (tCons te tNil)) tNil)) σ F (· = (hs e.length).map .int) := by
  have := w_rng1I (K := K) (pt := pt) (σ := σ) (F := F) (n := (((e.map PyData.int).length : Nat) : Int)) (gs_one (g_cbI (gs_one h) rc_lenT)) (by omega) (by rw [List.length_map]; omega)
  rw [List.length_map, show ((e.length : Nat) : Int).toNat = e.length by omega, rng_hs] at this
  exact this
abbrev spLonger (K : PySem.W.Frag) : Sp := PSp K (fun i : List (List Int) × List Int => [dLT i.1, dI i.2]) (fun i => i.1.length ≤ 1100 ∧ i.2.length ≤ 10 ∧ ∀ r ∈ i.1, r.length ≤ 100) (fun i => dLT (longer i.1 i.2))
theorem ok_longer {f : Addr} {fd : FuncData} (Fn : Fun K "_law_longer" "_law_longer" s_law_longer f fd) (T : Tx mg) : FnOk P w K mg base CX0 1 f fd ["_law_rows_here", "_law_marks"] (spLonger K) := by
  refine Fn.ok sc_law_longer (PSp.len (fun _ => rfl)) (fun cdv A outer s H vs Q E hr h => ?_)
  obtain ⟨⟨rows, marks⟩, F, ⟨h1, h2, h3⟩, e, ha, q⟩ := h
  obtain ⟨v, x, rfl, hv, hx⟩ := rpAll2 ha
  simp only at h1 h2 h3
  refine ⟨_, (pss_cons (ps_set (i := 2) sc_law_longer.nd rfl (by first | exact Or.inl rfl | exact Or.inr rfl) (pe_lst pa_nil))
    (pss_cons (ps_for PassesOwn.never rfl (i_list (K := K) (pv 0)) (pg_name (i := 3) sc_law_longer.nd rfl (by first | exact Or.inl rfl | exact Or.inr rfl)) (pss_one (ps_expr (pe_bm PySem.F.plainAttrs_list PySem.F.slot_list_extend PySem.F.type_list_extend mt_extend (pv 2) (pa_cons (pe_lc (own := [("_law_mark", 4)]) (g := gName 4) rfl sc_law_longer.nd (i_list (K := K) (pv 1)) (blkOk_by (own := [("_law_mark", 4)]) (N := ["_law_rows_here", "_law_marks", "_law_longer_here", "_law_row", "_law_mark"]) (sc := (defScope s_law_longer)) (by decide +kernel)) (fun _ _ _ _ _ => pg_name (i := 4) sc_law_longer.nd rfl (by first | exact Or.inl rfl | exact Or.inr rfl)) (fun _ _ _ _ _ => pts_nil) (fun _ _ _ _ _ => (pe_op (o_catA (K := K)) (pv 3) (pe_tup (pa_cons (pv 4) pa_nil))))) pa_nil)))))
    (pss_one (ps_ret (pv 2))))), ?_⟩
  have g0 : Good none F H := .nil
  refine t_newL (K := K) (Step.refl e .nil) (fun l h0 hl0 g1 => ?_) (fun _ h => h)
  refine t_forG (K := K) (ds := rows.map dT) g0 h0 g1 (w_listI (g_var rfl hv))
    (fun i σ' F' l' => (∃ y z, σ' = [some v, some x, some (.ref l), y, z]) ∧ l' = (longer (rows.take i) marks).map dT) (fun F2 e2 => ⟨⟨none, none, rfl⟩, by simp [longer]⟩) (fun i d hd σ' F' H' u l' hI g' e' hu N hN => ?_) (fun σ' F' H' l' hI g' e' => ?_)
  · obtain ⟨⟨y, z, rfl⟩, rfl⟩ := hI
    obtain ⟨r, hr2, rfl⟩ := get_map hd
    have hrl := h3 r (List.mem_of_getElem? hr2)
    have hlen : (longer (rows.take i) marks).length ≤ 11000 := by
      rw [longer_len, List.length_take]
      have : min i rows.length * marks.length ≤ 1100 * 10 := Nat.mul_le_mul (by omega) h2
      omega
    refine t_ext (K := K) (es := marks.map fun m => dT (r ++ [m])) g0 h0 g' rfl ((g_lcEM PyData.int marks (fun m => dT (r ++ [m])) (w_listI (g_var rfl (Rp.mono e' _ _ hx))) (by omega) (fun _ => rfl) fun m hm F2 e2 y hy => ?_)) (by rw [List.length_map, List.length_map]; omega) fun F4 H4 g4 e4 => ?_
    · exact (g_opI (g_var rfl (Rp.mono e2 _ _ hu)) (g_tupI (gs_one (g_var rfl hy)) (by simp)) (rv_catA (by simp; omega))).is (congrArg PyData.tuple (by rw [List.map_append]; rfl))
    · refine hN _ F4 H4 _ ⟨⟨_, _, rfl⟩, ?_⟩ g4 e4
      rw [take_succA hr2]
      have : longer (rows.take i ++ [r]) marks = longer (rows.take i) marks ++ marks.map fun m => r ++ [m] := by simp [longer]
      rw [this, List.map_append, List.map_map]; rfl
  · obtain ⟨⟨y, z, rfl⟩, rfl⟩ := hI
    obtain ⟨F2, s2, e2, r2⟩ := g'.done g0 h0
    refine t_retI (K := K) s2 (g_var rfl r2) fun v3 F3 H3 s3 hv3 => q v3 F3 H3 s3 ?_
    rw [List.length_map, List.take_length] at hv3
    exact hv3
abbrev spRows (K : PySem.W.Frag) : Sp := PSp K (fun i : Nat × Nat => [.int i.1, .int i.2]) (fun i => i.1 ≤ 5 ∧ 1 ≤ i.2 ∧ i.2 ≤ 4) (fun i => dLT (rowsOf i.2 i.1))
theorem pow_few {m n i : Nat} (h1 : 1 ≤ m) (h2 : m ≤ 4) (h3 : n ≤ 5) (h4 : i ≤ n) : m ^ i ≤ 1100 := by
  have a : m ^ i ≤ 4 ^ i := Nat.pow_le_pow_left h2 i
  have b : 4 ^ i ≤ 4 ^ 5 := Nat.pow_le_pow_right (by decide) (by omega)
  omega
theorem ok_rows {f fL : Addr} {fd fdL : FuncData} (Fn : Fun K "_law_rows" "_law_rows" s_law_rows f fd) (T : Tx mg)
    (F_law_longer : Fun K "_law_longer" "_law_longer" s_law_longer fL fdL) (b_law_longer : Binds K fdL ["_law_rows_here", "_law_marks"] []) (g_law_longer : mg "_law_longer" = some (.ref fL)) : FnOk P w K mg base CX0 2 f fd ["_law_n", "_law_m"] (spRows K) := by
  have G_law_longer : FnOk P w K mg base CX0 1 fL fdL ["_law_rows_here", "_law_marks"] (spLonger K) := ok_longer F_law_longer T
  refine Fn.ok sc_law_rows (PSp.len (fun _ => rfl)) (fun cdv A outer s H vs Q E hr h => ?_)
  obtain ⟨⟨n, m⟩, F, ⟨hn, m1, m4⟩, e, ha, q⟩ := h
  simp only at hn m1 m4
  obtain ⟨v, x, rfl, hv, hx⟩ := rpAll2 ha
  refine ⟨_, (pss_cons (ps_set (i := 2) sc_law_rows.nd rfl (by first | exact Or.inl rfl | exact Or.inr rfl) (pe_lst (pa_cons (pe_tup pa_nil) pa_nil)))
    (pss_cons (ps_for PassesOwn.never rfl (pi_range1 (by rfl) T.range (pa_cons (pv 0) pa_nil)) (pg_name (i := 3) sc_law_rows.nd rfl (by first | exact Or.inl rfl | exact Or.inr rfl)) (pss_one (ps_set (i := 2) sc_law_rows.nd rfl (by first | exact Or.inl rfl | exact Or.inr rfl) (pe_call G_law_longer (hr.mono (by decide)) (by rfl) g_law_longer F_law_longer.kp b_law_longer .nil pass0 (pa_cons (pv 2) (pa_cons (pe_listRg rfl (by rfl) T.list (prg_1 (by rfl) T.range (pv 1))) pa_nil))))))
    (pss_one (ps_ret (pv 2))))), ?_⟩
  refine t_asgI (K := K) (d := dLT [[]]) (Step.refl e .nil) (g_lstI (gs_one (g_tupI gs_nil (by simp))) (by simp)) fun y F1 H1 s1 e1 hy => ?_
  refine t_for (K := K) s1 (w_rng1I (n := n) (gs_one (g_var rfl (Rp.mono e1 _ _ hv))) (by omega) (by omega)) (fun i σ' F' => ∃ y u, σ' = [some v, some x, some y, u] ∧ Rp K F' y (dLT (rowsOf m i)) ∧ i ≤ n) (fun F2 e2 => ⟨y, none, rfl, Rp.mono e2 _ _ hy, Nat.zero_le _⟩) (fun i d hd σ' F' H' z hI s' e' hz N hN => ?_) (fun σ' F' H' hI s' e' => ?_)
  · obtain ⟨y', u, rfl, hy', hi⟩ := hI
    have hin : i < n := by
      have := (List.getElem?_eq_some_iff.mp hd).1
      rw [rng_len] at this
      simpa using this
    obtain ⟨l1, l2⟩ := rows_len m i
    have p := pow_few m1 m4 hn hi
    refine t_asg1 (K := K) s' (g_call (rowsOf m i, hs m) (gs_two (g_var rfl hy') (g_listRg (g_var rfl (Rp.mono (e1.trans e') _ _ hx)) (by omega))) rfl ⟨by simp only; omega, by simp only [hs_len]; omega, fun r hr => by have := (l2 r hr).1; omega⟩) fun d2 v2 F3 H3 hd2 s3 e3 hv3 => hN _ F3 H3 ⟨v2, some z, rfl, ?_, hin⟩ s3 e3
    rw [show d2 = _ from hd2] at hv3
    exact hv3
  · obtain ⟨y', u, rfl, hy', hi⟩ := hI
    rw [rng_len] at hy'
    exact t_retI s' (g_var rfl hy') (by simpa using q)
abbrev spDiffer (K : PySem.W.Frag) : Sp := PSp K (fun i : List Int × List Int => [dT i.1, dT i.2]) (fun i => i.1.length ≤ 1000 ∧ i.2.length = i.1.length) (fun i => dT (differ i.1 i.2))
theorem ok_differ {f : Addr} {fd : FuncData} (Fn : Fun K "_law_differ" "_law_differ" s_law_differ f fd) (T : Tx mg) : FnOk P w K mg base CX0 1 f fd ["_law_one", "_law_other"] (spDiffer K) := by
  refine Fn.ok sc_law_differ (PSp.len (fun _ => rfl)) (fun cdv A outer s H vs Q E hr h => ?_)
  obtain ⟨⟨a, b⟩, F, ⟨hz, hl⟩, e, ha, q⟩ := h
  obtain ⟨v, x, rfl, hv, hx⟩ := rpAll2 ha
  simp only at hz hl
  refine ⟨_, (pss_one (ps_ret (pe_callTy (c_tup (K := K)) (by rfl) T.tuple (by decide +kernel) (pa_cons (pe_lc (own := [("_law_k", 2)]) (g := gName 2) rfl sc_law_differ.nd (pi_range1 (by rfl) T.range (pa_cons (pe_callB (c_len (K := K)) (by rfl) T.len (by decide +kernel) (pa_cons (pv 0) pa_nil)) pa_nil)) (blkOk_by (own := [("_law_k", 2)]) (N := ["_law_one", "_law_other", "_law_k"]) (sc := (defScope s_law_differ)) (by decide +kernel)) (fun _ _ _ _ _ => pg_name (i := 2) sc_law_differ.nd rfl (by first | exact Or.inl rfl | exact Or.inr rfl)) (fun _ _ _ _ _ => (pts_one (pt_cmpR op_ne (pe_ix (o_ixT (K := K)) (pv 0) (pv 2) (fun _ _ => rfl)) (pe_ix (o_ixT (K := K)) (pv 1) (pv 2) (fun _ _ => rfl)) (nomark _)))) (fun _ _ _ _ _ => (pv 2))) pa_nil)))), ?_⟩
  exact t_retI (K := K) (Step.refl e .nil) (g_cbI (gs_one (g_lcE PyData.int (hs a.length) (fun h => !decide (at_ a h = at_ b h)) PyData.int (w_lenT (e := a) (g_var rfl hv) (Nat.le_trans hz (by decide))) (by rw [hs_len]; omega) (fun _ => rfl)
    (fun h hh F' e' u hu => et_of (g_opI (g_opI (g_var rfl (Rp.mono e' _ _ hv)) (g_var rfl hu) (ix_int hh)) (g_opI (g_var rfl (Rp.mono e' _ _ hx)) (g_var rfl hu) (ix_int (e := b) (by rw [hl]; exact hh))) rv_neI)) (fun h _ _ F' e' u hu => g_var rfl hu))) rc_tupL) q
end
end KC

namespace KC
open PySem PySem.Spec PyProof.Rows L2 L2H Fv Evl StX
abbrev s_law_same : Stmt := topS 54
theorem sc_law_same : FnScope ["_law_told", "_law_due", "_law_k"] ["_law_told", "_law_due"] (defScope s_law_same) := ⟨rfl, rfl, rfl, by decide +kernel, rfl, by decide +kernel, by decide +kernel⟩
def isS : PyData → Bool
  | .str _ => true
  | _ => false
theorem kit_str : ∀ d : PyData, kitB (tyD d) "str" = some (isS d)
  | .none => by decide +kernel
  | .bool _ => by show kitB "bool" "str" = some false; decide +kernel
  | .int _ => by show kitB "int" "str" = some false; decide +kernel
  | .str _ => by show kitB "str" "str" = some true; decide +kernel
  | .list _ => by show kitB "list" "str" = some false; decide +kernel
  | .tuple _ => by show kitB "tuple" "str" = some false; decide +kernel
  | .dict _ => by show kitB "dict" "str" = some false; decide +kernel
def atomS : PyData → Bool
  | .none => true
  | .int _ => true
  | .str _ => true
  | _ => false
/-- atoms, or tuples of what is fine -/
def upL (p : PyData → Prop) : PyData → Prop
  | .tuple ds => ds.length ≤ 1000 ∧ ∀ d ∈ ds, p d
  | d => atomS d = true
abbrev lv0 : PyData → Prop := upL fun _ => False
abbrev lv1 : PyData → Prop := upL lv0
abbrev lv2 : PyData → Prop := upL lv1
section
variable {P : Program} {w : World} {K : PySem.W.Frag} {mg : Str → Option Value} {base : Heap}
variable {pt : Option Pt} {σ : L2.St} {F F' F0 H0 H : Hp} {te ta tb ty td : TE} {ts tr : TA} {t : TT} {D : Ends} {tz tu tw : TS} {l : Addr} {ls : List PyData}
theorem t_if1Fix {b : Bool} (g0 : Good pt F0 H0) (h0 : H0 l = none) (g : Gst K pt F0 H0 l F H ls) (h : ∀ Fp, Ex F Fp → Rp K Fp (.ref l) (.list ls) → EtG pt t σ Fp (· = b)) (h1 : b = true → ∀ F2 H2, Gst K pt F0 H0 l F2 H2 ls → Ex F F2 → tu D σ H2) (h2 : b = false → ∀ F2 H2, Gst K pt F0 H0 l F2 H2 ls → Ex F F2 → tw D σ H2) : tIfS t tu tw D σ H := by
  obtain ⟨Fp, e1, e2, gd, r, back⟩ := g.fix g0 h0
  exact h Fp e1 r H e2 gd _ fun c F2 H2 hc s => by
    subst hc
    obtain ⟨F3, g3, e3, _, _⟩ := back F2 H2 s
    cases c with
    | true => exact h1 rfl F3 H2 g3 e3
    | false => exact h2 rfl F3 H2 g3 e3
theorem rv_eqS {x y : Str} : RvG K rEq (.str x) (.str y) (Is (.bool (decide (x = y)))) := rv_val fun F H a b _ ha hb => by
  rw [rp_str ha, rp_str hb]
  refine ⟨.bl (decide (V.str x = V.str y)), fun Q q => ⟨rfl, q⟩, ?_⟩
  have : decide (V.str x = V.str y) = decide (x = y) := by by_cases h : x = y <;> simp [h]
  rw [this]; exact .bl _
abbrev spSm (K : PySem.W.Frag) (p : PyData → Prop) : Sp := PSp K (fun d : PyData => [d, d]) p (fun _ => .bool true)
theorem same_step {j : Nat} {p : PyData → Prop} {f : Addr} {fd : FuncData} (F_law_same : Fun K "_law_same" "_law_same" s_law_same f fd) (T : Tx mg) (b_law_same : Binds K fd ["_law_told", "_law_due"] []) (g_law_same : mg "_law_same" = some (.ref f))
    (G_law_same : FnOk P w K mg base CX0 j f fd ["_law_told", "_law_due"] (spSm K p)) : FnOk P w K mg base CX0 (j + 1) f fd ["_law_told", "_law_due"] (spSm K (upL p)) := by
  refine Fun.ok F_law_same sc_law_same (PSp.len (fun _ => rfl)) (fun cdv A outer s H vs Q E hr h => ?_)
  obtain ⟨d, F, hd, e, ha, q⟩ := h
  obtain ⟨x, y, rfl, hx, hy⟩ := rpAll2 ha
  refine ⟨_, (pss_cons (ps_if (pt_val (pe_callB (c_isi (K := K)) (by rfl) T.isinstance (by decide +kernel) (pa_cons (pv 1) (pa_cons (pe_bltn (v := .ty "tuple") (by rfl) T.tuple (by decide +kernel) rfl) pa_nil)))) (pss_cons (ps_if (PW.pt (pw_or (pt_not (pt_val (pe_callB (c_isi (K := K)) (by rfl) T.isinstance (by decide +kernel) (pa_cons (pv 0) (pa_cons (pe_bltn (v := .ty "tuple") (by rfl) T.tuple (by decide +kernel) rfl) pa_nil))))) (pw_or1 (pt_cmpR op_ne (pe_callB (c_len (K := K)) (by rfl) T.len (by decide +kernel) (pa_cons (pv 0) pa_nil)) (pe_callB (c_len (K := K)) (by rfl) T.len (by decide +kernel) (pa_cons (pv 1) pa_nil)) (nomark _))))) (pss_one (ps_ret pe_bl)) pss_nil)
    (pss_one (ps_ret (pe_notT (pe_lc (own := [("_law_k", 2)]) (g := gName 2) rfl sc_law_same.nd (pi_range1 (by rfl) T.range (pa_cons (pe_callB (c_len (K := K)) (by rfl) T.len (by decide +kernel) (pa_cons (pv 1) pa_nil)) pa_nil)) (blkOk_by (own := [("_law_k", 2)]) (N := ["_law_told", "_law_due", "_law_k"]) (sc := (defScope s_law_same)) (by decide +kernel)) (fun _ _ _ _ _ => pg_name (i := 2) sc_law_same.nd rfl (by first | exact Or.inl rfl | exact Or.inr rfl)) (fun _ _ _ _ _ => (pts_one (pt_not (pt_val (pe_call G_law_same (hr.mono (Nat.le_refl _)) (by rfl) g_law_same F_law_same.kp b_law_same .nil pass0 (pa_cons (pe_ix (o_ixT (K := K)) (pv 0) (pv 2) (fun _ _ => rfl)) (pa_cons (pe_ix (o_ixT (K := K)) (pv 1) (pv 2) (fun _ _ => rfl)) pa_nil))))))) (fun _ _ _ _ _ => (pv 2))))))) pss_nil)
    (pss_cons (ps_if (pt_cmpR op_isN (pv 1) pe_non (nomark _)) (pss_one (ps_ret (pe_cmpR op_isN (pv 0) pe_non (nomark _)))) pss_nil)
    (pss_cons (ps_if (pt_val (pe_callB (c_isi (K := K)) (by rfl) T.isinstance (by decide +kernel) (pa_cons (pv 1) (pa_cons (pe_bltn (v := .ty "str") (by rfl) T.str (by decide +kernel) rfl) pa_nil)))) (pss_one (ps_ret (pe_and (pe_callB (c_isi (K := K)) (by rfl) T.isinstance (by decide +kernel) (pa_cons (pv 0) (pa_cons (pe_bltn (v := .ty "str") (by rfl) T.str (by decide +kernel) rfl) pa_nil))) (pe_one (pe_cmpR op_eq (pv 0) (pv 1) (nomark _)))))) pss_nil)
    (pss_one (ps_ret (pe_and (pe_callB (c_isi (K := K)) (by rfl) T.isinstance (by decide +kernel) (pa_cons (pv 0) (pa_cons (pe_bltn (v := .ty "int") (by rfl) T.int (by decide +kernel) rfl) pa_nil))) (pe_and (pe_not (pe_callB (c_isi (K := K)) (by rfl) T.isinstance (by decide +kernel) (pa_cons (pv 0) (pa_cons (pe_bltn (v := .ty "bool") (by rfl) T.bool (by decide +kernel) rfl) pa_nil)))) (pe_one (pe_cmpR op_eq (pv 0) (pv 1) (nomark _)))))))))), ?_⟩
  refine t_when (b := isT d) (Step.refl e .nil) (et_B (g_isi (g_var rfl hy) (kit_tuple d))) (fun hb F2 H2 s2 e2 => ?_) (fun hb F2 H2 s2 e2 => ?_)
  · obtain ⟨ds, rfl⟩ : ∃ ds, d = .tuple ds := by cases d <;> simp_all [isT]
    obtain ⟨hz, hat⟩ := hd
    have hx2 := Rp.mono e2 _ _ hx
    have hy2 := Rp.mono e2 _ _ hy
    refine t_skip s2 ((et_or (a := false) (b := false) ((et_not (b := true) (et_B (g_isi (g_var rfl hx2) (kit_tuple _)))).is rfl) fun _ => (et_of (g_opI (g_cbI (gs_one (g_var rfl hx2)) rc_lenT) (g_cbI (gs_one (g_var rfl hy2)) rc_lenT) rv_neI)).is (by simp)).is rfl) fun F3 H3 s3 e3 => ?_
    have hx3 := Rp.mono e3 _ _ hx2
    have hy3 := Rp.mono e3 _ _ hy2
    refine t_retI (K := K) s3 ((g_notTL (g_lcE natD (List.range ds.length) (fun _ => false) natD (w_len (g_var (i := 1) rfl hy3) rfl (by omega)) (by simp; omega) (fun _ => rfl) (fun h hh F' e' u hu => ?_) (fun h _ hf => by cases hf))).is (by simp)) q
    have hj : h < ds.length := List.mem_range.mp hh
    have hi : atI ds (h : Int) = some ds[h] := atI_nat (List.getElem?_eq_getElem hj)
    exact (et_not (b := true) (et_B (g_call ds[h] (gs_two (g_opI (g_var rfl (Rp.mono e' _ _ hx3)) (g_var rfl hu) (rv_ixT hi)) (g_opI (g_var rfl (Rp.mono e' _ _ hy3)) (g_var rfl hu) (rv_ixT hi))) rfl (hat _ (List.getElem_mem hj))))).is rfl
  · have hd' : atomS d = true := by cases d <;> simp_all [isT, upL, atomS]
    refine t_when s2 (et_of (g_opI (g_var rfl (Rp.mono e2 _ _ hy)) g_non rv_isN)) (fun hb F3 H3 s3 e3 => ?_) (fun hb3 F3 H3 s3 e3 => ?_)
    · obtain rfl : d = .none := by cases d <;> simp_all [isNone]
      exact t_retI s3 ((g_opI (g_var rfl (Rp.mono (e2.trans e3) _ _ hx)) g_non rv_isN).is rfl) q
    have e3' := e2.trans e3
    refine t_when s3 (et_B (g_isi (g_var rfl (Rp.mono e3' _ _ hy)) (kit_str d))) (fun hb F4 H4 s4 e4 => ?_) (fun hb4 F4 H4 s4 e4 => ?_)
    · obtain ⟨t, rfl⟩ : ∃ t, d = .str t := by cases d <;> simp_all [isS]
      exact t_retI s4 ((g_andV (b := true) (g_isi (g_var rfl (Rp.mono (e3'.trans e4) _ _ hx)) (kit_str _)) fun _ => (g_opI (g_var rfl (Rp.mono (e3'.trans e4) _ _ hx)) (g_var rfl (Rp.mono (e3'.trans e4) _ _ hy)) rv_eqS).is (by simp)).is rfl) q
    · obtain ⟨i, rfl⟩ : ∃ i, d = .int i := by cases d <;> simp_all [isS, isNone, atomS]
      have e4' := e3'.trans e4
      exact t_retI s4 ((g_andV (b := true) (g_isi (g_var rfl (Rp.mono e4' _ _ hx)) (kit_int _)) fun _ => (g_andV (b := true) (g_notV (g_isi (g_var rfl (Rp.mono e4' _ _ hx)) (kit_bool _))) fun _ => (g_opI (g_var rfl (Rp.mono e4' _ _ hx)) (g_var rfl (Rp.mono e4' _ _ hy)) rv_eqI).is (by simp)).is rfl).is rfl) q
theorem ok_same {f : Addr} {fd : FuncData} (F_law_same : Fun K "_law_same" "_law_same" s_law_same f fd) (T : Tx mg) (b_law_same : Binds K fd ["_law_told", "_law_due"] []) (g_law_same : mg "_law_same" = some (.ref f)) : FnOk P w K mg base CX0 3 f fd ["_law_told", "_law_due"] (spSm K lv2) :=
  same_step F_law_same T b_law_same g_law_same (same_step F_law_same T b_law_same g_law_same (same_step F_law_same T b_law_same g_law_same
    ⟨PSp.len (fun _ => rfl), fun _ _ _ _ _ _ _ _ _ _ _ _ _ h => by obtain ⟨_, _, hf, _⟩ := h; exact hf.elim⟩))
theorem atI_last {α : Type} {xs : List α} {x : α} : atI (xs ++ [x]) (-1) = some x := by
  unfold atI ixN
  have h1 : ¬ (0 : Int) ≤ -1 := by decide
  have h2 : -(((xs ++ [x]).length : Nat) : Int) ≤ -1 := by rw [List.length_append]; simp; omega
  rw [if_neg h1, if_pos h2]
  have h3 : (-1 + (((xs ++ [x]).length : Nat) : Int)).toNat = xs.length := by rw [List.length_append]; simp; omega
  rw [h3]
  simp
theorem dT_inj {a b : List Int} (h : dT a = dT b) : a = b := by
  injection h with h
  exact (List.map_inj_right (fun x y h => by injection h)).mp h
end
end KC

namespace KC
open PySem PySem.Spec PyProof.Rows L2 L2H Fv Evl StX
abbrev s_law_fits : Stmt := topS 69
theorem sc_law_fits : FnScope ["_law_value", "_law_entry", "_law_lots_here", "_law_manner", "_law_places", "_law_house"] ["_law_value", "_law_entry", "_law_lots_here", "_law_manner"] (defScope s_law_fits) := ⟨rfl, rfl, rfl, by decide +kernel, rfl, by decide +kernel, by decide +kernel⟩
abbrev s_law_values : Stmt := topS 70
theorem sc_law_values : FnScope ["_law_group", "_law_m", "_law_lots_here", "_law_manner", "_law_value", "_law_row"] ["_law_group", "_law_m", "_law_lots_here", "_law_manner"] (defScope s_law_values) := ⟨rfl, rfl, rfl, by decide +kernel, rfl, by decide +kernel, by decide +kernel⟩
abbrev s_law_near : Stmt := topS 67
theorem sc_law_near : FnScope ["_law_one", "_law_other", "_law_lots_here", "_law_manner"] ["_law_one", "_law_other", "_law_lots_here", "_law_manner"] (defScope s_law_near) := ⟨rfl, rfl, rfl, by decide +kernel, rfl, by decide +kernel, by decide +kernel⟩
abbrev s_law_covers : Stmt := topS 64
theorem sc_law_covers : FnScope ["_law_n", "_law_lots_here", "_law_one", "_law_other", "_law_house"] ["_law_n", "_law_lots_here"] (defScope s_law_covers) := ⟨rfl, rfl, rfl, by decide +kernel, rfl, by decide +kernel, by decide +kernel⟩
def placesOf (e : List Int) (v : Int) : List Int := (hs e.length).filter fun h => decide (at_ e h = v)
theorem placesOf_ok {n : Nat} {e : List Int} (h : e.length = n) (v : Int) : (placesOf e v).length ≤ n ∧ ∀ k ∈ placesOf e v, 0 ≤ k ∧ k < (n : Int) := by
  subst h
  exact ⟨Nat.le_trans (List.length_filter_le _ _) (by rw [hs_len]; exact Nat.le_refl _), fun k hk => hs_mem.mp (List.mem_filter.mp hk).1⟩
def lawFits (lots : List (List Int)) (m : Str) (e : List Int) (v : Int) : Bool := if decide (m = ("sure" : Str)) = true then !(placesOf e v).isEmpty else !lets lots (placesOf e v)
def lawVals (lots : List (List Int)) (m : Str) (es : List (List Int)) (k : Nat) : List Int := (hs k).filter fun v => (es.filter fun e => !lawFits lots m e v).isEmpty
def nearB (lots : List (List Int)) (a b : List Int) : Bool := !decide (a = b) && lets lots (differ a b)
theorem differ_symm {a b : List Int} (h : a.length = b.length) : differ a b = differ b a := by
  unfold differ
  rw [h]
  refine List.filter_congr fun k _ => ?_
  by_cases z : at_ a k = at_ b k
  · rw [z]
  · rw [decide_eq_false z, decide_eq_false (fun y => z y.symm)]
section
variable {P : Program} {w : World} {K : PySem.W.Frag} {mg : Str → Option Value} {base : Heap}
variable {pt : Option Pt} {σ : L2.St} {F F0 H0 H : Hp} {te ta tb : TE} {ts tr : TA} {D : Ends} {tz : TS}
abbrev spLFits (K : PySem.W.Frag) : Sp := PSp K (fun i : Int × List Int × List (List Int) × Str => [.int i.1, dT i.2.1, dLT i.2.2.1, .str i.2.2.2]) (fun i => i.2.1.length ≤ 1000) (fun i => .bool (lawFits i.2.2.1 i.2.2.2 i.2.1 i.1))
theorem rpAll4 {F : Hp} {vs : List V} {d e g j : PyData} (h : RpAll K F vs [d, e, g, j]) : ∃ v x y z, vs = [v, x, y, z] ∧ Rp K F v d ∧ Rp K F x e ∧ Rp K F y g ∧ Rp K F z j := by
  cases h with
  | cons h1 h2 =>
    obtain ⟨x, y, z, rfl, hx, hy, hz⟩ := rpAll3 h2
    exact ⟨_, x, y, z, rfl, h1, hx, hy, hz⟩
theorem ok_lfits {f fE : Addr} {fd fdE : FuncData} (Fn : Fun K "_law_fits" "_law_fits" s_law_fits f fd) (T : Tx mg)
    (F_law_lets : Fun K "_law_lets" "_law_lets" s_law_lets fE fdE) (b_law_lets : Binds K fdE ["_law_lots_here", "_law_lot_here"] []) (g_law_lets : mg "_law_lets" = some (.ref fE)) : FnOk P w K mg base CX0 2 f fd ["_law_value", "_law_entry", "_law_lots_here", "_law_manner"] (spLFits K) := by
  have G_law_lets : FnOk P w K mg base CX0 1 fE fdE ["_law_lots_here", "_law_lot_here"] (spLets K) := ok_lets F_law_lets T
  refine Fn.ok sc_law_fits (PSp.len (fun _ => rfl)) (fun cdv A outer s H vs Q E hr h => ?_)
  obtain ⟨⟨b, a, lots, m⟩, F, hz, e, ha, q⟩ := h
  simp only at hz
  obtain ⟨y, v, x, u, rfl, hy, hv, hx, hu⟩ := rpAll4 ha
  refine ⟨_, (pss_cons (ps_set (i := 4) sc_law_fits.nd rfl (by first | exact Or.inl rfl | exact Or.inr rfl) (pe_callTy (c_tup (K := K)) (by rfl) T.tuple (by decide +kernel) (pa_cons (pe_lc (own := [("_law_house", 5)]) (g := gName 5) rfl sc_law_fits.nd (pi_range1 (by rfl) T.range (pa_cons (pe_callB (c_len (K := K)) (by rfl) T.len (by decide +kernel) (pa_cons (pv 1) pa_nil)) pa_nil)) (blkOk_by (own := [("_law_house", 5)]) (N := ["_law_value", "_law_entry", "_law_lots_here", "_law_manner", "_law_places", "_law_house"]) (sc := (defScope s_law_fits)) (by decide +kernel)) (fun _ _ _ _ _ => pg_name (i := 5) sc_law_fits.nd rfl (by first | exact Or.inl rfl | exact Or.inr rfl)) (fun _ _ _ _ _ => (pts_one (pt_cmpR op_eq (pe_ix (o_ixT (K := K)) (pv 1) (pv 5) (fun _ _ => rfl)) (pv 0) (nomark _)))) (fun _ _ _ _ _ => (pv 5))) pa_nil)))
    (pss_cons (ps_if (pt_cmpR op_eq (pv 3) pe_str (nomark _)) (pss_one (ps_ret (pe_callTy (c_boolU (K := K)) (by rfl) T.bool (by decide +kernel) (pa_cons (pv 4) pa_nil)))) pss_nil)
    (pss_one (ps_ret (pe_not (pe_call G_law_lets (hr.mono (by decide)) (by rfl) g_law_lets F_law_lets.kp b_law_lets .nil pass0 (pa_cons (pv 2) (pa_cons (pv 4) pa_nil)))))))), ?_⟩
  have pl := placesOf_ok (n := a.length) rfl b
  refine t_asgI (K := K) (d := dT (placesOf a b)) (Step.refl e .nil) (g_cbI (gs_one (g_lcE PyData.int (hs a.length) (fun h => decide (at_ a h = b)) PyData.int (w_lenT (e := a) (g_var rfl hv) (Nat.le_trans hz (by decide))) (by rw [hs_len]; omega) (fun _ => rfl)
    (fun h hh F' e' z hz' => et_of (g_opI (g_opI (g_var rfl (Rp.mono e' _ _ hv)) (g_var rfl hz') (ix_int hh)) (g_var rfl (Rp.mono e' _ _ hy)) rv_eqI)) (fun h _ _ F' e' z hz' => g_var rfl hz'))) rc_tupL) fun pv F1 H1 s1 e1 hpv => ?_
  refine t_when (b := decide (m = ("sure" : Str))) s1 (et_of (g_opI (g_var rfl (Rp.mono e1 _ _ hu)) g_str rv_eqS)) (fun hb F2 H2 s2 e2 => ?_) (fun hb F2 H2 s2 e2 => ?_)
  · refine t_retI (K := K) s2 (g_cbI (gs_one (g_var rfl (Rp.mono e2 _ _ hpv))) rc_boolU) fun v3 F3 H3 s3 hv3 => q v3 F3 H3 s3 ?_
    show Rp K F3 v3 (.bool (lawFits lots m a b))
    unfold lawFits
    rw [if_pos hb]
    have : ((placesOf a b).map PyData.int).isEmpty = (placesOf a b).isEmpty := by cases placesOf a b <;> rfl
    rw [← this]; exact hv3
  · refine t_retI (K := K) s2 (g_notV (g_call (lots, placesOf a b) (gs_two (g_var rfl (Rp.mono (e1.trans e2) _ _ hx)) (g_var rfl (Rp.mono e2 _ _ hpv))) rfl (by simp only; omega))) fun v3 F3 H3 s3 hv3 => q v3 F3 H3 s3 ?_
    show Rp K F3 v3 (.bool (lawFits lots m a b))
    unfold lawFits
    rw [if_neg (by rw [hb]; simp)]; exact hv3
abbrev spLVals (K : PySem.W.Frag) : Sp := PSp K (fun i : List (List Int) × Nat × List (List Int) × Str => [dLT i.1, .int i.2.1, dLT i.2.2.1, .str i.2.2.2]) (fun i => i.1.length ≤ 1000 ∧ i.2.1 ≤ 100 ∧ ∀ e ∈ i.1, e.length ≤ 1000) (fun i => dI (lawVals i.2.2.1 i.2.2.2 i.1 i.2.1))
theorem ok_lvals {f fE fF : Addr} {fd fdE fdF : FuncData} (Fn : Fun K "_law_values" "_law_values" s_law_values f fd) (T : Tx mg)
    (F_law_lets : Fun K "_law_lets" "_law_lets" s_law_lets fE fdE) (b_law_lets : Binds K fdE ["_law_lots_here", "_law_lot_here"] []) (g_law_lets : mg "_law_lets" = some (.ref fE))
    (F_law_fits : Fun K "_law_fits" "_law_fits" s_law_fits fF fdF) (b_law_fits : Binds K fdF ["_law_value", "_law_entry", "_law_lots_here", "_law_manner"] []) (g_law_fits : mg "_law_fits" = some (.ref fF)) :
    FnOk P w K mg base CX0 3 f fd ["_law_group", "_law_m", "_law_lots_here", "_law_manner"] (spLVals K) := by
  have G_law_fits : FnOk P w K mg base CX0 2 fF fdF ["_law_value", "_law_entry", "_law_lots_here", "_law_manner"] (spLFits K) := ok_lfits F_law_fits T F_law_lets b_law_lets g_law_lets
  refine Fn.ok sc_law_values (PSp.len (fun _ => rfl)) (fun cdv A outer s H vs Q E hr h => ?_)
  obtain ⟨⟨es, k, lots, m⟩, F, ⟨hz, hk, hes⟩, e, ha, q⟩ := h
  simp only at hz hk hes
  obtain ⟨y, v, x, u, rfl, hy, hv, hx, hu⟩ := rpAll4 ha
  refine ⟨_, (pss_one (ps_ret (pe_lc (own := [("_law_value", 4)]) (g := gName 4) rfl sc_law_values.nd (pi_range1 (by rfl) T.range (pa_cons (pv 1) pa_nil)) (blkOk_by (own := [("_law_value", 4)]) (N := ["_law_group", "_law_m", "_law_lots_here", "_law_manner", "_law_value", "_law_row"]) (sc := (defScope s_law_values)) (by decide +kernel)) (fun _ _ _ _ _ => pg_name (i := 4) sc_law_values.nd rfl (by first | exact Or.inl rfl | exact Or.inr rfl)) (fun _ _ _ _ _ => (pts_one (pt_not (e_truth (K := K) (pe_lc (own := [("_law_row", 5)]) (g := gName 5) rfl sc_law_values.nd (i_list (K := K) (pv 0)) (blkOk_by (own := [("_law_row", 5)]) (N := ["_law_group", "_law_m", "_law_lots_here", "_law_manner", "_law_value", "_law_row"]) (by rfl)) (fun _ _ _ _ _ => pg_name (i := 5) sc_law_values.nd rfl (by first | exact Or.inl rfl | exact Or.inr rfl)) (fun _ _ _ _ _ => (pts_one (pt_not (pt_val (pe_call G_law_fits (hr.mono (by decide)) (by rfl) g_law_fits F_law_fits.kp b_law_fits .nil pass0 (pa_cons (pv 4) (pa_cons (pv 5) (pa_cons (pv 2) (pa_cons (pv 3) pa_nil))))))))) (fun _ _ _ _ _ => (pv 5))))))) (fun _ _ _ _ _ => (pv 4))))), ?_⟩
  refine t_retI (K := K) (Step.refl e .nil) (g_lcE PyData.int (hs k) (fun b => !(!((es.filter fun e => !lawFits lots m e b).map dT).isEmpty)) PyData.int ?_ (by rw [hs_len]; omega) (fun _ => rfl) (fun b hb F' e' z hz' => et_not (et_truL (g_lcE dT es (fun e => !lawFits lots m e b) dT (w_listI (g_var rfl (Rp.mono e' _ _ hy))) (by omega) (fun _ => rfl)
    (fun a ha F'' e'' z2 hz2 => et_not (et_B (g_call (b, a, lots, m) (gs_consI (g_var rfl (Rp.mono e'' _ _ hz')) (gs_three (g_var rfl hz2) (g_var rfl (Rp.mono (e'.trans e'') _ _ hx)) (g_var rfl (Rp.mono (e'.trans e'') _ _ hu)))) rfl (hes a ha)))) (fun a _ _ F'' e'' z2 hz2 => g_var rfl hz2)))) (fun b _ _ F' e' z hz' => g_var rfl hz')) fun v3 F3 H3 s3 hv3 => q v3 F3 H3 s3 ?_
  · have := w_rng1I (K := K) (pt := none) (σ := start ["_law_group", "_law_m", "_law_lots_here", "_law_manner", "_law_value", "_law_row"] [y, v, x, u]) (F := F) (n := ((k : Nat) : Int)) (gs_one (g_var (i := 1) rfl hv)) (by omega) (by omega)
    rw [show ((k : Nat) : Int).toNat = k by omega, rng_hs] at this
    exact this
  · have : (fun b => !(!((es.filter fun e => !lawFits lots m e b).map dT).isEmpty)) = fun b => (es.filter fun e => !lawFits lots m e b).isEmpty := by
      funext b
      cases es.filter fun e => !lawFits lots m e b <;> rfl
    rw [this] at hv3; exact hv3
abbrev spNear (K : PySem.W.Frag) (mn : Str) : Sp := PSp K (fun i : List Int × List Int × List (List Int) => [dT i.1, dT i.2.1, dLT i.2.2, .str mn]) (fun i => i.1.length ≤ 1000 ∧ i.2.1.length = i.1.length) (fun i => .bool (nearB i.2.2 i.1 i.2.1))
theorem ok_near {mn : Str} (hmn : mn ≠ "letters") {f fE fD fC : Addr} {fd fdE fdD fdC : FuncData} (Fn : Fun K "_law_near" "_law_near" s_law_near f fd) (T : Tx mg)
    (F_law_covers : Fun K "_law_covers" "_law_covers" s_law_covers fC fdC) (b_law_covers : Binds K fdC ["_law_n", "_law_lots_here"] []) (g_law_covers : mg "_law_covers" = some (.ref fC))
    (F_law_differ : Fun K "_law_differ" "_law_differ" s_law_differ fD fdD) (b_law_differ : Binds K fdD ["_law_one", "_law_other"] []) (g_law_differ : mg "_law_differ" = some (.ref fD))
    (F_law_lets : Fun K "_law_lets" "_law_lets" s_law_lets fE fdE) (b_law_lets : Binds K fdE ["_law_lots_here", "_law_lot_here"] []) (g_law_lets : mg "_law_lets" = some (.ref fE)) : FnOk P w K mg base CX0 2 f fd ["_law_one", "_law_other", "_law_lots_here", "_law_manner"] (spNear K mn) := by
  have G_law_lets : FnOk P w K mg base CX0 1 fE fdE ["_law_lots_here", "_law_lot_here"] (spLets K) := ok_lets F_law_lets T
  have G_law_differ : FnOk P w K mg base CX0 1 fD fdD ["_law_one", "_law_other"] (spDiffer K) := ok_differ F_law_differ T
  have G_law_covers : FnOk P w K mg base CX0 0 fC fdC ["_law_n", "_law_lots_here"] (fun _ _ _ _ => False) := never_ok
  refine Fn.ok sc_law_near (PSp.len (fun _ => rfl)) (fun cdv A outer s H vs Q E hr h => ?_)
  obtain ⟨⟨a, b, lots⟩, F, ⟨hz, hl⟩, e, ha, q⟩ := h
  replace hz : a.length ≤ 1000 := hz
  replace hl : b.length = a.length := hl
  obtain ⟨y, v, x, u, rfl, hy, hv, hx, hu⟩ := rpAll4 ha
  refine ⟨_, (pss_cons (ps_if (pt_cmpR (o_eqD (K := K) hr.units) (pv 0) (pv 1) (nomark _)) (pss_one (ps_ret pe_bl)) pss_nil)
    (pss_cons (ps_if (PW.pt (pw_and (pt_cmpR op_eq (pv 3) pe_str (nomark _)) (pw_and1 (pt_val (pe_call G_law_covers (hr.mono (by decide)) (by rfl) g_law_covers F_law_covers.kp b_law_covers .nil pass0 (pa_cons (pe_callB (c_len (K := K)) (by rfl) T.len (by decide +kernel) (pa_cons (pv 0) pa_nil)) (pa_cons (pv 2) pa_nil))))))) (pss_one (ps_ret pe_bl)) pss_nil)
    (pss_one (ps_ret (pe_call G_law_lets (hr.mono (by decide)) (by rfl) g_law_lets F_law_lets.kp b_law_lets .nil pass0 (pa_cons (pv 2) (pa_cons (pe_call G_law_differ (hr.mono (by decide)) (by rfl) g_law_differ F_law_differ.kp b_law_differ .nil pass0 (pa_cons (pv 0) (pa_cons (pv 1) pa_nil))) pa_nil))))))), ?_⟩
  refine t_when (b := decide (a = b)) (Step.refl e .nil) ((et_of (g_opI (g_var rfl hy) (g_var rfl hv) (rv_eqD (shaped_dT a) (shaped_dT b)))).is (by rw [eqv_dT])) (fun hb F2 H2 s2 e2 => ?_) (fun hb F2 H2 s2 e2 => ?_)
  · refine t_retI (K := K) s2 g_bl fun v3 F3 H3 s3 hv3 => q v3 F3 H3 s3 ?_
    show Rp K F3 v3 (.bool (nearB lots a b))
    unfold nearB
    rw [hb]; exact hv3
  refine t_skip s2 ((et_and (a := false) (b := false) ((et_of (g_opI (g_var rfl (Rp.mono e2 _ _ hu)) g_str rv_eqS)).is (decide_eq_false hmn)) (fun z => by cases z)).is rfl) fun F3 H3 s3 e3 => ?_
  refine t_retI (K := K) s3 (g_call (lots, differ a b) (gs_two (g_var rfl (Rp.mono (e2.trans e3) _ _ hx)) (g_call (a, b) (gs_two (g_var rfl (Rp.mono (e2.trans e3) _ _ hy)) (g_var rfl (Rp.mono (e2.trans e3) _ _ hv))) rfl ⟨hz, hl⟩)) rfl ?_) fun v4 F4 H4 s4 hv4 => q v4 F4 H4 s4 ?_
  · show (differ a b).length ≤ 50000
    have : (differ a b).length ≤ a.length := Nat.le_trans (List.length_filter_le _ _) (by rw [hs_len]; exact Nat.le_refl _)
    omega
  · show Rp K F4 v4 (.bool (nearB lots a b))
    unfold nearB
    rw [hb]; exact hv4
end
end KC

/-! the groups of linked things, by joining: they are the classes of what can be reached, whatever the order in which the things come -/
namespace Grp
variable {α : Type} (near : α → α → Bool)
def step (gs : List (List α)) (r : α) : List (List α) := gs.filter (fun g => !g.any (near r)) ++ [r :: (gs.filter fun g => g.any (near r)).flatten]
def groups (rows : List α) : List (List α) := rows.foldl (step near) []
inductive Conn (rows : List α) : α → α → Prop
  | refl {x : α} : x ∈ rows → Conn rows x x
  | tail {x y z : α} : Conn rows x y → z ∈ rows → near y z = true → Conn rows x z
variable {near}
theorem Conn.left {rows : List α} {x y : α} (h : Conn near rows x y) : x ∈ rows := by
  induction h with
  | refl h => exact h
  | tail _ _ _ ih => exact ih
theorem Conn.right {rows : List α} {x y : α} (h : Conn near rows x y) : y ∈ rows := by
  cases h with
  | refl h => exact h
  | tail _ h _ => exact h
theorem Conn.trans {rows : List α} {x y z : α} (h : Conn near rows x y) (k : Conn near rows y z) : Conn near rows x z := by
  induction k with
  | refl _ => exact h
  | tail _ hz hn ih => exact .tail ih hz hn
theorem Conn.one {rows : List α} {x y : α} (hx : x ∈ rows) (hy : y ∈ rows) (h : near x y = true) : Conn near rows x y := .tail (.refl hx) hy h
theorem Conn.symm (sy : ∀ x y, near x y = near y x) {rows : List α} {x y : α} (h : Conn near rows x y) : Conn near rows y x := by
  induction h with
  | refl h => exact .refl h
  | tail k hz hn ih => exact (Conn.one hz k.right (by rw [sy]; exact hn)).trans ih
theorem Conn.mono {rows rows' : List α} (hs : ∀ x ∈ rows, x ∈ rows') {x y : α} (h : Conn near rows x y) : Conn near rows' x y := by
  induction h with
  | refl h => exact .refl (hs _ h)
  | tail _ hz hn ih => exact .tail ih (hs _ hz) hn
/-- the groups are the classes -/
structure Right (rows : List α) (gs : List (List α)) : Prop where
  all : ∀ x, x ∈ rows ↔ ∃ g ∈ gs, x ∈ g
  cls : ∀ g ∈ gs, ∀ x ∈ g, ∀ y, y ∈ g ↔ Conn near rows x y
  some : ∀ g ∈ gs, g ≠ []
theorem Right.step (sy : ∀ x y, near x y = near y x) {rows : List α} {gs : List (List α)} (h : Right (near := near) rows gs) (r : α) : Right (near := near) (rows ++ [r]) (Grp.step near gs r) := by
  have hr : r ∈ rows ++ [r] := by simp
  have up : ∀ x ∈ rows, x ∈ rows ++ [r] := fun x hx => by simp [hx]
  have mem : ∀ x, x ∈ r :: (gs.filter fun g => g.any (near r)).flatten ↔ x = r ∨ ∃ g ∈ gs, g.any (near r) = true ∧ x ∈ g := fun x => by
    simp only [List.mem_cons, List.mem_flatten, List.mem_filter]
    constructor
    · rintro (h | ⟨g, ⟨h1, h2⟩, h3⟩)
      · exact .inl h
      · exact .inr ⟨g, h1, h2, h3⟩
    · rintro (h | ⟨g, h1, h2, h3⟩)
      · exact .inl h
      · exact .inr ⟨g, ⟨h1, h2⟩, h3⟩
  refine ⟨fun x => ⟨fun hx => ?_, fun ⟨g, hg, hx⟩ => ?_⟩, fun g hg x hx y => ?_, fun g hg => ?_⟩
  · rcases List.mem_append.mp hx with hx | hx
    · obtain ⟨g, hg, hx⟩ := (h.all x).mp hx
      cases z : g.any (near r)
      · exact ⟨g, List.mem_append_left _ (List.mem_filter.mpr ⟨hg, by simp [z]⟩), hx⟩
      · exact ⟨_, List.mem_append_right _ (List.mem_singleton.mpr rfl), (mem x).mpr (.inr ⟨g, hg, z, hx⟩)⟩
    · exact ⟨_, List.mem_append_right _ (List.mem_singleton.mpr rfl), (mem x).mpr (.inl (List.mem_singleton.mp hx))⟩
  · rcases List.mem_append.mp hg with hg | hg
    · exact up x ((h.all x).mpr ⟨g, (List.mem_filter.mp hg).1, hx⟩)
    · rw [List.mem_singleton.mp hg] at hx
      rcases (mem x).mp hx with rfl | ⟨g', h1, _, h3⟩
      · exact hr
      · exact up x ((h.all x).mpr ⟨g', h1, h3⟩)
  · rcases List.mem_append.mp hg with hg | hg
    · obtain ⟨h1, h2⟩ := List.mem_filter.mp hg
      refine ⟨fun hy => ((h.cls g h1 x hx y).mp hy).mono up, fun c => ?_⟩
      induction c with
      | refl _ => exact hx
      | tail c hz hn ih =>
        have hy := ih
        rcases List.mem_append.mp hz with hz | hz
        · exact (h.cls g h1 _ hx _).mpr (.tail ((h.cls g h1 _ hx _).mp hy) hz hn)
        · rw [List.mem_singleton.mp hz] at hn
          have : g.any (near r) = true := List.any_eq_true.mpr ⟨_, hy, by rw [sy]; exact hn⟩
          rw [this] at h2; cases h2
    · rw [List.mem_singleton.mp hg] at hx ⊢
      have toR : ∀ y, y ∈ r :: (gs.filter fun g => g.any (near r)).flatten → Conn near (rows ++ [r]) r y := fun y hy => by
        rcases (mem y).mp hy with rfl | ⟨g', h1, h2, h3⟩
        · exact .refl hr
        · obtain ⟨o, ho, hn⟩ := List.any_eq_true.mp h2
          have hoy := (h.cls g' h1 o ho y).mp h3
          exact (Conn.one hr (up o hoy.left) hn).trans (hoy.mono up)
      refine ⟨fun hy => ((toR x hx).symm sy).trans (toR y hy), fun c => ?_⟩
      induction c with
      | refl _ => exact hx
      | tail c hz hn ih =>
        have hy := ih
        rcases List.mem_append.mp hz with hz | hz
        · obtain ⟨g', hg', hz'⟩ := (h.all _).mp hz
          refine (mem _).mpr (.inr ?_)
          rcases (mem _).mp hy with rfl | ⟨g2, h1, h2, h3⟩
          · exact ⟨g', hg', List.any_eq_true.mpr ⟨_, hz', hn⟩, hz'⟩
          · exact ⟨g2, h1, h2, (h.cls g2 h1 _ h3 _).mpr (.tail (.refl ((h.all _).mpr ⟨g2, h1, h3⟩)) hz hn)⟩
        · exact (mem _).mpr (.inl (List.mem_singleton.mp hz))
  · rcases List.mem_append.mp hg with hg | hg
    · exact h.some g (List.mem_filter.mp hg).1
    · rw [List.mem_singleton.mp hg]; simp
theorem right_fold (sy : ∀ x y, near x y = near y x) : ∀ (more rows : List α) (gs : List (List α)), Right (near := near) rows gs → Right (near := near) (rows ++ more) (more.foldl (step near) gs)
  | [], rows, gs, h => by simpa using h
  | r :: more, rows, gs, h => by
    have := right_fold sy more (rows ++ [r]) _ (h.step sy r)
    simpa using this
theorem right_groups (sy : ∀ x y, near x y = near y x) (rows : List α) : Right (near := near) rows (groups near rows) := by
  have := right_fold sy rows [] [] ⟨by simp, by simp, by simp⟩
  simpa [groups] using this
/-- the same things in another order: the same groups, as sets -/
theorem same_groups (sy : ∀ x y, near x y = near y x) {rows rows' : List α} (hm : ∀ x, x ∈ rows ↔ x ∈ rows') {g : List α} (hg : g ∈ groups near rows) : ∃ g' ∈ groups near rows', ∀ x, x ∈ g ↔ x ∈ g' := by
  have R := right_groups sy rows
  have R' := right_groups sy rows'
  obtain ⟨x, hx⟩ := List.exists_mem_of_ne_nil g (R.some g hg)
  obtain ⟨g', hg', hx'⟩ := (R'.all x).mp ((hm x).mp ((R.all x).mpr ⟨g, hg, hx⟩))
  refine ⟨g', hg', fun y => ?_⟩
  rw [R.cls g hg x hx y, R'.cls g' hg' x hx' y]
  exact ⟨Conn.mono fun x h => (hm x).mp h, Conn.mono fun x h => (hm x).mpr h⟩
theorem groups_len (rows : List α) : ((groups near rows).map List.length).sum = rows.length := by
  have : ∀ (more : List α) (gs : List (List α)), ((more.foldl (step near) gs).map List.length).sum = (gs.map List.length).sum + more.length := by
    intro more
    induction more with
    | nil => intro gs; simp
    | cons r more ih =>
      intro gs
      rw [List.foldl_cons, ih]
      have part : ∀ gs : List (List α), (((gs.filter fun g => !g.any (near r))).map List.length).sum + (gs.filter fun g => g.any (near r)).flatten.length = (gs.map List.length).sum := by
        intro gs
        induction gs with
        | nil => simp
        | cons g gs ih =>
          cases z : g.any (near r)
          · simp only [List.filter_cons, z]; simp at ih ⊢; omega
          · simp only [List.filter_cons, z]; simp at ih ⊢; omega
      have := part gs
      simp only [step, List.map_append, List.sum_append, List.map_cons, List.map_nil, List.sum_cons, List.sum_nil, List.length_cons]
      omega
  simpa [groups] using this rows []
end Grp

namespace KC
open PySem PySem.Spec PyProof.Rows L2 L2H Fv Evl StX
abbrev s_law_groups : Stmt := topS 68
theorem sc_law_groups : FnScope ["_law_rows_here", "_law_lots_here", "_law_manner", "_law_groups_here", "_law_row", "_law_mine", "_law_rest", "_law_group", "_law_other"] ["_law_rows_here", "_law_lots_here", "_law_manner"] (defScope s_law_groups) := ⟨rfl, rfl, rfl, by decide +kernel, rfl, by decide +kernel, by decide +kernel⟩
/-- near, of rows of n -/
def nearN (n : Nat) (lots : List (List Int)) (a b : List Int) : Bool := decide (a.length = n) && decide (b.length = n) && nearB lots a b
theorem nearN_symm (n : Nat) (lots : List (List Int)) (a b : List Int) : nearN n lots a b = nearN n lots b a := by
  unfold nearN
  by_cases ha : a.length = n
  · by_cases hb : b.length = n
    · rw [decide_eq_true ha, decide_eq_true hb]
      unfold nearB
      rw [differ_symm (ha.trans hb.symm)]
      by_cases z : a = b
      · rw [z]
      · rw [decide_eq_false z, decide_eq_false (fun y => z y.symm)]
    · rw [decide_eq_false hb]; simp
  · rw [decide_eq_false ha]; simp
abbrev grpsOf (n : Nat) (lots rows : List (List Int)) : List (List (List Int)) := Grp.groups (nearN n lots) rows
theorem grps_mem {n : Nat} {lots rows : List (List Int)} {g : List (List Int)} (hg : g ∈ grpsOf n lots rows) {r : List Int} (hr : r ∈ g) : r ∈ rows := ((Grp.right_groups (nearN_symm n lots) rows).all r).mpr ⟨g, hg, hr⟩
theorem grps_flat (n : Nat) (lots rows : List (List Int)) : (grpsOf n lots rows).flatten.length = rows.length := by
  rw [List.length_flatten]; exact Grp.groups_len rows
theorem flat_sub {gs hs : List (List (List Int))} (h : hs.Sublist gs) : hs.flatten.length ≤ gs.flatten.length := by
  induction h with
  | slnil => simp
  | cons a _ ih => simp only [List.flatten_cons, List.length_append]; omega
  | cons_cons a _ ih => simp only [List.flatten_cons, List.length_append]; omega
theorem one_flat : ∀ {gs : List (List (List Int))}, (∀ g ∈ gs, g ≠ []) → gs.length ≤ gs.flatten.length
  | [], _ => by simp
  | g :: gs, h => by
    have := one_flat (gs := gs) fun x hx => h x (List.mem_cons_of_mem _ hx)
    have := List.length_pos_iff.mpr (h g (by simp))
    simp only [List.flatten_cons, List.length_append, List.length_cons]; omega
theorem grps_few (n : Nat) (lots rows : List (List Int)) : (grpsOf n lots rows).length ≤ rows.length ∧ ∀ g ∈ grpsOf n lots rows, g.length ≤ rows.length := by
  refine ⟨?_, fun g hg => ?_⟩
  · have := one_flat (Grp.right_groups (nearN_symm n lots) rows).some
    rw [grps_flat] at this; exact this
  · have := flat_sub (List.singleton_sublist.mpr hg)
    rw [grps_flat] at this
    simpa using this
theorem any_ne {α β : Type} (p : α → Bool) (f : α → β) : ∀ l : List α, (!((l.filter p).map f).isEmpty) = l.any p
  | [] => rfl
  | a :: l => by
    cases z : p a
    · rw [List.filter_cons_of_neg (by simp [z]), List.any_cons, z, Bool.false_or, any_ne p f l]
    · rw [List.filter_cons_of_pos (by simp [z]), List.any_cons, z]; rfl
theorem grps_snoc (n : Nat) (lots rows : List (List Int)) (r : List Int) : grpsOf n lots (rows ++ [r]) = Grp.step (nearN n lots) (grpsOf n lots rows) r := by
  unfold grpsOf Grp.groups
  rw [List.foldl_append]; rfl
section
variable {P : Program} {w : World} {K : PySem.W.Frag} {mg : Str → Option Value} {base : Heap}
variable {pt : Option Pt} {σ : L2.St} {F F0 H0 H : Hp} {te ta tb : TE} {ts tr : TA} {D : Ends} {tz : TS}
def grpsD (n : Nat) (lots rows : List (List Int)) : PyData := .list (sortD ((grpsOf n lots rows).map fun g => dLT (sortL g)))
abbrev spGrps (K : PySem.W.Frag) (mn : Str) : Sp := PSp K (fun i : Nat × List (List Int) × List (List Int) => [dLT i.2.1, dLT i.2.2, .str mn]) (fun i => 1 ≤ i.1 ∧ i.1 ≤ 5 ∧ i.2.1.length ≤ 60 ∧ ∀ r ∈ i.2.1, r.length = i.1) (fun i => grpsD i.1 i.2.2 i.2.1)
theorem ok_grps {mn : Str} (hmn : mn ≠ "letters") {f fN fE fD fC : Addr} {fd fdN fdE fdD fdC : FuncData} (Fn : Fun K "_law_groups" "_law_groups" s_law_groups f fd) (T : Tx mg)
    (F_law_near : Fun K "_law_near" "_law_near" s_law_near fN fdN) (b_law_near : Binds K fdN ["_law_one", "_law_other", "_law_lots_here", "_law_manner"] []) (g_law_near : mg "_law_near" = some (.ref fN))
    (F_law_covers : Fun K "_law_covers" "_law_covers" s_law_covers fC fdC) (b_law_covers : Binds K fdC ["_law_n", "_law_lots_here"] []) (g_law_covers : mg "_law_covers" = some (.ref fC))
    (F_law_differ : Fun K "_law_differ" "_law_differ" s_law_differ fD fdD) (b_law_differ : Binds K fdD ["_law_one", "_law_other"] []) (g_law_differ : mg "_law_differ" = some (.ref fD))
    (F_law_lets : Fun K "_law_lets" "_law_lets" s_law_lets fE fdE) (b_law_lets : Binds K fdE ["_law_lots_here", "_law_lot_here"] []) (g_law_lets : mg "_law_lets" = some (.ref fE)) :
    FnOk P w K mg base CX0 3 f fd ["_law_rows_here", "_law_lots_here", "_law_manner"] (spGrps K mn) := by
  have G_law_near : FnOk P w K mg base CX0 2 fN fdN ["_law_one", "_law_other", "_law_lots_here", "_law_manner"] (spNear K mn) := ok_near hmn F_law_near T F_law_covers b_law_covers g_law_covers F_law_differ b_law_differ g_law_differ F_law_lets b_law_lets g_law_lets
  refine Fn.ok sc_law_groups (PSp.len (fun _ => rfl)) (fun cdv A outer s H vs Q E hr h => ?_)
  obtain ⟨⟨n, rows, lots⟩, F, ⟨n1, n5, hz, hrow⟩, e, ha, q⟩ := h
  replace n1 : 1 ≤ n := n1
  replace n5 : n ≤ 5 := n5
  replace hz : rows.length ≤ 60 := hz
  replace hrow : ∀ r ∈ rows, r.length = n := hrow
  obtain ⟨v, x, u, rfl, hv, hx, hu⟩ := rpAll3 ha
  refine ⟨_, (pss_cons (ps_set (i := 3) sc_law_groups.nd rfl (by first | exact Or.inl rfl | exact Or.inr rfl) (pe_lst pa_nil))
    (pss_cons (ps_for PassesOwn.never rfl (i_list (K := K) (pv 0)) (pg_name (i := 4) sc_law_groups.nd rfl (by first | exact Or.inl rfl | exact Or.inr rfl)) (pss_cons (ps_set (i := 5) sc_law_groups.nd rfl (by first | exact Or.inl rfl | exact Or.inr rfl) (pe_lst (pa_cons (pv 4) pa_nil)))
    (pss_cons (ps_set (i := 6) sc_law_groups.nd rfl (by first | exact Or.inl rfl | exact Or.inr rfl) (pe_lst pa_nil))
    (pss_cons (ps_for PassesOwn.never rfl (i_list (K := K) (pv 3)) (pg_name (i := 7) sc_law_groups.nd rfl (by first | exact Or.inl rfl | exact Or.inr rfl)) (pss_one (ps_if (e_truth (K := K) (pe_lc (own := [("_law_other", 8)]) (g := gName 8) rfl sc_law_groups.nd (i_list (K := K) (pv 7)) (blkOk_by (own := [("_law_other", 8)]) (N := ["_law_rows_here", "_law_lots_here", "_law_manner", "_law_groups_here", "_law_row", "_law_mine", "_law_rest", "_law_group", "_law_other"]) (sc := (defScope s_law_groups)) (by decide +kernel)) (fun _ _ _ _ _ => pg_name (i := 8) sc_law_groups.nd rfl (by first | exact Or.inl rfl | exact Or.inr rfl)) (fun _ _ _ _ _ => (pts_one (pt_val (pe_call G_law_near (hr.mono (by decide)) (by rfl) g_law_near F_law_near.kp b_law_near .nil pass0 (pa_cons (pv 4) (pa_cons (pv 8) (pa_cons (pv 1) (pa_cons (pv 2) pa_nil)))))))) (fun _ _ _ _ _ => (pv 8)))) (pss_one (ps_set (i := 5) sc_law_groups.nd rfl (by first | exact Or.inl rfl | exact Or.inr rfl) (pe_op op_cat (pv 5) (pv 7)))) (pss_one (ps_expr (pe_bm PySem.F.plainAttrs_list PySem.F.slot_list_append PySem.F.type_list_append mt_append (pv 6) (pa_cons (pv 7) pa_nil)))))))
    (pss_one (ps_set (i := 3) sc_law_groups.nd rfl (by first | exact Or.inl rfl | exact Or.inr rfl) (pe_op op_cat (pv 6) (pe_lst (pa_cons (pv 5) pa_nil)))))))))
    (pss_one (ps_ret (pe_callB (c_sortG (K := K) (hu65 hr)) (by rfl) T.sorted (by decide +kernel) (pa_cons (pe_lc (own := [("_law_group", 7)]) (g := gName 7) rfl sc_law_groups.nd (i_list (K := K) (pv 3)) (blkOk_by (own := [("_law_group", 7)]) (N := ["_law_rows_here", "_law_lots_here", "_law_manner", "_law_groups_here", "_law_row", "_law_mine", "_law_rest", "_law_group", "_law_other"]) (sc := (defScope s_law_groups)) (by decide +kernel)) (fun _ _ _ _ _ => pg_name (i := 7) sc_law_groups.nd rfl (by first | exact Or.inl rfl | exact Or.inr rfl)) (fun _ _ _ _ _ => pts_nil) (fun _ _ _ _ _ => (pe_callB (c_sortLL (K := K) (hu65 hr)) (by rfl) T.sorted (by decide +kernel) (pa_cons (pv 7) pa_nil)))) pa_nil)))))), ?_⟩
  refine t_asgI (K := K) (d := .list []) (Step.refl e .nil) (g_lstI gs_nil (by simp)) fun y F1 H1 s1 e1 hy => ?_
  refine t_for (K := K) s1 (w_listI (g_var rfl (Rp.mono e1 _ _ hv))) (fun i σ' F' => ∃ y a b c d0 e0, σ' = [some v, some x, some u, some y, a, b, c, d0, e0] ∧ Rp K F' y (.list ((grpsOf n lots (rows.take i)).map dLT))) (fun F2 e2 => ⟨y, _, _, _, _, _, rfl, Rp.mono e2 _ _ hy⟩) (fun i d hd σ' F' H' z hI s' e' hz' N hN => ?_) (fun σ' F' H' hI s' e' => ?_)
  · obtain ⟨y', a, b, c, d0, e0, rfl, hy'⟩ := hI
    obtain ⟨r, hr2, rfl⟩ := get_map hd
    have hrn := hrow r (List.mem_of_getElem? hr2)
    have few := grps_few n lots (rows.take i)
    have flat := grps_flat n lots (rows.take i)
    have hti : (rows.take i).length ≤ 60 := by rw [List.length_take]; omega
    have ee := e1.trans e'
    refine t_asgI (K := K) (d := dLT [r]) s' (g_lstI (gs_one (g_var rfl hz')) (by simp)) fun mv F2 H2 s2 e2 hmv => ?_
    have g0 : Good none F H := .nil
    refine t_newL (K := K) s2 (fun l h0 hl0 g1 => ?_) (fun z h => s2.back z h)
    have GS : ∃ gs, gs = grpsOf n lots (rows.take i) := ⟨_, rfl⟩
    obtain ⟨gs, hgs⟩ := GS
    rw [← hgs] at hy' few flat
    have part : ∀ (j : Nat) (p : List (List Int) → Bool), ((gs.take j).filter p).flatten.length ≤ 60 := fun j p => by
      have := flat_sub (((gs.take j).filter_sublist (p := p)).trans (gs.take_sublist j))
      omega
    refine t_forG (K := K) (ds := gs.map dLT) g0 h0 g1 (w_listI (g_var rfl (Rp.mono e2 _ _ hy')))
      (fun j σ' F' l' => ∃ mv a b, σ' = [some v, some x, some u, some y', some z, some mv, some (.ref l), a, b] ∧ Rp K F' mv (dLT (r :: ((gs.take j).filter fun g => g.any (nearN n lots r)).flatten)) ∧ l' = ((gs.take j).filter fun g => !g.any (nearN n lots r)).map dLT)
      (fun F3 e3 => ⟨mv, _, _, rfl, by simpa using Rp.mono e3 _ _ hmv, by simp⟩) (fun j d hd σ' F3 H3 gv l' hI g' e3 hgv N2 hN2 => ?_) (fun σ' F3 H3 l' hI g' e3 => ?_)
    · obtain ⟨mv, a, b, rfl, hm, rfl⟩ := hI
      obtain ⟨grp, hgr, rfl⟩ := get_map hd
      have hgm : grp ∈ gs := List.mem_of_getElem? hgr
      have hgl := few.2 grp hgm
      have e13 := (ee.trans e2).trans e3
      refine t_if1G (K := K) (b := grp.any (nearN n lots r)) g0 h0 g' ((et_truL (g_lcE dT grp (fun o => nearN n lots r o) dT (w_listI (g_var rfl hgv)) (by omega) (fun _ => rfl) (fun o ho F'' e'' w hw => ?_) (fun o _ _ F'' e'' w hw => g_var rfl hw))).is (any_ne _ _ _)) (fun hb F4 H4 g4 e4 => ?_) (fun hb F4 H4 g4 e4 => ?_)
      · have hon : o.length = n := hrow o (List.mem_of_mem_take (grps_mem (hgs ▸ hgm) ho))
        refine (et_B (g_call (r, o, lots) (gs_consI (g_var rfl (Rp.mono ((e2.trans e3).trans e'') _ _ hz')) (gs_three (g_var rfl hw) (g_var rfl (Rp.mono (e13.trans e'') _ _ hx)) (g_var rfl (Rp.mono (e13.trans e'') _ _ hu)))) rfl ⟨by show r.length ≤ 1000; omega, by show o.length = r.length; omega⟩)).is ?_
        unfold nearN
        rw [decide_eq_true hrn, decide_eq_true hon]; rfl
      · refine t_asg1 (K := K) (Step.refl g4.step.inn .nil) (g_opI (g_var rfl (Rp.mono e4 _ _ hm)) (g_var rfl (Rp.mono e4 _ _ hgv)) (rv_cat (by have := part j fun g => g.any (nearN n lots r); simp only [List.length_map, List.length_cons]; omega))) fun d2 v2 F5 H5 hd2 s5 e5 hv5 => hN2 _ F5 H5 _ ⟨v2, _, _, rfl, ?_, ?_⟩ (g4.run g0 h0 s5) (e4.trans e5)
        · rw [show d2 = _ from hd2] at hv5
          rw [take_succA hgr, List.filter_append, List.filter_cons_of_pos (p := fun g : List (List Int) => g.any (nearN n lots r)) hb, List.filter_nil, List.flatten_append]
          simpa [dLT] using hv5
        · rw [take_succA hgr, List.filter_append, List.filter_cons_of_neg (p := fun g : List (List Int) => !g.any (nearN n lots r)) (by rw [hb]; simp), List.filter_nil, List.append_nil]
      · refine t_app (K := K) g0 h0 g4 rfl (g_var rfl (Rp.mono e4 _ _ hgv)) (by
          have : ((gs.take j).filter fun g => !g.any (nearN n lots r)).length ≤ gs.length := (((gs.take j).filter_sublist).trans (gs.take_sublist j)).length_le
          rw [List.length_map]; omega) fun d5 F5 H5 hd5 g5 e5 => ?_
        subst hd5
        refine hN2 _ F5 H5 _ ⟨mv, _, _, rfl, ?_, ?_⟩ g5 (e4.trans e5)
        · rw [take_succA hgr, List.filter_append, List.filter_cons_of_neg (p := fun g : List (List Int) => g.any (nearN n lots r)) (by rw [hb]; simp), List.filter_nil, List.append_nil]
          exact Rp.mono (e4.trans e5) _ _ hm
        · rw [take_succA hgr, List.filter_append, List.filter_cons_of_pos (p := fun g : List (List Int) => !g.any (nearN n lots r)) (by rw [hb]; rfl), List.filter_nil, List.map_append]; rfl
    · obtain ⟨mv, a, b, rfl, hm, rfl⟩ := hI
      obtain ⟨F4, s4, e4, r4⟩ := g'.done g0 h0
      rw [List.length_map, List.take_length] at hm r4
      refine t_asg1 (K := K) s4 (g_opI (g_var rfl r4) (g_lstI (gs_one (g_var rfl (Rp.mono e4 _ _ hm))) (by simp)) (rv_cat (by
          have : (gs.filter fun g => !g.any (nearN n lots r)).length ≤ gs.length := List.length_filter_le _ _
          rw [List.length_map]; simp only [List.length_cons, List.length_nil]; omega))) fun d2 v2 F5 H5 hd2 s5 e5 hv5 => hN _ F5 H5 ⟨v2, _, _, _, _, _, rfl, ?_⟩ s5 (((e2.trans e3).trans e4).trans e5)
      rw [show d2 = _ from hd2] at hv5
      rw [take_succA hr2, grps_snoc, ← hgs]
      unfold Grp.step
      rw [List.map_append]
      exact hv5
  · obtain ⟨y', a, b, c, d0, e0, rfl, hy'⟩ := hI
    have hy2 : Rp K F' y' (.list ((grpsOf n lots rows).map dLT)) := by
      rw [List.length_map, List.take_length] at hy'; exact hy'
    have few := grps_few n lots rows
    refine t_retI (K := K) s' (g_sortG (ds := (grpsOf n lots rows).map fun g => dLT (sortL g)) (g_lcEM dLT (grpsOf n lots rows) (fun g => dLT (sortL g)) (w_listI (g_var rfl hy2)) (by omega) (fun _ => rfl) fun g hg F'' e'' z hz2 => g_sortLL (g_var rfl hz2) (.inl fun l hl => ?_)) ?_) q
    · intro z
      have := hrow l (grps_mem hg hl)
      rw [z] at this
      simp at this; omega
    · have := canSort_rows ((grpsOf n lots rows).map sortL)
      rw [List.map_map] at this
      exact this
end
end KC

namespace KC
open PySem PySem.Spec PyProof.Rows L2 L2H Fv Evl StX
abbrev s_law_clash : Stmt := topS 71
theorem sc_law_clash : FnScope ["_law_rows_here", "_law_n", "_law_m", "_law_lots_here", "_law_manner", "_law_group"] ["_law_rows_here", "_law_n", "_law_m", "_law_lots_here", "_law_manner"] (defScope s_law_clash) := ⟨rfl, rfl, rfl, by decide +kernel, rfl, by decide +kernel, by decide +kernel⟩
/-- each group has a value that fits -/
def calmP (mn : Str) (n m : Nat) (lots rows : List (List Int)) : Prop := ∀ g ∈ grpsOf n lots rows, lawVals lots mn g m ≠ []
theorem vals_set {mn : Str} {lots g g' : List (List Int)} {m : Nat} (h : ∀ x, x ∈ g ↔ x ∈ g') : lawVals lots mn g m = lawVals lots mn g' m := by
  unfold lawVals
  refine List.filter_congr fun v _ => ?_
  rw [Bool.eq_iff_iff, List.isEmpty_iff, List.isEmpty_iff, List.filter_eq_nil_iff, List.filter_eq_nil_iff]
  exact ⟨fun z x hx => z x ((h x).mpr hx), fun z x hx => z x ((h x).mp hx)⟩
theorem vals_sort {mn : Str} {lots g : List (List Int)} {m : Nat} : lawVals lots mn (sortL g) m = lawVals lots mn g m := vals_set fun x => (sortL_perm g).mem_iff
theorem calm_set {mn : Str} {n m : Nat} {lots rows rows' : List (List Int)} (h : ∀ x, x ∈ rows ↔ x ∈ rows') (c : calmP mn n m lots rows) : calmP mn n m lots rows' := fun g hg => by
  obtain ⟨g', hg', hm⟩ := Grp.same_groups (nearN_symm n lots) (fun x => (h x).symm) hg
  rw [vals_set hm]
  exact c g' hg'
section
variable {P : Program} {w : World} {K : PySem.W.Frag} {mg : Str → Option Value} {base : Heap}
variable {pt : Option Pt} {σ : L2.St} {F F0 H0 H : Hp} {te ta tb : TE} {ts tr : TA} {D : Ends} {tz : TS}
/-- a promise of a def of data: what comes is one of R -/
def PSpR {ι : Type} (K : PySem.W.Frag) (A : ι → List PyData) (P : ι → Prop) (R : ι → PD) : Sp := fun vs H Q _ => ∃ (i : ι) (F : Hp), P i ∧ Ex F H ∧ RpAll K F vs (A i) ∧ ∀ d v F2 H2, R i d → Step none F H F2 H2 → Rp K F2 v d → Q v H2
theorem PSpR.len {ι : Type} {k : Nat} {A : ι → List PyData} {P : ι → Prop} {R : ι → PD} (h : ∀ i, (A i).length = k) : ∀ vs H Q E, PSpR K A P R vs H Q E → vs.length = k := fun vs H Q E ⟨i, F, _, _, r, _⟩ => by rw [r.length, h]
theorem g_callR {ι : Type} {A : ι → List PyData} {P : ι → Prop} {R : ι → PD} {E : XK} (i : ι) {ds : List PyData} (h : EvsG K pt ts σ F (· = ds)) (hd : ds = A i) (hp : P i) : EvG K pt (tCall (PSpR K A P R) [] E ts) σ F (R i) := fun H1 e g Q q =>
  h H1 e g _ fun ds' vs F2 H2 hd' s hv => by
    subst hd'; subst hd
    exact ⟨i, F2, hp, s.inn, by simpa using hv, fun d v F3 H3 hr s3 hv3 => q d v F3 H3 hr (s.trans (s3.lift s.good)) hv3⟩
theorem rpAll5 {F : Hp} {vs : List V} {d e g j l : PyData} (h : RpAll K F vs [d, e, g, j, l]) : ∃ v x y z a, vs = [v, x, y, z, a] ∧ Rp K F v d ∧ Rp K F x e ∧ Rp K F y g ∧ Rp K F z j ∧ Rp K F a l := by
  cases h with
  | cons h1 h2 =>
    obtain ⟨x, y, z, a, rfl, hx, hy, hz, ha⟩ := rpAll4 h2
    exact ⟨_, x, y, z, a, rfl, h1, hx, hy, hz, ha⟩
abbrev RowsN (n m : Nat) (rows : List (List Int)) : Prop := 1 ≤ n ∧ n ≤ 5 ∧ m ≤ 4 ∧ rows.length ≤ 60 ∧ ∀ r ∈ rows, r.length = n
abbrev spClash (K : PySem.W.Frag) (mn : Str) : Sp := PSpR K (fun i : Nat × Nat × List (List Int) × List (List Int) => [dLT i.2.2.1, .int i.1, .int i.2.1, dLT i.2.2.2, .str mn]) (fun i => RowsN i.1 i.2.1 i.2.2.1) (fun i d => (d = .none ∧ calmP mn i.1 i.2.1 i.2.2.2 i.2.2.1) ∨ ∃ g : List (List Int), d = dLT g)
theorem ok_clash {mn : Str} {f fG fV : Addr} {fd fdG fdV : FuncData} (Fn : Fun K "_law_clash" "_law_clash" s_law_clash f fd) (T : Tx mg)
    (F_law_groups : Fun K "_law_groups" "_law_groups" s_law_groups fG fdG) (b_law_groups : Binds K fdG ["_law_rows_here", "_law_lots_here", "_law_manner"] []) (g_law_groups : mg "_law_groups" = some (.ref fG)) (G_law_groups : FnOk P w K mg base CX0 3 fG fdG ["_law_rows_here", "_law_lots_here", "_law_manner"] (spGrps K mn))
    (F_law_values : Fun K "_law_values" "_law_values" s_law_values fV fdV) (b_law_values : Binds K fdV ["_law_group", "_law_m", "_law_lots_here", "_law_manner"] []) (g_law_values : mg "_law_values" = some (.ref fV)) (G_law_values : FnOk P w K mg base CX0 3 fV fdV ["_law_group", "_law_m", "_law_lots_here", "_law_manner"] (spLVals K)) :
    FnOk P w K mg base CX0 4 f fd ["_law_rows_here", "_law_n", "_law_m", "_law_lots_here", "_law_manner"] (spClash K mn) := by
  refine Fn.ok sc_law_clash (PSpR.len (fun _ => rfl)) (fun cdv A outer s H vs Q E hr h => ?_)
  obtain ⟨⟨n, m, rows, lots⟩, F, ⟨n1, n5, m4, hz, hrow⟩, e, ha, q⟩ := h
  replace n1 : 1 ≤ n := n1
  replace n5 : n ≤ 5 := n5
  replace m4 : m ≤ 4 := m4
  replace hz : rows.length ≤ 60 := hz
  replace hrow : ∀ r ∈ rows, r.length = n := hrow
  obtain ⟨v, x, y, z, a, rfl, hv, hx, hy, hz', ha⟩ := rpAll5 ha
  refine ⟨_, (pss_cons (ps_for PassesOwn.never rfl (i_list (K := K) (pe_call G_law_groups (hr.mono (by decide)) (by rfl) g_law_groups F_law_groups.kp b_law_groups .nil pass0 (pa_cons (pv 0) (pa_cons (pv 3) (pa_cons (pv 4) pa_nil))))) (pg_name (i := 5) sc_law_clash.nd rfl (by first | exact Or.inl rfl | exact Or.inr rfl)) (pss_one (ps_if (pt_not (e_truth (K := K) (pe_call G_law_values (hr.mono (by decide)) (by rfl) g_law_values F_law_values.kp b_law_values .nil pass0 (pa_cons (pv 5) (pa_cons (pv 2) (pa_cons (pv 3) (pa_cons (pv 4) pa_nil))))))) (pss_one (ps_ret (pv 5))) pss_nil)))
    (pss_one (ps_ret pe_non))), ?_⟩
  have few := grps_few n lots rows
  have mem : ∀ d ∈ sortD ((grpsOf n lots rows).map fun g => dLT (sortL g)), ∃ g ∈ grpsOf n lots rows, d = dLT (sortL g) := fun d hd => by
    obtain ⟨g, hg, rfl⟩ := List.mem_map.mp ((sortD_perm _).mem_iff.mp hd)
    exact ⟨g, hg, rfl⟩
  refine t_for (K := K) (ds := sortD ((grpsOf n lots rows).map fun g => dLT (sortL g))) (Step.refl e .nil) (w_listI (g_call (n, rows, lots) (gs_three (g_var rfl hv) (g_var rfl hz') (g_var rfl ha)) rfl ⟨n1, n5, hz, hrow⟩))
    (fun i σ' F' => (∃ b, σ' = [some v, some x, some y, some z, some a, b]) ∧ ∀ g ∈ grpsOf n lots rows, dLT (sortL g) ∈ (sortD ((grpsOf n lots rows).map fun g => dLT (sortL g))).take i → lawVals lots mn g m ≠ []) (fun F2 e2 => ⟨⟨_, rfl⟩, by simp⟩) (fun i d hd σ' F' H' u hI s' e' hu N hN => ?_) (fun σ' F' H' hI s' e' => ?_)
  · obtain ⟨⟨b, rfl⟩, hno⟩ := hI
    obtain ⟨g, hg, rfl⟩ := mem d (List.mem_of_getElem? hd)
    have sl : (sortL g).length = g.length := (sortL_perm g).length_eq
    have gl := few.2 g hg
    refine t_if1 (b := !(!((lawVals lots mn (sortL g) m).map PyData.int).isEmpty)) s' (et_not (et_truL (g_call (sortL g, m, lots, mn) (gs_consI (g_var rfl hu) (gs_three (g_var rfl (Rp.mono e' _ _ hy)) (g_var rfl (Rp.mono e' _ _ hz')) (g_var rfl (Rp.mono e' _ _ ha)))) rfl ⟨by show (sortL g).length ≤ 1000; omega, by show m ≤ 100; omega, fun r hr' => by have := hrow r (grps_mem hg ((sortL_perm g).mem_iff.mp hr')); omega⟩))) (fun hb F2 H2 s2 e2 => ?_) (fun hb F2 H2 s2 e2 => ?_)
    · exact t_ret s2 (g_var (d := dLT (sortL g)) rfl (Rp.mono e2 _ _ hu)) fun d v F3 H3 hd s3 hv3 => q d v F3 H3 (.inr ⟨_, hd⟩) s3 hv3
    · refine hN _ F2 H2 ⟨⟨_, rfl⟩, fun g2 hg2 hm => ?_⟩ s2 e2
      rw [take_succA hd] at hm
      rcases List.mem_append.mp hm with h1 | h1
      · exact hno g2 hg2 h1
      · have h2 : dLT (sortL g2) = dLT (sortL g) := List.mem_singleton.mp h1
        have h3 : sortL g2 = sortL g := by
          injection h2 with h2
          exact (List.map_inj_right (fun x y h => dT_inj h)).mp h2
        rw [← vals_sort, h3]
        intro h4
        rw [h4] at hb
        simp at hb
  · obtain ⟨⟨b, rfl⟩, hno⟩ := hI
    refine t_ret s' g_non fun d v F3 H3 hd s3 hv3 => q d v F3 H3 (.inl ⟨hd, fun g hg => hno g hg ?_⟩) s3 hv3
    rw [List.take_length]
    exact (sortD_perm _).mem_iff.mpr (List.mem_map.mpr ⟨g, hg, rfl⟩)
end
end KC

namespace KC
open PySem PySem.Spec PyProof.Rows L2 L2H Fv Evl StX
abbrev s_law_calm_rows : Stmt := topS 72
theorem sc_law_calm_rows : FnScope ["_law_pot_here", "_law_n", "_law_m", "_law_lots_here", "_law_manner", "_law_pool", "_law_kept", "_law_k", "_law_row"] ["_law_pot_here", "_law_n", "_law_m", "_law_lots_here", "_law_manner"] (defScope s_law_calm_rows) := ⟨rfl, rfl, rfl, by decide +kernel, rfl, by decide +kernel, by decide +kernel⟩
section
variable {P : Program} {w : World} {K : PySem.W.Frag} {mg : Str → Option Value} {base : Heap}
variable {pt : Option Pt} {σ : L2.St} {F F0 H0 H : Hp} {te ta tb : TE} {ts tr : TA} {D : Ends} {tz : TS}
/-- a promise of a def of data: what comes is a list made anew -/
def PSpF {ι : Type} (K : PySem.W.Frag) (A : ι → List PyData) (P : ι → Prop) (f : ι → PyData) : Sp := fun vs H Q _ => ∃ (i : ι) (F : Hp), P i ∧ Ex F H ∧ RpAll K F vs (A i) ∧ ∀ a F2 H2, Step none F H F2 H2 → Rp K F2 (.ref a) (f i) → H a = none → Q (.ref a) H2
theorem PSpF.len {ι : Type} {k : Nat} {A : ι → List PyData} {P : ι → Prop} {f : ι → PyData} (h : ∀ i, (A i).length = k) : ∀ vs H Q E, PSpF K A P f vs H Q E → vs.length = k := fun vs H Q E ⟨i, F, _, _, r, _⟩ => by rw [r.length, h]
/-- x = f(..), made anew -/
theorem t_asgF1 {ι : Type} {A : ι → List PyData} {Pi : ι → Prop} {f : ι → PyData} {E : XK} {j : Nat} (i : ι) {ds : List PyData} (s : Step pt F0 H0 F H) (h : EvsG K pt ts σ F (· = ds)) (hd : ds = A i) (hp : Pi i) (q : ∀ a F2 H2, Step pt F0 H0 F2 H2 → Ex F F2 → Rp K F2 (.ref a) (f i) → H0 a = none → D.nx (σ.set j (some (.ref a))) H2) : tAsg (tCall (PSpF K A Pi f) [] E ts) (gName j) D σ H :=
  h H s.inn s.good _ fun ds' vs F2 H2 hd' s2 hv => by
    subst hd'; subst hd
    exact ⟨i, F2, hp, s2.inn, by simpa using hv, fun a F3 H3 s3 hv3 ha => q a F3 H3 ((s.trans s2).trans (s3.lift s2.good)) (s2.sub.trans s3.sub) hv3 ((s.trans s2).back a ha)⟩
abbrev spLongerF (K : PySem.W.Frag) : Sp := PSpF K (fun i : List (List Int) × List Int => [dLT i.1, dI i.2]) (fun i => i.1.length ≤ 1100 ∧ i.2.length ≤ 10 ∧ ∀ r ∈ i.1, r.length ≤ 100) (fun i => dLT (longer i.1 i.2))
theorem ok_longerF {f : Addr} {fd : FuncData} (Fn : Fun K "_law_longer" "_law_longer" s_law_longer f fd) (T : Tx mg) : FnOk P w K mg base CX0 1 f fd ["_law_rows_here", "_law_marks"] (spLongerF K) := by
  refine Fn.ok sc_law_longer (PSpF.len (fun _ => rfl)) (fun cdv A outer s H vs Q E hr h => ?_)
  obtain ⟨⟨rows, marks⟩, F, ⟨h1, h2, h3⟩, e, ha, q⟩ := h
  obtain ⟨v, x, rfl, hv, hx⟩ := rpAll2 ha
  simp only at h1 h2 h3
  refine ⟨_, (pss_cons (ps_set (i := 2) sc_law_longer.nd rfl (by first | exact Or.inl rfl | exact Or.inr rfl) (pe_lst pa_nil))
    (pss_cons (ps_for PassesOwn.never rfl (i_list (K := K) (pv 0)) (pg_name (i := 3) sc_law_longer.nd rfl (by first | exact Or.inl rfl | exact Or.inr rfl)) (pss_one (ps_expr (pe_bm PySem.F.plainAttrs_list PySem.F.slot_list_extend PySem.F.type_list_extend mt_extend (pv 2) (pa_cons (pe_lc (own := [("_law_mark", 4)]) (g := gName 4) rfl sc_law_longer.nd (i_list (K := K) (pv 1)) (blkOk_by (own := [("_law_mark", 4)]) (N := ["_law_rows_here", "_law_marks", "_law_longer_here", "_law_row", "_law_mark"]) (sc := (defScope s_law_longer)) (by decide +kernel)) (fun _ _ _ _ _ => pg_name (i := 4) sc_law_longer.nd rfl (by first | exact Or.inl rfl | exact Or.inr rfl)) (fun _ _ _ _ _ => pts_nil) (fun _ _ _ _ _ => (pe_op (o_catA (K := K)) (pv 3) (pe_tup (pa_cons (pv 4) pa_nil))))) pa_nil)))))
    (pss_one (ps_ret (pv 2))))), ?_⟩
  have g0 : Good none F H := .nil
  refine t_newL (K := K) (Step.refl e .nil) (fun l h0 hl0 g1 => ?_) (fun _ h => h)
  refine t_forG (K := K) (ds := rows.map dT) g0 h0 g1 (w_listI (g_var rfl hv))
    (fun i σ' F' l' => (∃ y z, σ' = [some v, some x, some (.ref l), y, z]) ∧ l' = (longer (rows.take i) marks).map dT) (fun F2 e2 => ⟨⟨none, none, rfl⟩, by simp [longer]⟩) (fun i d hd σ' F' H' u l' hI g' e' hu N hN => ?_) (fun σ' F' H' l' hI g' e' => ?_)
  · obtain ⟨⟨y, z, rfl⟩, rfl⟩ := hI
    obtain ⟨r, hr2, rfl⟩ := get_map hd
    have hrl := h3 r (List.mem_of_getElem? hr2)
    have hlen : (longer (rows.take i) marks).length ≤ 11000 := by
      rw [longer_len, List.length_take]
      have : min i rows.length * marks.length ≤ 1100 * 10 := Nat.mul_le_mul (by omega) h2
      omega
    refine t_ext (K := K) (es := marks.map fun m => dT (r ++ [m])) g0 h0 g' rfl ((g_lcEM PyData.int marks (fun m => dT (r ++ [m])) (w_listI (g_var rfl (Rp.mono e' _ _ hx))) (by omega) (fun _ => rfl) fun m hm F2 e2 y hy => ?_)) (by rw [List.length_map, List.length_map]; omega) fun F4 H4 g4 e4 => ?_
    · exact (g_opI (g_var rfl (Rp.mono e2 _ _ hu)) (g_tupI (gs_one (g_var rfl hy)) (by simp)) (rv_catA (by simp; omega))).is (congrArg PyData.tuple (by rw [List.map_append]; rfl))
    · refine hN _ F4 H4 _ ⟨⟨_, _, rfl⟩, ?_⟩ g4 e4
      rw [take_succA hr2]
      have : longer (rows.take i ++ [r]) marks = longer (rows.take i) marks ++ marks.map fun m => r ++ [m] := by simp [longer]
      rw [this, List.map_append, List.map_map]; rfl
  · obtain ⟨⟨y, z, rfl⟩, rfl⟩ := hI
    obtain ⟨F2, s2, e2, r2⟩ := g'.done g0 h0
    rw [List.length_map, List.take_length] at r2
    exact ⟨_, rfl, q l F2 H' s2 r2 h0⟩
abbrev spRowsF (K : PySem.W.Frag) : Sp := PSpF K (fun i : Nat × Nat => [.int i.1, .int i.2]) (fun i => 1 ≤ i.1 ∧ i.1 ≤ 5 ∧ 1 ≤ i.2 ∧ i.2 ≤ 4) (fun i => dLT (rowsOf i.2 i.1))
theorem ok_rowsF {f fL : Addr} {fd fdL : FuncData} (Fn : Fun K "_law_rows" "_law_rows" s_law_rows f fd) (T : Tx mg)
    (F_law_longer : Fun K "_law_longer" "_law_longer" s_law_longer fL fdL) (b_law_longer : Binds K fdL ["_law_rows_here", "_law_marks"] []) (g_law_longer : mg "_law_longer" = some (.ref fL)) : FnOk P w K mg base CX0 2 f fd ["_law_n", "_law_m"] (spRowsF K) := by
  have G_law_longer : FnOk P w K mg base CX0 1 fL fdL ["_law_rows_here", "_law_marks"] (spLongerF K) := ok_longerF F_law_longer T
  refine Fn.ok sc_law_rows (PSpF.len (fun _ => rfl)) (fun cdv A outer s H vs Q E hr h => ?_)
  obtain ⟨⟨n, m⟩, F, ⟨n1, hn, m1, m4⟩, e, ha, q⟩ := h
  simp only at n1 hn m1 m4
  obtain ⟨v, x, rfl, hv, hx⟩ := rpAll2 ha
  refine ⟨_, (pss_cons (ps_set (i := 2) sc_law_rows.nd rfl (by first | exact Or.inl rfl | exact Or.inr rfl) (pe_lst (pa_cons (pe_tup pa_nil) pa_nil)))
    (pss_cons (ps_for PassesOwn.never rfl (pi_range1 (by rfl) T.range (pa_cons (pv 0) pa_nil)) (pg_name (i := 3) sc_law_rows.nd rfl (by first | exact Or.inl rfl | exact Or.inr rfl)) (pss_one (ps_set (i := 2) sc_law_rows.nd rfl (by first | exact Or.inl rfl | exact Or.inr rfl) (pe_call G_law_longer (hr.mono (by decide)) (by rfl) g_law_longer F_law_longer.kp b_law_longer .nil pass0 (pa_cons (pv 2) (pa_cons (pe_listRg rfl (by rfl) T.list (prg_1 (by rfl) T.range (pv 1))) pa_nil))))))
    (pss_one (ps_ret (pv 2))))), ?_⟩
  refine t_asgI (K := K) (d := dLT [[]]) (Step.refl e .nil) (g_lstI (gs_one (g_tupI gs_nil (by simp))) (by simp)) fun y F1 H1 s1 e1 hy => ?_
  refine t_for (K := K) s1 (w_rng1I (n := n) (gs_one (g_var rfl (Rp.mono e1 _ _ hv))) (by omega) (by omega)) (fun i σ' F' => ∃ y u, σ' = [some v, some x, some y, u] ∧ Rp K F' y (dLT (rowsOf m i)) ∧ i ≤ n ∧ (1 ≤ i → ∃ a, y = .ref a ∧ H a = none)) (fun F2 e2 => ⟨y, none, rfl, Rp.mono e2 _ _ hy, Nat.zero_le _, fun z => by omega⟩) (fun i d hd σ' F' H' z hI s' e' hz N hN => ?_) (fun σ' F' H' hI s' e' => ?_)
  · obtain ⟨y', u, rfl, hy', hi, _⟩ := hI
    have hin : i < n := by
      have := (List.getElem?_eq_some_iff.mp hd).1
      rw [rng_len] at this
      simpa using this
    obtain ⟨l1, l2⟩ := rows_len m i
    have p := pow_few m1 m4 hn hi
    exact t_asgF1 (K := K) (rowsOf m i, hs m) s' (gs_two (g_var rfl hy') (g_listRg (g_var rfl (Rp.mono (e1.trans e') _ _ hx)) (by omega))) rfl ⟨by simp only; omega, by simp only [hs_len]; omega, fun r hr => by have := (l2 r hr).1; omega⟩ fun a F3 H3 s3 e3 hv3 ha => hN _ F3 H3 ⟨.ref a, some z, rfl, hv3, hin, fun _ => ⟨a, rfl, ha⟩⟩ s3 e3
  · obtain ⟨y', u, rfl, hy', hi, hf⟩ := hI
    rw [rng_len, show (n : Int).toNat = n by omega] at hy'
    rw [rng_len, show (n : Int).toNat = n by omega] at hf
    obtain ⟨a, rfl, ha⟩ := hf n1
    exact ⟨_, rfl, q a F' H' s' hy' ha⟩
end
end KC

namespace KC
open PySem PySem.Spec PyProof.Rows L2 L2H Fv Evl StX
section
variable {P : Program} {w : World} {K : PySem.W.Frag} {mg : Str → Option Value} {base : Heap}
variable {pt : Option Pt} {σ : L2.St} {F F' F0 H0 H : Hp} {te ta tb : TE} {ts tr : TA} {D : Ends} {tz tu : TS} {l m : Addr} {ls ms : List PyData} {wi : TI} {R : PD}
theorem t_asgF {ι : Type} {A : ι → List PyData} {Pi : ι → Prop} {f : ι → PyData} {E : XK} {j : Nat} (i : ι) {ds : List PyData} (s : Step pt F0 H0 F H) (h : EvsG K pt ts σ F (· = ds)) (hd : ds = A i) (hp : Pi i) (q : ∀ a F2 H2, Step pt F0 H0 F2 H2 → Ex F F2 → Rp K F2 (.ref a) (f i) → H0 a = none → tz D (σ.set j (some (.ref a))) H2) : tSeq (tAsg (tCall (PSpF K A Pi f) [] E ts) (gName j)) tz D σ H :=
  t_asgF1 (D := { D with nx := tz D }) i s h hd hp q
theorem t_forHR {j : Nat} {RS : List PyData → Prop} (i0 : Ex F H) (g : Good pt F H) (hw : WiG K pt wi σ F RS) (I : List PyData → Nat → L2.St → Hp → Hp → Prop) (h0 : ∀ ds, RS ds → ∀ F1 H1, Step pt F H F1 H1 → I ds 0 σ F1 H1) (hI : ∀ ds i σ' F' H', I ds i σ' F' H' → Ex F' H')
    (hs : ∀ ds, RS ds → ∀ i d, ds[i]? = some d → ∀ σ' F' H' x, I ds i σ' F' H' → Ex F F' → Rp K F' x d →
      ∀ N : L2.St → Hp → Prop, (∀ σ2 F2 H2, I ds (i + 1) σ2 F2 H2 → Ex F' F2 → N σ2 H2) → tu { D with nx := N, ct := N, bk := tz D } (σ'.set j (some x)) H')
    (hd : ∀ ds, RS ds → ∀ σ' F' H', I ds ds.length σ' F' H' → Ex F F' → tz D σ' H') : tSeq (tFor wi (gName j) tu) tz D σ H :=
  hw H i0 g _ fun ds' J F1 H1 e s1 Y => by
    refine ⟨fun i m σ' H' => m = ds'.length - i ∧ i ≤ ds'.length ∧ ∃ F', I ds' i σ' F' H' ∧ Ex F1 F', ⟨ds'.length, by simp, Nat.zero_le _, F1, h0 ds' e F1 H1 s1, Ex.refl _⟩, ?_⟩
    rintro i m σ' H' ⟨rfl, hil, F', p, e'⟩
    have eH : Ex F1 H' := e'.trans (hI ds' i σ' F' H' p)
    by_cases hlt : i < ds'.length
    · refine .inr ⟨Y.go i H' eH hlt, fun σ2 H2 => ∃ F2, I ds' (i + 1) σ2 F2 H2 ∧ Ex F1 F2, fun σ2 H2 ⟨F2, a, b⟩ => ⟨ds'.length - (i + 1), by omega, rfl, hlt, F2, a, b⟩, fun x H2 y => ?_⟩
      obtain ⟨rfl, d, hdd, hx⟩ := Y.yld i H' x H2 eH hlt y
      exact hs ds' e i d hdd σ' F' _ x p (s1.sub.trans e') (Rp.mono e' _ _ hx) _ fun σ2 F2 H2 a b => ⟨F2, a, e'.trans b⟩
    · have hE : i = ds'.length := Nat.le_antisymm hil (Nat.le_of_not_lt hlt)
      subst hE
      exact .inl ⟨Y.stop H' eH, hd ds' e σ' F' H' p (s1.sub.trans e')⟩
theorem t_app2 {im : Nat} (g0 : Good pt F0 H0) (w : Two K pt F0 H0 l m F H ls ms) (hm : σ[im]? = some (some (.ref m))) (h : EvG K pt te σ F R) (hz : ms.length < 100000) (k : ∀ d F2 H2, R d → Two K pt F0 H0 l m F2 H2 ls (ms ++ [d]) → Ex F F2 → D.nx σ H2) : tDrop (tBM K "list" rAppend (tVar im) (tCons te tNil)) D σ H := by
  obtain ⟨ys, b1, b2⟩ := w.e2
  refine ⟨.ref m, hm, .inl ⟨rfl, ys, sq_of b1⟩, h H w.step.inn w.step.good _ fun d v F2 H2 hd s hv => ?_⟩
  have w2 := w.run g0 s
  obtain ⟨ys', e1, e2⟩ := w2.e2
  refine ⟨m, ys', v, rfl, rfl, e1, sz_lt (by rw [e2.length]; exact hz), ?_⟩
  exact k d _ _ hd ((w2.swap.put1 g0 (e2.append (RpAll.one hv))).swap) s.sub
theorem et_ofR {S : Bool → Prop} (h : EvG K pt te σ F (fun z => ∃ b, z = .bool b ∧ S b)) : EtG pt (tTest te) σ F S := fun H1 i g Q q => h H1 i g _ fun d v F2 H2 ⟨b, hd, hb⟩ s hv => by
  subst hd
  exact ⟨b, rp_bool hv, q b F2 H2 hb s⟩
theorem map_erase {α β : Type} (f : α → β) : ∀ (xs : List α) (j : Nat), (xs.map f).eraseIdx j = (xs.eraseIdx j).map f
  | [], j => by cases j <;> rfl
  | x :: xs, 0 => rfl
  | x :: xs, j + 1 => by
    show f x :: (xs.map f).eraseIdx j = f x :: (xs.eraseIdx j).map f
    rw [map_erase f xs j]
abbrev CalmD (mn : Str) (n m : Nat) (lots : List (List Int)) : PD := fun d => ∃ ks, d = dLT (sortL ks) ∧ calmP mn n m lots ks ∧ ks.length ≤ 12 ∧ ∀ r ∈ ks, Row n m r
abbrev spCalm (K : PySem.W.Frag) (mn : Str) : Sp := spQ K (fun i : Nat × Nat × List (List Int) => [.int i.1, .int i.2.1, dLT i.2.2, .str mn]) (fun i => 1 ≤ i.1 ∧ i.1 ≤ 5 ∧ 1 ≤ i.2.1 ∧ i.2.1 ≤ 4) (fun i => CalmD mn i.1 i.2.1 i.2.2)
theorem ok_calm {mn : Str} {f fD fR fC : Addr} {fd fdD fdR fdC : FuncData} (Fn : Fun K "_law_calm_rows" "_law_calm_rows" s_law_calm_rows f fd) (T : Tx mg)
    (F_law_draw : Fun K "_law_draw" "_law_draw" s_law_draw fD fdD) (b_law_draw : Binds K fdD ["_law_pot_here", "_law_many"] []) (g_law_draw : mg "_law_draw" = some (.ref fD))
    (F_law_rows : Fun K "_law_rows" "_law_rows" s_law_rows fR fdR) (b_law_rows : Binds K fdR ["_law_n", "_law_m"] []) (g_law_rows : mg "_law_rows" = some (.ref fR)) (G_law_rows : FnOk P w K mg base CX0 2 fR fdR ["_law_n", "_law_m"] (spRowsF K))
    (F_law_clash : Fun K "_law_clash" "_law_clash" s_law_clash fC fdC) (b_law_clash : Binds K fdC ["_law_rows_here", "_law_n", "_law_m", "_law_lots_here", "_law_manner"] []) (g_law_clash : mg "_law_clash" = some (.ref fC)) (G_law_clash : FnOk P w K mg base CX0 4 fC fdC ["_law_rows_here", "_law_n", "_law_m", "_law_lots_here", "_law_manner"] (spClash K mn)) :
    FnOk P w K mg base CX0 5 f fd ["_law_pot_here", "_law_n", "_law_m", "_law_lots_here", "_law_manner"] (spCalm K mn) := by
  have G_law_draw : FnOk P w K mg base CX0 1 fD fdD ["_law_pot_here", "_law_many"] (spDraw K) := ok_draw F_law_draw T
  refine Fn.ok sc_law_calm_rows (spQ.len (n := 4) (fun _ => rfl)) (fun cdv A outer s H vs Q E hr h => ?_)
  obtain ⟨q, ⟨n, m, lots⟩, F, as, rfl, ⟨n1, n5, m1, m4⟩, e, g, ha, k⟩ := h
  replace n1 : 1 ≤ n := n1
  replace n5 : n ≤ 5 := n5
  replace m1 : 1 ≤ m := m1
  replace m4 : m ≤ 4 := m4
  obtain ⟨v, x, y, z, rfl, hv, hx, hy, hz⟩ := rpAll4 ha
  refine ⟨_, (pss_cons (ps_set (i := 5) sc_law_calm_rows.nd rfl (by first | exact Or.inl rfl | exact Or.inr rfl) (pe_call G_law_rows (hr.mono (by decide)) (by rfl) g_law_rows F_law_rows.kp b_law_rows .nil pass0 (pa_cons (pv 1) (pa_cons (pv 2) pa_nil))))
    (pss_cons (ps_set (i := 6) sc_law_calm_rows.nd rfl (by first | exact Or.inl rfl | exact Or.inr rfl) (pe_lst pa_nil))
    (pss_cons (ps_for PassesOwn.never rfl (pi_range1 (by rfl) T.range (pa_cons (pe_ix (o_ixL (K := K)) (pe_lst (pa_cons pe_int (pa_cons pe_int (pa_cons pe_int (pa_cons pe_int pa_nil))))) (pe_call G_law_draw (hr.mono (by decide)) (by rfl) g_law_draw F_law_draw.kp b_law_draw .nil pass0 (pa_cons (pv 0) (pa_cons pe_int pa_nil))) (fun _ _ => rfl)) pa_nil)) (pg_name (i := 7) sc_law_calm_rows.nd rfl (by first | exact Or.inl rfl | exact Or.inr rfl)) (pss_one (ps_if (e_truth (K := K) (pv 5)) (pss_cons (ps_set (i := 8) sc_law_calm_rows.nd rfl (by first | exact Or.inl rfl | exact Or.inr rfl) (pe_bm PySem.F.plainAttrs_list PySem.F.slot_list_pop PySem.F.type_list_pop mt_popAt (pv 5) (pa_cons (pe_call G_law_draw (hr.mono (by decide)) (by rfl) g_law_draw F_law_draw.kp b_law_draw .nil pass0 (pa_cons (pv 0) (pa_cons (pe_callB (c_len (K := K)) (by rfl) T.len (by decide +kernel) (pa_cons (pv 5) pa_nil)) pa_nil))) pa_nil)))
    (pss_one (ps_if (pt_cmpR op_isN (pe_call G_law_clash (hr.mono (by decide)) (by rfl) g_law_clash F_law_clash.kp b_law_clash .nil pass0 (pa_cons (pe_op op_cat (pv 6) (pe_lst (pa_cons (pv 8) pa_nil))) (pa_cons (pv 1) (pa_cons (pv 2) (pa_cons (pv 3) (pa_cons (pv 4) pa_nil)))))) pe_non (nomark _)) (pss_one (ps_expr (pe_bm PySem.F.plainAttrs_list PySem.F.slot_list_append PySem.F.type_list_append mt_append (pv 6) (pa_cons (pv 8) pa_nil)))) pss_nil))) pss_nil)))
    (pss_one (ps_ret (pe_callB (c_sortLL (K := K) (hu65 hr)) (by rfl) T.sorted (by decide +kernel) (pa_cons (pv 6) pa_nil))))))), ?_⟩
  refine t_asgF (K := K) (n, m) (Step.refl e g) (gs_two (g_var rfl hv) (g_var rfl hx)) rfl ⟨n1, n5, m1, m4⟩ fun l F1 H1 s1 e1 hl hl0 => ?_
  obtain ⟨rl1, rl2⟩ := rows_len m n
  have rlen := pow_few m1 m4 n5 (Nat.le_refl n)
  refine t_thaw (K := K) g e s1 hl hl0 fun mm F2 H2 w2 e2 => ?_
  refine t_forHR (K := K) (RS := fun ds => ds.length ≤ 12) w2.step.inn w2.step.good ?hw
    (fun ds i σ' F' H' => ∃ b c ls ks, σ' = [some (.ref q.p), some v, some x, some y, some z, some (.ref l), some (.ref mm), b, c] ∧ Two K (some q) F H l mm F' H' (ls.map dT) (ks.map dT) ∧ Ex F F' ∧ (∀ r ∈ ls, Row n m r) ∧ (∀ r ∈ ks, Row n m r) ∧ calmP mn n m lots ks ∧ ks.length ≤ i ∧ ls.length ≤ 1100)
    (fun ds hds F3 H3 s3 => ⟨none, none, rowsOf m n, [], rfl, w2.run g s3, e2.trans s3.sub, fun r hr' => rl2 r hr', by simp, fun g hg => (by cases hg), Nat.le_refl _, by omega⟩) (fun ds i σ' F' H' ⟨_, _, _, _, _, w, _⟩ => w.step.inn) (fun ds hds i d hd σ' F' H' u hI e' hu N hN => ?_) (fun ds hds σ' F' H' hI e' => ?_)
  case hw =>
    exact fun H1 i g RR qq => w_rng1 (R0 := fun ds => ∃ k : Int, ds = [.int k] ∧ 0 ≤ k ∧ k ≤ 12) (fun H1 i g Q q => g_consR (R := fun d => ∃ k : Int, d = .int k ∧ 0 ≤ k ∧ k ≤ 12) (g_pick (c := 4) (g_lstI (gs_int (gs_int (gs_int (gs_int gs_nil)))) (by decide)) (g_callP (m := 4) rfl g_int (by decide)) (by decide) fun d hd => by
        simp only [List.mem_cons, List.not_mem_nil, or_false] at hd
        rcases hd with rfl | rfl | rfl | rfl <;> exact ⟨_, rfl, by decide, by decide⟩) H1 i g Q fun ds vs F2 H2 ⟨d, hd, k, hk, k0, k1⟩ s hv => q ds vs F2 H2 ⟨k, by rw [hd, hk], k0, k1⟩ s hv)
      (fun ds ⟨k, e, k0, k1⟩ => ⟨_, e, by omega, by omega⟩) H1 i g RR fun ds J F2 H2 ⟨n, ⟨k, e, k0, k1⟩, hl⟩ => qq ds J F2 H2 (by
        show ds.length ≤ 12
        rw [hl, rng_len]
        have : n = k := by simpa using e
        omega)
  · obtain ⟨b, c, ls, ks, rfl, w3, e3, hls, hks, hc, hkl, hll⟩ := hI
    have hil : i < ds.length := (List.getElem?_eq_some_iff.mp hd).1
    refine t_ifOwn2 w3 rfl (fun hne => ?_) (fun h0 => hN _ F' H' ⟨_, _, ls, ks, rfl, w3, e3, hls, hks, hc, by omega, hll⟩ (Ex.refl _))
    have hlpos : 1 ≤ ls.length := by
      cases ls with
      | nil => exact absurd rfl hne
      | cons a r => simp
    refine t_popAsg (K := K) g w3 rfl rfl (by rw [List.length_map]; constructor <;> omega) (by rw [List.length_map]; omega) (fun d ⟨k, hk, h0, h1⟩ => ⟨k.toNat, by rw [hk, show ((k.toNat : Nat) : Int) = k by omega], by omega⟩) fun j hj rv F4 H4 w4 e4 hrv => ?_
    have hj' : j < ls.length := by rw [List.length_map] at hj; exact hj
    have hrv2 : Rp K F4 rv (dT ls[j]) := by rw [List.getElem_map] at hrv; exact hrv
    have hrow := hls _ (List.getElem_mem hj')
    rw [map_erase] at w4
    have lsr : ∀ r ∈ ls.eraseIdx j, Row n m r := fun r hr' => hls r (List.mem_of_mem_eraseIdx hr')
    have lsl : (ls.eraseIdx j).length ≤ 1100 := by
      have := List.length_eraseIdx_le ls j; omega
    have e34 := e3.trans e4
    refine t_if2Fix (K := K) (b := fun c => c = true → calmP mn n m lots (ks ++ [ls[j]])) g w4 (fun Fp ep hl2 => et_ofR ((g_op (R3 := fun z => ∃ b, z = .bool b ∧ (b = true → calmP mn n m lots (ks ++ [ls[j]]))) (g_callR (n, m, ks ++ [ls[j]], lots) (gs_consI ((g_opI (g_var rfl hl2) (g_lstI (gs_one (g_var rfl (Rp.mono ep _ _ hrv2))) (by simp)) (rv_cat (by simp only [List.length_map, List.length_cons, List.length_nil]; omega))).is (by simp [dLT])) (gs_consI (g_var rfl (Rp.mono (e34.trans ep) _ _ hv)) (gs_three (g_var rfl (Rp.mono (e34.trans ep) _ _ hx)) (g_var rfl (Rp.mono (e34.trans ep) _ _ hy)) (g_var rfl (Rp.mono (e34.trans ep) _ _ hz))))) rfl ⟨n1, n5, m4, by simp; omega, fun r hr' => ?_⟩) g_non fun d1 d2 h1 h2 => ?_))) (fun hb F5 H5 w5 e5 => ?_) (fun hb F5 H5 w5 e5 => ?_)
    · rcases List.mem_append.mp hr' with h | h
      · exact (hks r h).1
      · rw [List.mem_singleton.mp h]; exact hrow.1
    · subst h2
      intro F H x y i hx hy Q q
      refine rv_isN F H x y i hx hy Q fun z v F2 H2 hz s hv => q z v F2 H2 ⟨isNone d1, hz, fun hn => ?_⟩ s hv
      rcases h1 with ⟨_, hc⟩ | ⟨g, rfl⟩
      · exact hc
      · cases hn
    · refine t_app2 (K := K) g w5 rfl (g_var rfl (Rp.mono e5 _ _ hrv2)) (by rw [List.length_map]; omega) fun d6 F6 H6 hd6 w6 e6 => ?_
      subst hd6
      refine hN _ F6 H6 ⟨_, _, ls.eraseIdx j, ks ++ [ls[j]], rfl, ?_, (e34.trans e5).trans e6, lsr, fun r hr' => ?_, hb rfl, by simp; omega, lsl⟩ ((e4.trans e5).trans e6)
      · rw [List.map_append]; exact w6
      · rcases List.mem_append.mp hr' with h | h
        · exact hks r h
        · rw [List.mem_singleton.mp h]; exact hrow
    · exact hN _ F5 H5 ⟨_, _, ls.eraseIdx j, ks, rfl, w5, e34.trans e5, lsr, hks, hc, by omega, lsl⟩ (e4.trans e5)
  · obtain ⟨b, c, ls, ks, rfl, w3, e3, hls, hks, hc, hkl, hll⟩ := hI
    obtain ⟨F4, s4, e4, r4⟩ := w3.gst.done g w3.h2
    refine t_ret (K := K) s4 (g_sortLL (ls := ks) (g_var rfl r4) (.inl fun r hr' z => ?_)) fun d v F5 H5 hd s5 hv5 => k d v F5 H5 ⟨ks, hd, hc, by omega, hks⟩ s5 hv5
    have := (hks r hr').1
    rw [z] at this
    simp at this; omega
end
end KC

namespace KC
open PySem PySem.Spec PyProof.Rows L2 L2H Fv Evl StX
abbrev s_law_wild_told : Stmt := topS 74
theorem sc_law_wild_told : FnScope ["_law_pot_here", "_law_rows_here", "_law_m", "_law_told", "_law_row"] ["_law_pot_here", "_law_rows_here", "_law_m"] (defScope s_law_wild_told) := ⟨rfl, rfl, rfl, by decide +kernel, rfl, by decide +kernel, by decide +kernel⟩
abbrev s_law_table : Stmt := topS 75
theorem sc_law_table : FnScope ["_law_rows_here", "_law_told", "_law_row"] ["_law_rows_here", "_law_told"] (defScope s_law_table) := ⟨rfl, rfl, rfl, by decide +kernel, rfl, by decide +kernel, by decide +kernel⟩
/-- what a dict tells of a row -/
def tv (kvs : List (List Key × V)) (r : List Int) : Int := match valV kvs (key r) with
  | some (.int k) => k
  | _ => 0
abbrev TAll (kvs : List (List Key × V)) (m : Nat) : Prop := ∀ ks v, valV kvs ks = some v → ∃ k : Int, v = .int k ∧ 0 ≤ k ∧ k < (m : Int)
abbrev Told (kvs : List (List Key × V)) (R : List (List Int)) (m : Nat) : Prop := (∀ r ∈ R, valV kvs (key r) = some (.int (tv kvs r)) ∧ 0 ≤ tv kvs r ∧ tv kvs r < (m : Int)) ∧ TAll kvs m
theorem tall_put {kvs : List (List Key × V)} {m : Nat} {ks : List Key} {k : Int} (h : TAll kvs m) (h0 : 0 ≤ k) (h1 : k < (m : Int)) : TAll (putK kvs ks (.int k)) m := fun js v hv => by
  rw [valV_put] at hv
  by_cases z : js = ks
  · rw [if_pos z] at hv
    exact ⟨k, (Option.some.inj hv).symm, h0, h1⟩
  · rw [if_neg z] at hv
    exact h js v hv
theorem told_put {kvs : List (List Key × V)} {R : List (List Int)} {m : Nat} {r : List Int} {k : Int} (h : Told kvs R m) (h0 : 0 ≤ k) (h1 : k < (m : Int)) : Told (putK kvs (key r) (.int k)) (R ++ [r]) m := ⟨fun x hx => by
  have e : valV (putK kvs (key r) (.int k)) (key x) = if x = r then some (.int k) else valV kvs (key x) := by
    rw [valV_put]
    by_cases z : x = r
    · rw [z, if_pos rfl, if_pos rfl]
    · rw [if_neg z, if_neg (fun y => z (key_inj y))]
  by_cases z : x = r
  · have : tv (putK kvs (key r) (.int k)) x = k := by unfold tv; rw [e, if_pos z]
    rw [e, if_pos z, this]
    exact ⟨rfl, h0, h1⟩
  · have hx' : x ∈ R := by
      rcases List.mem_append.mp hx with y | y
      · exact y
      · exact absurd (List.mem_singleton.mp y) z
    have : tv (putK kvs (key r) (.int k)) x = tv kvs x := by unfold tv; rw [e, if_neg z]
    rw [e, if_neg z, this]
    exact h.1 x hx', tall_put h.2 h0 h1⟩
/-- a dict of one's own -/
structure Dst (pt : Option Pt) (F0 H0 : Hp) (D : Addr) (F H : Hp) (kvs : List (List Key × V)) : Prop where
  step : Step pt F0 H0 F H
  off : F D = none
  at_ : H D = some (.dT kvs)
section
variable {P : Program} {w : World} {K : PySem.W.Frag} {mg : Str → Option Value} {base : Heap} {CO : Addr}
variable {pt : Option Pt} {σ : L2.St} {F F' F0 H0 H F2 H2 : Hp} {te ta tb ty td : TE} {ts tr : TA} {t : TT} {D : Ends} {tz tu tw : TS} {l : Addr} {kvs : List (List Key × V)} {wi : TI}
theorem Dst.run (g0 : Good pt F0 H0) (h0 : H0 l = none) (g : Dst pt F0 H0 l F H kvs) (s : Step pt F H F2 H2) : Dst pt F0 H0 l F2 H2 kvs :=
  ⟨g.step.trans s, s.new l g.off (by rw [g.at_]; simp), s.keep l _ (fun q hq => (off_pot g0 h0 q hq).1) g.at_⟩
theorem Dst.done (g0 : Good pt F0 H0) (h0 : H0 l = none) (g : Dst pt F0 H0 l F H kvs) : ∃ F2, Step pt F0 H0 F2 H ∧ Ex F F2 ∧ F2 l = some (.dT kvs) := by
  have e1 : Ex F (upd F l (.dT kvs)) := Ex.new g.off
  refine ⟨upd F l (.dT kvs), ⟨g.step.sub.trans e1, fun b u hb => ?_, g.step.keep, fun q hq => ⟨?_, (g.step.good q hq).2⟩, fun b h1 h2 => ?_⟩, e1, upd_same⟩
  · by_cases z : b = l
    · rw [z, upd_same] at hb; rw [z, g.at_]; exact hb
    · rw [upd_ne z] at hb; exact g.step.inn b u hb
  · rw [upd_ne (off_pot g0 h0 q hq).1.symm]; exact (g.step.good q hq).1
  · have z : b ≠ l := loose_ne h2 h0
    rw [upd_ne z]; exact g.step.new b h1 h2
theorem t_newD {i : Nat} (s : Step pt F0 H0 F H) (q : ∀ l, H l = none → H0 l = none → Dst pt F0 H0 l F (upd H l (.dT [])) [] → tz D (σ.set i (some (.ref l))) (upd H l (.dT []))) : tSeq (tAsg tDNewT (gName i)) tz D σ H := fun l hl =>
  q l hl (s.back l hl) ⟨s.trans (.litter s.inn s.good hl), (by
    cases w : F l with
    | none => rfl
    | some o => rw [s.inn _ _ w] at hl; cases hl), upd_same⟩
theorem t_forD {j : Nat} {ds : List PyData} (g0 : Good pt F0 H0) (h0 : H0 l = none) (g : Dst pt F0 H0 l F H kvs) (hw : WiG K pt wi σ F (· = ds)) (I : Nat → L2.St → List (List Key × V) → Prop) (hi : I 0 σ kvs)
    (hs : ∀ i d, ds[i]? = some d → ∀ σ' F' H' x k', I i σ' k' → Dst pt F0 H0 l F' H' k' → Ex F F' → Rp K F' x d →
      ∀ N : L2.St → Hp → Prop, (∀ σ2 F2 H2 k2, I (i + 1) σ2 k2 → Dst pt F0 H0 l F2 H2 k2 → Ex F' F2 → N σ2 H2) → tu { D with nx := N, ct := N, bk := tz D } (σ'.set j (some x)) H')
    (hd : ∀ σ' F' H' k', I ds.length σ' k' → Dst pt F0 H0 l F' H' k' → Ex F F' → tz D σ' H') : tSeq (tFor wi (gName j) tu) tz D σ H :=
  hw H g.step.inn g.step.good _ fun ds' J F1 H1 e s1 Y => by
    subst e
    refine ⟨fun i m σ' H' => m = ds'.length - i ∧ i ≤ ds'.length ∧ ∃ F' k', Dst pt F0 H0 l F' H' k' ∧ Ex F1 F' ∧ I i σ' k', ⟨ds'.length, by simp, Nat.zero_le _, F1, kvs, g.run g0 h0 s1, Ex.refl _, hi⟩, ?_⟩
    rintro i m σ' H' ⟨rfl, hil, F', k', g', e', p⟩
    have eH : Ex F1 H' := e'.trans g'.step.inn
    by_cases hlt : i < ds'.length
    · refine .inr ⟨Y.go i H' eH hlt, fun σ2 H2 => ∃ F2 k2, Dst pt F0 H0 l F2 H2 k2 ∧ Ex F1 F2 ∧ I (i + 1) σ2 k2, fun σ2 H2 ⟨F2, k2, a, b, c⟩ => ⟨ds'.length - (i + 1), by omega, rfl, hlt, F2, k2, a, b, c⟩, fun x H2 y => ?_⟩
      obtain ⟨rfl, d, hdd, hx⟩ := Y.yld i H' x H2 eH hlt y
      exact hs i d hdd σ' F' _ x k' p g' (s1.sub.trans e') (Rp.mono e' _ _ hx) _ fun σ2 F2 H2 k2 a b c => ⟨F2, k2, b, e'.trans c, a⟩
    · have hE : i = ds'.length := Nat.le_antisymm hil (Nat.le_of_not_lt hlt)
      subst hE
      exact .inl ⟨Y.stop H' eH, hd σ' F' H' k' p g' (s1.sub.trans e')⟩
/-- d[row] = e, e drawn -/
theorem t_putD {i j : Nat} {r : List Int} {u : V} {Pk : Int → Prop} (g0 : Good pt F0 H0) (h0 : H0 l = none) (g : Dst pt F0 H0 l F H kvs) (hi : σ[i]? = some (some (.ref l))) (hj : σ[j]? = some (some u)) (hu : Rp K F u (dT r)) (hz : kvs.length < 50000) (h : EvG K pt te σ F (fun d => ∃ k : Int, d = .int k ∧ Pk k))
    (q : ∀ k F2 H2, Pk k → Dst pt F0 H0 l F2 H2 (putK kvs (key r) (.int k)) → Ex F F2 → D.nx σ H2) : tAsg te (gSub (tVar i) (tVar j) rSetD) D σ H :=
  h H g.step.inn g.step.good _ fun d v F2 H2 ⟨k, hd, hk⟩ s hv => by
    subst hd
    obtain rfl := rp_int hv
    have g2 := g.run g0 h0 s
    obtain ⟨a, xs, rfl, hl, ha⟩ := rp_tup hu
    have e1 := rpAll_ints ha
    subst e1
    refine ⟨.ref l, hi, .ref a, hj, l, upd H2 l (.dT (putK kvs (key r) (.int k))), rfl, .inr ⟨kvs, key r, a, g2.at_, rfl, by rw [key_kV]; exact g2.step.inn _ _ (s.sub _ _ hl), Nat.lt_of_lt_of_le hz (by decide), rfl⟩, ?_⟩
    exact q k F2 _ hk ⟨g2.step.put g0 h0 g2.off, g2.off, upd_same⟩ s.sub
def spWild (K : PySem.W.Frag) : Sp := fun vs H Q _ => ∃ (q : Pt) (R : List (List Int)) (m : Nat) (F : Hp) (v : V), vs = [.ref q.p, v, .int m] ∧ (R.length ≤ 100 ∧ 1 ≤ m ∧ m ≤ 4) ∧ Ex F H ∧ Good (some q) F H ∧ Rp K F v (dLT R) ∧
  ∀ D kvs F2 H2, H D = none → Told kvs R m → kvs.length ≤ 10000 → Step (some q) F H F2 H2 → F2 D = some (.dT kvs) → Q (.ref D) H2
theorem ok_wild {f fD : Addr} {fd fdD : FuncData} (Fn : Fun K "_law_wild_told" "_law_wild_told" s_law_wild_told f fd) (T : Tx mg)
    (F_law_draw : Fun K "_law_draw" "_law_draw" s_law_draw fD fdD) (b_law_draw : Binds K fdD ["_law_pot_here", "_law_many"] []) (g_law_draw : mg "_law_draw" = some (.ref fD)) : FnOk P w K mg base CX0 2 f fd ["_law_pot_here", "_law_rows_here", "_law_m"] (spWild K) := by
  have G_law_draw : FnOk P w K mg base CX0 1 fD fdD ["_law_pot_here", "_law_many"] (spDraw K) := ok_draw F_law_draw T
  refine Fn.ok sc_law_wild_told (fun vs H Q E ⟨_, _, _, _, _, h, _⟩ => by rw [h]; rfl) (fun cdv A outer s H vs Q E hr h => ?_)
  obtain ⟨q, R, m, F, v, rfl, ⟨hz, m1, m4⟩, e, g, hv, k⟩ := h
  refine ⟨_, (pss_cons (ps_set (i := 3) sc_law_wild_told.nd rfl (by first | exact Or.inl rfl | exact Or.inr rfl) pe_dnewT)
    (pss_cons (ps_for PassesOwn.never rfl (i_list (K := K) (pv 1)) (pg_name (i := 4) sc_law_wild_told.nd rfl (by first | exact Or.inl rfl | exact Or.inr rfl)) (pss_one (ps_asg (pe_call G_law_draw (hr.mono (by decide)) (by rfl) g_law_draw F_law_draw.kp b_law_draw .nil pass0 (pa_cons (pv 0) (pa_cons (pv 2) pa_nil))) (pg_sub (pv 3) (pv 4) (set_dict (hu_of hr))))))
    (pss_one (ps_ret (pv 3))))), ?_⟩
  refine t_newD (Step.refl e g) fun l h0 _ g1 => ?_
  have g0 : Good (some q) F H := g
  refine t_forD (K := K) (ds := R.map dT) g0 h0 g1 (w_listI (g_var rfl hv)) (fun i σ' k' => (∃ z, σ' = [some (.ref q.p), some v, some (.int m), some (.ref l), z]) ∧ Told k' (R.take i) m ∧ k'.length ≤ i) ⟨⟨none, rfl⟩, ⟨(fun r hr' => by simp at hr'), (fun ks v h => by simp [valV_nil] at h)⟩, Nat.le_refl _⟩ (fun i d hd σ' F' H' u k' hI g' e' hu N hN => ?_) (fun σ' F' H' k' hI g' e' => ?_)
  · obtain ⟨⟨z, rfl⟩, hT, hkl⟩ := hI
    obtain ⟨r, hr2, rfl⟩ := get_map hd
    have hil : i < R.length := (List.getElem?_eq_some_iff.mp hr2).1
    refine t_putD (K := K) (i := 3) (j := 4) (Pk := fun j => 0 ≤ j ∧ j < (m : Int)) g0 h0 g' rfl rfl hu (by omega) (g_callP (m := (m : Int)) rfl (g_var (v := .int m) (d := .int m) rfl (.int _)) ⟨by omega, by omega⟩) fun j F3 H3 hj g3 e3 => ?_
    refine hN _ F3 H3 _ ⟨⟨_, rfl⟩, ?_, ?_⟩ g3 e3
    · rw [take_succA hr2]; exact told_put hT hj.1 hj.2
    · have := length_putK k' (key r) (.int j); omega
  · obtain ⟨⟨z, rfl⟩, hT, hkl⟩ := hI
    rw [List.length_map, List.take_length] at hT
    obtain ⟨F2, s2, e2, r2⟩ := g'.done g0 h0
    exact ⟨_, rfl, k l k' F2 H' h0 hT (by rw [List.length_map] at hkl; omega) s2 r2⟩
theorem x_out {pt : Option Pt} {C : Addr} {E : XK} {R : List (List Int)} {us : List Int} (h : EvsG K pt ts σ F (· = [dTT R, dT us])) (h1 : R.length ≤ 300 ∧ us.length ≤ 300 ∧ ∀ r ∈ R, r.length ≤ 1000) :
    EvX pt (tMake C (spOut K C) [] E ts) σ F (fun v F2 => ∃ x, v = .ref x ∧ Oc K C F2 x R us) := fun H1 i g Q q =>
  h H1 i g _ fun ds vs F2 H2 hd s hv => by
    subst hd
    obtain ⟨a, v, rfl, ha, hv⟩ := rpAll2 hv
    intro x dx hx hdx hne
    have fr : ∀ {a : Addr}, H2 a = none → F2 a = none := fun {a} h => by
      cases w : F2 a with
      | none => rfl
      | some o => rw [s.inn _ _ w] at h; cases h
    have n1 : (upd H2 dx (.own x)) x = none := by rw [upd_ne hne.symm]; exact hx
    have e1 : Ex H2 (upd (upd H2 dx (.own x)) x (.ins C dx [])) := (Ex.new hdx).trans (Ex.new n1)
    refine ⟨x, dx, R, us, F2, a, v, rfl, upd_same, by rw [upd_ne hne]; exact upd_same, hne, fr hx, fr hdx, s.inn.trans e1, ha, hv, h1.1, h1.2.1, h1.2.2, fun F3 H3 s3 oc => ⟨rfl, ?_⟩⟩
    have back : Fv.del (Fv.del (upd (upd H2 dx (.own x)) x (.ins C dx [])) x) dx = H2 := by
      funext b
      by_cases z : b = dx
      · rw [z, Fv.del_same, hdx]
      · rw [Fv.del_ne z]
        by_cases y : b = x
        · rw [y, Fv.del_same, hx]
        · rw [Fv.del_ne y, upd_ne y, upd_ne z]
    rw [back] at s3
    exact q _ F3 H3 ⟨x, rfl, oc⟩ (s.trans (s3.lift s.good))
def spTab (K : PySem.W.Frag) (CO : Addr) : Sp := fun vs H Q _ => ∃ (R : List (List Int)) (D : Addr) (kvs : List (List Key × V)) (m : Nat) (F : Hp) (v : V), vs = [v, .ref D] ∧ (R.length ≤ 300 ∧ (∀ r ∈ R, r.length ≤ 1000) ∧ Told kvs R m) ∧ Ex F H ∧ F D = some (.dT kvs) ∧ Rp K F v (dLT R) ∧
  ∀ x F2 H2, Step none F H F2 H2 → Oc K CO F2 x R (R.map (tv kvs)) → Q (.ref x) H2
theorem ok_tab {f fN : Addr} {fd fdN : FuncData} (Fn : Fun K "_law_table" "_law_table" s_law_table f fd) (T : Tx mg) (M_Outcomes : Mk K CO fN) (g_Outcomes : mg "Outcomes" = some (.ref CO)) (G_Outcomes : FnOk P w K mg base CX0 5 fN fdN ["self", "inputs", "told"] (spOut K CO)) (b_Outcomes : Binds K fdN ["self", "inputs", "told"] []) :
    FnOk P w K mg base CX0 7 f fd ["_law_rows_here", "_law_told"] (spTab K CO) := by
  refine Fn.ok sc_law_table (fun vs H Q E ⟨_, _, _, _, _, _, h, _⟩ => by rw [h]; rfl) (fun cdv A outer s H vs Q E hr h => ?_)
  obtain ⟨R, D, kvs, m, F, v, rfl, ⟨h1, h2, h3⟩, e, hD, hv, q⟩ := h
  refine ⟨_, (pss_one (ps_ret (pe_make M_Outcomes G_Outcomes (hr.mono (by decide)) (by rfl) g_Outcomes b_Outcomes .nil pass0 (pa_cons (pe_callTy (c_tup (K := K)) (by rfl) T.tuple (by decide +kernel) (pa_cons (pv 0) pa_nil)) (pa_cons (pe_callTy (c_tup (K := K)) (by rfl) T.tuple (by decide +kernel) (pa_cons (pe_lc (own := [("_law_row", 2)]) (g := gName 2) rfl sc_law_table.nd (i_list (K := K) (pv 0)) (blkOk_by (own := [("_law_row", 2)]) (N := ["_law_rows_here", "_law_told", "_law_row"]) (sc := (defScope s_law_table)) (by decide +kernel)) (fun _ _ _ _ _ => pg_name (i := 2) sc_law_table.nd rfl (by first | exact Or.inl rfl | exact Or.inr rfl)) (fun _ _ _ _ _ => pts_nil) (fun _ _ _ _ _ => (pe_dget (hu_of hr) (pv 1) (pv 2) (fun _ _ => rfl)))) pa_nil)) pa_nil))))), ?_⟩
  refine t_retX (Step.refl e .nil) (x_out (R := R) (us := R.map (tv kvs)) (gs_two (g_cbI (gs_one (g_var rfl hv)) rc_tupL) ((g_cbI (gs_one (g_lcEM dT R (fun r => .int (tv kvs r)) (w_listI (g_var rfl hv)) (by omega) (fun _ => rfl) fun r hr' F' e' y hy =>
    g_dget (kvs := kvs) (m := r) (fun H1 i g Q q => ⟨_, rfl, q _ F' H1 ⟨D, rfl, e' _ _ hD⟩ (.refl i g)⟩) (fun F'' e'' => g_var rfl (Rp.mono e'' _ _ hy)) (h3.1 r hr').1)) rc_tupL).is (congrArg PyData.tuple (by rw [List.map_map]; rfl)))) ⟨h1, by rw [List.length_map]; exact h1, h2⟩) fun z F3 H3 ⟨x, ez, oc⟩ s3 => ?_
  rw [ez]
  exact q x F3 H3 s3 oc
end
end KC

namespace KC
open PySem PySem.Spec PyProof.Rows L2 L2H Fv Evl StX
abbrev s_law_any_told : Stmt := topS 73
theorem sc_law_any_told : FnScope ["_law_pot_here", "_law_rows_here", "_law_m", "_law_lots_here", "_law_manner", "_law_told", "_law_group", "_law_fitting", "_law_value", "_law_row"] ["_law_pot_here", "_law_rows_here", "_law_m", "_law_lots_here", "_law_manner"] (defScope s_law_any_told) := ⟨rfl, rfl, rfl, by decide +kernel, rfl, by decide +kernel, by decide +kernel⟩
theorem lists_of : ∀ {ds : List PyData}, (∀ d ∈ ds, ∃ g : List (List Int), d = dLT g) → ∃ gs : List (List (List Int)), ds = gs.map dLT
  | [], _ => ⟨[], rfl⟩
  | d :: ds, h => by
    obtain ⟨g, rfl⟩ := h d (by simp)
    obtain ⟨gs, rfl⟩ := lists_of (ds := ds) fun x hx => h x (List.mem_cons_of_mem _ hx)
    exact ⟨g :: gs, rfl⟩
theorem dLT_inj {a b : List (List Int)} (h : dLT a = dLT b) : a = b := by
  injection h with h
  exact (List.map_inj_right (fun x y h => dT_inj h)).mp h
/-- the groups, in their order -/
theorem grps_list (n : Nat) (lots R : List (List Int)) : ∃ gs : List (List (List Int)), sortD ((grpsOf n lots R).map fun g => dLT (sortL g)) = gs.map dLT ∧ gs.length ≤ R.length ∧ (∀ g ∈ gs, ∃ g0 ∈ grpsOf n lots R, g = sortL g0) ∧ ∀ r ∈ R, ∃ g ∈ gs, r ∈ g := by
  have mem : ∀ d ∈ sortD ((grpsOf n lots R).map fun g => dLT (sortL g)), ∃ g ∈ grpsOf n lots R, d = dLT (sortL g) := fun d hd => by
    obtain ⟨g, hg, rfl⟩ := List.mem_map.mp ((sortD_perm _).mem_iff.mp hd)
    exact ⟨g, hg, rfl⟩
  obtain ⟨gs, hgs⟩ := lists_of (ds := sortD ((grpsOf n lots R).map fun g => dLT (sortL g))) fun d hd => by
    obtain ⟨g, _, h⟩ := mem d hd
    exact ⟨_, h⟩
  refine ⟨gs, hgs, ?_, fun g hg => ?_, fun r hr => ?_⟩
  · have h1 := (sortD_perm ((grpsOf n lots R).map fun g => dLT (sortL g))).length_eq
    rw [hgs, List.length_map, List.length_map] at h1
    have := (grps_few n lots R).1
    omega
  · obtain ⟨g0, h0, h1⟩ := mem (dLT g) (by rw [hgs]; exact List.mem_map.mpr ⟨g, hg, rfl⟩)
    exact ⟨g0, h0, dLT_inj h1⟩
  · obtain ⟨g0, h0, h1⟩ := ((Grp.right_groups (nearN_symm n lots) R).all r).mp hr
    have h2 : dLT (sortL g0) ∈ gs.map dLT := by
      rw [← hgs]; exact (sortD_perm _).mem_iff.mpr (List.mem_map.mpr ⟨g0, h0, rfl⟩)
    obtain ⟨g, hg, h3⟩ := List.mem_map.mp h2
    exact ⟨g, hg, by rw [dLT_inj h3]; exact (sortL_perm g0).mem_iff.mpr h1⟩
section
variable {P : Program} {w : World} {K : PySem.W.Frag} {mg : Str → Option Value} {base : Heap} {CO : Addr}
variable {pt : Option Pt} {σ : L2.St} {F F' F0 H0 H F2 H2 : Hp} {te ta tb ty td : TE} {ts tr : TA} {t : TT} {D : Ends} {tz tu tw : TS} {l : Addr} {kvs : List (List Key × V)} {wi : TI}
theorem told_less {kvs : List (List Key × V)} {A B : List (List Int)} {m : Nat} (h : Told kvs A m) (hs : ∀ r ∈ B, r ∈ A) : Told kvs B m := ⟨fun r hr => h.1 r (hs r hr), h.2⟩
theorem t_forD1 {j : Nat} {ds : List PyData} (g0 : Good pt F0 H0) (h0 : H0 l = none) (g : Dst pt F0 H0 l F H kvs) (hw : WiG K pt wi σ F (· = ds)) (I : Nat → L2.St → List (List Key × V) → Prop) (hi : I 0 σ kvs)
    (hs : ∀ i d, ds[i]? = some d → ∀ σ' F' H' x k', I i σ' k' → Dst pt F0 H0 l F' H' k' → Ex F F' → Rp K F' x d →
      ∀ N : L2.St → Hp → Prop, (∀ σ2 F2 H2 k2, I (i + 1) σ2 k2 → Dst pt F0 H0 l F2 H2 k2 → Ex F' F2 → N σ2 H2) → tu { D with nx := N, ct := N, bk := D.nx } (σ'.set j (some x)) H')
    (hd : ∀ σ' F' H' k', I ds.length σ' k' → Dst pt F0 H0 l F' H' k' → Ex F F' → D.nx σ' H') : tFor wi (gName j) tu D σ H :=
  t_forD (tz := fun _ => D.nx) (D := D) g0 h0 g hw I hi hs hd
theorem tv_put {kvs : List (List Key × V)} {r x : List Int} {k : Int} : tv (putK kvs (key r) (.int k)) x = if x = r then k else tv kvs x := by
  unfold tv
  rw [valV_put]
  by_cases z : x = r
  · rw [z, if_pos rfl, if_pos rfl]
  · rw [if_neg z, if_neg (fun y => z (key_inj y))]
/-- one value for each group -/
abbrev OneV (n : Nat) (lots R : List (List Int)) (kvs : List (List Key × V)) : Prop := ∀ g ∈ grpsOf n lots R, ∀ x ∈ g, ∀ y ∈ g, tv kvs x = tv kvs y
def spAny (K : PySem.W.Frag) (mn : Str) : Sp := fun vs H Q _ => ∃ (q : Pt) (R lots : List (List Int)) (n m : Nat) (F : Hp) (v y z : V), vs = [.ref q.p, v, .int m, y, z] ∧ (1 ≤ n ∧ n ≤ 5 ∧ R.length ≤ 60 ∧ (∀ r ∈ R, r.length = n) ∧ 1 ≤ m ∧ m ≤ 4 ∧ calmP mn n m lots R) ∧ Ex F H ∧ Good (some q) F H ∧ Rp K F v (dLT R) ∧ Rp K F y (dLT lots) ∧ Rp K F z (.str mn) ∧
  ∀ D kvs F2 H2, H D = none → Told kvs R m → OneV n lots R kvs → kvs.length ≤ 10000 → Step (some q) F H F2 H2 → F2 D = some (.dT kvs) → Q (.ref D) H2
theorem ok_any {mn : Str} {f fD fG fV : Addr} {fd fdD fdG fdV : FuncData} (Fn : Fun K "_law_any_told" "_law_any_told" s_law_any_told f fd) (T : Tx mg)
    (F_law_draw : Fun K "_law_draw" "_law_draw" s_law_draw fD fdD) (b_law_draw : Binds K fdD ["_law_pot_here", "_law_many"] []) (g_law_draw : mg "_law_draw" = some (.ref fD))
    (F_law_groups : Fun K "_law_groups" "_law_groups" s_law_groups fG fdG) (b_law_groups : Binds K fdG ["_law_rows_here", "_law_lots_here", "_law_manner"] []) (g_law_groups : mg "_law_groups" = some (.ref fG)) (G_law_groups : FnOk P w K mg base CX0 3 fG fdG ["_law_rows_here", "_law_lots_here", "_law_manner"] (spGrps K mn))
    (F_law_values : Fun K "_law_values" "_law_values" s_law_values fV fdV) (b_law_values : Binds K fdV ["_law_group", "_law_m", "_law_lots_here", "_law_manner"] []) (g_law_values : mg "_law_values" = some (.ref fV)) (G_law_values : FnOk P w K mg base CX0 3 fV fdV ["_law_group", "_law_m", "_law_lots_here", "_law_manner"] (spLVals K)) :
    FnOk P w K mg base CX0 4 f fd ["_law_pot_here", "_law_rows_here", "_law_m", "_law_lots_here", "_law_manner"] (spAny K mn) := by
  have G_law_draw : FnOk P w K mg base CX0 1 fD fdD ["_law_pot_here", "_law_many"] (spDraw K) := ok_draw F_law_draw T
  refine Fn.ok sc_law_any_told (fun vs H Q E ⟨_, _, _, _, _, _, _, _, _, h, _⟩ => by rw [h]; rfl) (fun cdv A outer s H vs Q E hr h => ?_)
  obtain ⟨q, R, lots, n, m, F, v, y, z, rfl, ⟨n1, n5, hz, hrow, m1, m4, calm⟩, e, g, hv, hy, hzz, k⟩ := h
  obtain ⟨gs, hgs, gl, gin, gall⟩ := grps_list n lots R
  have few := grps_few n lots R
  refine ⟨_, (pss_cons (ps_set (i := 5) sc_law_any_told.nd rfl (by first | exact Or.inl rfl | exact Or.inr rfl) pe_dnewT)
    (pss_cons (ps_for PassesOwn.never rfl (i_list (K := K) (pe_call G_law_groups (hr.mono (by decide)) (by rfl) g_law_groups F_law_groups.kp b_law_groups .nil pass0 (pa_cons (pv 1) (pa_cons (pv 3) (pa_cons (pv 4) pa_nil))))) (pg_name (i := 6) sc_law_any_told.nd rfl (by first | exact Or.inl rfl | exact Or.inr rfl)) (pss_cons (ps_set (i := 7) sc_law_any_told.nd rfl (by first | exact Or.inl rfl | exact Or.inr rfl) (pe_call G_law_values (hr.mono (by decide)) (by rfl) g_law_values F_law_values.kp b_law_values .nil pass0 (pa_cons (pv 6) (pa_cons (pv 2) (pa_cons (pv 3) (pa_cons (pv 4) pa_nil))))))
    (pss_cons (ps_set (i := 8) sc_law_any_told.nd rfl (by first | exact Or.inl rfl | exact Or.inr rfl) (pe_ix (o_ixL (K := K)) (pv 7) (pe_call G_law_draw (hr.mono (by decide)) (by rfl) g_law_draw F_law_draw.kp b_law_draw .nil pass0 (pa_cons (pv 0) (pa_cons (pe_callB (c_len (K := K)) (by rfl) T.len (by decide +kernel) (pa_cons (pv 7) pa_nil)) pa_nil))) (fun _ _ => rfl)))
    (pss_one (ps_for PassesOwn.never rfl (i_list (K := K) (pv 6)) (pg_name (i := 9) sc_law_any_told.nd rfl (by first | exact Or.inl rfl | exact Or.inr rfl)) (pss_one (ps_asg (pv 8) (pg_sub (pv 5) (pv 9) (set_dict (hu_of hr))))))))))
    (pss_one (ps_ret (pv 5))))), ?_⟩
  refine t_newD (Step.refl e g) fun l h0 _ g1 => ?_
  have g0 : Good (some q) F H := g
  refine t_forD (K := K) (ds := gs.map dLT) g0 h0 g1 (w_listI ((g_call (n, R, lots) (gs_three (g_var rfl hv) (g_var rfl hy) (g_var rfl hzz)) rfl ⟨n1, n5, hz, hrow⟩).is (congrArg PyData.list hgs)))
    (fun i σ' k' => (∃ a b c d, σ' = [some (.ref q.p), some v, some (.int m), some y, some z, some (.ref l), a, b, c, d]) ∧ Told k' ((gs.take i).flatten) m ∧ k'.length ≤ i * 60 ∧ ∀ g ∈ gs.take i, ∀ x ∈ g, ∀ y ∈ g, tv k' x = tv k' y) ⟨⟨none, none, none, none, rfl⟩, ⟨(fun r hr' => by simp at hr'), (fun ks v h => by simp [valV_nil] at h)⟩, Nat.zero_le _, fun g h => by simp at h⟩ (fun i d hd σ' F' H' u k' hI g' e' hu N hN => ?_) (fun σ' F' H' k' hI g' e' => ?_)
  · obtain ⟨⟨a, b, c, d, rfl⟩, hT, hkl, hone⟩ := hI
    obtain ⟨grp, hgr, rfl⟩ := get_map hd
    have hil : i < gs.length := (List.getElem?_eq_some_iff.mp hgr).1
    obtain ⟨gg, hgg, rfl⟩ := gin grp (List.mem_of_getElem? hgr)
    have sl : (sortL gg).length = gg.length := (sortL_perm gg).length_eq
    have ggl := few.2 gg hgg
    have ne := calm gg hgg
    rw [← vals_sort] at ne
    have vb : ∀ x ∈ lawVals lots mn (sortL gg) m, 0 ≤ x ∧ x < (m : Int) := fun x hx => hs_mem.mp (List.mem_filter.mp hx).1
    have vl : (lawVals lots mn (sortL gg) m).length ≤ 4 := Nat.le_trans (List.length_filter_le _ _) (by rw [hs_len]; omega)
    have vp : 1 ≤ (lawVals lots mn (sortL gg) m).length := List.length_pos_iff.mpr ne
    refine t_asgI (K := K) (Step.refl g'.step.inn g'.step.good) (g_call (sortL gg, m, lots, mn) (gs_consI (g_var rfl hu) (gs_three (g_var (v := .int m) (d := .int m) rfl (.int _)) (g_var rfl (Rp.mono e' _ _ hy)) (g_var rfl (Rp.mono e' _ _ hzz)))) rfl ⟨by show (sortL gg).length ≤ 1000; omega, by show m ≤ 100; omega, fun r hr' => by have := hrow r (grps_mem hgg ((sortL_perm gg).mem_iff.mp hr')); omega⟩) fun fv F3 H3 s3 e3 hfv => ?_
    have g3 := g'.run g0 h0 s3
    refine t_asg (K := K) (R := fun d => ∃ x : Int, d = .int x ∧ 0 ≤ x ∧ x < (m : Int)) (Step.refl g3.step.inn g3.step.good) (g_pick (c := ((lawVals lots mn (sortL gg) m).length : Int)) (g_var rfl hfv) (g_callP (m := ((lawVals lots mn (sortL gg) m).length : Int)) rfl ((g_cbI (gs_one (g_var rfl hfv)) (rc_lenS (.inl rfl))).is (by simp)) ⟨by omega, by omega⟩) (by simp) fun d hd => ?_) fun d v4 F4 H4 hd s4 e4 hv4 => ?_
    · obtain ⟨x, hx, rfl⟩ := List.mem_map.mp hd
      exact ⟨x, rfl, vb x hx⟩
    obtain ⟨x, rfl, x0, x1⟩ := hd
    obtain rfl := rp_int hv4
    have g4 := g3.run g0 h0 s4
    refine t_forD1 (K := K) (ds := (sortL gg).map dT) g0 h0 g4 (w_listI (g_var rfl (Rp.mono (e3.trans e4) _ _ hu)))
      (fun j σ' k2 => (∃ d, σ' = [some (.ref q.p), some v, some (.int m), some y, some z, some (.ref l), some u, some fv, some (.int x), d]) ∧ Told k2 ((gs.take i).flatten ++ (sortL gg).take j) m ∧ k2.length ≤ i * 60 + j ∧ (∀ z ∈ (sortL gg).take j, tv k2 z = x) ∧ ∀ z, z ∉ (sortL gg).take j → tv k2 z = tv k' z) ⟨⟨_, rfl⟩, by simpa using hT, hkl, (fun z h => by simp at h), fun z _ => rfl⟩ (fun j d hd σ' F' H' u2 k2 hI g5 e5 hu2 N2 hN2 => ?_) (fun σ' F5 H5 k2 hI g5 e5 => ?_)
    · obtain ⟨⟨d, rfl⟩, hT2, hk2, ha2, hb2⟩ := hI
      obtain ⟨r, hr2, rfl⟩ := get_map hd
      refine t_putD (K := K) (i := 5) (j := 9) (Pk := fun j => j = x) g0 h0 g5 rfl rfl hu2 (by
        have : j < (sortL gg).length := (List.getElem?_eq_some_iff.mp hr2).1
        omega) ((g_var (v := .int x) (d := .int x) rfl (.int _)).imp fun d hd => ⟨x, hd, rfl⟩) fun w F6 H6 hw g6 e6 => ?_
      subst hw
      refine hN2 _ F6 H6 _ ⟨⟨_, rfl⟩, ?_, ?_, fun z hz' => ?_, fun z hz' => ?_⟩ g6 e6
      · rw [take_succA hr2, ← List.append_assoc]; exact told_put hT2 x0 x1
      · have := length_putK k2 (key r) (.int w); omega
      · rw [tv_put]
        by_cases y : z = r
        · rw [if_pos y]
        · rw [if_neg y]
          rw [take_succA hr2] at hz'
          rcases List.mem_append.mp hz' with q | q
          · exact ha2 z q
          · exact absurd (List.mem_singleton.mp q) y
      · rw [take_succA hr2] at hz'
        rw [tv_put, if_neg (fun y => hz' (by rw [y]; simp))]
        exact hb2 z fun q => hz' (List.mem_append_left _ q)
    · obtain ⟨⟨d, rfl⟩, hT2, hk2, ha2, hb2⟩ := hI
      rw [List.length_map, List.take_length] at hT2 ha2 hb2
      rw [List.length_map] at hk2
      refine hN _ F5 H5 _ ⟨⟨_, _, _, _, rfl⟩, ?_, by omega, fun g hg p hp q hq => ?_⟩ g5 ((e3.trans e4).trans e5)
      · rw [take_succA hgr, List.flatten_append]
        simpa using hT2
      · rw [take_succA hgr] at hg
        rcases List.mem_append.mp hg with h | h
        · have hgm : g ∈ gs := List.mem_of_mem_take h
          obtain ⟨gx, hgx, egx⟩ := gin g hgm
          have mg : ∀ z, z ∈ g ↔ z ∈ gx := fun z => by rw [egx]; exact (sortL_perm gx).mem_iff
          have rg := Grp.right_groups (nearN_symm n lots) R
          by_cases w : ∃ z ∈ g, z ∈ gg
          · obtain ⟨z, hz1, hz2⟩ := w
            have same : ∀ y ∈ g, y ∈ sortL gg := fun y hy => (sortL_perm gg).mem_iff.mpr ((rg.cls gg hgg z hz2 y).mpr ((rg.cls gx hgx z ((mg z).mp hz1) y).mp ((mg y).mp hy)))
            rw [ha2 p (same p hp), ha2 q (same q hq)]
          · have out : ∀ y ∈ g, y ∉ sortL gg := fun y hy hm => w ⟨y, hy, (sortL_perm gg).mem_iff.mp hm⟩
            rw [hb2 p (out p hp), hb2 q (out q hq)]
            exact hone g h p hp q hq
        · rw [List.mem_singleton.mp h] at hp hq
          rw [ha2 p hp, ha2 q hq]
  · obtain ⟨⟨a, b, c, d, rfl⟩, hT, hkl, hone⟩ := hI
    rw [List.length_map, List.take_length] at hT hone
    obtain ⟨F2, s2, e2, r2⟩ := g'.done g0 h0
    refine ⟨_, rfl, k l k' F2 H' h0 (told_less hT fun r hr' => ?_) (fun g0 hg0 p hp q hq => ?_) (by rw [List.length_map] at hkl; omega) s2 r2⟩
    · obtain ⟨g, hg, hrg⟩ := gall r hr'
      exact List.mem_flatten.mpr ⟨g, hg, hrg⟩
    · have rg := Grp.right_groups (nearN_symm n lots) R
      have hpR : p ∈ R := (rg.all p).mpr ⟨g0, hg0, hp⟩
      obtain ⟨g, hg, hpg⟩ := gall p hpR
      obtain ⟨gx, hgx, egx⟩ := gin g hg
      have mg : ∀ z, z ∈ g ↔ z ∈ gx := fun z => by rw [egx]; exact (sortL_perm gx).mem_iff
      exact hone g hg p hpg q ((mg q).mpr ((rg.cls gx hgx p ((mg p).mp hpg) q).mpr ((rg.cls g0 hg0 p hp q).mp hq)))
end
end KC

namespace KC
open PySem PySem.Spec PyProof.Rows L2 L2H Fv Evl StX
abbrev s_law_views : Stmt := topS 77
theorem sc_law_views : FnScope ["_law_n", "_law_m", "_law_rows_here", "_law_house"] ["_law_n", "_law_m"] (defScope s_law_views) := ⟨rfl, rfl, rfl, by decide +kernel, rfl, by decide +kernel, by decide +kernel⟩
abbrev s_Outside___init__ : Stmt := inClass (topS 9) 0
theorem sc_Outside___init__ : FnScope ["self", "view"] ["self", "view"] (defScope s_Outside___init__) := ⟨rfl, rfl, rfl, by decide +kernel, rfl, by decide +kernel, by decide +kernel⟩
abbrev s_first_view : Stmt := topS 22
theorem sc_first_view : FnScope ["book", "outcomes", "view", "values"] ["book", "outcomes", "view"] (defScope s_first_view) := ⟨rfl, rfl, rfl, by decide +kernel, rfl, by decide +kernel, by decide +kernel⟩
/-- the marks of views -/
def oms (m : Nat) : ORow := none :: (List.range m).map fun k : Nat => some (k : Int)
def olonger (rows : List ORow) (marks : ORow) : List ORow := rows.flatMap fun r => marks.map fun m => r ++ [m]
def viewsOf (m : Nat) : Nat → List ORow
  | 0 => [[]]
  | n + 1 => olonger (viewsOf m n) (oms m)
theorem olonger_len (rows : List ORow) (marks : ORow) : (olonger rows marks).length = rows.length * marks.length := by
  induction rows with
  | nil => simp [olonger]
  | cons r rs ih =>
    have : olonger (r :: rs) marks = (marks.map fun m => r ++ [m]) ++ olonger rs marks := rfl
    rw [this, List.length_append, ih, List.length_map, List.length_cons, Nat.succ_mul]; omega
theorem views_len (m : Nat) : ∀ n, (viewsOf m n).length = (m + 1) ^ n ∧ ∀ r ∈ viewsOf m n, r.length = n
  | 0 => ⟨rfl, fun r hr => by rw [List.mem_singleton.mp hr]; rfl⟩
  | n + 1 => by
    obtain ⟨h1, h2⟩ := views_len m n
    refine ⟨by show (olonger _ _).length = _; rw [olonger_len, h1, Nat.pow_succ]; simp [oms], fun r hr => ?_⟩
    obtain ⟨r0, hr0, hr1⟩ := List.mem_flatMap.mp hr
    obtain ⟨k, hk, rfl⟩ := List.mem_map.mp hr1
    simp [h2 r0 hr0]
section
variable {P : Program} {w : World} {K : PySem.W.Frag} {mg : Str → Option Value} {base : Heap} {CB CO CE fE CF C fI : Addr} {mc : Value}
variable {pt : Option Pt} {σ : L2.St} {F F' F0 H0 H F2 H2 : Hp} {te ta tb ty td : TE} {ts tr : TA} {t : TT} {D : Ends} {tz tu tw : TS}
theorem ok_viewE {fd : FuncData} (Fn : Fun K "__init__" "Outside.__init__" s_Outside___init__ fI fd) (FC : FirmC K mg CF mc) (EC : ErrC K mg CF C fI "Outside" ["view"]) : FnOk P w K mg base CX0 1 fI fd ["self", "view"] (spIv C "view") := by
  refine Fn.ok sc_Outside___init__ (fun vs H Q E ⟨_, _, h, _⟩ => by rw [h]; rfl) (fun cdv A outer s H vs Q E hr h => ?_)
  obtain ⟨a, x, rfl, ho, q⟩ := h
  refine ⟨_, (pss_cons (ps_expr (pe_fminit (by rfl) FC.g FC.r FC.v (pa_cons (pv 0) (pa_cons pe_str pa_nil)))) (pss_one (ps_ost (pv 0) (pv 1)))), ?_⟩
  exact ⟨_, rfl, ⟨a, C, _, rfl, by simp, EC.T, ho, _, rfl, _, rfl, a, C, rfl, EC.T, EC.no _ (by simp), .inl ⟨ho, fun dx h1 h2 => q dx h1 h2⟩⟩⟩
/-! views -/
abbrev spOLonger (K : PySem.W.Frag) : Sp := PSp K (fun i : List ORow × ORow => [dLO i.1, .list (i.2.map optD)]) (fun i => i.1.length ≤ 1100 ∧ i.2.length ≤ 10 ∧ ∀ r ∈ i.1, r.length ≤ 100) (fun i => dLO (olonger i.1 i.2))
theorem ok_olonger {f : Addr} {fd : FuncData} (Fn : Fun K "_law_longer" "_law_longer" s_law_longer f fd) (T : Tx mg) : FnOk P w K mg base CX0 1 f fd ["_law_rows_here", "_law_marks"] (spOLonger K) := by
  refine Fn.ok sc_law_longer (PSp.len (fun _ => rfl)) (fun cdv A outer s H vs Q E hr h => ?_)
  obtain ⟨⟨rows, marks⟩, F, ⟨h1, h2, h3⟩, e, ha, q⟩ := h
  obtain ⟨v, x, rfl, hv, hx⟩ := rpAll2 ha
  simp only at h1 h2 h3
  refine ⟨_, (pss_cons (ps_set (i := 2) sc_law_longer.nd rfl (by first | exact Or.inl rfl | exact Or.inr rfl) (pe_lst pa_nil))
    (pss_cons (ps_for PassesOwn.never rfl (i_list (K := K) (pv 0)) (pg_name (i := 3) sc_law_longer.nd rfl (by first | exact Or.inl rfl | exact Or.inr rfl)) (pss_one (ps_expr (pe_bm PySem.F.plainAttrs_list PySem.F.slot_list_extend PySem.F.type_list_extend mt_extend (pv 2) (pa_cons (pe_lc (own := [("_law_mark", 4)]) (g := gName 4) rfl sc_law_longer.nd (i_list (K := K) (pv 1)) (blkOk_by (own := [("_law_mark", 4)]) (N := ["_law_rows_here", "_law_marks", "_law_longer_here", "_law_row", "_law_mark"]) (sc := (defScope s_law_longer)) (by decide +kernel)) (fun _ _ _ _ _ => pg_name (i := 4) sc_law_longer.nd rfl (by first | exact Or.inl rfl | exact Or.inr rfl)) (fun _ _ _ _ _ => pts_nil) (fun _ _ _ _ _ => (pe_op (o_catA (K := K)) (pv 3) (pe_tup (pa_cons (pv 4) pa_nil))))) pa_nil)))))
    (pss_one (ps_ret (pv 2))))), ?_⟩
  have g0 : Good none F H := .nil
  refine t_newL (K := K) (Step.refl e .nil) (fun l h0 hl0 g1 => ?_) (fun _ h => h)
  refine t_forG (K := K) (ds := rows.map dO) g0 h0 g1 (w_listI (g_var rfl hv))
    (fun i σ' F' l' => (∃ y z, σ' = [some v, some x, some (.ref l), y, z]) ∧ l' = (olonger (rows.take i) marks).map dO) (fun F2 e2 => ⟨⟨none, none, rfl⟩, by simp [olonger]⟩) (fun i d hd σ' F' H' u l' hI g' e' hu N hN => ?_) (fun σ' F' H' l' hI g' e' => ?_)
  · obtain ⟨⟨y, z, rfl⟩, rfl⟩ := hI
    obtain ⟨r, hr2, rfl⟩ := get_map hd
    have hrl := h3 r (List.mem_of_getElem? hr2)
    have hlen : (olonger (rows.take i) marks).length ≤ 11000 := by
      rw [olonger_len, List.length_take]
      have : min i rows.length * marks.length ≤ 1100 * 10 := Nat.mul_le_mul (by omega) h2
      omega
    refine t_ext (K := K) (es := marks.map fun m => dO (r ++ [m])) g0 h0 g' rfl ((g_lcEM optD marks (fun m => dO (r ++ [m])) (w_listI (g_var rfl (Rp.mono e' _ _ hx))) (by omega) (fun _ => rfl) fun m hm F2 e2 y hy => ?_)) (by rw [List.length_map, List.length_map]; omega) fun F4 H4 g4 e4 => ?_
    · exact (g_opI (g_var rfl (Rp.mono e2 _ _ hu)) (g_tupI (gs_one (g_var rfl hy)) (by simp)) (rv_catA (by simp; omega))).is (congrArg PyData.tuple (by rw [List.map_append]; rfl))
    · refine hN _ F4 H4 _ ⟨⟨_, _, rfl⟩, ?_⟩ g4 e4
      rw [take_succA hr2]
      have : olonger (rows.take i ++ [r]) marks = olonger (rows.take i) marks ++ marks.map fun m => r ++ [m] := by simp [olonger]
      rw [this, List.map_append, List.map_map]; rfl
  · obtain ⟨⟨y, z, rfl⟩, rfl⟩ := hI
    obtain ⟨F2, s2, e2, r2⟩ := g'.done g0 h0
    refine t_retI (K := K) s2 (g_var rfl r2) fun v3 F3 H3 s3 hv3 => q v3 F3 H3 s3 ?_
    rw [List.length_map, List.take_length] at hv3
    exact hv3
abbrev spViews (K : PySem.W.Frag) : Sp := PSp K (fun i : Nat × Nat => [.int i.1, .int i.2]) (fun i => i.1 ∈ [2, 3, 4, 5] ∧ 1 ≤ i.2 ∧ i.2 ≤ capN i.1) (fun i => dLO (viewsOf i.2 i.1))
theorem ok_views {f fL : Addr} {fd fdL : FuncData} (Fn : Fun K "_law_views" "_law_views" s_law_views f fd) (T : Tx mg)
    (F_law_longer : Fun K "_law_longer" "_law_longer" s_law_longer fL fdL) (b_law_longer : Binds K fdL ["_law_rows_here", "_law_marks"] []) (g_law_longer : mg "_law_longer" = some (.ref fL)) : FnOk P w K mg base CX0 2 f fd ["_law_n", "_law_m"] (spViews K) := by
  have G_law_longer : FnOk P w K mg base CX0 1 fL fdL ["_law_rows_here", "_law_marks"] (spOLonger K) := ok_olonger F_law_longer T
  refine Fn.ok sc_law_views (PSp.len (fun _ => rfl)) (fun cdv A outer s H vs Q E hr h => ?_)
  obtain ⟨⟨n, m⟩, F, ⟨hn, m1, mc⟩, e, ha, q⟩ := h
  replace hn : n ∈ [2, 3, 4, 5] := hn
  replace m1 : 1 ≤ m := m1
  replace mc : m ≤ capN n := mc
  have nb : 2 ≤ n ∧ n ≤ 5 := by simp only [List.mem_cons, List.not_mem_nil, or_false] at hn; omega
  obtain ⟨c2, c4⟩ := cap_few nb.1 nb.2
  obtain ⟨v, x, rfl, hv, hx⟩ := rpAll2 ha
  refine ⟨_, (pss_cons (ps_set (i := 2) sc_law_views.nd rfl (by first | exact Or.inl rfl | exact Or.inr rfl) (pe_lst (pa_cons (pe_tup pa_nil) pa_nil)))
    (pss_cons (ps_for PassesOwn.never rfl (pi_range1 (by rfl) T.range (pa_cons (pv 0) pa_nil)) (pg_name (i := 3) sc_law_views.nd rfl (by first | exact Or.inl rfl | exact Or.inr rfl)) (pss_one (ps_set (i := 2) sc_law_views.nd rfl (by first | exact Or.inl rfl | exact Or.inr rfl) (pe_call G_law_longer (hr.mono (by decide)) (by rfl) g_law_longer F_law_longer.kp b_law_longer .nil pass0 (pa_cons (pv 2) (pa_cons (pe_op op_cat (pe_lst (pa_cons pe_non pa_nil)) (pe_listRg rfl (by rfl) T.list (prg_1 (by rfl) T.range (pv 1)))) pa_nil))))))
    (pss_one (ps_ret (pv 2))))), ?_⟩
  refine t_asgI (K := K) (d := dLO [[]]) (Step.refl e .nil) (g_lstI (gs_one (g_tupI gs_nil (by simp))) (by simp)) fun y F1 H1 s1 e1 hy => ?_
  refine t_for (K := K) s1 (w_rng1I (n := n) (gs_one (g_var rfl (Rp.mono e1 _ _ hv))) (by omega) (by omega)) (fun i σ' F' => ∃ y u, σ' = [some v, some x, some y, u] ∧ Rp K F' y (dLO (viewsOf m i)) ∧ i ≤ n) (fun F2 e2 => ⟨y, none, rfl, Rp.mono e2 _ _ hy, Nat.zero_le _⟩) (fun i d hd σ' F' H' z hI s' e' hz N hN => ?_) (fun σ' F' H' hI s' e' => ?_)
  · obtain ⟨y', u, rfl, hy', hi⟩ := hI
    have hin : i < n := by
      have := (List.getElem?_eq_some_iff.mp hd).1
      rw [rng_len] at this
      simpa using this
    obtain ⟨l1, l2⟩ := views_len m i
    have p := cap_pow n hn m (by rw [List.mem_range]; omega) mc i (by rw [List.mem_range]; omega)
    refine t_asg1 (K := K) s' (g_call (viewsOf m i, oms m) (gs_two (g_var rfl hy') ((g_opI (g_lstI (gs_one g_non) (by simp)) (g_listRg (g_var rfl (Rp.mono (e1.trans e') _ _ hx)) (by omega)) (rv_cat (by simp [hs]; omega))).is (congrArg PyData.list (by
      show [PyData.none] ++ _ = _
      unfold oms hs
      rw [List.map_cons, List.map_map, List.map_map]; rfl)))) rfl ⟨by simp only; omega, by simp [oms]; omega, fun r hr => by have := l2 r hr; omega⟩) fun d2 v2 F3 H3 hd2 s3 e3 hv3 => hN _ F3 H3 ⟨v2, some z, rfl, ?_, hin⟩ s3 e3
    rw [show d2 = _ from hd2] at hv3
    exact hv3
  · obtain ⟨y', u, rfl, hy', hi⟩ := hI
    rw [rng_len] at hy'
    exact t_retI s' (g_var rfl hy') (by simpa using q)
theorem vals_nil {Ro : List (List Int)} {vals : List Int} : valsR Ro vals [] = [] := by
  unfold valsR lotOf
  rw [List.filter_eq_nil_iff]
  intro a _
  simp
abbrev spFvG (K : PySem.W.Frag) (CB CO : Addr) : Sp := spBov K CB CO (fun fit => fit ≠ []) (fun Ro vals fit => firstR (valsR Ro vals fit))
theorem ok_fvG {f fB : Addr} {fd fdB : FuncData} (Fn : Fun K "first_view" "first_view" s_first_view f fd) (T : Tx mg)
    (F_settled_values : Fun K "settled_values" "settled_values" s_settled_values fB fdB) (b_settled_values : Binds K fdB ["book", "outcomes", "view"] []) (g_settled_values : mg "settled_values" = some (.ref fB)) (G_settled_values : FnOk P w K mg base CX0 4 fB fdB ["book", "outcomes", "view"] (spSet K CB CO)) :
    FnOk P w K mg base CX0 5 f fd ["book", "outcomes", "view"] (spFvG K CB CO) := by
  refine Fn.ok sc_first_view (fun vs H Q E h => by rw [bov_len h]; rfl) (fun cdv A outer s H vs Q E hr h => ?_)
  obtain ⟨x, y, n, m, R, Ro, vals, vw, F, v, rfl, sd, hne, e, bk, oc, hv, q⟩ := h
  refine ⟨_, (pss_cons (ps_set (i := 3) sc_first_view.nd rfl (by first | exact Or.inl rfl | exact Or.inr rfl) (pe_call G_settled_values (hr.mono (by decide)) (by rfl) g_settled_values F_settled_values.kp b_settled_values .nil pass0 (pa_cons (pv 0) (pa_cons (pv 1) (pa_cons (pv 2) pa_nil)))))
    (pss_cons (ps_if (pt_cmpR op_eq (pe_callB (c_len (K := K)) (by rfl) T.len (by decide +kernel) (pa_cons (pv 3) pa_nil)) pe_int (nomark _)) (pss_one ps_never) pss_nil)
    (pss_one (ps_ret (pe_ifExp (pt_cmpR op_eq (pe_callB (c_len (K := K)) (by rfl) T.len (by decide +kernel) (pa_cons (pv 3) pa_nil)) pe_int (nomark _)) (pe_ix (o_ixT (K := K)) (pv 3) pe_int (fun _ _ => rfl)) pe_non))))), ?_⟩
  have nn := vals_ne sd hne
  replace q : ∀ u F2 H2, Fv.Step none F H F2 H2 → Rp K F2 u (firstR (valsR Ro vals (R.filter (goesB vw)))) → Q u H2 := q
  generalize hvs : valsR Ro vals (R.filter (goesB vw)) = us at q nn
  refine t_asgI (K := K) (Step.refl e .nil) ((g_bov rfl bk rfl oc rfl hv sd trivial).is (by rw [hvs])) fun uv F2 H2 s2 e2 huv => ?_
  refine t_skip s2 ((et_of (K := K) (g_opI (g_cbI (gs_one (g_var rfl huv)) rc_lenT) g_int rv_eqI)).is (by
    cases us with
    | nil => exact absurd rfl nn
    | cons a r => simp; omega)) fun F3 H3 s3 e3 => ?_
  refine t_retI (K := K) s3 (g_if (b := decide (us.length = 1)) ((et_of (K := K) (g_opI (g_cbI (gs_one (g_var rfl (Rp.mono e3 _ _ huv))) rc_lenT) g_int rv_eqI)).is (by simp; omega)) (fun hb => ?_) fun hb => ?_) q
  · have h1 : us.length = 1 := by simpa using hb
    obtain ⟨a, rfl⟩ : ∃ a, us = [a] := List.length_eq_one_iff.mp h1
    exact (g_opI (g_var rfl (Rp.mono e3 _ _ huv)) g_int (rv_ixT (d := .int a) rfl)).is rfl
  · have h1 : us.length ≠ 1 := by simpa using hb
    exact (g_non).is (by unfold firstR; rw [if_neg h1])
def spFvB (K : PySem.W.Frag) (CB CO CE : Addr) : Sp := fun vs H _ E => ∃ (x y : Addr) (n m : Nat) (R Ro : List (List Int)) (vals : List Int) (vw : List (Option Int)) (F : Hp) (v : V), vs = [.ref x, .ref y, v] ∧ Side n R Ro vals vw ∧ R.filter (goesB vw) = [] ∧ Ex F H ∧ Bk K CB F x n m R ∧ Oc K CO F y Ro vals ∧ Rp K F v (dO vw) ∧
  ∀ F2 H2 dd, Step none F H F2 H2 → (∃ u, F2 dd = some (.xd [("view", u)]) ∧ Rp K F2 u (dO vw)) → E (.ref CE) (some dd) H2
theorem ok_fvB {f fB : Addr} {fd fdB fdE : FuncData} (Fn : Fun K "first_view" "first_view" s_first_view f fd) (T : Tx mg) (FM : FirmC K mg CF mc) (E_Outside : ErrC K mg CF CE fE "Outside" ["view"]) (FI : Fun K "__init__" "Outside.__init__" s_Outside___init__ fE fdE) (bI_Outside : Binds K fdE ["self", "view"] [])
    (F_settled_values : Fun K "settled_values" "settled_values" s_settled_values fB fdB) (b_settled_values : Binds K fdB ["book", "outcomes", "view"] []) (g_settled_values : mg "settled_values" = some (.ref fB)) (G_settled_values : FnOk P w K mg base CX0 4 fB fdB ["book", "outcomes", "view"] (spSet K CB CO)) :
    FnOk P w K mg base (L2.CX P w) 5 f fd ["book", "outcomes", "view"] (spFvB K CB CO CE) := by
  have GI_Outside : FnOk P w K mg base CX0 1 fE fdE ["self", "view"] (spIv CE "view") := ok_viewE FI FM E_Outside
  refine Fn.okX sc_first_view (fun vs H Q E ⟨_, _, _, _, _, _, _, _, _, _, h, _⟩ => by rw [h]; rfl) (fun cdv A outer s H vs Q E hr h => ?_)
  obtain ⟨x, y, n, m, R, Ro, vals, vw, F, v, rfl, sd, hnil, e, bk, oc, hv, q⟩ := h
  refine ⟨_, (pss_cons (ps_set (i := 3) sc_first_view.nd rfl (by first | exact Or.inl rfl | exact Or.inr rfl) (pe_call G_settled_values (hr.mono (by decide)) (by rfl) g_settled_values F_settled_values.kp b_settled_values .nil pass0 (pa_cons (pv 0) (pa_cons (pv 1) (pa_cons (pv 2) pa_nil)))))
    (pss_cons (ps_if (pt_cmpR op_eq (pe_callB (c_len (K := K)) (by rfl) T.len (by decide +kernel) (pa_cons (pv 3) pa_nil)) pe_int (nomark _)) (pss_one (ps_raise rfl (takes_of rfl rfl rfl rfl) (pmk_oex E_Outside.T E_Outside.iC E_Outside.tI GI_Outside (hr.mono (by decide)) bI_Outside .nil pass0 (by rfl) E_Outside.g (pa_cons (pv 2) pa_nil)))) pss_nil)
    (pss_one (ps_ret (pe_ifExp (pt_cmpR op_eq (pe_callB (c_len (K := K)) (by rfl) T.len (by decide +kernel) (pa_cons (pv 3) pa_nil)) pe_int (nomark _)) (pe_ix (o_ixT (K := K)) (pv 3) pe_int (fun _ _ => rfl)) pe_non))))), ?_⟩
  refine t_asgI (K := K) (d := dT []) (Step.refl e .nil) ((g_bov rfl bk rfl oc rfl hv sd trivial).is (by rw [hnil, vals_nil])) fun uv F2 H2 s2 e2 huv => ?_
  refine t_when (b := true) s2 ((et_of (K := K) (g_opI (g_cbI (gs_one (g_var rfl huv)) rc_lenT) g_int rv_eqI)).is rfl) (fun _ F3 H3 s3 e3 => ?_) (fun z => by cases z)
  exact r_mkv (K := K) (d := dO vw) s3.inn (gs_one (g_var rfl (Rp.mono (e2.trans e3) _ _ hv))) fun F4 H4 dx s4 h4 => q F4 H4 dx (s3.trans s4) h4
theorem ok_fvN {f fB : Addr} {fd fdB fdE : FuncData} (Fn : Fun K "first_view" "first_view" s_first_view f fd) (T : Tx mg) (FM : FirmC K mg CF mc) (E_Outside : ErrC K mg CF CE fE "Outside" ["view"]) (FI : Fun K "__init__" "Outside.__init__" s_Outside___init__ fE fdE) (bI_Outside : Binds K fdE ["self", "view"] [])
    (F_settled_values : Fun K "settled_values" "settled_values" s_settled_values fB fdB) (b_settled_values : Binds K fdB ["book", "outcomes", "view"] []) (g_settled_values : mg "settled_values" = some (.ref fB)) (G_settled_values : FnOk P w K mg base CX0 4 fB fdB ["book", "outcomes", "view"] (spSet K CB CO)) :
    FnOk P w K mg base (L2N.CX P w) 5 f fd ["book", "outcomes", "view"] (spFvB K CB CO CE) := by
  have GI_Outside : FnOk P w K mg base CX0 1 fE fdE ["self", "view"] (spIv CE "view") := ok_viewE FI FM E_Outside
  refine okXN Fn sc_first_view (fun vs H Q E ⟨_, _, _, _, _, _, _, _, _, _, h, _⟩ => by rw [h]; rfl) (fun cdv A outer s H vs Q E hr h => ?_)
  obtain ⟨x, y, n, m, R, Ro, vals, vw, F, v, rfl, sd, hnil, e, bk, oc, hv, q⟩ := h
  refine ⟨_, (pss_cons (ps_set (i := 3) sc_first_view.nd rfl (by first | exact Or.inl rfl | exact Or.inr rfl) (pe_call G_settled_values (hr.mono (by decide)) (by rfl) g_settled_values F_settled_values.kp b_settled_values .nil pass0 (pa_cons (pv 0) (pa_cons (pv 1) (pa_cons (pv 2) pa_nil)))))
    (pss_cons (ps_if (pt_cmpR op_eq (pe_callB (c_len (K := K)) (by rfl) T.len (by decide +kernel) (pa_cons (pv 3) pa_nil)) pe_int (nomark _)) (pss_one (L2N.ps_raise rfl (L2N.takes_of rfl rfl rfl rfl) (pmk_oexN E_Outside.T E_Outside.iC E_Outside.tI GI_Outside (hr.mono (by decide)) bI_Outside pass0 (by rfl) E_Outside.g (pa_cons (pv 2) pa_nil)))) pss_nil)
    (pss_one (ps_ret (pe_ifExp (pt_cmpR op_eq (pe_callB (c_len (K := K)) (by rfl) T.len (by decide +kernel) (pa_cons (pv 3) pa_nil)) pe_int (nomark _)) (pe_ix (o_ixT (K := K)) (pv 3) pe_int (fun _ _ => rfl)) pe_non))))), ?_⟩
  refine t_asgI (K := K) (d := dT []) (Step.refl e .nil) ((g_bov rfl bk rfl oc rfl hv sd trivial).is (by rw [hnil, vals_nil])) fun uv F2 H2 s2 e2 huv => ?_
  refine t_when (b := true) s2 ((et_of (K := K) (g_opI (g_cbI (gs_one (g_var rfl huv)) rc_lenT) g_int rv_eqI)).is rfl) (fun _ F3 H3 s3 e3 => ?_) (fun z => by cases z)
  exact r_mkv (K := K) (d := dO vw) s3.inn (gs_one (g_var rfl (Rp.mono (e2.trans e3) _ _ hv))) fun F4 H4 dx s4 h4 => q F4 H4 dx (s3.trans s4) h4
end
end KC

namespace KC
open PySem PySem.Spec PyProof.Rows L2 L2H Fv Evl StX
abbrev s_law_wide_table : Stmt := topS 76
theorem sc_law_wide_table : FnScope ["_law_pot_here", "_law_n", "_law_m", "_law_rows_here", "_law_told", "_law_wide", "_law_row", "_law_turn", "_law_house"] ["_law_pot_here", "_law_n", "_law_m", "_law_rows_here", "_law_told"] (defScope s_law_wide_table) := ⟨rfl, rfl, rfl, by decide +kernel, rfl, by decide +kernel, by decide +kernel⟩
/-- the rows that a dict has as keys -/
def KeysR (kvs : List (List Key × V)) (M : List (List Int)) : Prop := kvs.map (·.1) = M.map key ∧ M.Nodup
theorem keys_put {kvs : List (List Key × V)} {M : List (List Int)} (h : KeysR kvs M) (r : List Int) (v : V) : KeysR (putK kvs (key r) v) (if r ∈ M then M else M ++ [r]) := by
  have anyM : (kvs.any fun kv => decide (kv.1 = key r)) = decide (r ∈ M) := by
    have e1 : (kvs.any fun kv => decide (kv.1 = key r)) = ((kvs.map (·.1)).any fun k => decide (k = key r)) := by rw [List.any_map]; rfl
    rw [e1, h.1, List.any_map, Bool.eq_iff_iff, List.any_eq_true, decide_eq_true_eq]
    constructor
    · rintro ⟨x, hx, e⟩
      have : key x = key r := by simpa using e
      rw [← key_inj this]; exact hx
    · intro hx
      exact ⟨r, hx, by simp⟩
  unfold putK
  rw [anyM]
  by_cases z : r ∈ M
  · rw [if_pos (by simpa using z), if_pos z]
    refine ⟨?_, h.2⟩
    rw [List.map_map, ← h.1]
    refine List.map_congr_left fun kv _ => ?_
    show (if kv.1 = key r then (kv.1, v) else kv).1 = kv.1
    split <;> rfl
  · rw [if_neg (by simpa using z), if_neg z]
    refine ⟨by rw [List.map_append, List.map_append, h.1]; rfl, ?_⟩
    rw [List.nodup_append]
    exact ⟨h.2, by simp, fun a ha b hb e => z (by rw [List.mem_singleton.mp hb] at e; rw [← e]; exact ha)⟩
/-- what a wide dict is like, behind the rows R of the dict kvs0 -/
structure WideP (n m : Nat) (kvs0 : List (List Key × V)) (R : List (List Int)) (kvs : List (List Key × V)) (M : List (List Int)) : Prop where
  ks : KeysR kvs M
  row : ∀ r ∈ M, Row n m r
  told : Told kvs M m
  sub : ∀ r ∈ R, r ∈ M
  eq : ∀ r ∈ R, tv kvs r = tv kvs0 r
theorem WideP.one {n m : Nat} {kvs0 kvs : List (List Key × V)} {R M : List (List Int)} {r : List Int} (h : WideP n m kvs0 R kvs M) (hr : Row n m r) (h0 : 0 ≤ tv kvs0 r) (h1 : tv kvs0 r < (m : Int)) : WideP n m kvs0 (R ++ [r]) (putK kvs (key r) (.int (tv kvs0 r))) (if r ∈ M then M else M ++ [r]) where
  ks := keys_put h.ks r _
  row := fun x hx => by
    by_cases z : r ∈ M
    · rw [if_pos z] at hx; exact h.row x hx
    · rw [if_neg z] at hx
      rcases List.mem_append.mp hx with y | y
      · exact h.row x y
      · rw [List.mem_singleton.mp y]; exact hr
  told := by
    have := told_put h.told (r := r) h0 h1
    by_cases z : r ∈ M
    · rw [if_pos z]; exact told_less this fun x hx => List.mem_append_left _ hx
    · rw [if_neg z]; exact this
  sub := fun x hx => by
    have hm : x ∈ M ∨ x = r := by
      rcases List.mem_append.mp hx with y | y
      · exact .inl (h.sub x y)
      · exact .inr (List.mem_singleton.mp y)
    by_cases z : r ∈ M
    · rw [if_pos z]
      rcases hm with y | y
      · exact y
      · rw [y]; exact z
    · rw [if_neg z]
      rcases hm with y | y
      · exact List.mem_append_left _ y
      · rw [y]; simp
  eq := fun x hx => by
    rw [tv_put]
    by_cases z : x = r
    · rw [if_pos z, z]
    · rw [if_neg z]
      rcases List.mem_append.mp hx with y | y
      · exact h.eq x y
      · exact absurd (List.mem_singleton.mp y) z
theorem keys_has {kvs : List (List Key × V)} {M : List (List Int)} (h : KeysR kvs M) {m : Nat} (ht : Told kvs M m) (r : List Int) : (valV kvs (key r)).isSome = decide (r ∈ M) := by
  by_cases z : r ∈ M
  · rw [(ht.1 r z).1, decide_eq_true z]; rfl
  · rw [decide_eq_false z]
    cases w : valV kvs (key r) with
    | none => rfl
    | some v =>
      have h1 := valV_any (key r) kvs
      rw [w] at h1
      have e1 : (kvs.any fun kv => decide (kv.1 = key r)) = ((kvs.map (·.1)).any fun k => decide (k = key r)) := by rw [List.any_map]; rfl
      rw [e1, h.1, List.any_map, Option.isSome_some, List.any_eq_true] at h1
      obtain ⟨x, hx, e⟩ := h1
      have : key x = key r := by simpa using e
      rw [key_inj this] at hx
      exact absurd hx z
theorem WideP.more {n m : Nat} {kvs0 kvs : List (List Key × V)} {R M : List (List Int)} {r : List Int} {k : Int} (h : WideP n m kvs0 R kvs M) (hr : Row n m r) (hn : r ∉ M) (h0 : 0 ≤ k) (h1 : k < (m : Int)) : WideP n m kvs0 R (putK kvs (key r) (.int k)) (M ++ [r]) where
  ks := by have := keys_put h.ks r (.int k); rw [if_neg hn] at this; exact this
  row := fun x hx => by
    rcases List.mem_append.mp hx with y | y
    · exact h.row x y
    · rw [List.mem_singleton.mp y]; exact hr
  told := told_put h.told h0 h1
  sub := fun x hx => List.mem_append_left _ (h.sub x hx)
  eq := fun x hx => by
    rw [tv_put, if_neg (fun z => hn (by rw [← z]; exact h.sub x hx))]; exact h.eq x hx
section
variable {P : Program} {w : World} {K : PySem.W.Frag} {mg : Str → Option Value} {base : Heap} {CB CO CL fN : Addr}
variable {pt : Option Pt} {σ : L2.St} {F F' F0 H0 H F2 H2 : Hp} {te ta tb ty td : TE} {ts tr : TA} {t : TT} {D : Ends} {tz tu tw : TS} {l : Addr} {kvs : List (List Key × V)} {wi : TI}
/-- two ways that meet -/
theorem t_ifJoin {t : TT} {tu tw : TS} (J : L2.St → Hp → Hp → Prop) (i : Ex F H) (g : Good pt F H) (h : EtG pt t σ F (fun _ => True)) (h1 : ∀ F2 H2, Step pt F H F2 H2 → ∀ N : L2.St → Hp → Prop, (∀ σ' F' H', J σ' F' H' → N σ' H') → tu { D with nx := N } σ H2)
    (h2 : ∀ F2 H2, Step pt F H F2 H2 → ∀ N : L2.St → Hp → Prop, (∀ σ' F' H', J σ' F' H' → N σ' H') → tw { D with nx := N } σ H2) (q : ∀ σ' F' H', J σ' F' H' → tz D σ' H') : tSeq (tIfS t tu tw) tz D σ H :=
  t_ifU (Step.refl i g) h (fun F2 H2 s _ => h1 F2 H2 s _ q) (fun F2 H2 s _ => h2 F2 H2 s _ q)
theorem t_forHR1 {j : Nat} {RS : List PyData → Prop} (i0 : Ex F H) (g : Good pt F H) (hw : WiG K pt wi σ F RS) (I : List PyData → Nat → L2.St → Hp → Hp → Prop) (h0 : ∀ ds, RS ds → ∀ F1 H1, Step pt F H F1 H1 → I ds 0 σ F1 H1) (hI : ∀ ds i σ' F' H', I ds i σ' F' H' → Ex F' H')
    (hs : ∀ ds, RS ds → ∀ i d, ds[i]? = some d → ∀ σ' F' H' x, I ds i σ' F' H' → Ex F F' → Rp K F' x d →
      ∀ N : L2.St → Hp → Prop, (∀ σ2 F2 H2, I ds (i + 1) σ2 F2 H2 → Ex F' F2 → N σ2 H2) → tu { D with nx := N, ct := N, bk := D.nx } (σ'.set j (some x)) H')
    (hd : ∀ ds, RS ds → ∀ σ' F' H', I ds ds.length σ' F' H' → Ex F F' → D.nx σ' H') : tFor wi (gName j) tu D σ H :=
  t_forHR (tz := fun _ => D.nx) (D := D) i0 g hw I h0 hI hs hd
/-- if row not in d, d of one's own -/
theorem t_ifDNot {i j : Nat} {r : List Int} {u : V} (g : Dst pt F0 H0 l F H kvs) (hi : σ[i]? = some (some (.ref l))) (hj : σ[j]? = some (some u)) (hu : Rp K F u (dT r)) (h1 : (valV kvs (key r)).isSome = false → tu D σ H) (h2 : (valV kvs (key r)).isSome = true → tw D σ H) :
    tIfS (tTest (tDNotIn (tVar j) (tVar i))) tu tw D σ H := by
  obtain ⟨a, xs, rfl, hl, ha⟩ := rp_tup hu
  have e1 := rpAll_ints ha
  subst e1
  refine ⟨_, hj, _, hi, l, _, rfl, DGet.t (k := key r) g.at_ (by rw [key_kV]; exact g.step.inn _ _ hl), _, rfl, ?_⟩
  cases w : (valV kvs (key r)).isSome with
  | true => exact h2 w
  | false => exact h1 w
theorem x_tabP {E : XK} {j : Nat} {Pm : List (List Int) → Prop} {m : Nat} {Dd : Addr} (h : EvG K pt te σ F (fun d => ∃ M, d = dLT M ∧ Pm M)) (h1 : σ[j]? = some (some (.ref Dd))) (hD : F Dd = some (.dT kvs)) (hp : ∀ M, Pm M → M.length ≤ 300 ∧ (∀ r ∈ M, r.length ≤ 1000) ∧ Told kvs M m) :
    EvX pt (tCall (spTab K CO) [] E (tCons te (tCons (tVar j) tNil))) σ F (fun v F2 => ∃ x M, v = .ref x ∧ Pm M ∧ Oc K CO F2 x M (M.map (tv kvs))) := fun H1 e g Q k => h H1 e g _ fun d v F2 H2 ⟨M, hd, hm⟩ s hv => by
  subst hd
  exact ⟨_, h1, M, Dd, kvs, m, F2, v, rfl, hp M hm, s.inn, s.sub _ _ hD, hv, fun x F3 H3 s3 oc => k _ F3 H3 ⟨x, M, rfl, hm, oc⟩ (s.trans (s3.lift s.good))⟩
/-! the family -/
/-! the wide table -/
def spWide (K : PySem.W.Frag) (CO : Addr) : Sp := fun vs H Q _ => ∃ (q : Pt) (n m : Nat) (R : List (List Int)) (D0 : Addr) (kvs0 : List (List Key × V)) (F : Hp) (v : V), vs = [.ref q.p, .int n, .int m, v, .ref D0] ∧ ((1 ≤ n ∧ n ≤ 5) ∧ (1 ≤ m ∧ m ≤ 4) ∧ R.length ≤ 60 ∧ (∀ r ∈ R, Row n m r) ∧ Told kvs0 R m) ∧ Ex F H ∧ Good (some q) F H ∧ F D0 = some (.dT kvs0) ∧ Rp K F v (dLT R) ∧
  ∀ x M M' kvs F2 H2, WideP n m kvs0 R kvs M → M'.Perm M → M.length ≤ 70 → Step (some q) F H F2 H2 → Oc K CO F2 x M' (M'.map (tv kvs)) → Q (.ref x) H2
theorem ok_wide {f fD fT : Addr} {fd fdD fdT : FuncData} (Fn : Fun K "_law_wide_table" "_law_wide_table" s_law_wide_table f fd) (T : Tx mg)
    (F_law_draw : Fun K "_law_draw" "_law_draw" s_law_draw fD fdD) (b_law_draw : Binds K fdD ["_law_pot_here", "_law_many"] []) (g_law_draw : mg "_law_draw" = some (.ref fD))
    (F_law_table : Fun K "_law_table" "_law_table" s_law_table fT fdT) (b_law_table : Binds K fdT ["_law_rows_here", "_law_told"] []) (g_law_table : mg "_law_table" = some (.ref fT)) (G_law_table : FnOk P w K mg base CX0 7 fT fdT ["_law_rows_here", "_law_told"] (spTab K CO)) :
    FnOk P w K mg base CX0 8 f fd ["_law_pot_here", "_law_n", "_law_m", "_law_rows_here", "_law_told"] (spWide K CO) := by
  have G_law_draw : FnOk P w K mg base CX0 1 fD fdD ["_law_pot_here", "_law_many"] (spDraw K) := ok_draw F_law_draw T
  refine Fn.ok sc_law_wide_table (fun vs H Q E ⟨_, _, _, _, _, _, _, _, h, _⟩ => by rw [h]; rfl) (fun cdv A outer s H vs Q E hr h => ?_)
  obtain ⟨q, n, m, R, D0, kvs0, F, v, rfl, ⟨⟨n1, n5⟩, ⟨m1, m4⟩, hz, hrow, ht0⟩, e, g, hD0, hv, k⟩ := h
  refine ⟨_, (pss_cons (ps_set (i := 5) sc_law_wide_table.nd rfl (by first | exact Or.inl rfl | exact Or.inr rfl) pe_dnewT)
    (pss_cons (ps_for PassesOwn.never rfl (i_list (K := K) (pv 3)) (pg_name (i := 6) sc_law_wide_table.nd rfl (by first | exact Or.inl rfl | exact Or.inr rfl)) (pss_one (ps_asg (pe_dget (hu_of hr) (pv 4) (pv 6) (fun _ _ => rfl)) (pg_sub (pv 5) (pv 6) (set_dict (hu_of hr))))))
    (pss_cons (ps_if (e_truth (K := K) (pe_call G_law_draw (hr.mono (by decide)) (by rfl) g_law_draw F_law_draw.kp b_law_draw .nil pass0 (pa_cons (pv 0) (pa_cons pe_int pa_nil)))) (pss_one (ps_for PassesOwn.never rfl (pi_range1 (by rfl) T.range (pa_cons (pe_call G_law_draw (hr.mono (by decide)) (by rfl) g_law_draw F_law_draw.kp b_law_draw .nil pass0 (pa_cons (pv 0) (pa_cons pe_int pa_nil))) pa_nil)) (pg_name (i := 7) sc_law_wide_table.nd rfl (by first | exact Or.inl rfl | exact Or.inr rfl)) (pss_cons (ps_set (i := 6) sc_law_wide_table.nd rfl (by first | exact Or.inl rfl | exact Or.inr rfl) (pe_callTy (c_tup (K := K)) (by rfl) T.tuple (by decide +kernel) (pa_cons (pe_lc (own := [("_law_house", 8)]) (g := gName 8) rfl sc_law_wide_table.nd (pi_range1 (by rfl) T.range (pa_cons (pv 1) pa_nil)) (blkOk_by (own := [("_law_house", 8)]) (N := ["_law_pot_here", "_law_n", "_law_m", "_law_rows_here", "_law_told", "_law_wide", "_law_row", "_law_turn", "_law_house"]) (sc := (defScope s_law_wide_table)) (by decide +kernel)) (fun _ _ _ _ _ => pg_name (i := 8) sc_law_wide_table.nd rfl (by first | exact Or.inl rfl | exact Or.inr rfl)) (fun _ _ _ _ _ => pts_nil) (fun _ _ _ _ _ => (pe_call G_law_draw (hr.mono (by decide)) (by rfl) g_law_draw F_law_draw.kp b_law_draw .nil pass0 (pa_cons (pv 0) (pa_cons (pv 2) pa_nil))))) pa_nil)))
    (pss_one (ps_if (pt_cmp (pc_dnotin (hu_of hr) (pv 6) (pv 5)) rfl) (pss_one (ps_asg (pe_call G_law_draw (hr.mono (by decide)) (by rfl) g_law_draw F_law_draw.kp b_law_draw .nil pass0 (pa_cons (pv 0) (pa_cons (pv 2) pa_nil))) (pg_sub (pv 5) (pv 6) (set_dict (hu_of hr))))) pss_nil))))) pss_nil)
    (pss_one (ps_ret (pe_call G_law_table (hr.mono (by decide)) (by rfl) g_law_table F_law_table.kp b_law_table .nil pass0 (pa_cons (pe_callB (c_sortDT (K := K) rfl (hu65 hr)) (by rfl) T.sorted (by decide +kernel) (pa_cons (pv 5) pa_nil)) (pa_cons (pv 5) pa_nil)))))))), ?_⟩
  refine t_newD (Step.refl e g) fun l h0 _ g1 => ?_
  have g0 : Good (some q) F H := g
  refine t_forD (K := K) (ds := R.map dT) g0 h0 g1 (w_listI (g_var rfl hv)) (fun i σ' k' => (∃ z, σ' = [some (.ref q.p), some (.int n), some (.int m), some v, some (.ref D0), some (.ref l), z, none, none]) ∧ ∃ M, WideP n m kvs0 (R.take i) k' M ∧ M.length ≤ i ∧ k'.length ≤ i)
    ⟨⟨none, rfl⟩, [], ⟨⟨rfl, .nil⟩, (fun r h => by cases h), ⟨(fun r h => by cases h), (fun ks v h => by simp [valV_nil] at h)⟩, (fun r h => by simp at h), (fun r h => by simp at h)⟩, Nat.le_refl _, Nat.le_refl _⟩ (fun i d hd σ' F' H' u k' hI g' e' hu N hN => ?_) (fun σ' F1 H1 k1 hI g1' e1 => ?_)
  · obtain ⟨⟨z, rfl⟩, M, hW, hM, hk⟩ := hI
    obtain ⟨r, hr2, rfl⟩ := get_map hd
    have hrR := List.mem_of_getElem? hr2
    have hil : i < R.length := (List.getElem?_eq_some_iff.mp hr2).1
    obtain ⟨t1, t2, t3⟩ := ht0.1 r hrR
    refine t_putD (K := K) (i := 5) (j := 6) (Pk := fun j => j = tv kvs0 r) g0 h0 g' rfl rfl hu (by omega) ((g_dget (kvs := kvs0) (m := r) (fun H1 i g Q q => ⟨_, rfl, q _ F' H1 ⟨D0, rfl, e' _ _ hD0⟩ (.refl i g)⟩) (fun F'' e'' => g_var rfl (Rp.mono e'' _ _ hu)) t1).imp fun d hd => ⟨_, hd, rfl⟩) fun j F3 H3 hj g3 e3 => ?_
    subst hj
    refine hN _ F3 H3 _ ⟨⟨_, rfl⟩, _, by rw [take_succA hr2]; exact hW.one (hrow r hrR) t2 t3, ?_, ?_⟩ g3 e3
    · split
      · omega
      · rw [List.length_append]; simp; omega
    · have := length_putK k' (key r) (.int (tv kvs0 r)); omega
  · obtain ⟨⟨z, rfl⟩, M, hW, hM, hk⟩ := hI
    rw [List.length_map, List.take_length] at hW
    rw [List.length_map] at hM hk
    refine t_ifJoin (fun σ' F' H' => ∃ z1 z2 z3 k' M, σ' = [some (.ref q.p), some (.int n), some (.int m), some v, some (.ref D0), some (.ref l), z1, z2, z3] ∧ Dst (some q) F H l F' H' k' ∧ WideP n m kvs0 R k' M ∧ M.length ≤ 70) g1'.step.inn g1'.step.good (et_truU (K := K) (Pk := fun k => 0 ≤ k ∧ k < 2) (g_callP (m := 2) rfl g_int ⟨by omega, by omega⟩)) (fun F2 H2 s2 N hN => ?_) (fun F2 H2 s2 N hN => ?_) fun σ' F2 H2 ⟨z1, z2, z3, k2, M2, eσ, g2, hW2, hM2⟩ => ?_
    · have g2 := g1'.run g0 h0 s2
      refine t_forHR1 (K := K) (RS := fun ds => ds.length ≤ 6) g2.step.inn g2.step.good ?hw (fun ds i σ' F' H' => ∃ z1 z2 z3 k' M, σ' = [some (.ref q.p), some (.int n), some (.int m), some v, some (.ref D0), some (.ref l), z1, z2, z3] ∧ Dst (some q) F H l F' H' k' ∧ WideP n m kvs0 R k' M ∧ M.length ≤ 60 + i ∧ k'.length ≤ 60 + i)
        (fun ds hds F3 H3 s3 => ⟨_, _, _, k1, M, rfl, g2.run g0 h0 s3, hW, by omega, by omega⟩) (fun ds i σ' F' H' ⟨_, _, _, _, _, _, w, _⟩ => w.step.inn) (fun ds hds i d hd σ' F' H' u hI e' hu N2 hN2 => ?_) (fun ds hds σ' F' H' hI e' => ?_)
      case hw =>
        exact fun H1 i g RR qq => w_rng1 (R0 := fun ds => ∃ k : Int, ds = [.int k] ∧ 0 ≤ k ∧ k < 7) (fun H1 i g Q q => g_consR (R := fun d => ∃ k : Int, d = .int k ∧ 0 ≤ k ∧ k < 7) (g_callP (m := 7) rfl g_int ⟨by omega, by omega⟩) H1 i g Q fun ds vs F2 H2 ⟨d, hd, k, hk, k0, k1⟩ s hv => q ds vs F2 H2 ⟨k, by rw [hd, hk], k0, k1⟩ s hv)
          (fun ds ⟨k, e, k0, k1⟩ => ⟨_, e, by omega, by omega⟩) H1 i g RR fun ds J F2 H2 ⟨n, ⟨k, e, k0, k1⟩, hl⟩ => qq ds J F2 H2 (by
            show ds.length ≤ 6
            rw [hl, rng_len]
            have : n = k := by simpa using e
            omega)
      · obtain ⟨z1, z2, z3, k', M', rfl, g', hW', hM', hk'⟩ := hI
        have hil : i < ds.length := (List.getElem?_eq_some_iff.mp hd).1
        have hd6 : ds.length ≤ 6 := hds
        refine t_asg (K := K) (R := fun d => ∃ r : List Int, d = dT r ∧ Row n m r) (Step.refl g'.step.inn g'.step.good) (g_cb (g_consR (g_lcR (α := Unit) PyData.int (fun k => 0 ≤ k ∧ k < (m : Int)) (w_range (n := n) (g_var rfl (.int _)) (by omega)) (fun ds h => by rw [h, List.length_map, List.length_range]; omega) (fun _ => rfl) fun F' e' u =>
          (g_callP (m := (m : Int)) rfl (g_var (v := .int m) (d := .int m) rfl (.int _)) ⟨by omega, by omega⟩).imp fun d ⟨j, hj, j0, j1⟩ => ⟨j, hj, j0, j1⟩)) ?_) fun d rv F3 H3 hd3 s3 e3 hrv => ?_
        · rintro ds ⟨d, rfl, ds, ys, hds, rfl, hl, hp⟩
          intro F H vs e hvs Q q
          refine rc_tupL F H vs e hvs Q fun z v F2 H2 hz s hv => q z v F2 H2 ⟨ys, hz, ?_, hp⟩ s hv
          rw [hl, show ds = _ from hds, List.length_map, List.length_range]
        obtain ⟨r, rfl, hrr⟩ := hd3
        have g3 := g'.run g0 h0 s3
        have has := keys_has hW'.ks hW'.told r
        refine t_ifDNot (K := K) (r := r) g3 rfl rfl hrv (fun hn => ?_) (fun hy => ?_)
        · rw [has] at hn
          refine t_putD (K := K) (i := 5) (j := 6) (Pk := fun j => 0 ≤ j ∧ j < (m : Int)) g0 h0 g3 rfl rfl hrv (by omega) (g_callP (m := (m : Int)) rfl (g_var (v := .int m) (d := .int m) rfl (.int _)) ⟨by omega, by omega⟩) fun j F4 H4 hj g4 e4 => ?_
          refine hN2 _ F4 H4 ⟨_, _, _, _, _, rfl, g4, hW'.more hrr (by simpa using hn) hj.1 hj.2, ?_, ?_⟩ (e3.trans e4)
          · rw [List.length_append]; simp; omega
          · have := length_putK k' (key r) (.int j); omega
        · exact hN2 _ F3 H3 ⟨_, _, _, _, _, rfl, g3, hW', by omega, by omega⟩ e3
      · obtain ⟨z1, z2, z3, k', M', rfl, g', hW', hM', hk'⟩ := hI
        have hd6 : ds.length ≤ 6 := hds
        exact hN _ F' H' ⟨_, _, _, _, _, rfl, g', hW', by omega⟩
    · exact hN _ F2 H2 ⟨_, _, _, k1, M, rfl, g1'.run g0 h0 s2, hW, by omega⟩
    · subst eσ
      obtain ⟨F3, s3, e3, r3⟩ := g2.done g0 h0
      have ne : ∀ r ∈ M2, r ≠ [] := fun r hr' z => by
        have := (hW2.row r hr').1
        rw [z] at this
        simp at this; omega
      refine t_retX s3 (x_tabP (K := K) (m := m) (Pm := fun M => M.Perm M2) ((g_sortDT (R := M2) (fun H1 i g Q q => ⟨_, rfl, q _ F3 H1 ⟨l, k2, rfl, r3, hW2.ks.1⟩ (.refl i g)⟩) (canSort_rowsT ne)).imp fun d ⟨M, h1, h2, _⟩ => ⟨M, h1, h2⟩) rfl r3 fun M3 hp => ⟨by have := hp.length_eq; omega, fun r hr' => by have := (hW2.row r (hp.mem_iff.mp hr')).1; omega, told_less hW2.told fun r hr' => hp.mem_iff.mp hr'⟩) fun z F4 H4 ⟨x, M3, ez, hp, oc⟩ s4 => ?_
      rw [ez]
      exact k x M2 M3 k2 F4 H4 hW2 hp hM2 s4 oc
/-! what is due -/
end
end KC

namespace KC
open PySem PySem.Spec PyProof.Rows L2 L2H Fv Evl StX
abbrev s_heard_houses : Stmt := topS 16
theorem sc_heard_houses : FnScope ["view", "house"] ["view"] (defScope s_heard_houses) := ⟨rfl, rfl, rfl, by decide +kernel, rfl, by decide +kernel, by decide +kernel⟩
def heardV (vw : ORow) : List Int := ((List.range vw.length).filter fun k => !(vw.getD k none).isNone).map fun k : Nat => (k : Int)
section
variable {P : Program} {w : World} {K : PySem.W.Frag} {mg : Str → Option Value} {base : Heap} {CB CO CE fE CF C fI CM fM : Addr} {mc : Value} {d e : PyData}
variable {pt : Option Pt} {σ : L2.St} {F F' F0 H0 H F2 H2 : Hp} {te ta tb ty td : TE} {ts tr : TA} {t : TT} {D : Ends} {tz tu tw : TS}
/-! views -/
/-! ranks -/
abbrev spHeard (K : PySem.W.Frag) : Sp := PSp K (fun v : ORow => [dO v]) (fun v => v.length ≤ 60) (fun v => dT (heardV v))
theorem ok_heard {f : Addr} {fd : FuncData} (Fn : Fun K "heard_houses" "heard_houses" s_heard_houses f fd) (T : Tx mg) : FnOk P w K mg base CX0 1 f fd ["view"] (spHeard K) := by
  refine Fn.ok sc_heard_houses (PSp.len (fun _ => rfl)) (fun cdv A outer s H vs Q E hr h => ?_)
  obtain ⟨vw, F, hz, e, ha, q⟩ := h
  obtain ⟨v, rfl, hv⟩ := rpAll1 ha
  refine ⟨_, (pss_one (ps_ret (pe_callTy (c_tup (K := K)) (by rfl) T.tuple (by decide +kernel) (pa_cons (pe_lc (own := [("house", 1)]) (g := gName 1) rfl sc_heard_houses.nd (pi_range1 (by rfl) T.range (pa_cons (pe_callB (c_len (K := K)) (by rfl) T.len (by decide +kernel) (pa_cons (pv 0) pa_nil)) pa_nil)) (blkOk_by (own := [("house", 1)]) (N := ["view", "house"]) (sc := (defScope s_heard_houses)) (by decide +kernel)) (fun _ _ _ _ _ => pg_name (i := 1) sc_heard_houses.nd rfl (by first | exact Or.inl rfl | exact Or.inr rfl)) (fun _ _ _ _ _ => (pts_one (pt_cmpR op_notN (pe_ix (o_ixT (K := K)) (pv 0) (pv 1) (fun _ _ => rfl)) pe_non (nomark _)))) (fun _ _ _ _ _ => (pv 1))) pa_nil)))), ?_⟩
  refine t_retI (K := K) (Step.refl e .nil) ((g_cbI (gs_one (g_lcE natD (List.range vw.length) (fun k => !(vw.getD k none).isNone) natD (w_len (g_var rfl hv) (by simp) (by omega)) (by simp; omega) (fun _ => rfl) (fun k hk F' e' y hy => et_of (g_opI (g_ixO (g_var rfl (Rp.mono e' _ _ hv)) (g_var rfl hy) (List.mem_range.mp hk)) g_non rv_notO)) (fun k _ _ F' e' y hy => g_var rfl hy))) rc_tupL).is ?_) q
  show PyData.tuple _ = PyData.tuple ((heardV vw).map PyData.int)
  unfold heardV
  rw [List.map_map]; rfl
end
end KC

namespace KC
open PySem PySem.Spec PyProof.Rows L2 L2H Fv Evl StX
theorem passAt0 {X : Cx} {E : L2.St → XK} : ∀ σ, PassesAt CX0 X σ (E σ) := fun _ _ _ _ _ _ _ h => h.elim
theorem takes0N {X : Cx} : L2N.Takes X (fun _ _ _ _ => False) := fun _ _ x => by
  obtain ⟨_, _, _, _, _, _, _, _, _, _, _, _, _, _, _, _, h⟩ := x
  exact h.elim
theorem hot_suite {X : Cx} {a : Addr} {oe : Obj} {cls : Value} {d : Option Addr} {pn : List (Addr × Obj)} (hz : L2N.Zn cls d oe) (hf : ∃ vs, oe.data = .fields vs) : HotC (X.suite a ((a, oe) :: pn)) := by
  obtain ⟨vs, hv⟩ := hf
  exact ⟨(a, oe), ⟨rfl, vs, hv, hz.2.2 vs hv⟩, List.mem_cons_self ..⟩
section
variable {P : Program} {w : World} {K : PySem.W.Frag} {mg : Str → Option Value} {base : Heap} {CB CO CE fE CF : Addr} {mc : Value}
variable {pt : Option Pt} {σ : L2.St} {F F' F0 H0 H F2 H2 : Hp} {te ta tb ty td : TE} {ts tr : TA} {t : TT} {D : Ends} {tz tu tw : TS} {a dd C : Addr} {cls : Value} {d e : PyData}
theorem g_isY {i : Nat} {c : V} {cv : Value} (h0 : σ[i]? = some (some (.ref a))) (hc : ∀ u, RelV c u → u = cv) (hk : PySem.W.kitOne K cls cv = some true) : EvG K pt (tCB (rIsY K cls a) (tCons (tVar i) (tCons (tC c) tNil))) σ F (Is (.bool true)) := fun H1 e g Q q =>
  ⟨_, h0, c, cv, rfl, hc, hk, q _ _ F H1 rfl (.refl e g) (.bl true)⟩
theorem g_xf {i : Nat} {n : Str} {fs : List (Str × V)} {v : V} (h0 : σ[i]? = some (some (.ref a))) (hd : F dd = some (.xd fs)) (hl : fs.lookup n = some v) (hv : Rp K F v d) : EvG K pt (tXf a (.ref C) (some dd) C n (tVar i)) σ F (Is d) := fun H1 e g Q q =>
  ⟨_, h0, rfl, rfl, dd, fs, v, rfl, e _ _ hd, hl, q _ v F H1 rfl (.refl e g) hv⟩
theorem lv2_dT (r : List Int) (h : r.length ≤ 1000) : lv2 (dT r) := ⟨by rw [List.length_map]; exact h, fun d hd => by
  obtain ⟨k, _, rfl⟩ := List.mem_map.mp hd
  rfl⟩
theorem g_callS {ι : Type} {A : ι → List PyData} {Pi : ι → Prop} {f : ι → PyData} {ds : List PyData} {E : L2.St → XK} (i : ι) (h : EvsG K pt ts σ F (· = ds)) (ha : ds = A i) (hp : Pi i) : EvG K pt (tCallS (PSp K A Pi f) E ts) σ F (Is (f i)) := fun H1 e g Q q =>
  h H1 e g _ fun ds' vs F2 H2 hd s hv => by
    rw [hd, ha] at hv
    exact ⟨i, F2, hp, s.inn, hv, fun v F3 H3 s3 hv3 => q _ v F3 H3 rfl (s.trans (s3.lift s.good)) hv3⟩
theorem same_stepH {j : Nat} {p : PyData → Prop} {f : Addr} {fd : FuncData} (F_law_same : Fun K "_law_same" "_law_same" s_law_same f fd) (T : Tx mg) (b_law_same : Binds K fd ["_law_told", "_law_due"] []) (g_law_same : mg "_law_same" = some (.ref f))
    (G_law_same : FnH P w K mg base CX0 j f fd ["_law_told", "_law_due"] (spSm K p)) : FnH P w K mg base CX0 (j + 1) f fd ["_law_told", "_law_due"] (spSm K (upL p)) := by
  refine okH F_law_same sc_law_same (PSp.len (fun _ => rfl)) (fun cdv A outer s H vs Q E pz hot hr h => ?_)
  have hotX : ∀ {X : Cx}, X.A.handled = A.handled → X.pn = [pz] → HotC X := fun h1 h2 => ⟨pz, ⟨h1.trans hot.1, hot.2⟩, by rw [h2]; exact List.mem_cons_self ..⟩
  obtain ⟨d, F, hd, e, ha, q⟩ := h
  obtain ⟨x, y, rfl, hx, hy⟩ := rpAll2 ha
  refine ⟨_, (pss_cons (ps_if (pt_val (pe_callB (c_isi (K := K)) (by rfl) T.isinstance (by decide +kernel) (pa_cons (pv 1) (pa_cons (pe_bltn (v := .ty "tuple") (by rfl) T.tuple (by decide +kernel) rfl) pa_nil)))) (pss_cons (ps_if (PW.pt (pw_or (pt_not (pt_val (pe_callB (c_isi (K := K)) (by rfl) T.isinstance (by decide +kernel) (pa_cons (pv 0) (pa_cons (pe_bltn (v := .ty "tuple") (by rfl) T.tuple (by decide +kernel) rfl) pa_nil))))) (pw_or1 (pt_cmpR op_ne (pe_callB (c_len (K := K)) (by rfl) T.len (by decide +kernel) (pa_cons (pv 0) pa_nil)) (pe_callB (c_len (K := K)) (by rfl) T.len (by decide +kernel) (pa_cons (pv 1) pa_nil)) (nomark _))))) (pss_one (ps_ret pe_bl)) pss_nil)
    (pss_one (ps_ret (pe_notT (pe_lcH (own := [("_law_k", 2)]) (g := gName 2) (hotX rfl rfl) sc_law_same.nd (pi_range1H (by rfl) T.range (pa_cons (pe_callB (c_len (K := K)) (by rfl) T.len (by decide +kernel) (pa_cons (pv 1) pa_nil)) pa_nil)) (blkOk_by (own := [("_law_k", 2)]) (N := ["_law_told", "_law_due", "_law_k"]) (sc := defScope s_law_same) (by decide +kernel)) (fun _ _ _ _ _ => pg_name (i := 2) sc_law_same.nd rfl (by first | exact Or.inl rfl | exact Or.inr rfl)) (fun _ _ _ _ _ => (pts_one (pt_not (pt_val (pe_callH (E := fun _ => E0) G_law_same hr (hotX rfl rfl) (by rfl) g_law_same F_law_same.kp b_law_same passAt0 (pa_cons (pe_ix (o_ixT (K := K)) (pv 0) (pv 2) (fun _ _ => rfl)) (pa_cons (pe_ix (o_ixT (K := K)) (pv 1) (pv 2) (fun _ _ => rfl)) pa_nil))))))) (fun _ _ _ _ _ => (pv 2))))))) pss_nil)
    (pss_cons (ps_if (pt_cmpR op_isN (pv 1) pe_non (nomark _)) (pss_one (ps_ret (pe_cmpR op_isN (pv 0) pe_non (nomark _)))) pss_nil)
    (pss_cons (ps_if (pt_val (pe_callB (c_isi (K := K)) (by rfl) T.isinstance (by decide +kernel) (pa_cons (pv 1) (pa_cons (pe_bltn (v := .ty "str") (by rfl) T.str (by decide +kernel) rfl) pa_nil)))) (pss_one (ps_ret (pe_and (pe_callB (c_isi (K := K)) (by rfl) T.isinstance (by decide +kernel) (pa_cons (pv 0) (pa_cons (pe_bltn (v := .ty "str") (by rfl) T.str (by decide +kernel) rfl) pa_nil))) (pe_one (pe_cmpR op_eq (pv 0) (pv 1) (nomark _)))))) pss_nil)
    (pss_one (ps_ret (pe_and (pe_callB (c_isi (K := K)) (by rfl) T.isinstance (by decide +kernel) (pa_cons (pv 0) (pa_cons (pe_bltn (v := .ty "int") (by rfl) T.int (by decide +kernel) rfl) pa_nil))) (pe_and (pe_not (pe_callB (c_isi (K := K)) (by rfl) T.isinstance (by decide +kernel) (pa_cons (pv 0) (pa_cons (pe_bltn (v := .ty "bool") (by rfl) T.bool (by decide +kernel) rfl) pa_nil)))) (pe_one (pe_cmpR op_eq (pv 0) (pv 1) (nomark _)))))))))), ?_⟩
  refine t_when (b := isT d) (Step.refl e .nil) (et_B (g_isi (g_var rfl hy) (kit_tuple d))) (fun hb F2 H2 s2 e2 => ?_) (fun hb F2 H2 s2 e2 => ?_)
  · obtain ⟨ds, rfl⟩ : ∃ ds, d = .tuple ds := by cases d <;> simp_all [isT]
    obtain ⟨hz, hat⟩ := hd
    have hx2 := Rp.mono e2 _ _ hx
    have hy2 := Rp.mono e2 _ _ hy
    refine t_skip s2 ((et_or (a := false) (b := false) ((et_not (b := true) (et_B (g_isi (g_var rfl hx2) (kit_tuple _)))).is rfl) fun _ => (et_of (g_opI (g_cbI (gs_one (g_var rfl hx2)) rc_lenT) (g_cbI (gs_one (g_var rfl hy2)) rc_lenT) rv_neI)).is (by simp)).is rfl) fun F3 H3 s3 e3 => ?_
    have hx3 := Rp.mono e3 _ _ hx2
    have hy3 := Rp.mono e3 _ _ hy2
    refine t_retI (K := K) s3 ((g_notTL (g_lcE natD (List.range ds.length) (fun _ => false) natD (w_len (g_var (i := 1) rfl hy3) rfl (by omega)) (by simp; omega) (fun _ => rfl) (fun h hh F' e' u hu => ?_) (fun h _ hf => by cases hf))).is (by simp)) q
    have hj : h < ds.length := List.mem_range.mp hh
    have hi : atI ds (h : Int) = some ds[h] := atI_nat (List.getElem?_eq_getElem hj)
    exact (et_not (b := true) (et_B (g_callS ds[h] (gs_two (g_opI (g_var rfl (Rp.mono e' _ _ hx3)) (g_var rfl hu) (rv_ixT hi)) (g_opI (g_var rfl (Rp.mono e' _ _ hy3)) (g_var rfl hu) (rv_ixT hi))) rfl (hat _ (List.getElem_mem hj))))).is rfl
  · have hd' : atomS d = true := by cases d <;> simp_all [isT, upL, atomS]
    refine t_when s2 (et_of (g_opI (g_var rfl (Rp.mono e2 _ _ hy)) g_non rv_isN)) (fun hb F3 H3 s3 e3 => ?_) (fun hb3 F3 H3 s3 e3 => ?_)
    · obtain rfl : d = .none := by cases d <;> simp_all [isNone]
      exact t_retI s3 ((g_opI (g_var rfl (Rp.mono (e2.trans e3) _ _ hx)) g_non rv_isN).is rfl) q
    have e3' := e2.trans e3
    refine t_when s3 (et_B (g_isi (g_var rfl (Rp.mono e3' _ _ hy)) (kit_str d))) (fun hb F4 H4 s4 e4 => ?_) (fun hb4 F4 H4 s4 e4 => ?_)
    · obtain ⟨t, rfl⟩ : ∃ t, d = .str t := by cases d <;> simp_all [isS]
      exact t_retI s4 ((g_andV (b := true) (g_isi (g_var rfl (Rp.mono (e3'.trans e4) _ _ hx)) (kit_str _)) fun _ => (g_opI (g_var rfl (Rp.mono (e3'.trans e4) _ _ hx)) (g_var rfl (Rp.mono (e3'.trans e4) _ _ hy)) rv_eqS).is (by simp)).is rfl) q
    · obtain ⟨i, rfl⟩ : ∃ i, d = .int i := by cases d <;> simp_all [isS, isNone, atomS]
      have e4' := e3'.trans e4
      exact t_retI s4 ((g_andV (b := true) (g_isi (g_var rfl (Rp.mono e4' _ _ hx)) (kit_int _)) fun _ => (g_andV (b := true) (g_notV (g_isi (g_var rfl (Rp.mono e4' _ _ hx)) (kit_bool _))) fun _ => (g_opI (g_var rfl (Rp.mono e4' _ _ hx)) (g_var rfl (Rp.mono e4' _ _ hy)) rv_eqI).is (by simp)).is rfl).is rfl) q
theorem ok_sameH {f : Addr} {fd : FuncData} (F_law_same : Fun K "_law_same" "_law_same" s_law_same f fd) (T : Tx mg) (b_law_same : Binds K fd ["_law_told", "_law_due"] []) (g_law_same : mg "_law_same" = some (.ref f)) : FnH P w K mg base CX0 3 f fd ["_law_told", "_law_due"] (spSm K lv2) :=
  same_stepH F_law_same T b_law_same g_law_same (same_stepH F_law_same T b_law_same g_law_same (same_stepH F_law_same T b_law_same g_law_same
    ⟨PSp.len (fun _ => rfl), fun _ _ _ _ _ _ _ _ _ _ _ _ _ _ _ _ h => by obtain ⟨_, _, hf, _⟩ := h; exact hf.elim⟩))
end
end KC

/-! sorted of a tuple of whole numbers -/
namespace Fv
open PySem PySem.Spec PyProof.Rows L2 Evl StX
section
variable {prog : Program} {w : World} {A : Around} {E : Value → Shared → Prop} {s : Shared}
theorem gather_tup {t : Addr} {us : List Value} {Q : List Value → Shared → Prop} (ht : s.heap.IsTuple t us.toArray) (few : us.length ≤ sizeLine)
    (q : Q us { s with heap := (s.heap.push (seqObj "list" #[] 0)).update s.heap.objs.size (Obj.mapSeq (· ++ us.toArray)) }) : wpAny (model prog w) A (collect (.ref t)) Q E s := by
  obtain ⟨o, at_, cl, n, da⟩ := id ht
  have new : (s.heap.push (seqObj "list" #[] 0)).get? s.heap.objs.size = some (seqObj "list" #[] 0) := Heap.get?_push_size _ rfl
  have old : (s.heap.push (seqObj "list" #[] 0)).get? t = some o := Heap.get?_push_of_some _ at_
  have more : ∀ (A' : Around) (E' : Value → Shared → Prop), wpAny (model prog w) A' (Builtin.List.listExtendWith (.ref s.heap.objs.size) (.ref t) (.ref s.heap.objs.size)) (fun f s' => f = Fin.done (.ret (.ref s.heap.objs.size)) ∧ s' = { s with heap := (s.heap.push (seqObj "list" #[] 0)).update s.heap.objs.size (Obj.mapSeq (· ++ us.toArray)) }) E' { s with heap := s.heap.push (seqObj "list" #[] 0) } := by
    intro A' E'
    unfold Builtin.List.listExtendWith
    refine wpAny_bind (wpAny_typeOf (T := "tuple") ⟨o, old, cl⟩ ?_)
    rw [if_pos (by rw [show (Value.type "tuple" == Value.type "tuple") = true from rfl]; simp)]
    refine wpAny_bind (listItems_at old da (wpAny_bind (listItems_at new rfl ?_)))
    rw [if_neg (by simp)]
    refine wpAny_bind (listUpdate_at new rfl (wpAny_pure ⟨rfl, rfl⟩) (Nat.zero_le _) ?_)
    simp only [Array.size_append, List.size_toArray, List.length_nil]
    omega
  unfold collect
  refine wpAny_bind (wpAny_runValue (codeAny_builtin entry_proto_collect' ?_))
  show wpAny _ _ (newList [] >>= fun l => again (.builtin "list.__iadd__" ⟨[l, .ref t], []⟩)) _ _ s
  refine wpAny_bind (wpAny_newList (wpAny_pure ⟨Code.quiet_builtin _ (by decide +kernel), codeAny_builtin entry_list_iadd' ?_⟩))
  show wpAny _ _ (Builtin.List.listExtendWith (.ref s.heap.objs.size) (.ref t) (.ref s.heap.objs.size)) _ _ _
  refine wpAny_mono (more _ _) (fun f s' hf => ?_) fun _ _ x => x
  obtain ⟨hf1, hf2⟩ := hf
  subst hf1; subst hf2
  show wpAny (model prog w) A (load s.heap.objs.size >>= fun o => match o.data with
    | .seq xs _ => pure xs.toList
    | _ => unsupported "internal:collect") Q E _
  refine wpAny_bind (wpAny_load (get?_update_seq new _) ?_)
  have e : ((#[] : Array Value) ++ us.toArray).toList = us := by simp
  show wpAny _ _ (pure ((#[] : Array Value) ++ us.toArray).toList) Q E _
  rw [e]
  exact wpAny_pure q
theorem sorted_tupI {t : Addr} {us : List Value} {ns : List Int} {Q : Value → Shared → Prop} (ht : s.heap.IsTuple t us.toArray) (hI : IntsAre us ns) (few : us.length < 64)
    (q : ∀ (out : Array Value) (ms : List Int), IntsAre out.toList ms → ms.Perm ns → ms.Pairwise (· ≤ ·) → Q (.ref (s.heap.objs.size + 1)) { s with heap := sortedAll s.heap us out }) : wpAny (model prog w) A (call (.builtin "sorted") [.ref t]) Q E s := by
  have sz : us.length ≤ sizeLine := Nat.le_trans (Nat.le_of_lt few) (by decide)
  have n1 : ((s.heap.push (seqObj "list" #[] 0)).update s.heap.objs.size (Obj.mapSeq (· ++ us.toArray))).objs.size = s.heap.objs.size + 1 := by rw [Heap.size_update, size_push']
  have a1 : (((s.heap.push (seqObj "list" #[] 0)).update s.heap.objs.size (Obj.mapSeq (· ++ us.toArray))).push (seqObj "list" us.toArray 0)).get? (s.heap.objs.size + 1) = some (seqObj "list" us.toArray 0) := n1 ▸ Heap.get?_push_size _ rfl
  refine Calls.call_function_entry kind_sorted plain_sorted entry_sorted (args_sorted1 _) ?_
  unfold Builtin.«sorted»
  refine wpAny_bind (m := checkCount "sorted" 1 1 _) (wpAny_pure (wpAny_bind (gather_tup ht sz (wpAny_bind (wpAny_newList ?_ sz)))))
  rw [show ({ s with heap := (s.heap.push (seqObj "list" #[] 0)).update s.heap.objs.size (Obj.mapSeq (· ++ us.toArray)) } : Shared).heap.objs.size = s.heap.objs.size + 1 from n1]
  exact wpAny_bind (wpAny_holding (wpAny_call_entry slot_list_sort ⟨_, a1, rfl⟩ entry_list_sort (list_sort_tree a1 hI few fun out ms b1 b2 b3 => ⟨_, rfl, wpAny_pure ⟨_, rfl, q out ms b1 b2 b3⟩⟩) (args_list_sort _)))
end
def rSortedTI (K : PySem.W.Frag) : List V → Hp → VK → Prop := fun vs H Q => ∃ (a : Addr) (ns : List Int), vs = [.ref a] ∧ SqT K H a (ns.map V.int) ∧ ns.length < 64 ∧
  ∀ (ms : List Int) (p : Addr), ms.Perm ns → ms.Pairwise (· ≤ ·) → H p = none → Q (.ref p) (upd H p (.lst (ms.map V.int)))
theorem c_sortTI {X : Cx} {K : PySem.W.Frag} (h : X.K = K := by rfl) : CallR X (.builtin "sorted") (rSortedTI K) := by
  subst h
  intro pins s σ H vs us Q I r hq
  obtain ⟨a, ns, rfl, hs, few, q⟩ := hq
  obtain ⟨its, rv, tu, _⟩ := I.tuple hs
  rw [Vals.ref1 r]
  refine sorted_tupI tu rv.ints (by rw [← rv.length, List.length_map]; exact few) fun out ms k1 k2 k3 => ?_
  obtain ⟨ep, he⟩ := PyProof.Rows.sortedAll_at s.heap its out
  have hlen : (ms.map V.int).length ≤ sizeLine := by
    rw [List.length_map, k2.length_eq]
    exact Nat.le_trans (Nat.le_of_lt few) (by decide)
  exact ⟨.ref (s.heap.objs.size + 1), upd H (s.heap.objs.size + 1) (.lst (ms.map V.int)), I.laid (t' := s.toks) (fun _ _ => PyProof.Rows.sortedAll_old) (Nat.le_succ _) ⟨hlen, out.toList, ep, vals_of_ints k1, he⟩, rfl, q ms _ k2 k3 (I.hok.fresh (Nat.le_succ _))⟩
section
variable {K : PySem.W.Frag} {pt : Option Pt} {σ : L2.St} {F F' F0 H0 H : Hp} {te ta tb : TE} {ts tr : TA}
theorem g_sortTI {ns : List Int} (h : EvG K pt te σ F (Is (dT ns))) (few : ns.length < 64) : EvG K pt (tCB (rSortedTI K) (tCons te tNil)) σ F (fun d => ∃ ms : List Int, d = dI ms ∧ ms.Perm ns ∧ ms.Pairwise (· ≤ ·)) := fun H1 i g Q q => h H1 i g _ fun d v F2 H2 hd s hv => by
  subst hd
  obtain ⟨a, xs, rfl, hl, ha⟩ := rp_tup hv
  have e1 := rpAll_ints ha
  subst e1
  refine ⟨a, ns, rfl, tx s.inn hl, few, fun ms p k1 k2 hp => ?_⟩
  have s3 : Step pt F2 H2 (upd F2 p (.lst (ms.map V.int))) (upd H2 p (.lst (ms.map V.int))) := .laid s.inn s.good hp
  exact q (dI ms) _ _ _ ⟨ms, rfl, k1, k2⟩ (s.trans s3) (.lst upd_same (rpAll_of_ints ms))
end
end Fv

/-! == by a class's own __eq__; loops over what is known only here; picks out of a list whose items have something in common -/
namespace L2
open PySem PySem.Spec PyProof.Rows Evl
section
variable {X : Cx} {k : Nat} {CX : CXT} {C f : Addr} {fd : FuncData} {ps : List Str} {sp : Sp} {E : XK}
/-- o == p, two instances: the class's own word is asked -/
def rEqI (C : Addr) (sp : Sp) (E : XK) : R2 := fun x y H Q => ∃ a b dx dy fs gs, x = .ref a ∧ y = .ref b ∧ H a = some (.ins C dx fs) ∧ H b = some (.ins C dy gs) ∧ sp [.ref a, .ref b] H (fun v H' => ∃ c : Bool, v = .bl c ∧ Q (.bl c) H') E
theorem op_eqI (F : FnOk X.prog X.w X.K X.mg X.base CX k f fd ps sp) (hr : Room k X.A) (hb : Binds X.K fd ps []) (hx : Passes CX X E) (hs : PySem.W.findIn X.K (.ref C) "__eq__" = some (some (.ref f))) (hf : PySem.W.isFn X.K (.ref f) = true) :
    OpR X (compareOp .Eq) (rEqI C sp E) := by
  intro pins s σ H x y v u Q I rx ry hq
  obtain ⟨a, b, dx, dy, fs, gs, rfl, rfl, ha, hb', h⟩ := hq
  cases rx
  cases ry
  obtain ⟨mA, J, _⟩ := ins_get I.hok ha
  obtain ⟨mB, J', _⟩ := ins_get I.hok hb'
  obtain ⟨od, J, _⟩ := J.look
  obtain ⟨od', J', _⟩ := J'.look
  obtain ⟨m, hF⟩ := I.fr
  show wpAny (model X.prog X.w) X.A (richCompare .Eq (.ref a) (.ref b)) (EP X pins σ Q) X.xe s
  refine PySem.W.cmp_K (op := .Eq) (tb := .ref C) hr.units0 hF I.ok.mod.kin J J'.type (by simp [PySem.W.notFirst]) hs hf ?_
  have e0 := I.env0
  have hl := F.len _ _ _ _ h
  have r2 : Vals [V.ref a, V.ref b] [Value.ref a, Value.ref b] := .cons rfl (.cons rfl .nil)
  refine wpAny_call (codeAny_mono (F.run X.A X.stack s H ⟨[.ref a, .ref b], []⟩ [.ref a, .ref b] [.ref a, .ref b] _ E hr e0 (by
    have := hb s [.ref a, .ref b] I.kIn (by simpa using hl)
    simpa using this) r2 h) fun r s' hq => ?_)
  cases r with
  | error e => exact hx pins σ H s e s' I hq
  | ok fl =>
    cases fl with
    | ret w =>
      obtain ⟨z, H', I', rz, c, rfl, q⟩ := I.after hq
      cases rz
      exact ⟨.bl c, H', I', rfl, q⟩
    | next => exact False.elim hq
    | brk => exact False.elim hq
    | cont => exact False.elim hq
end
end L2
namespace Fv
open PySem PySem.Spec PyProof.Rows L2 Evl StX
section
variable {K : PySem.W.Frag} {pt : Option Pt} {σ : L2.St} {F F' F0 H0 H : Hp} {te ti ta tb : TE} {ts tr : TA} {R : PD} {D : Ends} {tz tu : TS} {wi : TI} {l : Addr}
/-- what is walked, seen just here -/
def WiAt (K : PySem.W.Frag) (pt : Option Pt) (wi : TI) (σ : L2.St) (F H : Hp) (R : List PyData → Prop) : Prop := ∀ RR : It → Hp → Prop, (∀ ds J F2 H2, R ds → Step pt F H F2 H2 → Yields K J F2 ds → RR J H2) → wi σ H RR
theorem w_lenOwn {i : Nat} {acc : List V} (h0 : σ[i]? = some (some (.ref l))) (hl : H l = some (.lst acc)) (e : Ex F H) (g : Good pt F H) (hz : acc.length ≤ 100000) : WiAt K pt (iRng1 (tCons (tCB (rLen K) (tCons (tVar i) tNil)) tNil)) σ F H (· = (List.range acc.length).map natD) := fun RR q => by
  refine ⟨_, h0, l, acc, rfl, .inl (SqL.of hl), (acc.length : Int), rfl, by omega, by omega, ?_⟩
  refine q _ _ F H rfl (.refl e g) ?_
  have := y_rng (K := K) 0 acc.length F
  rw [rng_nat] at this
  rw [show ((acc.length : Int)).toNat = acc.length by omega]
  exact this
theorem t_forHA {j : Nat} {RS : List PyData → Prop} (i0 : Ex F H) (g : Good pt F H) (hw : WiAt K pt wi σ F H RS) (I : List PyData → Nat → L2.St → Hp → Hp → Prop) (h0 : ∀ ds, RS ds → ∀ F1 H1, Step pt F H F1 H1 → I ds 0 σ F1 H1) (hI : ∀ ds i σ' F' H', I ds i σ' F' H' → Ex F' H')
    (hs : ∀ ds, RS ds → ∀ i d, ds[i]? = some d → ∀ σ' F' H' x, I ds i σ' F' H' → Ex F F' → Rp K F' x d →
      ∀ N : L2.St → Hp → Prop, (∀ σ2 F2 H2, I ds (i + 1) σ2 F2 H2 → Ex F' F2 → N σ2 H2) → tu { D with nx := N, ct := N, bk := tz D } (σ'.set j (some x)) H')
    (hd : ∀ ds, RS ds → ∀ σ' F' H', I ds ds.length σ' F' H' → Ex F F' → tz D σ' H') : tSeq (tFor wi (gName j) tu) tz D σ H :=
  hw _ fun ds' J F1 H1 e s1 Y => by
    refine ⟨fun i m σ' H' => m = ds'.length - i ∧ i ≤ ds'.length ∧ ∃ F', I ds' i σ' F' H' ∧ Ex F1 F', ⟨ds'.length, by simp, Nat.zero_le _, F1, h0 ds' e F1 H1 s1, Ex.refl _⟩, ?_⟩
    rintro i m σ' H' ⟨rfl, hil, F', p, e'⟩
    have eH : Ex F1 H' := e'.trans (hI ds' i σ' F' H' p)
    by_cases hlt : i < ds'.length
    · refine .inr ⟨Y.go i H' eH hlt, fun σ2 H2 => ∃ F2, I ds' (i + 1) σ2 F2 H2 ∧ Ex F1 F2, fun σ2 H2 ⟨F2, a, b⟩ => ⟨ds'.length - (i + 1), by omega, rfl, hlt, F2, a, b⟩, fun x H2 y => ?_⟩
      obtain ⟨rfl, d, hdd, hx⟩ := Y.yld i H' x H2 eH hlt y
      exact hs ds' e i d hdd σ' F' _ x p (s1.sub.trans e') (Rp.mono e' _ _ hx) _ fun σ2 F2 H2 a b => ⟨F2, a, e'.trans b⟩
    · have hE : i = ds'.length := Nat.le_antisymm hil (Nat.le_of_not_lt hlt)
      subst hE
      exact .inl ⟨Y.stop H' eH, hd ds' e σ' F' H' p (s1.sub.trans e')⟩
/-- xs[0:k], k drawn -/
theorem g_slU0R {src : PyData} {ds : List PyData} {N : Int} (hs : src = .list ds ∨ src = .tuple ds) (h : EvG K pt te σ F (Is src)) (hi : EvG K pt ti σ F (fun d => ∃ k : Int, d = .int k ∧ 0 ≤ k ∧ k < N)) : EvG K pt (tSl (rSlU K) te (tPart (tC (.int 0))) (tPart ti)) σ F (fun d => ∃ k : Nat, d = like src (ds.take k)) := fun H1 e g Q q =>
  h H1 e g _ fun d v F2 H2 hd s hv => ⟨0, rfl, hi.mono s.sub H2 s.inn s.good _ fun e u F3 H3 he s2 hu => by
    subst hd
    obtain ⟨k, rfl, k0, _⟩ := he
    obtain ⟨i, rfl⟩ : ∃ i : Nat, k = (i : Int) := ⟨k.toNat, by omega⟩
    exact ⟨(i : Int), rp_int hu, slU_run (H := H2) hs (fun n => by rw [show (some (0 : Int)) = some ((0 : Nat) : Int) from rfl, HT.sIx_nat]; exact Nat.min_eq_left (Nat.zero_le _)) (s.trans s2) (Rp.mono s2.sub _ _ hv) fun z v F4 H4 hz s4 hv4 => q z v F4 H4 ⟨i, hz⟩ s4 hv4⟩⟩
/-- rows of which each has R -/
abbrev AllR (R : PD) (c : Nat) : List PyData → Prop := fun ds => ds.length = c ∧ ∀ d ∈ ds, R d
theorem gs_consA {c : Nat} (ha : EvG K pt ta σ F R) (hb : EvsG K pt tr σ F (AllR R c)) : EvsG K pt (tCons ta tr) σ F (AllR R (c + 1)) := fun H1 i g Q q => gs_cons ha hb H1 i g Q fun ds vs F2 H2 ⟨d, ds', e, h1, h2, h3⟩ s hv => q ds vs F2 H2 (by
  rw [e]
  refine ⟨by simp [h2], fun x hx => ?_⟩
  rcases List.mem_cons.mp hx with z | z
  · rw [z]; exact h1
  · exact h3 x z) s hv
theorem gs_nilA : EvsG K pt tNil σ F (AllR R 0) := fun H1 i g Q q => gs_nil (K := K) H1 i g Q fun ds vs F2 H2 hd s hv => q ds vs F2 H2 ⟨by rw [hd]; rfl, fun x hx => by rw [hd] at hx; cases hx⟩ s hv
theorem g_pickA {c : Nat} {u : Int} (h : EvsG K pt ts σ F (AllR R c)) (hc : c ≤ 100) (hb : EvG K pt tb σ F (Is (.int u))) (h0 : 0 ≤ u) (h1 : u < (c : Int)) : EvG K pt (tOp (rIxL K) (tLst ts) tb) σ F R := g_op (g_lst h fun ds hd => by rw [hd.1]; omega) hb fun d e ⟨ds, hd, hl, hm⟩ he => by
  subst hd; subst he
  obtain ⟨k, rfl⟩ : ∃ k : Nat, u = (k : Int) := ⟨u.toNat, by omega⟩
  have hk : k < ds.length := by omega
  intro F H x y i hx hy Q q
  exact rv_ixL (atI_nat (List.getElem?_eq_getElem hk)) F H x y i hx hy Q fun z v F2 H2 hz s hv => q z v F2 H2 (by rw [show z = _ from hz]; exact hm _ (List.getElem_mem hk)) s hv
theorem flat_one {α : Type} (d : α) : ∀ k : Nat, (List.replicate k [d]).flatten = List.replicate k d
  | 0 => rfl
  | k + 1 => by rw [List.replicate_succ, List.flatten_cons, flat_one d k, List.replicate_succ]; rfl
/-- t * k -/
theorem o_repTG {X : Cx} (h : X.K = K := by rfl) : OpR X (binaryOp .Mult) (rRepT K) := h ▸ op_repT
theorem g_repTG {d : PyData} {k : Nat} (ha : EvG K pt ta σ F (Is (.tuple [d]))) (hb : EvG K pt tb σ F (Is (.int (k : Int)))) (h2 : 2 ≤ k) (h5 : k ≤ 1000) : EvG K pt (tOp (rRepT K) ta tb) σ F (Is (.tuple (List.replicate k d))) := g_opI ha hb fun F H x y e hx hy Q q => by
  obtain ⟨a, ys, rfl, hl, hv⟩ := rp_tup hx
  obtain rfl := rp_int hy
  have hly := hv.length
  have hrep := rpAll_rep k hv
  have e1 := flat_one d k
  rw [e1] at hrep
  refine ⟨a, k, ys, rfl, rfl, tx e hl, (fun z => by rw [z] at hly; cases hly), by omega, by omega, by rw [hly]; simp, fun p hp => ?_⟩
  rw [show ((k : Int)).toNat = k by omega]
  have s : Step none F H (upd F p (.tup (List.replicate k ys).flatten)) (upd H p (.tup (List.replicate k ys).flatten)) := .laid e .nil hp
  exact q _ _ _ _ rfl s (.tup upd_same (RpAll.mono s.sub _ _ hrep))
end
end Fv

namespace KC
open PySem PySem.Spec PyProof.Rows L2 L2H Fv Evl StX
abbrev s_sooner_run : Stmt := topS 23
theorem sc_sooner_run : FnScope ["book", "outcomes", "view", "value", "entry", "heard"] ["book", "outcomes", "view", "value"] (defScope s_sooner_run) := ⟨rfl, rfl, rfl, by decide +kernel, rfl, by decide +kernel, by decide +kernel⟩
abbrev s_law_outside : Stmt := topS 78
theorem sc_law_outside : FnScope ["_law_book", "_law_outcomes", "_law_view", "raised"] ["_law_book", "_law_outcomes", "_law_view"] (defScope s_law_outside) := ⟨rfl, rfl, rfl, by decide +kernel, rfl, by decide +kernel, by decide +kernel⟩
def isK : PyData → Int → Bool
  | .int a, k => decide (a = k)
  | _, _ => false
theorem isK_iff {d : PyData} {k : Int} : isK d k = true ↔ d = .int k := by
  cases d <;> simp [isK]
/-- a run after which a sooner value is wrong -/
def soonR (Ro : List (List Int)) (vals : List Int) (k : Int) (vw : ORow) (fit : List (List Int)) : PyData := match fit.filter (fun r => !decide (valR Ro vals r = k)) with
  | [] => .none
  | r :: _ => .tuple [dT r, dT (heardV vw ++ (heardV vw).take 1)]
theorem first_all {Ro : List (List Int)} {vals : List Int} {fit : List (List Int)} {k : Int} (hne : fit ≠ []) (hb : ∀ r ∈ fit, 0 ≤ valR Ro vals r ∧ valR Ro vals r < 4) :
    firstR (valsR Ro vals fit) = .int k ↔ ∀ r ∈ fit, valR Ro vals r = k := by
  have mem : ∀ r ∈ fit, valR Ro vals r ∈ valsR Ro vals fit := fun r hr => by
    unfold valsR
    rw [mem_lotOf]
    exact ⟨by have := hb r hr; omega, List.mem_map.mpr ⟨r, hr, rfl⟩⟩
  constructor
  · intro h r hr
    have hm := mem r hr
    unfold firstR at h
    split at h
    · rename_i h1
      obtain ⟨a, ha⟩ := List.length_eq_one_iff.mp h1
      rw [ha] at h hm
      have : a = k := by simpa using h
      rw [List.mem_singleton.mp hm]; exact this
    · cases h
  · intro h
    obtain ⟨r0, hr0⟩ := List.exists_mem_of_ne_nil _ hne
    have hk := hb r0 hr0
    rw [h r0 hr0] at hk
    have e : valsR Ro vals fit = [k] := by
      unfold valsR
      refine asc_unique (lotOf_asc 4 _) (List.pairwise_singleton _ _) fun j => ?_
      rw [mem_lotOf, List.mem_singleton]
      constructor
      · rintro ⟨_, h2⟩
        obtain ⟨r, hr, rfl⟩ := List.mem_map.mp h2
        exact h r hr
      · rintro rfl
        exact ⟨by omega, List.mem_map.mpr ⟨r0, hr0, h r0 hr0⟩⟩
    unfold firstR
    rw [e]; rfl
theorem soon_none {Ro : List (List Int)} {vals : List Int} {fit : List (List Int)} {k : Int} {vw : ORow} (h : ∀ r ∈ fit, valR Ro vals r = k) : soonR Ro vals k vw fit = .none := by
  unfold soonR
  have : fit.filter (fun r => !decide (valR Ro vals r = k)) = [] := by
    rw [List.filter_eq_nil_iff]
    intro r hr
    simp [h r hr]
  rw [this]
theorem soon_some {Ro : List (List Int)} {vals : List Int} {fit : List (List Int)} {k : Int} {vw : ORow} {i : Nat} {r : List Int} (hr : fit[i]? = some r) (h : ∀ r ∈ fit.take i, valR Ro vals r = k) (hk : valR Ro vals r ≠ k) : soonR Ro vals k vw fit = .tuple [dT r, dT (heardV vw ++ (heardV vw).take 1)] := by
  unfold soonR
  have hi : i < fit.length := (List.getElem?_eq_some_iff.mp hr).1
  have e : fit = fit.take i ++ r :: fit.drop (i + 1) := by
    have h1 := (List.take_append_drop i fit).symm
    rw [List.drop_eq_getElem_cons hi] at h1
    rw [(List.getElem?_eq_some_iff.mp hr).2] at h1
    exact h1
  have : fit.filter (fun r => !decide (valR Ro vals r = k)) = r :: (fit.drop (i + 1)).filter (fun r => !decide (valR Ro vals r = k)) := by
    rw [e, List.filter_append]
    have e2 : (fit.take i).filter (fun r => !decide (valR Ro vals r = k)) = [] := by
      rw [List.filter_eq_nil_iff]
      intro x hx
      simp [h x hx]
    rw [e2, List.nil_append, List.filter_cons_of_pos (by simpa using hk)]
    rw [← e]
  rw [this]
section
variable {P : Program} {w : World} {K : PySem.W.Frag} {mg : Str → Option Value} {base : Heap} {CB CO CE fE CF C fI : Addr} {mc : Value}
variable {pt : Option Pt} {σ : L2.St} {F F' F0 H0 H F2 H2 : Hp} {te ta tb ty td : TE} {ts tr : TA} {t : TT} {D : Ends} {tz tu tw : TS}
theorem rv_imp {r : L2.R2} {d e : PyData} {R R' : PD} (h : RvG K r d e R) (hi : ∀ z, R z → R' z) : RvG K r d e R' := fun F H x y i hx hy Q q => h F H x y i hx hy Q fun z v F2 H2 hz s hv => q z v F2 H2 (hi z hz) s hv
theorem rv_eqFi {vs : List Int} {k : Int} : RvG K rEq (firstR vs) (.int k) (Is (.bool (isK (firstR vs) k))) := by
  unfold firstR
  split
  · exact rv_eqI
  · exact rv_val fun F H x y _ hx hy => by
      obtain rfl := rp_none hx
      obtain rfl := rp_int hy
      refine ⟨.bl (decide (V.non = V.int k)), fun Q q => ⟨rfl, q⟩, ?_⟩
      simp only [reduceCtorEq, decide_false, isK]
      exact .bl _
def spSoon (K : PySem.W.Frag) (CB CO : Addr) : Sp := fun vs H Q _ => ∃ (x y : Addr) (n m : Nat) (R Ro : List (List Int)) (vals : List Int) (vw : List (Option Int)) (k : Int) (F : Hp) (v : V), vs = [.ref x, .ref y, v, .int k] ∧ Side n R Ro vals vw ∧ R.filter (goesB vw) ≠ [] ∧ Ex F H ∧ Bk K CB F x n m R ∧ Oc K CO F y Ro vals ∧ Rp K F v (dO vw) ∧
  ∀ u F2 H2, Step none F H F2 H2 → Rp K F2 u (soonR Ro vals k vw (R.filter (goesB vw))) → Q u H2
theorem tand_go {t u : TT} {Q : Bool → Hp → Prop} (e : Ex F H) (g : Good pt F H) (h : EtG pt t σ F (· = true)) (k : ∀ F2 H2, Step pt F H F2 H2 → u σ H2 Q) : tAnd t u σ H Q := h H e g _ fun b F2 H2 hb s => by
  subst hb
  exact k F2 H2 s
theorem heard_len (vw : ORow) : (heardV vw).length ≤ vw.length := by
  unfold heardV
  rw [List.length_map]
  exact Nat.le_trans (List.length_filter_le _ _) (by simp)
theorem ok_soon {f fB fI fV fH fW : Addr} {fd fdB fdI fdV fdH fdW : FuncData} (Fn : Fun K "sooner_run" "sooner_run" s_sooner_run f fd) (T : Tx mg)
    (F_is_whole : FunW K fW fdW) (g_is_whole : mg "is_whole" = some (.ref fW))
    (F_first_view : Fun K "first_view" "first_view" s_first_view fB fdB) (b_first_view : Binds K fdB ["book", "outcomes", "view"] []) (g_first_view : mg "first_view" = some (.ref fB)) (G_first_view : FnOk P w K mg base CX0 5 fB fdB ["book", "outcomes", "view"] (spFvG K CB CO))
    (F_inputs_behind : Fun K "_inputs_behind" "_inputs_behind" s_inputs_behind fI fdI) (b_inputs_behind : Binds K fdI ["book", "view"] []) (g_inputs_behind : mg "_inputs_behind" = some (.ref fI)) (G_inputs_behind : FnOk P w K mg base CX0 3 fI fdI ["book", "view"] (spBeh K CB))
    (FC : OutC K CO) (m_value_of : Meth K CO "value_of" fV) (G_value_of : FnOk P w K mg base CX0 3 fV fdV ["self", "entry"] (spVal K CO)) (b_value_of : Binds K fdV ["self", "entry"] [])
    (F_heard_houses : Fun K "heard_houses" "heard_houses" s_heard_houses fH fdH) (b_heard_houses : Binds K fdH ["view"] []) (g_heard_houses : mg "heard_houses" = some (.ref fH)) :
    FnOk P w K mg base CX0 6 f fd ["book", "outcomes", "view", "value"] (spSoon K CB CO) := by
  have G_is_whole : FnOk P w K mg base CX0 1 fW fdW ["thing", "low", "high"] (spWhole K) := ok_whole F_is_whole T
  have G_heard_houses : FnOk P w K mg base CX0 1 fH fdH ["view"] (spHeard K) := ok_heard F_heard_houses T
  obtain ⟨ds1, v1_is_whole, b1_is_whole⟩ := L2.FunD.binds1 F_is_whole (ps := ["thing", "low", "high"]) 1 0 (by simp) rfl fun T kV doc pm an cdv ct us its hl hi => match us, its, hl, hi with | [_], [_, _], _, _ => ⟨_, rfl, rfl⟩
  refine Fn.ok sc_sooner_run (fun vs H Q E ⟨_, _, _, _, _, _, _, _, _, _, _, h, _⟩ => by rw [h]; rfl) (fun cdv A outer s H vs Q E hr h => ?_)
  obtain ⟨x, y, n, m, R, Ro, vals, vw, k, F, v, rfl, sd, hne, e, bk, oc, hv, q⟩ := h
  refine ⟨_, (pss_cons (ps_if (PW.pt (pw_and (pt_val (pe_call G_is_whole (hr.mono (by decide)) (by rfl) g_is_whole F_is_whole.kp b1_is_whole v1_is_whole pass0 (pa_cons (pv 3) pa_nil))) (pw_and1 (pt_cmpR op_eq (pe_call G_first_view (hr.mono (by decide)) (by rfl) g_first_view F_first_view.kp b_first_view .nil pass0 (pa_cons (pv 0) (pa_cons (pv 1) (pa_cons (pv 2) pa_nil)))) (pv 3) (nomark _))))) (pss_one (ps_ret pe_non)) pss_nil)
    (pss_cons (ps_for PassesOwn.never rfl (i_list (K := K) (pe_call G_inputs_behind (hr.mono (by decide)) (by rfl) g_inputs_behind F_inputs_behind.kp b_inputs_behind .nil pass0 (pa_cons (pv 0) (pa_cons (pv 2) pa_nil)))) (pg_name (i := 4) sc_sooner_run.nd rfl (by first | exact Or.inl rfl | exact Or.inr rfl)) (pss_one (ps_if (PW.pt (pw_or (pt_not (pt_val (pe_call G_is_whole (hr.mono (by decide)) (by rfl) g_is_whole F_is_whole.kp b1_is_whole v1_is_whole pass0 (pa_cons (pv 3) pa_nil)))) (pw_or1 (pt_cmpR op_ne (pe_meth (pv 1) FC.cl m_value_of G_value_of (hr.mono (by decide)) b_value_of .nil pass0 (pa_cons (pv 4) pa_nil)) (pv 3) (nomark _))))) (pss_cons (ps_set (i := 5) sc_sooner_run.nd rfl (by first | exact Or.inl rfl | exact Or.inr rfl) (pe_call G_heard_houses (hr.mono (by decide)) (by rfl) g_heard_houses F_heard_houses.kp b_heard_houses .nil pass0 (pa_cons (pv 2) pa_nil)))
    (pss_one (ps_ret (pe_tup (pa_cons (pv 4) (pa_cons (pe_op (o_catA (K := K)) (pv 5) (pe_slice (s_any (K := K)) (pv 5) po_none (po_some pe_int))) pa_nil)))))) pss_nil)))
    (pss_one ps_never))), ?_⟩
  have hfit : (R.filter (goesB vw)).length ≤ 60 := Nat.le_trans (List.length_filter_le _ _) sd.few
  have hin : ∀ r ∈ R.filter (goesB vw), r ∈ Ro := fun r hr' => sd.sub r (List.mem_filter.mp hr').1
  have key := first_all (k := k) hne fun r hr' => sd.val (hin r hr')
  have gk : ∀ {σ' : L2.St} {F' : Hp}, σ'[3]? = some (some (.int k)) → EvG K none (tVar 3) σ' F' (Is (.int k)) := fun h => g_var (v := .int k) h (.int _)
  refine t_when (b := true && isK (firstR (valsR Ro vals (R.filter (goesB vw)))) k) (Step.refl e .nil) (et_and ((et_B (g_whole1 (gk rfl))).is rfl) fun _ => et_of (K := K) (g_opI (g_bov rfl bk rfl oc rfl hv sd hne) (gk rfl) rv_eqFi)) (fun hb F2 H2 s2 e2 => ?_) (fun hb F2 H2 s2 e2 => ?_)
  · rw [Bool.true_and, isK_iff] at hb
    exact t_retI (K := K) s2 (g_non.is (soon_none (key.mp hb)).symm) q
  · replace hb : ¬ (firstR (valsR Ro vals (R.filter (goesB vw))) = .int k) := fun z => by rw [Bool.true_and, isK_iff.mpr z] at hb; cases hb
    have hv2 := Rp.mono e2 _ _ hv
    have oc2 := oc.mono e2
    refine t_for (K := K) (ds := (R.filter (goesB vw)).map dT) s2 (w_listI (g_beh rfl (bk.mono e2) rfl hv2 sd.beh)) (fun i σ' F' => (∀ r ∈ (R.filter (goesB vw)).take i, valR Ro vals r = k) ∧ ∃ y1 y2, σ' = [some (.ref x), some (.ref y), some v, some (.int k), y1, y2]) (fun F2 e2 => ⟨fun r hr => by simp at hr, _, _, rfl⟩) (fun i d hd σ' F4 H4 u hI s4 e4 hu N hN => ?_) (fun σ' F4 H4 hI s4 e4 => ?_)
    · obtain ⟨hI, y1, y2, rfl⟩ := hI
      obtain ⟨r, hr2, rfl⟩ := get_map hd
      have hrR := List.mem_of_getElem? hr2
      refine t_if1 (b := false || !decide (valR Ro vals r = k)) s4 (et_or (et_not (b := true) (et_B (K := K) ((g_whole1 (d := .int k) (gk rfl)).is rfl))) fun _ => et_of (K := K) (g_opI (g_val rfl (oc2.mono e4) sd.nd sd.vl sd.lo (hin r hrR) (g_var rfl hu)) (gk rfl) rv_neI)) (fun hb5 F5 H5 s5 e5 => ?_) (fun hb5 F5 H5 s5 e5 => ?_)
      · have hk : valR Ro vals r ≠ k := by simpa using hb5
        have hv5 := Rp.mono (e4.trans e5) _ _ hv2
        have hl5 : vw.length ≤ 5 := by have := sd.lw; have := sd.n5; omega
        refine t_asgI (K := K) (d := dT (heardV vw)) s5 (g_call vw (gs_one (g_var rfl hv5)) rfl (by show vw.length ≤ 60; omega)) fun z F6 H6 s6 e6 hz => ?_
        have hh := heard_len vw
        refine t_retI (K := K) s6 ((g_tupI (gs_two (g_var rfl (Rp.mono (e5.trans e6) _ _ hu)) (g_opI (g_var rfl hz) (g_slU (i := 1) (ds := (heardV vw).map PyData.int) (.inr rfl) (g_var rfl hz) g_int) (rv_catA (by simp; omega)))) (by simp)).is ?_) q
        rw [soon_some hr2 hI hk]
        show PyData.tuple _ = PyData.tuple _
        simp only [dT, List.map_append, List.map_take, like]
      · have hk : valR Ro vals r = k := by simpa using hb5
        refine hN _ F5 H5 ⟨fun r' hr' => ?_, _, _, rfl⟩ s5 e5
        rw [take_succA hr2] at hr'
        rcases List.mem_append.mp hr' with z | z
        · exact hI r' z
        · rw [List.mem_singleton.mp z]; exact hk
    · obtain ⟨hI, _⟩ := hI
      rw [List.length_map, List.take_length] at hI
      exact absurd (key.mpr hI) hb
def spSoonB (K : PySem.W.Frag) (CB CO CE : Addr) : Sp := fun vs H _ E => ∃ (x y : Addr) (n m : Nat) (R Ro : List (List Int)) (vals : List Int) (vw : List (Option Int)) (k : Int) (F : Hp) (v : V), vs = [.ref x, .ref y, v, .int k] ∧ Side n R Ro vals vw ∧ R.filter (goesB vw) = [] ∧ Ex F H ∧ Bk K CB F x n m R ∧ Oc K CO F y Ro vals ∧ Rp K F v (dO vw) ∧
  ∀ F2 H2 dd, Step none F H F2 H2 → (∃ u, F2 dd = some (.xd [("view", u)]) ∧ Rp K F2 u (dO vw)) → E (.ref CE) (some dd) H2
theorem ok_soonB {f fB fI fV fH fW : Addr} {fd fdB fdI fdV fdH fdW fdE : FuncData} (Fn : Fun K "sooner_run" "sooner_run" s_sooner_run f fd) (T : Tx mg) (FM : FirmC K mg CF mc) (E_Outside : ErrC K mg CF CE fE "Outside" ["view"]) (FI : Fun K "__init__" "Outside.__init__" s_Outside___init__ fE fdE) (bI_Outside : Binds K fdE ["self", "view"] [])
    (F_is_whole : FunW K fW fdW) (g_is_whole : mg "is_whole" = some (.ref fW))
    (F_first_view : Fun K "first_view" "first_view" s_first_view fB fdB) (b_first_view : Binds K fdB ["book", "outcomes", "view"] []) (g_first_view : mg "first_view" = some (.ref fB)) (GX_first_view : FnOk P w K mg base (L2N.CX P w) 5 fB fdB ["book", "outcomes", "view"] (spFvB K CB CO CE))
    (F_inputs_behind : Fun K "_inputs_behind" "_inputs_behind" s_inputs_behind fI fdI) (b_inputs_behind : Binds K fdI ["book", "view"] []) (g_inputs_behind : mg "_inputs_behind" = some (.ref fI)) (G_inputs_behind : FnOk P w K mg base CX0 3 fI fdI ["book", "view"] (spBeh K CB))
    (FC : OutC K CO) (m_value_of : Meth K CO "value_of" fV) (G_value_of : FnOk P w K mg base CX0 3 fV fdV ["self", "entry"] (spVal K CO)) (b_value_of : Binds K fdV ["self", "entry"] [])
    (F_heard_houses : Fun K "heard_houses" "heard_houses" s_heard_houses fH fdH) (b_heard_houses : Binds K fdH ["view"] []) (g_heard_houses : mg "heard_houses" = some (.ref fH)) :
    FnOk P w K mg base (L2N.CX P w) 6 f fd ["book", "outcomes", "view", "value"] (spSoonB K CB CO CE) := by
  have G_is_whole : FnOk P w K mg base CX0 1 fW fdW ["thing", "low", "high"] (spWhole K) := ok_whole F_is_whole T
  have G_heard_houses : FnOk P w K mg base CX0 1 fH fdH ["view"] (spHeard K) := ok_heard F_heard_houses T
  have GI_Outside : FnOk P w K mg base CX0 1 fE fdE ["self", "view"] (spIv CE "view") := ok_viewE FI FM E_Outside
  obtain ⟨ds1, v1_is_whole, b1_is_whole⟩ := L2.FunD.binds1 F_is_whole (ps := ["thing", "low", "high"]) 1 0 (by simp) rfl fun T kV doc pm an cdv ct us its hl hi => match us, its, hl, hi with | [_], [_, _], _, _ => ⟨_, rfl, rfl⟩
  refine okXN Fn sc_sooner_run (fun vs H Q E ⟨_, _, _, _, _, _, _, _, _, _, _, h, _⟩ => by rw [h]; rfl) (fun cdv A outer s H vs Q E hr h => ?_)
  obtain ⟨x, y, n, m, R, Ro, vals, vw, k, F, v, rfl, sd, hnil, e, bk, oc, hv, q⟩ := h
  refine ⟨_, (pss_cons (ps_if (PW.pt (pw_and (pt_val (pe_call G_is_whole (hr.mono (by decide)) (by rfl) g_is_whole F_is_whole.kp b1_is_whole v1_is_whole pass0 (pa_cons (pv 3) pa_nil))) (pw_and1 (pt_cmpR op_eq (pe_call GX_first_view (hr.mono (by decide)) (by rfl) g_first_view F_first_view.kp b_first_view .nil (L2N.passes_call (L2N.takes_of rfl rfl rfl rfl) fun _ _ _ _ h => h) (pa_cons (pv 0) (pa_cons (pv 1) (pa_cons (pv 2) pa_nil)))) (pv 3) (nomark _))))) (pss_one (ps_ret pe_non)) pss_nil)
    (pss_cons (ps_for (passes_of rfl) rfl (i_list (K := K) (pe_call G_inputs_behind (hr.mono (by decide)) (by rfl) g_inputs_behind F_inputs_behind.kp b_inputs_behind .nil pass0 (pa_cons (pv 0) (pa_cons (pv 2) pa_nil)))) (pg_name (i := 4) sc_sooner_run.nd rfl (by first | exact Or.inl rfl | exact Or.inr rfl)) (pss_one (ps_if (PW.pt (pw_or (pt_not (pt_val (pe_call G_is_whole (hr.mono (by decide)) (by rfl) g_is_whole F_is_whole.kp b1_is_whole v1_is_whole pass0 (pa_cons (pv 3) pa_nil)))) (pw_or1 (pt_cmpR op_ne (pe_meth (pv 1) FC.cl m_value_of G_value_of (hr.mono (by decide)) b_value_of .nil pass0 (pa_cons (pv 4) pa_nil)) (pv 3) (nomark _))))) (pss_cons (ps_set (i := 5) sc_sooner_run.nd rfl (by first | exact Or.inl rfl | exact Or.inr rfl) (pe_call G_heard_houses (hr.mono (by decide)) (by rfl) g_heard_houses F_heard_houses.kp b_heard_houses .nil pass0 (pa_cons (pv 2) pa_nil)))
    (pss_one (ps_ret (pe_tup (pa_cons (pv 4) (pa_cons (pe_op (o_catA (K := K)) (pv 5) (pe_slice (s_any (K := K)) (pv 5) po_none (po_some pe_int))) pa_nil)))))) pss_nil)))
    (pss_one (L2N.ps_raise rfl (L2N.takes_of rfl rfl rfl rfl) (pmk_oexN E_Outside.T E_Outside.iC E_Outside.tI GI_Outside (hr.mono (by decide)) bI_Outside pass0 (by rfl) E_Outside.g (pa_cons (pv 2) pa_nil)))))), ?_⟩
  have gk : ∀ {σ' : L2.St} {F' : Hp}, σ'[3]? = some (some (.int k)) → EvG K none (tVar 3) σ' F' (Is (.int k)) := fun h => g_var (v := .int k) h (.int _)
  refine tand_go (F := F) (pt := none) e .nil ((et_B (b := true) ((g_whole1 (K := K) (g_var (v := .int k) (d := .int k) rfl (.int _))).is rfl))) fun F2 H2 s2 => ?_
  exact ⟨_, rfl, _, rfl, _, rfl, x, y, n, m, R, Ro, vals, vw, F2, v, rfl, sd, hnil, s2.inn, bk.mono s2.sub, oc.mono s2.sub, Rp.mono s2.sub _ _ hv, fun F3 H3 dd s3 hd => q F3 H3 dd (s2.trans s3) hd⟩
/-! _law_outside -/
def spOutside (K : PySem.W.Frag) (CB CO : Addr) : Sp := fun vs H Q _ => ∃ (x y : Addr) (n m : Nat) (R Ro : List (List Int)) (vals : List Int) (vw : List (Option Int)) (F : Hp) (v : V), vs = [.ref x, .ref y, v] ∧ Side n R Ro vals vw ∧ R.filter (goesB vw) = [] ∧ Ex F H ∧ Bk K CB F x n m R ∧ Oc K CO F y Ro vals ∧ Rp K F v (dO vw) ∧
  ∀ F2 H2, Step none F H F2 H2 → Q (.bl true) H2
theorem lv2_dO (r : ORow) (h : r.length ≤ 1000) : lv2 (dO r) := ⟨by rw [List.length_map]; exact h, fun d hd => by
  obtain ⟨k, _, rfl⟩ := List.mem_map.mp hd
  cases k <;> rfl⟩
theorem ok_outside {f fB fS : Addr} {fd fdB fdS : FuncData} (Fn : Fun K "_law_outside" "_law_outside" s_law_outside f fd) (T : Tx mg) (EO : ErrC K mg CF CE fE "Outside" ["view"])
    (F_law_same : Fun K "_law_same" "_law_same" s_law_same fS fdS) (b_law_same : Binds K fdS ["_law_told", "_law_due"] []) (g_law_same : mg "_law_same" = some (.ref fS))
    (F_sooner_run : Fun K "sooner_run" "sooner_run" s_sooner_run fB fdB) (b_sooner_run : Binds K fdB ["book", "outcomes", "view", "value"] []) (g_sooner_run : mg "sooner_run" = some (.ref fB)) (GX_sooner_run : FnOk P w K mg base (L2N.CX P w) 6 fB fdB ["book", "outcomes", "view", "value"] (spSoonB K CB CO CE)) :
    FnOk P w K mg base CX0 7 f fd ["_law_book", "_law_outcomes", "_law_view"] (spOutside K CB CO) := by
  have GH_law_same : FnH P w K mg base CX0 3 fS fdS ["_law_told", "_law_due"] (spSm K lv2) := ok_sameH F_law_same T b_law_same g_law_same
  refine Fn.ok sc_law_outside (fun vs H Q E ⟨_, _, _, _, _, _, _, _, _, _, h, _⟩ => by rw [h]; rfl) (fun cdv A outer s H vs Q E hr h => ?_)
  obtain ⟨x, y, n, m, R, Ro, vals, vw, F, v, rfl, sd, hnil, e, bk, oc, hv, q⟩ := h
  refine ⟨_, (pss_cons (L2N.ps_try_as (i := 3) rfl rfl sc_law_outside.nd rfl rfl ⟨by rfl, by decide, .inl EO.g⟩ takes0N (fun W pn xe tkW po => (pss_one (ps_expr (pe_callS GX_sooner_run (hr.mono (Nat.le_refl 6)) (by rfl) g_sooner_run F_sooner_run.kp b_sooner_run (fun σ => L2N.passAt tkW σ) (pa_cons (pv 0) (pa_cons (pv 1) (pa_cons (pv 2) (pa_cons pe_int pa_nil)))))))) (fun a oe cls d pn hz hf => (pss_one (ps_ret (pe_callH (E := fun _ => E0) GH_law_same (roomH_mark (hr.mono (by decide : 3 ≤ 6)) _) (hot_suite hz hf) (by rfl) g_law_same F_law_same.kp b_law_same passAt0 (pa_cons (pe_xf EO.xf (EO.no "view" (by simp)) hz.zc hf (pv 3)) (pa_cons (pv 2) pa_nil)))))))
    (pss_one (ps_ret pe_bl))), ?_⟩
  have hl : vw.length ≤ 1000 := by have := sd.lw; have := sd.n5; omega
  refine ⟨_, rfl, _, rfl, _, rfl, x, y, n, m, R, Ro, vals, vw, 0, F, v, rfl, sd, hnil, e, bk, oc, hv, fun F2 H2 dd s2 ⟨u, hdd, hu⟩ => ⟨true, EO.self, fun _ a ha => ?_, fun z => by cases z⟩⟩
  refine t_retI (K := K) s2 (g_callS (dO vw) (gs_two (g_xf (i := 3) rfl hdd rfl hu) (g_var rfl (Rp.mono s2.sub _ _ hv))) rfl (lv2_dO vw hl)) fun u3 F3 H3 s3 hu3 => ?_
  obtain rfl := rp_bool hu3
  exact q F3 H3 s3
end
end KC

/-! dicts whose keys are data: made by a comprehension, written down with one entry, sorted, get with another value -/
namespace Fv
open PySem PySem.Spec PyProof.Rows L2 Evl StX
/-- the store of one entry, the key a tuple that stands -/
theorem putNs {Y : Cx} {pins : List (Addr × Obj)} {τ : L2.St} {G : Hp} {s : Shared} {E : Value → Shared → Prop} {D b : Addr} {xs : List NEnt} {k : NK} {v : V} {u r : Value} {Q : Unit → Shared → Prop}
    (hu : Y.A.units + 65 < cLine) (I : Inv Y pins τ G s) (nd : ND Y.prog Y.w Y.K G D xs) (ko : KeyOk Y.K G k b) (hz : xs.length < sizeLine) (ru : RelV (.ref b) u) (rr : RelV v r)
    (fin : ∀ s' o, DNo Y.prog Y.w o (putN xs k b v) → Inv Y pins τ (upd G D (rawO D o)) s' → Q () s') : wpAny (model Y.prog Y.w) Y.A (dictSet D u r) Q E s := by
  cases (show u = Value.ref b from ru)
  obtain ⟨ys, hp, hm, hl⟩ := nd.dict I
  refine wpAny_dictSet_heap (hsz := hl) (show (nestedKind Y.prog Y.w).room Y.A by show Y.A.units + 8 < cLine; omega) (ko.is I) hm fun h' hm' hs => ?_
  obtain ⟨o, h1, h2⟩ := dno_of (hp.put k b rr) (by have := putN_len xs k b v; omega) hm'
  obtain ⟨o0, e0, _⟩ := nd.ex
  exact fin _ o h2 (d_write I (by rw [e0]; exact True.intro) hs ⟨o, h1⟩ (raw_ok h1))
/-- {k: v for target in iter if ..}: D is the new dict, each key data -/
def tDcN (P : Program) (w : World) (K : PySem.W.Frag) (wi : TI) (g : TG) (tt : TT) (tk tv : TE) (vs : List Nat) : TE := fun σ H Q => wi σ H fun J H1 => ∀ D o, H1 D = none → (D == sysModules) = false → DNo P w o [] →
  ∃ W : Nat → Nat → Hp → Prop, (∃ m, W 0 m (upd H1 D (rawO D o))) ∧ ∀ i m H, W i m H →
    (J.stop i H ∧ Q (.ref D) H) ∨
    (J.go i H ∧ ∃ Nx : Hp → Prop, (∀ H', Nx H' → ∃ m', m' < m ∧ W (i + 1) m' H') ∧
      ∀ x H', J.yld i H x H' → g x (wipe σ vs) H' fun σ2 H2 => wipe σ2 vs = wipe σ vs ∧ tt σ2 H2 fun b H3 =>
        if b = true then tk σ2 H3 fun y H4 => tv σ2 H4 fun z H5 => ∃ xs k b, y = .ref b ∧ ND P w K H5 D xs ∧ KeyOk K H5 k b ∧ xs.length < sizeLine ∧ ∀ o', DNo P w o' (putN xs k b z) → Nx (upd H5 D (rawO D o'))
        else Nx H3)
section
variable {X : Cx} {P : Program} {w : World} {K : PySem.W.Frag} {kx vx tg iter : Expr} {ifs : List Expr} {scope : Scope} {own : List (Str × Nat)} {pos : Pos} {wi : TI} {g : TG} {tt : TT} {tk tv : TE}
theorem pe_dcN (hc : X.calm = true) (hu : X.A.units + 65 < cLine) (hN : X.N.Nodup) (hi : PI X tg iter wi) (ok : BlkOk X.N X.env.scope scope own)
    (hg : Blk X scope fun Y => PG Y tg g) (ht : Blk X scope fun Y => PTs Y ifs tt) (hk : Blk X scope fun Y => PE Y kx tk) (hv : Blk X scope fun Y => PE Y vx tv) (hs : ∀ x, foldedSetIterable iter X.env x = pure x := by intro _; rfl) (hp : X.prog = P := by rfl) (hw : X.w = w := by rfl) (hKK : X.K = K := by rfl) :
    PE X (.DictComp kx vx [⟨tg, iter, ifs, 0⟩] scope pos) (tDcN P w K wi g tt tk tv (own.map (·.2))) := by
  subst hp; subst hw; subst hKK
  refine ⟨fun pins s σ H Q I q => ?_⟩
  rw [arm_eval_DictComp]
  have clo : ∀ n ∈ scope.names, n.2 = .free → ∃ c, X.env.cells.lookup n.1 = some c := fun n hn e => (ok.free n hn e).elim (fun z => I.ok.has _ (.inl z)) fun z => I.ok.has _ (.inr z)
  refine wpAny_comprehension_free (use := none) rfl hs (closure_ok clo) ok.kind (fun n hn e => by rw [ok.uniq n hn, e]) (thn (hi.run pins s σ H _ I q) fun xv sa ha => thn ha fun itv sb hb => ?_)
  obtain ⟨it, fp, tn, J, Hb, rfl, Ib, T, tb, fb, qb⟩ := hb
  refine wpAny_newObj_type (newEnv_comp ?_)
  -- the dict D, then the block's frame C
  generalize eD : sb.heap.objs.size = D
  have freeD : Hb D = none := Ib.hok.fresh (Nat.le_of_eq eD)
  have low : (D == sysModules) = false := by rw [← eD]; exact beq_eq_false_iff_ne.mpr (Ne.symm (Nat.ne_of_lt Ib.big))
  obtain ⟨o0, q1, q2⟩ := dno_of (P := X.prog) (w := X.w) (xs := []) (ys := []) .nil (Nat.zero_le _) (Heap.DictOfH.new (knd := nestedKind X.prog X.w) sb.heap)
  obtain ⟨W, ⟨m0, w0⟩, turn⟩ := qb D o0 freeD low q2
  generalize ec : ({ sb with heap := sb.heap.push { cls := .type "dict", data := .dict #[] } } : Shared) = sc
  have push : sc.heap = sb.heap.push { cls := .type "dict", data := .dict #[] } := by rw [← ec]
  have Ic : Inv X pins σ (upd Hb D (rawO D o0)) sc := by
    subst eD; subst ec
    exact Ib.laid (t' := sb.toks) (fun _ _ e => Heap.get?_push_of_some _ e) (Nat.le_refl _) (raw_ok q1)
  have fc : ∀ b ∈ fp, FpOk X pins (upd Hb D (rawO D o0)) b ∧ b < sc.heap.objs.size := fun b hb => by
    obtain ⟨o, e, _⟩ := T.obj _ _ tb b hb
    have lt := Heap.lt_size e
    have ne : b ≠ D := fun z => by rw [z, ← eD] at lt; exact Nat.lt_irrefl _ lt
    exact ⟨⟨by rw [upd_ne ne]; exact (fb b hb).1, (fb b hb).2⟩, by rw [push, Heap.size_push]; exact Nat.lt_succ_of_lt lt⟩
  have tc : tn 0 sc.heap := T.keep _ _ _ tb fun _ _ _ e => by rw [push]; exact Heap.get?_push_of_some _ e
  have Id := block_start Ic ok hN fc
  have none3 : ∀ b ∈ fp, upd Hb D (rawO D o0) b = none := fun b hb => (fc b hb).1.1
  have bg := hg sc (upd Hb D (rawO D o0)) sc.heap.objs.size (cellsFrom (sc.heap.objs.size + 1) scope.names (cloFrom X.env.cells scope.names [])) fp
  have bt := ht sc (upd Hb D (rawO D o0)) sc.heap.objs.size (cellsFrom (sc.heap.objs.size + 1) scope.names (cloFrom X.env.cells scope.names [])) fp
  have bk := hk sc (upd Hb D (rawO D o0)) sc.heap.objs.size (cellsFrom (sc.heap.objs.size + 1) scope.names (cloFrom X.env.cells scope.names [])) fp
  have bv := hv sc (upd Hb D (rawO D o0)) sc.heap.objs.size (cellsFrom (sc.heap.objs.size + 1) scope.names (cloFrom X.env.cells scope.names [])) fp
  show codeAny _ _ (.compStart (.DictComp kx vx [⟨tg, iter, ifs, 0⟩] scope pos) 0 (.ref it) (.ref D) (compEnvC scope (cellsFrom (sc.heap.objs.size + 1) scope.names (cloFrom X.env.cells scope.names [])) sc.heap.objs.size X.env))
    (compPost (model X.prog X.w) X.A X.xe none (EP X pins σ Q) (.ref D) sc.heap.objs.size) { sc with heap := pushCells (sc.heap.push { cls := .type "dict", data := .dict #[] }) scope.names }
  have td : tn 0 (pushCells (sc.heap.push { cls := .type "dict", data := .dict #[] }) scope.names) := T.keep _ _ _ tc fun _ _ _ e => pushCells_keeps _ _ _ _ (Heap.get?_push_of_some _ e)
  generalize eY : compEnvC scope (cellsFrom (sc.heap.objs.size + 1) scope.names (cloFrom X.env.cells scope.names [])) sc.heap.objs.size X.env = env1 at Id bg bt bk bv ⊢
  have locY : env1.locals = sc.heap.objs.size := by rw [← eY]; rfl
  generalize eH : upd Hb D (rawO D o0) = Hc at Ic Id bg bt bk bv w0 none3 fc
  generalize es0 : ({ sc with heap := pushCells (sc.heap.push { cls := .type "dict", data := .dict #[] }) scope.names } : Shared) = sd at Id ⊢
  have td' : tn 0 sd.heap := by rw [← es0]; exact td
  generalize eZ : X.blk sc Hc scope env1 fp = Y at Id bg bt bk bv
  have YA : Y.A = X.A := by rw [← eZ]
  have own1 : ∀ {τ : L2.St} {G : Hp} {s' : Shared}, Inv Y [] τ G s' → (∀ b ∈ fp, G b = none) → ∀ b ∈ fp, FpOk Y [] G b := fun {τ G s'} J1 hn b hb => by
    subst eZ
    exact ⟨hn b hb, (J1.ok.exf b hb).1, J1.ok.exfs b hb, .inl hb, fun x c e => (J1.ok.exf b hb).2 x c e, fun p hp => by simp at hp⟩
  have main : codeAny (model X.prog X.w) X.A (.compLoop (.DictComp kx vx [⟨tg, iter, ifs, 0⟩] scope pos) 0 (.ref it) (.ref D) env1) (compPost (model X.prog X.w) X.A X.xe none (EP X pins σ Q) (.ref D) sc.heap.objs.size) sd := by
    refine compLoop_anyD (fun n s' => ∃ i G, Inv Y [] (wipe σ (own.map (·.2))) G s' ∧ tn i s'.heap ∧ (∀ b ∈ fp, G b = none) ∧ W i n G) ?_ m0 ⟨0, Hc, Id, td', none3, w0⟩
    rintro n s1 ⟨i, G, J1, t1, n1, w1⟩
    rcases turn i n G w1 with ⟨stp, qq⟩ | ⟨go, Nx, hNx, step⟩
    · -- the end: back in the def's own frame
      have z := T.done Y (by subst eZ; rfl) (by subst eZ; rfl) (by subst eZ; rfl) (by subst eZ; exact hc) i [] s1 _ G (fun _ _ => False) J1 (own1 J1 n1) t1 stp
      rw [YA] at z
      refine thnF z fun r s2 ⟨er, J2⟩ => ?_
      subst er; subst eZ
      have nC : G sc.heap.objs.size = none := by
        have z : G env1.locals = none := J2.free
        rw [locY] at z; exact z
      obtain ⟨m, hm, _⟩ := J2.loc
      have hm : s2.heap.Ns env1.locals m := hm
      rw [locY] at hm
      have back : Inv X pins σ G s2 := Ic.call' (ch := fp) J2.os J2.base J2.hok J2.bare fun b hb => let y := (fc b hb).1.2; ⟨y.2.2.1, y.1, y.2.2.2.1, y.2.2.2.2⟩
      obtain ⟨f0, f1, f2, f3, f4, f5⟩ := Ic.fpOk (Nat.le_refl _) nC
      exact ⟨m, hm, fun h3 sb3 => ⟨.ref D, G, back.turned (t' := s2.toks) (fun b o hb e => (sb3.2 b hb).trans e) f0 f1 f3 f4 f5, rfl, qq⟩⟩
    · have z := T.item Y (by subst eZ; rfl) (by subst eZ; rfl) (by subst eZ; rfl) (by subst eZ; exact hc) i [] s1 _ G (fun _ _ => False) J1 (own1 J1 n1) t1 go
      rw [YA] at z
      refine thnF z fun r s2 ⟨u, er, h2⟩ => ?_
      subst er
      refine thnF h2 fun _ s3 ⟨x, G3, J3, r3, y3, t3, n3⟩ => ?_
      have J3' := J3.pinned (own1 J3 n3) (T.obj _ _ t3)
      have zg := bg.run _ s3 _ G3 x u _ J3' r3 (step x G3 y3)
      subst eZ
      refine thnF zg fun _ s4 ⟨τ, G4, J4, hw4, q4⟩ => ?_
      refine thnF (bt.run _ s4 τ G4 _ J4 q4) fun b s5 ⟨G5, J5, q5⟩ => ?_
      have len : (wipe σ (own.map (·.2))).length = τ.length := by rw [← hw4, wipe_length]
      have close : ∀ {s' : Shared} {G' : Hp}, Inv (X.blk sc Hc scope env1 fp) ([] ++ pinsAt fp s3.heap) τ G' s' → Nx G' → ∃ m, m < n ∧ ∃ i G, Inv (X.blk sc Hc scope env1 fp) [] (wipe σ (own.map (·.2))) G s' ∧ tn i s'.heap ∧ (∀ b ∈ fp, G b = none) ∧ W i m G := fun {s' G'} J' nx => by
        obtain ⟨m', lt, w'⟩ := hNx G' nx
        have held : ∀ b ∈ fp, ∀ o, s3.heap.get? b = some o → s'.heap.get? b = some o ∧ G' b = none := fun b hb o e =>
          have y := J'.pin (b, o) (List.mem_append_right _ (List.mem_append_right _ (mem_pinsAt hb e)))
          ⟨y.1, y.2.1⟩
        refine ⟨m', lt, i + 1, G', (J'.unpinned (pins := [])).weak len (fun j v e => (wipe_some (hw4 ▸ e)).1), T.keep _ _ _ t3 fun b hb o e => (held b hb o e).1, fun b hb => ?_, w'⟩
        obtain ⟨o, e, _⟩ := T.obj _ _ t3 b hb
        exact (held b hb o e).2
      cases b with
      | false => exact close J5 (by simpa using q5)
      | true =>
        have q5' := q5
        simp only [if_true] at q5'
        refine thnF (bk.run _ s5 τ G5 _ J5 q5') fun kv s6 ⟨yk, G6, J6, r6, q6⟩ => ?_
        refine thnF (bv.run _ s6 τ G6 _ J6 q6) fun vv s7 ⟨yv, G7, J7, r7, xs, k, b, ek, nd, ko, hz, nx⟩ => ?_
        subst ek
        exact putNs (Y := X.blk sc Hc scope env1 fp) hu J7 nd ko hz r6 r7 fun s8 o' ho' J8 => close J8 (nx o' ho')
  exact codeAny_compStart_dict main (T.self X.A 0 _ _ _ td' main)
/-- {k: v} -/
def tDPairN (P : Program) (w : World) (K : PySem.W.Frag) (tk tv : TE) : TE := fun σ H Q => ∀ D o, H D = none → (D == sysModules) = false → DNo P w o [] →
  tk σ (upd H D (rawO D o)) fun y H1 => tv σ H1 fun z H2 => ∃ k b, y = .ref b ∧ ND P w K H2 D [] ∧ KeyOk K H2 k b ∧ ∀ o', DNo P w o' (putN [] k b z) → Q (.ref D) (upd H2 D (rawO D o'))
theorem pe_dpairN (hu : X.A.units + 65 < cLine) (hk : PE X kx tk) (hv : PE X vx tv) (hp : X.prog = P := by rfl) (hw : X.w = w := by rfl) (hKK : X.K = K := by rfl) :
    PE X (.Dict [some kx] [vx] pos) (tDPairN P w K tk tv) := by
  subst hp; subst hw; subst hKK
  refine ⟨fun pins s σ H Q I h => ?_⟩
  have low : (s.heap.objs.size == sysModules) = false := beq_eq_false_iff_ne.mpr (Ne.symm (Nat.ne_of_lt I.big))
  obtain ⟨o, h1, h2⟩ := dno_of (P := X.prog) (w := X.w) (xs := []) (ys := []) .nil (Nat.zero_le _) (Heap.DictOfH.new (knd := nestedKind X.prog X.w) s.heap)
  have I1 : Inv X pins σ (upd H s.heap.objs.size (rawO s.heap.objs.size o)) { s with heap := s.heap.push { cls := .type "dict", data := .dict #[] } } := I.laid (a := s.heap.objs.size) (o := rawO s.heap.objs.size o) (t' := s.toks) (fun _ _ q => Heap.get?_push_of_some _ q) (Nat.le_refl _) (raw_ok h1)
  have q := h _ o (I.hok.fresh (Nat.le_refl _)) low h2
  have shape : (evalEachOpt [some kx] X.env).zip ((evalEach [vx] X.env).map fun v => (do let x ← v; standAt pos; pure x : Sem Value)) = [(eval kx X.env, (do let x ← eval vx X.env; standAt pos; pure x : Sem Value))].map fun p => (some p.1, p.2) := rfl
  rw [arm_eval_Dict]
  refine wpAny_bind (wpAny_standAt ?_)
  rw [shape, dictDisplay_pairs _ (by simp) (by simp)]
  refine wpAny_bind ?_
  unfold subDict
  refine wpAny_bind (wpAny_alloc ?_)
  refine wpAny_bind (wpAny_holding ?_)
  rw [if_pos (by simp)]
  refine wpAny_bind (evalPairs_cons (thn (hk.run pins _ σ _ _ I1 q) fun kv s2 ⟨y, H2, I2, r2, q2⟩ => wpAny_bind (thn (hv.run pins s2 σ H2 _ I2 q2) fun vv s3 ⟨z, H3, I3, r3, k, b, ey, nd, ko, fin⟩ => wpAny_bind (wpAny_standAt (wpAny_pure (evalPairs_nil ?_))))))
  subst ey
  refine wpAny_holding ?_
  rw [List.forIn_cons]
  refine wpAny_bind (wpAny_bind ?_)
  show wpAny (model X.prog X.w) X.A (dictSet s.heap.objs.size kv vv >>= fun _ => pure (ForInStep.yield PUnit.unit)) _ _ _
  refine wpAny_bind (putNs (Q := fun _ s' => wpAny (model X.prog X.w) X.A (pure (ForInStep.yield PUnit.unit)) _ _ s') hu I3 nd ko (Nat.lt_of_lt_of_le (Nat.zero_lt_succ 0) (by decide)) r2 r3 fun s4 o' ho' I4 => wpAny_pure ?_)
  show wpAny _ _ (forIn [] PUnit.unit _) _ _ _
  rw [List.forIn_nil]
  exact wpAny_pure (wpAny_pure (wpAny_pure (wpAny_pure ⟨.ref s.heap.objs.size, _, I4, rfl, fin o' ho'⟩)))
/-- d.get(k, x) -/
def rGet2N (P : Program) (w : World) (K : PySem.W.Frag) : V → List V → Hp → VK → Prop := fun x vs H Q => ∃ a xs k b z, x = .ref a ∧ vs = [.ref b, z] ∧ ND P w K H a xs ∧ KeyOk K H k b ∧ Q (match atN xs k with | some p => p.2 | none => z) H
theorem mt_get2N (hu : X.A.units + 65 < cLine) (hp : X.prog = P := by rfl) (hw : X.w = w := by rfl) (hKK : X.K = K := by rfl) : MtR X "dict.get" (rGet2N P w K) := by
  subst hp; subst hw; subst hKK
  intro pins s σ H x vs v us Q I r rv h
  obtain ⟨a, xs, k, b, z, rfl, rfl, nd, ko, q⟩ := h
  obtain rfl : v = Value.ref a := r
  obtain ⟨u1, r1, rfl, ru, rz⟩ : ∃ u1 r1, us = [u1, r1] ∧ RelV (.ref b) u1 ∧ RelV z r1 := by
    cases rv with
    | cons r1 r2 => cases r2 with
      | cons r3 r4 => cases r4; exact ⟨_, _, rfl, r1, r3⟩
  obtain rfl : u1 = Value.ref b := ru
  obtain ⟨ys, hp, hm, hl⟩ := nd.dict I
  refine getOr_keyed (roomN hu) (ko.is I) nd.low ⟨ys, hm, rfl⟩ ?_
  rw [valueAt_pairsH]
  cases e : atN xs k with
  | none => rw [hp.none_ e]; rw [e] at q; exact ⟨z, H, I.tok _, rz, q⟩
  | some p' =>
    obtain ⟨p2, e1, e2, e3⟩ := hp.some_ e
    rw [e1]; rw [e] at q
    exact ⟨p'.2, H, I.tok _, e3, q⟩
end
end Fv

/-! dicts whose keys are data: what they hold, told as data; sorted; a comprehension over triples -/
namespace Fv
open PySem PySem.Spec PyProof.Rows L2 Evl StX
/-- the entries, told as data -/
abbrev NV (K : PySem.W.Frag) (F : Hp) : List NEnt → List (PyData × PyData) → Prop := Paired fun x p => x.1 = nk p.1 ∧ Rp K F (.ref x.2.1) p.1 ∧ Rp K F x.2.2 p.2
section
variable {P : Program} {w : World} {K : PySem.W.Frag} {F F' : Hp} {xs : List NEnt} {ps : List (PyData × PyData)}
theorem NV.mono (e : Ex F F') (h : NV K F xs ps) : NV K F' xs ps := Paired.mapP h fun _ _ z => ⟨z.1, Rp.mono e _ _ z.2.1, Rp.mono e _ _ z.2.2⟩
theorem NV.len (h : NV K F xs ps) : xs.length = ps.length := Paired.length h
theorem NV.keys (h : NV K F xs ps) : RpAll K F (xs.map fun x => V.ref x.2.1) (ps.map (·.1)) := by
  induction h with
  | nil => exact .nil
  | cons a _ ih => exact .cons a.2.1 ih
theorem NV.none_ {k : PyData} (h : NV K F xs ps) (hk : kb k = true) (hb : ∀ p ∈ ps, kb p.1 = true) (hn : k ∉ ps.map (·.1)) : atN xs (nk k) = none := by
  unfold atN
  rw [Option.map_eq_none_iff]
  induction h with
  | nil => rfl
  | @cons x p xs ps a _ ih =>
    have ne : ¬ x.1 = nk k := fun z => by
      rw [a.1] at z
      have := nk_inj (hb p (by simp)) hk z
      exact hn (by rw [← this]; simp)
    rw [List.find?_cons_of_neg (by simpa using ne)]
    exact ih (fun q hq => hb q (List.mem_cons_of_mem _ hq)) fun z => hn (List.mem_cons_of_mem _ z)
theorem NV.get (h : NV K F xs ps) (hb : ∀ p ∈ ps, kb p.1 = true) : (ps.map (·.1)).Nodup → ∀ {k d : PyData}, (k, d) ∈ ps → ∃ p, atN xs (nk k) = some p ∧ Rp K F p.2 d := by
  induction h with
  | nil => intro _ _ _ hm; cases hm
  | @cons x p xs ps a _ ih =>
    intro nd k d hm
    rw [List.map_cons, List.nodup_cons] at nd
    rcases List.mem_cons.mp hm with e | m
    · subst e
      refine ⟨x.2, ?_, a.2.2⟩
      unfold atN
      rw [List.find?_cons_of_pos (by simpa using a.1)]; rfl
    · obtain ⟨q, h1, h2⟩ := ih (fun q hq => hb q (List.mem_cons_of_mem _ hq)) nd.2 m
      refine ⟨q, ?_, h2⟩
      have ne : ¬ x.1 = nk k := fun z => by
        rw [a.1] at z
        have := nk_inj (hb p (by simp)) (hb (k, d) (List.mem_cons_of_mem _ m)) z
        exact nd.1 (by rw [this]; exact List.mem_map.mpr ⟨_, m, rfl⟩)
      unfold atN
      rw [List.find?_cons_of_neg (by simpa using ne)]
      exact h1
theorem NV.put {k d : PyData} {b : Addr} {v : V} (h : NV K F xs ps) (hk : kb k = true) (hb : ∀ p ∈ ps, kb p.1 = true) (hn : k ∉ ps.map (·.1)) (h1 : Rp K F (.ref b) k) (h2 : Rp K F v d) : NV K F (putN xs (nk k) b v) (ps ++ [(k, d)]) := by
  unfold putN
  rw [h.none_ hk hb hn]
  exact Paired.snoc h ⟨rfl, h1, h2⟩
end
theorem rpAll3' {K : PySem.W.Frag} {F : Hp} {xs : List V} {a b c : PyData} (h : RpAll K F xs [a, b, c]) : ∃ x y z, xs = [x, y, z] ∧ Rp K F x a ∧ Rp K F y b ∧ Rp K F z c := by
  cases h with
  | cons h1 h2 => cases h2 with
    | cons h2 h3 => cases h3 with
      | cons h3 h4 => cases h4; exact ⟨_, _, _, rfl, h1, h2, h3⟩
/-- sorted(d) -/
def rSortN (P : Program) (w : World) (K : PySem.W.Frag) : List V → Hp → VK → Prop := fun vs H Q => ∃ (d : Addr) (xs : List NEnt) (ps : List (V × PyData)), vs = [.ref d] ∧ ND P w K H d xs ∧ ps.map (·.1) = (xs.map fun x => V.ref x.2.1) ∧ (∀ b ∈ ps, Rp K H b.1 b.2) ∧ CanSort (ps.map (·.2)) ∧
  ∀ (qs : List (V × PyData)) p, qs.Perm ps → qs.map (·.2) = sortD (ps.map (·.2)) → H p = none → Q (.ref p) (upd H p (.lst (qs.map (·.1))))
theorem c_sortN {X : Cx} {P : Program} {w : World} {K : PySem.W.Frag} (hc : X.calm = true) (hu : X.A.units + 65 < cLine) (h : X.K = K := by rfl) (hp : X.prog = P := by rfl) (hw : X.w = w := by rfl) : CallR X (.builtin "sorted") (rSortN P w K) := by
  subst h; subst hp; subst hw
  intro pins s σ H xs us Q I r q
  obtain ⟨d, ks, ps, rfl, nd, e1, e3, cs, q⟩ := q
  rw [Vals.ref1 r]
  obtain ⟨o, hd, dn⟩ := nd.ex
  have ho : s.heap.get? d = some o := (show ObjOk X.prog X.w H s.heap d (rawO d o) from I.hok d _ hd).1
  obtain ⟨es, ep, hdt, hsz, ent⟩ := dn.entries
  have hz : ks.length ≤ sizeLine := dn.2.2.1
  refine PySem.W.kdz_sorted (kdl_raw nd.low dn.1 hdt) (I.ok.hd hc) ho (by omega) fun h' tk vs kp hl hv E' => ?_
  have ev : vs = ks.map fun x => Value.ref x.2.1 := by
    refine List.ext_getElem? fun j => ?_
    rw [List.getElem?_map]
    cases hb : ks[j]? with
    | none => rw [List.getElem?_eq_none_iff.mpr (by rw [hl, hsz]; exact List.getElem?_eq_none_iff.mp hb)]; rfl
    | some b =>
      obtain ⟨en, h1, h2⟩ := ent j b hb
      have hjv : j < vs.length := by have := (List.getElem?_eq_some_iff.mp hb).1; omega
      obtain ⟨en2, h3, h4⟩ := hv j vs[j] (List.getElem?_eq_getElem hjv)
      rw [h1] at h3
      cases h3
      rw [List.getElem?_eq_getElem hjv, h4, h2]; rfl
  have rv : Vals (ps.map (·.1)) vs := by
    rw [e1, ev]
    have g : ∀ l : List NEnt, Vals (l.map fun x => V.ref x.2.1) (l.map fun x => Value.ref x.2.1) := fun l => by
      induction l with
      | nil => exact .nil
      | cons a r ih => exact .cons rfl ih
    exact g ks
  have ea : PySem.W.EachIs (fun u (b : V × PyData) => RelV b.1 u) vs ps := each_of_vals rv
  have I1 : Inv X pins σ H { s with heap := h', toks := tk } := I.kept (t' := tk) kp
  have rd : ∀ u (b : V × PyData), b ∈ ps → RelV b.1 u → ∃ as, Reads h' u b.2 as := fun u b hb ru => Dp.reads I1 b.2 b.1 u (Rp.dp _ _ (e3 b hb)) ru
  let h1 : Heap := h'.push (seqObj "list" vs.toArray 0)
  have hat : h1.get? h'.objs.size = some (seqObj "list" vs.toArray 0) := Heap.get?_push_size _ rfl
  let hS : Heap := PySem.W.sortingHeap h1 h'.objs.size vs
  have kS : ∀ b o, h'.get? b = some o → hS.get? b = some o := fun b o e => PySem.W.sortingHeap_old (Nat.ne_of_lt (Heap.lt_size e)) (Heap.get?_push_of_some _ e)
  have er0 : PySem.W.EachIs (fun u (b : V × PyData) => ∃ as, Reads hS u b.2 as) vs ps := (PySem.W.each_mem ea).mono fun u b ⟨ru, hb⟩ => by
    obtain ⟨as, x⟩ := rd u b hb ru
    exact ⟨as, PyProof.Rows.Reads.keeps (fun _ _ => kS _ _) x⟩
  have er1 : PySem.W.EachIs (fun u d => ∃ as, Reads hS u d as) vs (ps.map fun b => b.2) := PySem.W.each_map (R := fun u d => ∃ as, Reads hS u d as) (fun b : V × PyData => b.2) er0
  have al : PySem.W.AllAlike (ps.map fun b => b.2) := cs.al
  have S : PySem.W.SortsAt X.prog X.w X.A.in1.in1 { s with heap := hS, toks := tk } (PySem.W.dataKind hS (ps.map fun b => b.2)) vs := by
    refine PySem.W.SortsAt.data (s := { s with heap := hS, toks := tk }) er1 al cs.so fun d hd => ?_
    have := cs.dp d hd
    show X.A.units + 1 + 1 + _ < _
    omega
  have out := PySem.W.sortVals_data (h' := hS) (enc := fun b : V × PyData => b.2) false ea er0 al
  refine PySem.W.list_sort_vals (s := { s with heap := h1, toks := tk }) hat S (by omega) ?_
  generalize PySem.W.sortVals (PySem.W.dataKind hS (ps.map fun b => b.2)) false vs vs = ou at out
  generalize eq : ps.mergeSort (PySem.W.dataLe false fun b : V × PyData => b.2) = qs at out
  have pq : qs.Perm ps := eq ▸ List.mergeSort_perm _ _
  have snd : qs.map (·.2) = sortD (ps.map (·.2)) := by
    rw [← eq]
    exact PySem.W.sort_maps (s := PySem.W.dataLe false id) (fun x : V × PyData => x.2) fun _ _ _ _ => rfl
  have vo : Vals (qs.map (·.1)) ou := vals_of_each out
  obtain ⟨c, hc2⟩ := PyProof.Rows.sortedHeap_at (h := h1) (a := h'.objs.size) (vs := vs) (out := ou.toArray) hat
  have fr : H h'.objs.size = none := I1.hok.fresh (Nat.le_refl _)
  have len : (qs.map (·.1)).length ≤ sizeLine := by
    rw [List.length_map, pq.length_eq, ← List.length_map (f := (·.1)), e1, List.length_map]; exact hz
  refine ⟨rfl, .ref h'.objs.size, upd H h'.objs.size (.lst (qs.map (·.1))), I1.laid (t' := tk) (fun b u e => ?_) (Nat.le_refl _) ⟨len, ou, c, vo, hc2⟩, rfl, q qs _ pq snd fr⟩
  have hl' := Heap.lt_size e
  exact (PyProof.Rows.sortedHeap_old (Nat.ne_of_lt hl') (by rw [size_push']; exact Nat.lt_succ_of_lt hl')).trans (Heap.get?_push_of_some _ e)
section
variable {P : Program} {w : World} {K : PySem.W.Frag} {pt : Option Pt} {σ : L2.St} {F F' F0 H0 H F2 H2 : Hp} {l : Addr} {xs : List NEnt} {te tv td ty : TE} {ts : TA} {t : TT} {wi : TI} {D : Ends} {tz : TS} {ps : List (PyData × PyData)}
/-- sorted(d), d at slot i -/
theorem g_sortN {i : Nat} {ds : List PyData} (h0 : σ[i]? = some (some (.ref l))) (nd : ND P w K F l xs) (hk : RpAll K F (xs.map fun x => V.ref x.2.1) ds) (cs : CanSort ds) : EvG K pt (tCB (rSortN P w K) (tCons (tVar i) tNil)) σ F (Is (.list (sortD ds))) := fun H1 e g Q q => by
  obtain ⟨e1, e2, e3⟩ := rp_pairs hk
  refine ⟨_, h0, l, xs, _, rfl, nd.mono e, e1, fun b hb => Rp.mono e _ _ (e3 b hb), by rw [e2]; exact cs, fun qs p pq es hp => ?_⟩
  have s3 : Step pt F H1 (upd F p (.lst (qs.map (·.1)))) (upd H1 p (.lst (qs.map (·.1)))) := .laid e g hp
  refine q _ _ _ _ rfl s3 (.lst upd_same ?_)
  rw [e2] at es
  rw [← es]
  exact pairs_rp fun r hr => Rp.mono s3.sub _ _ (e3 r (pq.mem_iff.mp hr))
/-- d[k], k data -/
theorem g_dgetN {i : Nat} {k z : PyData} {p : Addr × V} (h0 : σ[i]? = some (some (.ref l))) (nd : ND P w K F l xs) (h : EvG K pt ty σ F (Is k)) (hk : ∀ b F', Rp K F' b k → ∃ a, b = .ref a) (hb : kb k = true) (hd : (nk k).depth ≤ 8) (hp : atN xs (nk k) = some p) (hz : Rp K F p.2 z) : EvG K pt (tOp (rIxN P w K) (tVar i) ty) σ F (Is z) := fun H1 e g Q q =>
  ⟨_, h0, h H1 e g _ fun d v F2 H2 hd' s hv => by
    rw [show d = k from hd'] at hv
    obtain ⟨b, rfl⟩ := hk v F2 hv
    exact ⟨l, xs, nk k, b, p, rfl, rfl, (nd.mono s.sub).mono s.inn, KeyOk.mono s.inn ⟨k, hv, hb, rfl, hd⟩, hp, q z _ F2 H2 rfl s (Rp.mono s.sub _ _ hz)⟩⟩
/-- a tuple is an object -/
theorem tup_ref {ds : List PyData} {b : V} {F' : Hp} (h : Rp K F' b (.tuple ds)) : ∃ a, b = .ref a := by
  obtain ⟨a, _, e, _⟩ := rp_tup h
  exact ⟨a, e⟩
/-- d[k] = e, k a tuple -/
theorem t_putNd {i : Nat} {ks : List PyData} {R : PD} (g0 : Good pt F0 H0) (h0 : H0 l = none) (g : Nst P w K pt F0 H0 l F H xs) (hi : σ[i]? = some (some (.ref l))) (hz : xs.length < 50000) (hb : kb (.tuple ks) = true) (hdp : (nk (.tuple ks)).depth ≤ 8) (he : EvG K pt te σ F R) (hk : ∀ F', Ex F F' → EvG K pt ty σ F' (Is (.tuple ks)))
    (q : ∀ d v b F2 H2, R d → Nst P w K pt F0 H0 l F2 H2 (putN xs (nk (.tuple ks)) b v) → Ex F F2 → Rp K F2 v d → Rp K F2 (.ref b) (.tuple ks) → D.nx σ H2) : tAsg te (gSub (tVar i) ty (rSetN P w K)) D σ H :=
  he H g.step.inn g.step.good _ fun d v F2 H2 hd s hv => ⟨_, hi, hk F2 s.sub H2 s.inn s.good _ fun d2 v2 F3 H3 hd2 s2 hv2 => by
    subst hd2
    obtain ⟨b, ys, rfl, hl, ha⟩ := rp_tup hv2
    have g2 := (g.run g0 h0 s).run g0 h0 s2
    have ko : KeyOk K F3 (nk (.tuple ks)) b := ⟨_, hv2, hb, rfl, hdp⟩
    refine ⟨l, xs, _, b, rfl, rfl, g2.nd, ko.mono s2.inn, Nat.lt_of_lt_of_le hz (by decide), fun o ho => ?_⟩
    refine q d v b F3 _ hd ⟨g2.step.put g0 h0 g2.off, g2.off, g2.low, ⟨o, upd_same, ho⟩, fun x hx => ?_⟩ (s.sub.trans s2.sub) (Rp.mono s2.sub _ _ hv) hv2
    unfold putN at hx
    split at hx
    · obtain ⟨y, hy, rfl⟩ := List.mem_map.mp hx
      have := g2.keys y hy
      unfold putAtN
      split
      · exact this
      · exact this
    · rcases List.mem_append.mp hx with m | m
      · exact g2.keys x m
      · rw [List.mem_singleton.mp m]; exact ko⟩
/-- {k: v}: the one entry -/
theorem x_dpair {ks : List PyData} {z : PyData} (hb : kb (.tuple ks) = true) (hdp : (nk (.tuple ks)).depth ≤ 8) (hk : EvG K pt te σ F (Is (.tuple ks))) (hv : ∀ F', Ex F F' → EvG K pt tv σ F' (Is z)) :
    EvX pt (tDPairN P w K te tv) σ F (fun v F2 => ∃ D xs, v = .ref D ∧ ND P w K F2 D xs ∧ NV K F2 xs [(.tuple ks, z)]) := fun H1 e g Q q => fun Dd o hD low hn => by
  have fD : F Dd = none := by
    cases w : F Dd with
    | none => rfl
    | some o => rw [e _ _ w] at hD; cases hD
  have n0 : Nst P w K pt F H1 Dd F (upd H1 Dd (rawO Dd o)) [] := ⟨.litter e g hD, fD, low, ⟨o, upd_same, hn⟩, fun x hx => by cases hx⟩
  refine hk _ n0.step.inn n0.step.good _ fun d y F2 H2 hd s hy => ?_
  subst hd
  have n1 := n0.run g hD s
  refine hv F2 s.sub H2 s.inn s.good _ fun d2 y2 F3 H3 hd2 s2 hy2 => ?_
  subst hd2
  have n2 := n1.run g hD s2
  obtain ⟨b, ys, rfl, hl, ha⟩ := rp_tup hy
  have ko : KeyOk K F3 (nk (.tuple ks)) b := ⟨_, Rp.mono s2.sub _ _ hy, hb, rfl, hdp⟩
  refine ⟨nk (.tuple ks), b, rfl, n2.nd, ko.mono s2.inn, fun o' ho' => ?_⟩
  have n3 : Nst P w K pt F H1 Dd F3 (upd H3 Dd (rawO Dd o')) (putN [] (nk (.tuple ks)) b y2) := ⟨n2.step.put g hD n2.off, n2.off, n2.low, ⟨o', upd_same, ho'⟩, fun x hx => by
    have : x = (nk (.tuple ks), b, y2) := by simpa [putN, atN] using hx
    rw [this]; exact ko⟩
  obtain ⟨F4, s4, e4, nd4⟩ := n3.done g hD
  exact q _ F4 _ ⟨Dd, _, rfl, nd4, NV.put (ps := []) .nil hb (fun p hp => by cases hp) (by simp) (Rp.mono (s2.sub.trans e4) _ _ hy) (Rp.mono e4 _ _ hy2)⟩ s4
/-- {k: v for a, b, c in ..}: the keys tuples, no two alike -/
theorem x_dcN3 {α : Type} {j1 j2 j3 : Nat} {vs : List Nat} (c1 c2 c3 : α → PyData) (ys : List α) (kd : α → List PyData) (vd : α → PyData) (hkb : ∀ y ∈ ys, kb (.tuple (kd y)) = true ∧ (nk (.tuple (kd y))).depth ≤ 8) (nd : (ys.map kd).Nodup)
    (hw : WiG K pt wi σ F (· = ys.map fun y => .tuple [c1 y, c2 y, c3 y])) (hz : ys.length ≤ 20000) (hwp : ∀ x1 x2 x3, wipe ((((wipe σ vs).set j1 (some x1)).set j2 (some x2)).set j3 (some x3)) vs = wipe σ vs)
    (hk : ∀ y ∈ ys, ∀ F', Ex F F' → ∀ x1 x2 x3, Rp K F' x1 (c1 y) → Rp K F' x2 (c2 y) → Rp K F' x3 (c3 y) → EvG K pt te ((((wipe σ vs).set j1 (some x1)).set j2 (some x2)).set j3 (some x3)) F' (Is (.tuple (kd y))))
    (hv : ∀ y ∈ ys, ∀ F', Ex F F' → ∀ x1 x2 x3, Rp K F' x1 (c1 y) → Rp K F' x2 (c2 y) → Rp K F' x3 (c3 y) → EvG K pt tv ((((wipe σ vs).set j1 (some x1)).set j2 (some x2)).set j3 (some x3)) F' (Is (vd y))) :
    EvX pt (tDcN P w K wi (gTup K 3 (gCons (gName j1) (gCons (gName j2) (gCons (gName j3) gNil)))) tYes te tv vs) σ F (fun v F2 => ∃ D xs, v = .ref D ∧ ND P w K F2 D xs ∧ NV K F2 xs (ys.map fun y => (.tuple (kd y), vd y))) := fun H0 i0 g0 Q q =>
  hw H0 i0 g0 _ fun ds J F1 H1 hds s1 Y => fun Dd o hD low hn => by
    subst hds
    have gi := s1.inn
    have gg := s1.good
    have f1 : F1 Dd = none := by
      cases w : F1 Dd with
      | none => rfl
      | some o => rw [gi _ _ w] at hD; cases hD
    have hlen : (ys.map fun y => PyData.tuple [c1 y, c2 y, c3 y]).length = ys.length := by simp
    refine ⟨fun i m H => m = ys.length - i ∧ i ≤ ys.length ∧ ∃ F' xs, Nst P w K pt F1 H1 Dd F' H xs ∧ NV K F' xs ((ys.take i).map fun y => (.tuple (kd y), vd y)), ⟨ys.length, by simp, Nat.zero_le _, F1, [], ⟨.litter gi gg hD, f1, low, ⟨o, upd_same, hn⟩, fun x hx => by cases hx⟩, .nil⟩, ?_⟩
    rintro i m H ⟨rfl, hi, F', xs, n1, dv⟩
    have eH : Ex F1 H := n1.step.sub.trans n1.step.inn
    by_cases hlt : i < ys.length
    · refine .inr ⟨Y.go i H eH (by rw [hlen]; exact hlt), fun H => ∃ F' xs, Nst P w K pt F1 H1 Dd F' H xs ∧ NV K F' xs ((ys.take (i + 1)).map fun y => (.tuple (kd y), vd y)), fun H' p' => ⟨ys.length - (i + 1), by omega, rfl, hlt, p'⟩, fun v H' y => ?_⟩
      obtain ⟨rfl, d, hd, hx⟩ := Y.yld i H v H' eH (by rw [hlen]; exact hlt) y
      obtain ⟨y0, hy0, rfl⟩ := get_map hd
      have hm : y0 ∈ ys := List.mem_of_getElem? hy0
      obtain ⟨a, zs, rfl, hl, ha⟩ := rp_tup (Rp.mono n1.step.sub _ _ hx)
      obtain ⟨x1, x2, x3, rfl, h1, h2, h3⟩ := rpAll3' ha
      refine ⟨a, _, rfl, SqT.of (n1.step.inn _ _ hl), rfl, x1, _, rfl, x2, _, rfl, x3, _, rfl, rfl, hwp x1 x2 x3, yes_of (ite_t ?_)⟩
      refine hk y0 hm F' (s1.sub.trans n1.step.sub) x1 x2 x3 h1 h2 h3 _ n1.step.inn n1.step.good _ fun d2 v2 F2 H2 hd2 s2 hv2 => ?_
      subst hd2
      have n2 := n1.run gg hD s2
      refine hv y0 hm F2 ((s1.sub.trans n1.step.sub).trans s2.sub) x1 x2 x3 (Rp.mono s2.sub _ _ h1) (Rp.mono s2.sub _ _ h2) (Rp.mono s2.sub _ _ h3) _ s2.inn s2.good _ fun d3 v3 F3 H3 hd3 s3 hv3 => ?_
      subst hd3
      have n3 := n2.run gg hD s3
      obtain ⟨b, zs2, rfl, hl2, ha2⟩ := rp_tup hv2
      obtain ⟨kb1, kb2⟩ := hkb y0 hm
      have ko : KeyOk K F3 (nk (.tuple (kd y0))) b := ⟨_, Rp.mono s3.sub _ _ hv2, kb1, rfl, kb2⟩
      have dv3 := dv.mono (s2.sub.trans s3.sub)
      have hxl : xs.length = i := by rw [dv.len, List.length_map, List.length_take]; omega
      refine ⟨xs, nk (.tuple (kd y0)), b, rfl, n3.nd, ko.mono s3.inn, by rw [hxl]; exact Nat.lt_of_le_of_lt (by omega) (show 20000 < sizeLine by decide), fun o' ho' => ⟨F3, _, ⟨n3.step.put gg hD n3.off, n3.off, n3.low, ⟨o', upd_same, ho'⟩, fun x hx => ?_⟩, ?_⟩⟩
      · unfold putN at hx
        split at hx
        · obtain ⟨z, hz, rfl⟩ := List.mem_map.mp hx
          have := n3.keys z hz
          unfold putAtN
          split
          · exact this
          · exact this
        · rcases List.mem_append.mp hx with m | m
          · exact n3.keys x m
          · rw [List.mem_singleton.mp m]; exact ko
      · rw [take_succA hy0, List.map_append]
        refine dv3.put kb1 (fun p hp => ?_) ?_ (Rp.mono s3.sub _ _ hv2) hv3
        · obtain ⟨z, hz, rfl⟩ := List.mem_map.mp hp
          exact (hkb z (List.mem_of_mem_take hz)).1
        · intro hc
          rw [List.map_map] at hc
          obtain ⟨z, hz, e⟩ := List.mem_map.mp hc
          have e' : kd z = kd y0 := by injection e
          have hi' : i < ys.length := hlt
          obtain ⟨j, hj, hjz⟩ := List.mem_iff_getElem.mp hz
          rw [List.length_take] at hj
          rw [List.getElem_take] at hjz
          have e0 : ys[i] = y0 := (List.getElem?_eq_some_iff.mp hy0).2
          have := (List.getElem_inj (h₀ := by rw [List.length_map]; omega) (h₁ := by rw [List.length_map]; omega) nd (i := j) (j := i)).mp (by rw [List.getElem_map, List.getElem_map, hjz, e0]; exact e')
          omega
    · have hE : i = ys.length := Nat.le_antisymm hi (Nat.le_of_not_lt hlt)
      subst hE
      rw [List.take_length] at dv
      obtain ⟨F4, s4, e4, nd4⟩ := n1.done gg hD
      exact .inl ⟨by have := Y.stop H eH; rw [hlen] at this; exact this, q _ F4 H ⟨Dd, xs, rfl, nd4, dv.mono e4⟩ (s1.trans s4)⟩
end
end Fv

/-! rows of things that are no data: lists made by a comprehension, tuples of them, what is read of them -/
namespace Fv
open PySem PySem.Spec PyProof.Rows L2 Evl StX
section
variable {P : Program} {w : World} {K : PySem.W.Frag} {pt : Option Pt} {σ : L2.St} {F F' F0 H0 H F2 H2 : Hp} {te ti ta tv : TE} {ts : TA} {t : TT} {wi : TI} {D : Ends} {tz : TS} {l C : Addr}
/-- the tuple at v holds things of which Φ speaks -/
def TupX {α : Type} (Φ : α → V → Hp → Prop) (F : Hp) (v : V) (ys : List α) : Prop := ∃ a xs, v = .ref a ∧ F a = some (.tup xs) ∧ Paired (fun x y => Φ y x F) xs ys
theorem TupX.mono {α : Type} {Φ : α → V → Hp → Prop} {v : V} {ys : List α} (hm : ∀ y v F F', Ex F F' → Φ y v F → Φ y v F') (e : Ex F F') (h : TupX Φ F v ys) : TupX Φ F' v ys := by
  obtain ⟨a, xs, rfl, h1, h2⟩ := h
  exact ⟨a, xs, rfl, e _ _ h1, Paired.mapP h2 fun _ _ z => hm _ _ _ _ e z⟩
theorem x_lcX {α : Type} {j : Nat} {vs : List Nat} (enc : α → PyData) (ys : List α) (Φ : α → V → Hp → Prop) (hm : ∀ y v F F', Ex F F' → Φ y v F → Φ y v F') (hw : WiG K pt wi σ F (· = ys.map enc)) (hz : ys.length ≤ 20000) (hwp : ∀ x, wipe ((wipe σ vs).set j (some x)) vs = wipe σ vs)
    (he : ∀ y ∈ ys, ∀ F', Ex F F' → ∀ v, Rp K F' v (enc y) → EvX pt te ((wipe σ vs).set j (some v)) F' (Φ y)) :
    EvX pt (tLc wi (gName j) tYes te vs) σ F (fun v F2 => ∃ a xs, v = .ref a ∧ F2 a = some (.lst xs) ∧ Paired (fun x y => Φ y x F2) xs ys) := fun H0 i0 g0 Q q =>
  hw H0 i0 g0 _ fun ds J F1 H1 hds s1 Y => fun Dd hD => by
    subst hds
    have gi := s1.inn
    have gg := s1.good
    have f1 : F1 Dd = none := by
      cases w : F1 Dd with
      | none => rfl
      | some o => rw [gi _ _ w] at hD; cases hD
    have hlen : (ys.map enc).length = ys.length := by simp
    have off : ∀ q, pt = some q → Dd ≠ q.p := fun q hq => (off_pot gg hD q hq).1
    refine ⟨fun i m H => m = ys.length - i ∧ i ≤ ys.length ∧ ∃ F' xs, Step pt F1 H1 F' H ∧ F' Dd = none ∧ H Dd = some (.lst xs) ∧ Paired (fun x y => Φ y x F') xs (ys.take i), ⟨ys.length, by simp, Nat.zero_le _, F1, [], .litter gi gg hD, f1, upd_same, .nil⟩, ?_⟩
    rintro i m H ⟨rfl, hi, F', xs, s, f, e, pr⟩
    have eH : Ex F1 H := s.sub.trans s.inn
    by_cases hlt : i < ys.length
    · refine .inr ⟨Y.go i H eH (by rw [hlen]; exact hlt), fun H => ∃ F' xs, Step pt F1 H1 F' H ∧ F' Dd = none ∧ H Dd = some (.lst xs) ∧ Paired (fun x y => Φ y x F') xs (ys.take (i + 1)), fun H' p' => ⟨ys.length - (i + 1), by omega, rfl, hlt, p'⟩, fun v H' y => ?_⟩
      obtain ⟨rfl, d, hd, hx⟩ := Y.yld i H v H' eH (by rw [hlen]; exact hlt) y
      obtain ⟨y0, hy0, rfl⟩ := get_map hd
      have hm0 : y0 ∈ ys := List.mem_of_getElem? hy0
      refine ⟨hwp v, yes_of (ite_t ?_)⟩
      refine he y0 hm0 F' (s1.sub.trans s.sub) v (Rp.mono s.sub _ _ hx) _ s.inn s.good _ fun u F2 H2 hu s2 => ?_
      obtain ⟨f2, e2⟩ := s2.beside gg hD f e
      have hl : xs.length = i := by have := Paired.length pr; rw [List.length_take] at this; omega
      refine ⟨xs, e2, by rw [hl]; exact Nat.lt_of_le_of_lt (by omega) (show 20000 < sizeLine by decide), F2, xs ++ [u], (s.trans s2).put gg hD f2, f2, upd_same, ?_⟩
      rw [take_succA hy0]
      exact Paired.snoc (Paired.mapP pr fun _ _ z => hm _ _ _ _ s2.sub z) hu
    · have hE : i = ys.length := Nat.le_antisymm hi (Nat.le_of_not_lt hlt)
      subst hE
      rw [List.take_length] at pr
      have ef : Ex F' (upd F' Dd (.lst xs)) := Ex.new f
      exact .inl ⟨by have := Y.stop H eH; rw [hlen] at this; exact this, q _ (upd F' Dd (.lst xs)) H ⟨Dd, xs, rfl, upd_same, Paired.mapP pr fun _ _ z => hm _ _ _ _ ef z⟩ (s1.trans (s.freeze gg hD f e))⟩
/-- tuple(a list of such things) -/
theorem x_tupX {α : Type} {Φ : α → V → Hp → Prop} {ys : List α} (hm : ∀ y v F F', Ex F F' → Φ y v F → Φ y v F') (h : EvX pt te σ F (fun v F2 => ∃ a xs, v = .ref a ∧ F2 a = some (.lst xs) ∧ Paired (fun x y => Φ y x F2) xs ys)) :
    EvX pt (tCB (rTup K) (tCons te tNil)) σ F (fun v F2 => TupX Φ F2 v ys) := fun H1 e g Q q => h H1 e g _ fun v F2 H2 ⟨a, xs, ev, h1, h2⟩ s => by
  subst ev
  refine ⟨a, xs, rfl, .inl ⟨SqL.of (s.inn _ _ h1), fun p hp => ?_⟩⟩
  have s3 : Step pt F2 H2 (upd F2 p (.tup xs)) (upd H2 p (.tup xs)) := .laid s.inn s.good hp
  exact q _ _ _ ⟨p, xs, rfl, upd_same, Paired.mapP h2 fun _ _ z => hm _ _ _ _ s3.sub z⟩ (s.trans s3)
/-- tuple(a tuple) is the same -/
theorem x_tupSame {i : Nat} {a : Addr} {xs : List V} (h0 : σ[i]? = some (some (.ref a))) (hl : F a = some (.tup xs)) : EvX pt (tCB (rTup K) (tCons (tVar i) tNil)) σ F (fun v _ => v = .ref a) := fun H1 e g Q q =>
  ⟨_, h0, a, xs, rfl, .inr ⟨SqT.of (e _ _ hl), q _ F H1 rfl (.refl e g)⟩⟩
theorem x_var {i : Nat} {v : V} (h0 : σ[i]? = some (some v)) : EvX pt (tVar i) σ F (fun u _ => u = v) := fun H1 e g Q q => ⟨_, h0, q _ F H1 rfl (.refl e g)⟩
/-- t[k] -/
theorem x_ixT {i : Nat} {a : Addr} {xs : List V} {k : Nat} {x : V} (h0 : σ[i]? = some (some (.ref a))) (hl : F a = some (.tup xs)) (hk : xs[k]? = some x) (h : EvG K pt ti σ F (Is (.int (k : Int)))) : EvX pt (tOp (rIxT K) (tVar i) ti) σ F (fun v _ => v = x) := fun H1 e g Q q =>
  ⟨_, h0, h H1 e g _ fun d v F2 H2 hd s hv => by
    subst hd
    exact ⟨a, xs, _, x, rfl, rp_int hv, SqT.of (s.inn _ _ (s.sub _ _ hl)), by rw [atI_nat hk], q _ F2 H2 rfl s⟩⟩
/-- len(t) -/
theorem g_lenX {i : Nat} {a : Addr} {xs : List V} (h0 : σ[i]? = some (some (.ref a))) (hl : F a = some (.tup xs)) : EvG K pt (tCB (rLen K) (tCons (tVar i) tNil)) σ F (Is (.int (xs.length : Int))) := fun H1 e g Q q =>
  ⟨_, h0, a, xs, rfl, .inr (SqT.of (e _ _ hl)), q _ _ F H1 rfl (.refl e g) (.int _)⟩
/-- e.f, e an instance -/
theorem g_fldX {Φ : V → Hp → Prop} {f : Str} {d : PyData} (h : EvX pt te σ F Φ) (cl : Cls K C) (na : NoAttr K C f) (hx : ∀ v F2, Ex F F2 → Φ v F2 → ∃ x dx fs u, v = .ref x ∧ F2 x = some (.ins C dx fs) ∧ fs.lookup f = some u ∧ Rp K F2 u d) : EvG K pt (tFld K te f) σ F (Is d) := fun H1 e g Q q =>
  h H1 e g _ fun v F2 H2 hv s => by
    obtain ⟨x, dx, fs, u, rfl, h1, h2, h3⟩ := hx v F2 s.sub hv
    exact ⟨x, C, dx, fs, u, rfl, s.inn _ _ h1, cl, na, h2, q d u F2 H2 rfl s h3⟩
/-- e.m(..), e an instance -/
theorem g_methX {m : Str} {sp : Sp} {E : XK} {ds : List PyData} {z : PyData} {x dx : Addr} {fs : List (Str × V)} (hv : EvX pt te σ F (fun v _ => v = .ref x)) (ho : F x = some (.ins C dx fs)) (hl : fs.lookup m = none) (h : ∀ F', Ex F F' → EvsG K pt ts σ F' (· = ds))
    (hs : ∀ F1 H1 vs, Ex F F1 → Ex F1 H1 → RpAll K F1 vs ds → ∀ Q : VK, (∀ v F2 H2, Step none F1 H1 F2 H2 → Rp K F2 v z → Q v H2) → sp (.ref x :: vs) H1 Q E) : EvG K pt (tMeth C m sp [] E te ts) σ F (Is z) := fun H1 e g Q q =>
  hv H1 e g _ fun v F2 H2 ev s => by
    subst ev
    exact ⟨x, dx, fs, rfl, s.inn _ _ (s.sub _ _ ho), hl, h F2 s.sub H2 s.inn s.good _ fun ds' vs F3 H3 hd s3 hv3 => by
      subst hd
      rw [List.append_nil]
      exact hs F3 H3 vs (s.sub.trans s3.sub) s3.inn hv3 Q fun v F4 H4 s4 hv4 => q _ v F4 H4 rfl ((s.trans s3).trans (s4.lift s3.good)) hv4⟩
end
end Fv

namespace KC
open PySem PySem.Spec PyProof.Rows L2 L2H Fv Evl StX
abbrev s_check_frame : Stmt := topS 37
theorem sc_check_frame : FnScope ["houses", "states", "start", "index"] ["houses", "states", "start"] (defScope s_check_frame) := ⟨rfl, rfl, rfl, by decide +kernel, rfl, by decide +kernel, by decide +kernel⟩
abbrev s_is_row : Stmt := topS 38
theorem sc_is_row : FnScope ["houses", "others", "cell"] ["houses", "others"] (defScope s_is_row) := ⟨rfl, rfl, rfl, by decide +kernel, rfl, by decide +kernel, by decide +kernel⟩
abbrev s_is_move : Stmt := topS 39
theorem sc_is_move : FnScope ["states", "values", "move"] ["states", "values", "move"] (defScope s_is_move) := ⟨rfl, rfl, rfl, by decide +kernel, rfl, by decide +kernel, by decide +kernel⟩
abbrev s_place_of : Stmt := topS 40
theorem sc_place_of : FnScope ["state", "others", "cell"] ["state", "others"] (defScope s_place_of) := ⟨rfl, rfl, rfl, by decide +kernel, rfl, by decide +kernel, by decide +kernel⟩
def rankV (vw : ORow) : List Int := vw.map fun o => o.getD (-1)
/-- a move that ends: the state, what is seen of the others, the value -/
abbrev Mv := Int × ORow × Int
def mvT (v : Int) : PyData := .tuple [.str "done", .int v]
def mvD (x : Mv) : PyData := .tuple [.int x.1, dO x.2.1, mvT x.2.2]
def placeK (x : Mv) : List PyData := [.int x.1, dT (rankV x.2.1)]
def moveK (x : Mv) : List PyData := [.int x.1, dO x.2.1]
structure MvOk (n m : Nat) (x : Mv) : Prop where
  s0 : 0 ≤ x.1
  s1 : x.1 < (m : Int)
  ln : x.2.1.length + 1 = n
  cells : ∀ o ∈ x.2.1, ∀ k, o = some k → 0 ≤ k ∧ k < 4
  v0 : 0 ≤ x.2.2
  v1 : x.2.2 < (m : Int)
structure NMok (n m : Nat) : Prop where
  n2 : 2 ≤ n
  n5 : n ≤ 5
  m1 : 1 ≤ m
  m4 : m ≤ 4
theorem kb_pair {i : Int} {vw : ORow} : kb (.tuple [.int i, dO vw]) = true := by
  rw [kb, kbL, kbL, kbL, kb_dO]; rfl
theorem depth_pair {i : Int} {vw : ORow} : (nk (.tuple [.int i, dO vw])).depth ≤ 8 := by
  have : nk (dO vw) = .tup (nkL (vw.map optD)) := by rw [nk]
  rw [nk, nkL, nkL, nkL, this]
  simp only [NestedKey.depth, NestedKey.depthAll, nkL_depth, nk]
  decide
theorem dT_dO (l : List Int) : dT l = dO (l.map some) := by
  show PyData.tuple _ = PyData.tuple _
  rw [List.map_map]; rfl
theorem kb_place (x : Mv) : kb (.tuple (placeK x)) = true ∧ (nk (.tuple (placeK x))).depth ≤ 8 := by
  unfold placeK
  rw [dT_dO]
  exact ⟨kb_pair, depth_pair⟩
theorem kb_move (x : Mv) : kb (.tuple (moveK x)) = true ∧ (nk (.tuple (moveK x))).depth ≤ 8 := ⟨kb_pair, depth_pair⟩
section
variable {P : Program} {w : World} {K : PySem.W.Frag} {mg : Str → Option Value} {base : Heap} {CB CO CE fE CF C fI : Addr} {mc : Value}
variable {pt : Option Pt} {σ : L2.St} {F F' F0 H0 H F2 H2 : Hp} {te ta tb ty td : TE} {ts tr : TA} {t : TT} {D : Ends} {tz tu tw : TS}
/-! as_tuples of tuples and atoms -/
abbrev spAsT (K : PySem.W.Frag) (p : PyData → Prop) : Sp := PSp K (fun d : PyData => [d]) p (fun d => d)
theorem as_step {j : Nat} {p : PyData → Prop} {f fS : Addr} {fd fdS : FuncData} (F_as_tuples : Fun K "as_tuples" "as_tuples" s_as_tuples f fd) (T : Tx mg) (b_as_tuples : Binds K fd ["thing"] []) (g_as_tuples : mg "as_tuples" = some (.ref f))
    (F_is_sequence : Fun K "is_sequence" "is_sequence" s_is_sequence fS fdS) (b_is_sequence : Binds K fdS ["thing"] []) (g_is_sequence : mg "is_sequence" = some (.ref fS))
    (hj : 1 ≤ j) (G_as_tuples : FnOk P w K mg base CX0 j f fd ["thing"] (spAsT K p)) : FnOk P w K mg base CX0 (j + 1) f fd ["thing"] (spAsT K (upL p)) := by
  have G_is_sequence : FnOk P w K mg base CX0 j fS fdS ["thing"] (spSeq K) := Fv.FnOk.up (ok_seq F_is_sequence T) hj
  refine Fun.ok F_as_tuples sc_as_tuples (PSp.len (fun _ => rfl)) (fun cdv A outer s H vs Q E hr h => ?_)
  obtain ⟨d, F, hd, e, ha, q⟩ := h
  obtain ⟨v, rfl, hv⟩ := rpAll1 ha
  refine ⟨_, (pss_cons (ps_if (pt_val (pe_call G_is_sequence hr (by rfl) g_is_sequence F_is_sequence.kp b_is_sequence .nil pass0 (pa_cons (pv 0) pa_nil))) (pss_one (ps_ret (pe_callTy (c_tup (K := K)) (by rfl) T.tuple (by decide +kernel) (pa_cons (pe_lc (own := [("part", 1)]) (g := gName 1) rfl sc_as_tuples.nd (i_tup (K := K) (pv 0)) (blkOk_by (own := [("part", 1)]) (N := ["thing", "part"]) (sc := (defScope s_as_tuples)) (by decide +kernel)) (fun _ _ _ _ _ => pg_name (i := 1) sc_as_tuples.nd rfl (by first | exact Or.inl rfl | exact Or.inr rfl)) (fun _ _ _ _ _ => pts_nil) (fun _ _ _ _ _ => (pe_call G_as_tuples hr (by rfl) g_as_tuples F_as_tuples.kp b_as_tuples .nil pass0 (pa_cons (pv 1) pa_nil)))) pa_nil)))) pss_nil)
    (pss_one (ps_ret (pv 0)))), ?_⟩
  refine t_when (b := isL d || isT d) (Step.refl e .nil) (et_B (g_call d (gs_one (g_var rfl hv)) rfl trivial)) (fun hb F2 H2 s2 e2 => ?_) (fun hb F2 H2 s2 e2 => ?_)
  · obtain ⟨ds, rfl⟩ : ∃ ds, d = .tuple ds := by
      cases d <;> simp_all [isL, isT, upL, atomS]
    obtain ⟨h1, h2⟩ := hd
    exact t_retI (K := K) s2 ((g_cbI (gs_one (g_lcEM id ds id (w_tupI ((g_var rfl (Rp.mono e2 _ _ hv)).is (by rw [List.map_id]))) (by omega) (fun _ => rfl) fun k hk F' e' y hy => g_call k (gs_one (g_var rfl hy)) rfl (h2 k hk))) rc_tupL).is (by rw [List.map_id])) q
  · exact t_retI (K := K) s2 (g_var rfl (Rp.mono e2 _ _ hv)) q
theorem ok_asT {f fS : Addr} {fd fdS : FuncData} (Fn : Fun K "as_tuples" "as_tuples" s_as_tuples f fd) (T : Tx mg) (b_as_tuples : Binds K fd ["thing"] []) (g_as_tuples : mg "as_tuples" = some (.ref f))
    (F_is_sequence : Fun K "is_sequence" "is_sequence" s_is_sequence fS fdS) (b_is_sequence : Binds K fdS ["thing"] []) (g_is_sequence : mg "is_sequence" = some (.ref fS)) : FnOk P w K mg base CX0 4 f fd ["thing"] (spAsT K lv2) :=
  as_step Fn T b_as_tuples g_as_tuples F_is_sequence b_is_sequence g_is_sequence (by decide) (as_step Fn T b_as_tuples g_as_tuples F_is_sequence b_is_sequence g_is_sequence (by decide) (as_step Fn T b_as_tuples g_as_tuples F_is_sequence b_is_sequence g_is_sequence (by decide)
    ⟨PSp.len (fun _ => rfl), fun _ _ _ _ _ _ _ _ _ _ _ _ _ h => by obtain ⟨_, _, hf, _⟩ := h; exact hf.elim⟩))
/-! the frame -/
def spFrame (K : PySem.W.Frag) : Sp := fun vs H Q _ => ∃ (n m : Nat) (F : Hp) (v : V), vs = [.int n, .int m, v] ∧ NMok n m ∧ Ex F H ∧ Rp K F v (.list ((hs m).map .int)) ∧ ∀ F2 H2, Step none F H F2 H2 → Q .non H2
theorem ok_frame {f fS fW : Addr} {fd fdS fdW : FuncData} (Fn : Fun K "_check_frame" "_check_frame" s_check_frame f fd) (T : Tx mg) {tH tS tV : Tok} (c_MOST_HOUSES : mg "MOST_HOUSES" = some (.int 5 tH)) (c_MOST_STATES : mg "MOST_STATES" = some (.int 40 tS)) (c_MOST_VALUES : mg "MOST_VALUES" = some (.int 4 tV))
    (F_is_sequence : Fun K "is_sequence" "is_sequence" s_is_sequence fS fdS) (b_is_sequence : Binds K fdS ["thing"] []) (g_is_sequence : mg "is_sequence" = some (.ref fS))
    (F_is_whole : FunW K fW fdW) (b_is_whole : Binds K fdW ["thing", "low", "high"] []) (g_is_whole : mg "is_whole" = some (.ref fW)) : FnOk P w K mg base CX0 2 f fd ["houses", "states", "start"] (spFrame K) := by
  have G_is_sequence : FnOk P w K mg base CX0 1 fS fdS ["thing"] (spSeq K) := ok_seq F_is_sequence T
  have G_is_whole : FnOk P w K mg base CX0 1 fW fdW ["thing", "low", "high"] (spWhole K) := ok_whole F_is_whole T
  refine Fn.ok sc_check_frame (fun vs H Q E ⟨_, _, _, _, h, _⟩ => by rw [h]; rfl) (fun cdv A outer s H vs Q E hr h => ?_)
  obtain ⟨n, m, F, v, rfl, nm, e, hv, q⟩ := h
  have n2 := nm.n2
  have n5 := nm.n5
  have m1 := nm.m1
  have m4 := nm.m4
  refine ⟨_, (pss_cons (ps_if (pt_not (pt_val (pe_call G_is_whole (hr.mono (by decide)) (by rfl) g_is_whole F_is_whole.kp b_is_whole .nil pass0 (pa_cons (pv 0) (pa_cons pe_int (pa_cons (pe_glob (v := .int 5) (by rfl) c_MOST_HOUSES ⟨_, rfl⟩) pa_nil)))))) (pss_one ps_never) pss_nil)
    (pss_cons (ps_if (pt_not (pt_val (pe_call G_is_whole (hr.mono (by decide)) (by rfl) g_is_whole F_is_whole.kp b_is_whole .nil pass0 (pa_cons (pv 1) (pa_cons pe_int (pa_cons (pe_glob (v := .int 40) (by rfl) c_MOST_STATES ⟨_, rfl⟩) pa_nil)))))) (pss_one ps_never) pss_nil)
    (pss_cons (ps_if (PW.pt (pw_or (pt_not (pt_val (pe_call G_is_sequence (hr.mono (by decide)) (by rfl) g_is_sequence F_is_sequence.kp b_is_sequence .nil pass0 (pa_cons (pv 2) pa_nil)))) (pw_or1 (pt_not (pt_chain op_le op_le pe_int (pe_callB (c_len (K := K)) (by rfl) T.len (by decide +kernel) (pa_cons (pv 2) pa_nil)) (pe_glob (v := .int 4) (by rfl) c_MOST_VALUES ⟨_, rfl⟩)))))) (pss_one ps_never) pss_nil)
    (pss_one (ps_for PassesOwn.never rfl (pi_range1 (by rfl) T.range (pa_cons (pe_callB (c_len (K := K)) (by rfl) T.len (by decide +kernel) (pa_cons (pv 2) pa_nil)) pa_nil)) (pg_name (i := 3) sc_check_frame.nd rfl (by first | exact Or.inl rfl | exact Or.inr rfl)) (pss_one (ps_if (pt_not (pt_val (pe_call G_is_whole (hr.mono (by decide)) (by rfl) g_is_whole F_is_whole.kp b_is_whole .nil pass0 (pa_cons (pe_ix (o_ixL (K := K)) (pv 2) (pv 3) (fun _ _ => rfl)) (pa_cons pe_int (pa_cons (pe_op op_sub (pv 1) pe_int) pa_nil)))))) (pss_one ps_never) pss_nil))))))), ?_⟩
  have gm : ∀ {σ' : L2.St} {F' : Hp}, σ'[1]? = some (some (.int (m : Int))) → EvG K none (tVar 1) σ' F' (Is (.int (m : Int))) := fun h => g_var (v := .int m) h (.int _)
  refine t_skip (Step.refl e .nil) ((et_not (b := true) ((et_B (g_call (.int n, some 2, some 5) (gs_three (g_var (v := .int n) rfl (.int _)) g_int g_int) rfl trivial)).is ?_)).is rfl) fun F1 H1 s1 e1 => ?_
  · simp only [isWhole, loOk, hiOk, Bool.and_eq_true, decide_eq_true_eq]; omega
  refine t_skip s1 ((et_not (b := true) ((et_B (g_call (.int m, some 1, some 40) (gs_three (gm rfl) g_int g_int) rfl trivial)).is ?_)).is rfl) fun F2 H2 s2 e2 => ?_
  · simp only [isWhole, loOk, hiOk, Bool.and_eq_true, decide_eq_true_eq]; omega
  have hv2 := Rp.mono (e1.trans e2) _ _ hv
  have hl : ((hs m).map PyData.int).length = m := by rw [List.length_map, hs_len]
  have gl : EvG K none (tCB (Fv.rLen K) (tCons (tVar 2) tNil)) [some (.int (n : Int)), some (.int (m : Int)), some v, none] F2 (Is (.int (m : Int))) := (g_cbI (gs_one (g_var rfl hv2)) (rc_lenS (.inl rfl))).is (by rw [hl])
  refine t_skip s2 (et_or (a := false) (b := false) (et_not (b := true) (et_B (g_call (PyData.list ((hs m).map PyData.int)) (gs_one (g_var rfl hv2)) rfl trivial))) fun _ => et_not (b := true) (et_of (K := K) (g_chain (b := true) g_int gl g_int (rv_imp (rv_bl (g := fun i j => decide (i ≤ j))) fun z hz => by rw [hz]; simp; omega) (fun _ => rv_imp (rv_bl (g := fun i j => decide (i ≤ j))) fun z hz => by rw [hz]; simp; omega) fun hb => by cases hb))) fun F3 H3 s3 e3 => ?_
  have hv3 := Rp.mono e3 _ _ hv2
  refine t_for1 (K := K) (ds := rng 0 m) s3 (w_rng1I (n := (m : Int)) (gs_one ((g_cbI (gs_one (g_var rfl hv3)) (rc_lenS (.inl rfl))).is (by rw [hl]))) (by omega) (by omega)) (fun i σ' F' => ∃ y, σ' = [some (.int (n : Int)), some (.int (m : Int)), some v, y]) (fun F2 e2 => ⟨_, rfl⟩) (fun i d hd σ' F4 H4 u hI s4 e4 hu N hN => ?_) (fun σ' F4 H4 hI s4 e4 => q F4 H4 s4)
  obtain ⟨y, rfl⟩ := hI
  rw [rng_nat] at hd
  have hi : i < m := by have := (List.getElem?_eq_some_iff.mp hd).1; simpa using this
  have ed : d = natD i := by
    rw [List.getElem?_map, List.getElem?_range hi] at hd
    exact (Option.some.inj hd).symm
  subst ed
  refine t_if1 (b := false) s4 (et_not (b := true) (et_B (K := K) ((g_call (.int (i : Int), some 0, some ((m : Int) - 1)) (gs_three (g_opI (g_var rfl (Rp.mono e4 _ _ hv3)) (g_var rfl hu) (rv_ixL (d := .int (i : Int)) (atI_nat ?_))) g_int (g_opI (g_var (v := .int m) rfl (.int _)) g_int rv_sub)) rfl trivial).is ?_))) (fun z => by cases z) fun _ F5 H5 s5 e5 => hN _ F5 H5 ⟨_, rfl⟩ s5 e5
  · unfold hs
    rw [List.map_map, List.getElem?_map, List.getElem?_range hi]; rfl
  · simp only [isWhole, loOk, hiOk]; simp; omega
/-! a row of the others' marks, a move, a place -/
abbrev spIsRow (K : PySem.W.Frag) : Sp := PSp K (fun i : Nat × ORow => [.int i.1, dO i.2]) (fun i => i.2.length + 1 = i.1 ∧ i.1 ≤ 5 ∧ ∀ o ∈ i.2, ∀ k, o = some k → 0 ≤ k ∧ k < 4) (fun _ => .bool true)
theorem ok_isrow {f fS fW : Addr} {fd fdS fdW : FuncData} (Fn : Fun K "_is_row" "_is_row" s_is_row f fd) (T : Tx mg) {tS : Tok} (c_MOST_STATES : mg "MOST_STATES" = some (.int 40 tS))
    (F_is_sequence : Fun K "is_sequence" "is_sequence" s_is_sequence fS fdS) (b_is_sequence : Binds K fdS ["thing"] []) (g_is_sequence : mg "is_sequence" = some (.ref fS))
    (F_is_whole : FunW K fW fdW) (b_is_whole : Binds K fdW ["thing", "low", "high"] []) (g_is_whole : mg "is_whole" = some (.ref fW)) : FnOk P w K mg base CX0 2 f fd ["houses", "others"] (spIsRow K) := by
  have G_is_sequence : FnOk P w K mg base CX0 1 fS fdS ["thing"] (spSeq K) := ok_seq F_is_sequence T
  have G_is_whole : FnOk P w K mg base CX0 1 fW fdW ["thing", "low", "high"] (spWhole K) := ok_whole F_is_whole T
  refine Fn.ok sc_is_row (PSp.len (fun _ => rfl)) (fun cdv A outer s H vs Q E hr h => ?_)
  obtain ⟨⟨n, os⟩, F, ⟨hl, h5, hc⟩, e, ha, q⟩ := h
  replace hl : os.length + 1 = n := hl
  replace h5 : n ≤ 5 := h5
  obtain ⟨v1, v2, rfl, hv1, hv2⟩ := rpAll2 ha
  refine ⟨_, (pss_cons (ps_if (PW.pt (pw_or (pt_not (pt_val (pe_call G_is_sequence (hr.mono (by decide)) (by rfl) g_is_sequence F_is_sequence.kp b_is_sequence .nil pass0 (pa_cons (pv 1) pa_nil)))) (pw_or1 (pt_cmpR op_ne (pe_callB (c_len (K := K)) (by rfl) T.len (by decide +kernel) (pa_cons (pv 1) pa_nil)) (pe_op op_sub (pv 0) pe_int) (nomark _))))) (pss_one (ps_ret pe_bl)) pss_nil)
    (pss_one (ps_ret (pe_callB (c_all (K := K)) (by rfl) T.all (by decide +kernel) (pa_cons (pe_lc (own := [("cell", 2)]) (g := gName 2) rfl sc_is_row.nd (i_tup (K := K) (pv 1)) (blkOk_by (own := [("cell", 2)]) (N := ["houses", "others", "cell"]) (sc := (defScope s_is_row)) (by decide +kernel)) (fun _ _ _ _ _ => pg_name (i := 2) sc_is_row.nd rfl (by first | exact Or.inl rfl | exact Or.inr rfl)) (fun _ _ _ _ _ => pts_nil) (fun _ _ _ _ _ => (pe_or (pe_cmpR op_isN (pv 2) pe_non (nomark _)) (pe_one (pe_call G_is_whole (hr.mono (by decide)) (by rfl) g_is_whole F_is_whole.kp b_is_whole .nil pass0 (pa_cons (pv 2) (pa_cons pe_int (pa_cons (pe_op op_sub (pe_glob (v := .int 40) (by rfl) c_MOST_STATES ⟨_, rfl⟩) pe_int) pa_nil)))))))) pa_nil))))), ?_⟩
  refine t_skip (Step.refl e .nil) (et_or (a := false) (b := false) (et_not (b := true) (et_B (g_call (dO os) (gs_one (g_var rfl hv2)) rfl trivial))) fun _ => (et_of (K := K) (g_opI (g_cbI (gs_one (g_var rfl hv2)) rc_lenT) (g_opI (g_var rfl hv1) g_int rv_sub) rv_neI)).is (by rw [List.length_map]; simp; omega)) fun F2 H2 s2 e2 => ?_
  refine t_retI (K := K) s2 ((g_cbI (gs_one (g_lcEM optD os (fun _ => .bool true) (w_tupI (g_var rfl (Rp.mono e2 _ _ hv2))) (by omega) (fun _ => rfl) fun o ho F' e' y hy => ?_)) (rc_allM os fun _ => true)).is (by simp)) q
  refine (g_orV (a := o.isNone) (b := true) (g_opI (g_var rfl hy) g_non rv_isO) fun hb => ?_).is (by simp)
  cases o with
  | none => cases hb
  | some k =>
    have := hc _ ho k rfl
    refine (g_call (.int k, some 0, some (40 - 1)) (gs_three (g_var rfl hy) g_int (g_opI g_int g_int rv_sub)) rfl trivial).is ?_
    simp only [isWhole, loOk, hiOk]; simp; omega
abbrev spIsMove (K : PySem.W.Frag) : Sp := PSp K (fun i : Nat × Int => [.int i.1, .int i.1, mvT i.2]) (fun i => 0 ≤ i.2 ∧ i.2 < (i.1 : Int)) (fun _ => .bool true)
theorem ok_ismove {f fS fW : Addr} {fd fdS fdW : FuncData} (Fn : Fun K "_is_move" "_is_move" s_is_move f fd) (T : Tx mg)
    (F_is_sequence : Fun K "is_sequence" "is_sequence" s_is_sequence fS fdS) (b_is_sequence : Binds K fdS ["thing"] []) (g_is_sequence : mg "is_sequence" = some (.ref fS))
    (F_is_whole : FunW K fW fdW) (b_is_whole : Binds K fdW ["thing", "low", "high"] []) (g_is_whole : mg "is_whole" = some (.ref fW)) : FnOk P w K mg base CX0 2 f fd ["states", "values", "move"] (spIsMove K) := by
  have G_is_sequence : FnOk P w K mg base CX0 1 fS fdS ["thing"] (spSeq K) := ok_seq F_is_sequence T
  have G_is_whole : FnOk P w K mg base CX0 1 fW fdW ["thing", "low", "high"] (spWhole K) := ok_whole F_is_whole T
  refine Fn.ok sc_is_move (PSp.len (fun _ => rfl)) (fun cdv A outer s H vs Q E hr h => ?_)
  obtain ⟨⟨m, k⟩, F, ⟨h0, h1⟩, e, ha, q⟩ := h
  replace h0 : 0 ≤ k := h0
  replace h1 : k < (m : Int) := h1
  obtain ⟨v1, v2, v3, rfl, hv1, hv2, hv3⟩ := rpAll3 ha
  refine ⟨_, (pss_cons (ps_if (pt_not (pt_val (pe_call G_is_sequence (hr.mono (by decide)) (by rfl) g_is_sequence F_is_sequence.kp b_is_sequence .nil pass0 (pa_cons (pv 2) pa_nil)))) (pss_one (ps_ret (pe_call G_is_whole (hr.mono (by decide)) (by rfl) g_is_whole F_is_whole.kp b_is_whole .nil pass0 (pa_cons (pv 2) (pa_cons pe_int (pa_cons (pe_op op_sub (pv 0) pe_int) pa_nil)))))) pss_nil)
    (pss_one (ps_ret (pe_and (pe_cmpR op_eq (pe_callB (c_len (K := K)) (by rfl) T.len (by decide +kernel) (pa_cons (pv 2) pa_nil)) pe_int (nomark _)) (pe_and (pe_cmpR op_eq (pe_ix (o_ixT (K := K)) (pv 2) pe_int (fun _ _ => rfl)) pe_str (nomark _)) (pe_one (pe_call G_is_whole (hr.mono (by decide)) (by rfl) g_is_whole F_is_whole.kp b_is_whole .nil pass0 (pa_cons (pe_ix (o_ixT (K := K)) (pv 2) pe_int (fun _ _ => rfl)) (pa_cons pe_int (pa_cons (pe_op op_sub (pv 1) pe_int) pa_nil)))))))))), ?_⟩
  refine t_skip (Step.refl e .nil) (et_not (b := true) (et_B (g_call (mvT k) (gs_one (g_var rfl hv3)) rfl trivial))) fun F2 H2 s2 e2 => ?_
  have hv32 := Rp.mono e2 _ _ hv3
  refine t_retI (K := K) s2 ((g_andV (a := true) (b := true) ((g_opI (g_cbI (gs_one (g_var rfl hv32)) rc_lenT) g_int rv_eqI).is (by simp)) fun _ => (g_andV (a := true) (b := true) ((g_opI (g_opI (g_var rfl hv32) g_int (rv_ixT (d := .str "done") (atI_nat (j := 0) rfl))) g_str rv_eqS).is (by simp)) fun _ => (g_call (.int k, some 0, some ((m : Int) - 1)) (gs_three (g_opI (g_var rfl hv32) g_int (rv_ixT (d := .int k) (atI_nat (j := 1) rfl))) g_int (g_opI (g_var rfl (Rp.mono e2 _ _ hv2)) g_int rv_sub)) rfl trivial).is ?_).is (by simp)).is (by simp)) q
  simp only [isWhole, loOk, hiOk]; simp; omega
abbrev spPlace (K : PySem.W.Frag) : Sp := PSp K (fun x : Mv => [.int x.1, dO x.2.1]) (fun x => x.2.1.length ≤ 60) (fun x => .tuple (placeK x))
theorem ok_place {f : Addr} {fd : FuncData} (Fn : Fun K "_place_of" "_place_of" s_place_of f fd) (T : Tx mg) : FnOk P w K mg base CX0 1 f fd ["state", "others"] (spPlace K) := by
  refine Fn.ok sc_place_of (PSp.len (fun _ => rfl)) (fun cdv A outer s H vs Q E hr h => ?_)
  obtain ⟨⟨st, vw, vl⟩, F, hz, e, ha, q⟩ := h
  replace hz : vw.length ≤ 60 := hz
  obtain ⟨v1, v2, rfl, hv1, hv2⟩ := rpAll2 ha
  refine ⟨_, (pss_one (ps_ret (pe_tup (pa_cons (pv 0) (pa_cons (pe_callTy (c_tup (K := K)) (by rfl) T.tuple (by decide +kernel) (pa_cons (pe_lc (own := [("cell", 2)]) (g := gName 2) rfl sc_place_of.nd (i_tup (K := K) (pv 1)) (blkOk_by (own := [("cell", 2)]) (N := ["state", "others", "cell"]) (sc := (defScope s_place_of)) (by decide +kernel)) (fun _ _ _ _ _ => pg_name (i := 2) sc_place_of.nd rfl (by first | exact Or.inl rfl | exact Or.inr rfl)) (fun _ _ _ _ _ => pts_nil) (fun _ _ _ _ _ => (pe_ifExp (pt_cmpR op_isN (pv 2) pe_non (nomark _)) (pe_un un_neg pe_int) (pv 2)))) pa_nil)) pa_nil))))), ?_⟩
  refine t_retI (K := K) (Step.refl e .nil) ((g_tupI (gs_two (g_var rfl hv1) ((g_cbI (gs_one (g_lcEM optD vw (fun o => .int (o.getD (-1))) (w_tupI (g_var rfl hv2)) (by omega) (fun _ => rfl) fun o ho F' e' y hy => ?_)) rc_tupL))) (by simp)).is ?_) q
  · refine g_ifX (b := o.isNone) (et_of (g_opI (g_var rfl hy) g_non rv_isO)) (fun hb => ?_) fun hb => ?_
    · cases o with
      | none => exact g_un1 g_int
      | some k => cases hb
    · cases o with
      | none => cases hb
      | some k => exact g_var rfl hy
  · show PyData.tuple _ = PyData.tuple [.int st, .tuple ((rankV vw).map PyData.int)]
    unfold rankV
    rw [List.map_map]; rfl
end
end KC

namespace KC
open PySem PySem.Spec PyProof.Rows L2 L2H Fv Evl StX
abbrev s_entry_fault : Stmt := topS 42
theorem sc_entry_fault : FnScope ["houses", "states", "values", "row", "found"] ["houses", "states", "values", "row", "found"] (defScope s_entry_fault) := ⟨rfl, rfl, rfl, by decide +kernel, rfl, by decide +kernel, by decide +kernel⟩
abbrev s_kept_moves : Stmt := topS 41
theorem sc_kept_moves : FnScope ["houses", "states", "values", "moves", "found", "index", "what", "state", "others", "move", "place"] ["houses", "states", "values", "moves"] (defScope s_kept_moves) := ⟨rfl, rfl, rfl, by decide +kernel, rfl, by decide +kernel, by decide +kernel⟩
section
variable {P : Program} {w : World} {K : PySem.W.Frag} {mg : Str → Option Value} {base : Heap} {CB CO CE fE CF C fI : Addr} {mc : Value}
variable {pt : Option Pt} {σ : L2.St} {F F' F0 H0 H F2 H2 : Hp} {te ta tb ty td : TE} {ts tr : TA} {t : TT} {D : Ends} {tz tu tw : TS} {l a : Addr} {xs : List NEnt}
theorem t_three {i j k n : Nat} {d1 d2 d3 : PyData} (s : Step pt F0 H0 F H) (h : EvG K pt te σ F (Is (.tuple [d1, d2, d3]))) (hn : n = 3) (q : ∀ v1 v2 v3 F2 H2, Step pt F0 H0 F2 H2 → Ex F F2 → Rp K F2 v1 d1 → Rp K F2 v2 d2 → Rp K F2 v3 d3 → tz D (((σ.set i (some v1)).set j (some v2)).set k (some v3)) H2) :
    tSeq (tAsg te (gTup K n (gCons (gName i) (gCons (gName j) (gCons (gName k) gNil))))) tz D σ H := h H s.inn s.good _ fun d v F2 H2 hd s2 hv => by
  subst hd
  obtain ⟨a, xs, rfl, hl, ha⟩ := rp_tup hv
  obtain ⟨x1, x2, x3, rfl, h1, h2, h3⟩ := rpAll3 ha
  exact ⟨a, _, rfl, SqT.of (s2.inn _ _ hl), hn.symm, x1, _, rfl, x2, _, rfl, x3, _, rfl, rfl, q x1 x2 x3 F2 H2 (s.trans s2) s2.sub h1 h2 h3⟩
/-- k in d, d empty and one's own -/
theorem et_inN0 {i : Nat} {ks : List PyData} {o : Obj} (h : EvG K pt te σ F (Is (.tuple ks))) (hb : kb (.tuple ks) = true) (hd : (nk (.tuple ks)).depth ≤ 8) (h0 : σ[i]? = some (some (.ref l))) (low : (l == sysModules) = false) (ho : H l = some (rawO l o)) (off : ∀ q, pt = some q → l ≠ q.p) (dn : DNo P w o []) (e : Ex F H) (g : Good pt F H) {Q : Bool → Hp → Prop} (q : ∀ F2 H2, Step pt F H F2 H2 → Q false H2) :
    tTest (tOp (rInN P w K false) te (tVar i)) σ H Q := h H e g _ fun d v F2 H2 hd' s hv => ⟨_, h0, by
  subst hd'
  obtain ⟨a, ys, rfl, hl, ha⟩ := rp_tup hv
  exact ⟨l, [], _, a, rfl, rfl, ⟨low, ⟨o, s.keep l _ off ho, dn⟩, fun x hx => by cases hx⟩, KeyOk.mono s.inn ⟨_, hv, hb, rfl, hd⟩, _, rfl, q F2 H2 s⟩⟩
theorem t_skipA (h : ∀ Q : Bool → Hp → Prop, (∀ F2 H2, Step pt F H F2 H2 → Q false H2) → t σ H Q) (q : ∀ F2 H2, Step pt F H F2 H2 → tz D σ H2) : tSeq (tIfS t tu tNext) tz D σ H := h _ fun F2 H2 s => by
  show (if false = true then _ else _)
  rw [if_neg (by simp)]
  exact q F2 H2 s
/-! what is wrong with a move: nothing -/
def spEF (P : Program) (w : World) (K : PySem.W.Frag) : Sp := fun vs H Q _ => ∃ (n m : Nat) (x : Mv) (Df : Addr) (o : Obj) (F : Hp) (v : V), vs = [.int n, .int m, .int m, v, .ref Df] ∧ (NMok n m ∧ MvOk n m x ∧ (Df == sysModules) = false) ∧ Ex F H ∧ Rp K F v (mvD x) ∧ H Df = some (rawO Df o) ∧ DNo P w o [] ∧
  ∀ u F2 H2, Step none F H F2 H2 → Rp K F2 u .none → Q u H2
theorem ok_ef {f fS fW fR fM fP : Addr} {fd fdS fdW fdR fdM fdP : FuncData} (Fn : Fun K "_entry_fault" "_entry_fault" s_entry_fault f fd) (T : Tx mg) {tS : Tok} (c_MOST_STATES : mg "MOST_STATES" = some (.int 40 tS))
    (F_is_sequence : Fun K "is_sequence" "is_sequence" s_is_sequence fS fdS) (b_is_sequence : Binds K fdS ["thing"] []) (g_is_sequence : mg "is_sequence" = some (.ref fS))
    (F_is_whole : FunW K fW fdW) (b_is_whole : Binds K fdW ["thing", "low", "high"] []) (g_is_whole : mg "is_whole" = some (.ref fW))
    (F_is_row : Fun K "_is_row" "_is_row" s_is_row fR fdR) (b_is_row : Binds K fdR ["houses", "others"] []) (g_is_row : mg "_is_row" = some (.ref fR))
    (F_is_move : Fun K "_is_move" "_is_move" s_is_move fM fdM) (b_is_move : Binds K fdM ["states", "values", "move"] []) (g_is_move : mg "_is_move" = some (.ref fM))
    (F_place_of : Fun K "_place_of" "_place_of" s_place_of fP fdP) (b_place_of : Binds K fdP ["state", "others"] []) (g_place_of : mg "_place_of" = some (.ref fP)) :
    FnOk P w K mg base CX0 3 f fd ["houses", "states", "values", "row", "found"] (spEF P w K) := by
  have G_is_sequence : FnOk P w K mg base CX0 1 fS fdS ["thing"] (spSeq K) := ok_seq F_is_sequence T
  have G_is_whole : FnOk P w K mg base CX0 1 fW fdW ["thing", "low", "high"] (spWhole K) := ok_whole F_is_whole T
  have G_is_row : FnOk P w K mg base CX0 2 fR fdR ["houses", "others"] (spIsRow K) := ok_isrow F_is_row T c_MOST_STATES F_is_sequence b_is_sequence g_is_sequence F_is_whole b_is_whole g_is_whole
  have G_is_move : FnOk P w K mg base CX0 2 fM fdM ["states", "values", "move"] (spIsMove K) := ok_ismove F_is_move T F_is_sequence b_is_sequence g_is_sequence F_is_whole b_is_whole g_is_whole
  have G_place_of : FnOk P w K mg base CX0 1 fP fdP ["state", "others"] (spPlace K) := ok_place F_place_of T
  refine Fn.ok sc_entry_fault (fun vs H Q E ⟨_, _, _, _, _, _, _, h, _⟩ => by rw [h]; rfl) (fun cdv A outer s H vs Q E hr h => ?_)
  obtain ⟨n, m, x, Df, o, F, v, rfl, ⟨nm, ok, low⟩, e, hv, ho, dn, q⟩ := h
  have n5 := nm.n5
  have m4 := nm.m4
  obtain ⟨s0, s1', ln, hc, v0, v1⟩ := ok
  refine ⟨_, (pss_cons (ps_if (PW.pt (pw_or (pt_not (pt_val (pe_call G_is_sequence (hr.mono (by decide)) (by rfl) g_is_sequence F_is_sequence.kp b_is_sequence .nil pass0 (pa_cons (pv 3) pa_nil)))) (pw_or1 (pt_cmpR op_ne (pe_callB (c_len (K := K)) (by rfl) T.len (by decide +kernel) (pa_cons (pv 3) pa_nil)) pe_int (nomark _))))) (pss_one (ps_ret pe_str)) pss_nil)
    (pss_cons (ps_if (pt_not (pt_val (pe_call G_is_whole (hr.mono (by decide)) (by rfl) g_is_whole F_is_whole.kp b_is_whole .nil pass0 (pa_cons (pe_ix (o_ixT (K := K)) (pv 3) pe_int (fun _ _ => rfl)) (pa_cons pe_int (pa_cons (pe_op op_sub (pv 1) pe_int) pa_nil)))))) (pss_one (ps_ret pe_str)) pss_nil)
    (pss_cons (ps_if (pt_not (pt_val (pe_call G_is_row (hr.mono (by decide)) (by rfl) g_is_row F_is_row.kp b_is_row .nil pass0 (pa_cons (pv 0) (pa_cons (pe_ix (o_ixT (K := K)) (pv 3) pe_int (fun _ _ => rfl)) pa_nil))))) (pss_one (ps_ret pe_str)) pss_nil)
    (pss_cons (ps_if (pt_not (pt_val (pe_call G_is_move (hr.mono (by decide)) (by rfl) g_is_move F_is_move.kp b_is_move .nil pass0 (pa_cons (pv 1) (pa_cons (pv 2) (pa_cons (pe_ix (o_ixT (K := K)) (pv 3) pe_int (fun _ _ => rfl)) pa_nil)))))) (pss_one (ps_ret pe_str)) pss_nil)
    (pss_cons (ps_if (pt_cmpR (o_inN (P := P) (w := w) (K := K) (hu65 hr)) (pe_call G_place_of (hr.mono (by decide)) (by rfl) g_place_of F_place_of.kp b_place_of .nil pass0 (pa_cons (pe_ix (o_ixT (K := K)) (pv 3) pe_int (fun _ _ => rfl)) (pa_cons (pe_ix (o_ixT (K := K)) (pv 3) pe_int (fun _ _ => rfl)) pa_nil))) (pv 4) (by rfl)) (pss_one (ps_ret pe_str)) pss_nil)
    (pss_one (ps_ret pe_non))))))), ?_⟩
  have gm : ∀ {σ' : L2.St} {F' : Hp}, σ'[1]? = some (some (.int (m : Int))) → EvG K none (tVar 1) σ' F' (Is (.int (m : Int))) := fun h => g_var (v := .int m) h (.int _)
  have gr : ∀ {σ' : L2.St} {F' : Hp} {j : Nat} {d : PyData}, Ex F F' → σ'[3]? = some (some v) → [PyData.int x.1, dO x.2.1, mvT x.2.2][j]? = some d → EvG K none (tOp (rIxT K) (tVar 3) (tC (.int (j : Int)))) σ' F' (Is d) := fun {σ' F' j d} ee h hj => g_opI (g_var h (Rp.mono ee _ _ hv)) g_int (rv_ixT (atI_nat hj))
  refine t_skip (Step.refl e .nil) (et_or (a := false) (b := false) (et_not (b := true) (et_B (g_call (mvD x) (gs_one (g_var rfl hv)) rfl trivial))) fun _ => (et_of (K := K) (g_opI (g_cbI (gs_one (g_var rfl hv)) rc_lenT) g_int rv_neI)).is (by simp)) fun F2 H2 s2 e2 => ?_
  refine t_skip s2 (et_not (b := true) (et_B ((g_call (.int x.1, some 0, some ((m : Int) - 1)) (gs_three (gr (j := 0) e2 rfl rfl) g_int (g_opI (gm rfl) g_int rv_sub)) rfl trivial).is ?_))) fun F3 H3 s3 e3 => ?_
  · simp only [isWhole, loOk, hiOk]; simp; omega
  have e23 := e2.trans e3
  refine t_skip s3 (et_not (b := true) (et_B (g_call (n, x.2.1) (gs_two (g_var (v := .int n) rfl (.int _)) (gr (j := 1) e23 rfl rfl)) rfl ⟨ln, n5, hc⟩))) fun F4 H4 s4 e4 => ?_
  have e24 := e23.trans e4
  refine t_skip s4 (et_not (b := true) (et_B (g_call (m, x.2.2) (gs_three (gm rfl) (g_var (v := .int m) rfl (.int _)) (gr (j := 2) e24 rfl rfl)) rfl ⟨v0, v1⟩))) fun F5 H5 s5 e5 => ?_
  have e25 := e24.trans e5
  refine t_skipA (pt := none) (F := F5) (fun Q q => et_inN0 (K := K) (g_call x (gs_two (gr (j := 0) e25 rfl rfl) (gr (j := 1) e25 rfl rfl)) rfl (by show x.2.1.length ≤ 60; omega)) (kb_place x).1 (kb_place x).2 rfl low (s5.keep.ex Df _ ho) (fun q hq => by cases hq) dn s5.inn .nil q) fun F6 H6 s6 => ?_
  exact t_retI (K := K) (s5.trans s6) g_non q
theorem sortD_few {ds : List PyData} (h : ds.length ≤ 1) : sortD ds = ds := by
  cases ds with
  | nil => simp [sortD]
  | cons a r =>
    cases r with
    | nil => simp [sortD]
    | cons b r => simp at h
theorem canSort_places (mvs : List Mv) (hz : ∀ x ∈ mvs, x.2.1.length ≤ 60) : CanSort (mvs.map fun x => .tuple (placeK x)) := by
  refine ⟨PySem.W.AllAlike.of fun b b' => ?_, .inl fun d hd => ?_, fun d hd => ?_⟩
  · simp only [placeK, dT, PySem.W.alike, PySem.W.alikeAll, PySem.W.alike_ints]; rfl
  · obtain ⟨g, hg, rfl⟩ := List.mem_map.mp hd
    exact ⟨_, _, rfl⟩
  · obtain ⟨g, _, rfl⟩ := List.mem_map.mp hd
    have := depth_dT (rankV g.2.1)
    simp only [placeK, PyData.depth, PyData.depthAll] at this ⊢
    omega
theorem shaped_mvT (k : Int) : SeqAt.shaped (mvT k) = true := by
  refine shaped_of ?_ ?_
  · simp [mvT, PyData.canLay0, PyData.canLayAll0]
    decide +kernel
  · simp [mvT, PyData.depth, PyData.depthAll]
/-! the moves that are kept -/
def spKept (K : PySem.W.Frag) : Sp := PSp K (fun i : Nat × Nat × List Mv => [.int i.1, .int i.2.1, .int i.2.1, .list (i.2.2.map mvD)]) (fun i => NMok i.1 i.2.1 ∧ i.2.2.length ≤ 1 ∧ ∀ x ∈ i.2.2, MvOk i.1 i.2.1 x) (fun i => .tuple (i.2.2.map mvD))
theorem ok_kept {f fE fA fP : Addr} {fd fdE fdA fdP : FuncData} (Fn : Fun K "_kept_moves" "_kept_moves" s_kept_moves f fd) (T : Tx mg)
    (F_entry_fault : Fun K "_entry_fault" "_entry_fault" s_entry_fault fE fdE) (b_entry_fault : Binds K fdE ["houses", "states", "values", "row", "found"] []) (g_entry_fault : mg "_entry_fault" = some (.ref fE)) (G_entry_fault : FnOk P w K mg base CX0 3 fE fdE ["houses", "states", "values", "row", "found"] (spEF P w K))
    (F_as_tuples : Fun K "as_tuples" "as_tuples" s_as_tuples fA fdA) (b_as_tuples : Binds K fdA ["thing"] []) (g_as_tuples : mg "as_tuples" = some (.ref fA)) (G_as_tuples : FnOk P w K mg base CX0 4 fA fdA ["thing"] (spAsT K lv2))
    (F_place_of : Fun K "_place_of" "_place_of" s_place_of fP fdP) (b_place_of : Binds K fdP ["state", "others"] []) (g_place_of : mg "_place_of" = some (.ref fP)) :
    FnOk P w K mg base CX0 5 f fd ["houses", "states", "values", "moves"] (spKept K) := by
  have G_place_of : FnOk P w K mg base CX0 1 fP fdP ["state", "others"] (spPlace K) := ok_place F_place_of T
  refine Fn.ok sc_kept_moves (PSp.len (fun _ => rfl)) (fun cdv A outer s H vs Q E hr h => ?_)
  obtain ⟨⟨n, m, mvs⟩, F, ⟨nm, h1, hok⟩, e, ha, q⟩ := h
  replace h1 : mvs.length ≤ 1 := h1
  replace hok : ∀ x ∈ mvs, MvOk n m x := hok
  have n5 := nm.n5
  obtain ⟨v1, v2, v3, v4, rfl, hv1, hv2, hv3, hv4⟩ := rpAll4 ha
  obtain rfl := rp_int hv1
  obtain rfl := rp_int hv2
  obtain rfl := rp_int hv3
  refine ⟨_, (pss_cons (ps_set (i := 4) sc_kept_moves.nd rfl (by first | exact Or.inl rfl | exact Or.inr rfl) (pe_dnewN (P := P) (w := w)))
    (pss_cons (ps_for PassesOwn.never rfl (pi_range1 (by rfl) T.range (pa_cons (pe_callB (c_len (K := K)) (by rfl) T.len (by decide +kernel) (pa_cons (pv 3) pa_nil)) pa_nil)) (pg_name (i := 5) sc_kept_moves.nd rfl (by first | exact Or.inl rfl | exact Or.inr rfl)) (pss_cons (ps_set (i := 6) sc_kept_moves.nd rfl (by first | exact Or.inl rfl | exact Or.inr rfl) (pe_call G_entry_fault (hr.mono (by decide)) (by rfl) g_entry_fault F_entry_fault.kp b_entry_fault .nil pass0 (pa_cons (pv 0) (pa_cons (pv 1) (pa_cons (pv 2) (pa_cons (pe_ix (o_ixL (K := K)) (pv 3) (pv 5) (fun _ _ => rfl)) (pa_cons (pv 4) pa_nil)))))))
    (pss_cons (ps_if (pt_cmpR op_notN (pv 6) pe_non (nomark _)) (pss_one ps_never) pss_nil)
    (pss_cons (ps_asg (pe_call G_as_tuples (hr.mono (by decide)) (by rfl) g_as_tuples F_as_tuples.kp b_as_tuples .nil pass0 (pa_cons (pe_ix (o_ixL (K := K)) (pv 3) (pv 5) (fun _ _ => rfl)) pa_nil)) (pg_tup rfl (pgs_cons (pg_name (i := 7) sc_kept_moves.nd rfl (by first | exact Or.inl rfl | exact Or.inr rfl)) (pgs_cons (pg_name (i := 8) sc_kept_moves.nd rfl (by first | exact Or.inl rfl | exact Or.inr rfl)) (pgs_cons (pg_name (i := 9) sc_kept_moves.nd rfl (by first | exact Or.inl rfl | exact Or.inr rfl)) pgs_nil)))))
    (pss_one (ps_asg (pe_tup (pa_cons (pv 7) (pa_cons (pv 8) (pa_cons (pv 9) pa_nil)))) (pg_sub (pv 4) (pe_call G_place_of (hr.mono (by decide)) (by rfl) g_place_of F_place_of.kp b_place_of .nil pass0 (pa_cons (pv 7) (pa_cons (pv 8) pa_nil))) (set_N (P := P) (w := w) (K := K) (hu65 hr)))))))))
    (pss_one (ps_ret (pe_callTy (c_tup (K := K)) (by rfl) T.tuple (by decide +kernel) (pa_cons (pe_lc (own := [("place", 10)]) (g := gName 10) rfl sc_kept_moves.nd (i_list (K := K) (pe_callB (c_sortN (P := P) (w := w) (K := K) rfl (hu65 hr)) (by rfl) T.sorted (by decide +kernel) (pa_cons (pv 4) pa_nil))) (blkOk_by (own := [("place", 10)]) (N := ["houses", "states", "values", "moves", "found", "index", "what", "state", "others", "move", "place"]) (sc := (defScope s_kept_moves)) (by decide +kernel)) (fun _ _ _ _ _ => pg_name (i := 10) sc_kept_moves.nd rfl (by first | exact Or.inl rfl | exact Or.inr rfl)) (fun _ _ _ _ _ => (pts_one (pt_cmpR (o_neD (K := K) hr.units) (pe_ix (o_ixT (K := K)) (pe_dgetN (P := P) (w := w) (K := K) (hu65 hr) (pv 4) (pv 10) (fun _ _ => rfl)) pe_int (fun _ _ => rfl)) (pe_ix (o_ixT (K := K)) (pv 10) pe_int (fun _ _ => rfl)) (nomark _)))) (fun _ _ _ _ _ => (pe_dgetN (P := P) (w := w) (K := K) (hu65 hr) (pv 4) (pv 10) (fun _ _ => rfl)))) pa_nil)))))), ?_⟩
  have hl60 : ∀ x ∈ mvs, x.2.1.length ≤ 60 := fun x hx => by have := (hok x hx).ln; omega
  refine t_newN (K := K) (Step.refl e .nil) fun l H1 hl1 h0 g1 => ?_
  have g0 : Good none F H := .nil
  refine t_forHR (K := K) (RS := (· = (List.range mvs.length).map natD)) g1.step.inn g1.step.good ?hw (fun ds i σ' F' H' => ∃ y5 y6 y7 y8 y9 y10 xs, σ' = [some (.int n), some (.int m), some (.int m), some v4, some (.ref l), y5, y6, y7, y8, y9, y10] ∧ Nst P w K none F H l F' H' xs ∧ NV K F' xs ((mvs.take i).map fun x => (.tuple (placeK x), mvD x)))
    (fun ds hds F3 H3 s3 => ⟨_, _, _, _, _, _, [], rfl, g1.run g0 h0 s3, .nil⟩) (fun ds i σ' F' H' ⟨_, _, _, _, _, _, _, _, w, _⟩ => w.step.inn) (fun ds hds i d hd σ' F' H' u hI e' hu N hN => ?_) (fun ds hds σ' F' H' hI e' => ?_)
  case hw =>
    have := w_rng1I (K := K) (pt := none) (σ := [some (.int n), some (.int m), some (.int m), some v4, some (.ref l), none, none, none, none, none, none]) (F := F) (n := (mvs.length : Int)) (gs_one ((g_cbI (gs_one (g_var (i := 3) rfl hv4)) (rc_lenS (.inl rfl))).is (by rw [List.length_map]))) (by omega) (by omega)
    rw [show ((mvs.length : Int)).toNat = mvs.length by omega, rng_nat] at this
    exact this
  · obtain ⟨y5, y6, y7, y8, y9, y10, xs, rfl, n1, dv⟩ := hI
    subst hds
    have hi : i < mvs.length := by have := (List.getElem?_eq_some_iff.mp hd).1; simpa using this
    have ed : d = natD i := by
      rw [List.getElem?_map, List.getElem?_range hi] at hd
      exact (Option.some.inj hd).symm
    subst ed
    obtain rfl : i = 0 := by omega
    obtain ⟨x, rfl⟩ : ∃ x, mvs = [x] := List.length_eq_one_iff.mp (by omega)
    have okx := hok x (by simp)
    obtain rfl : xs = [] := by
      cases dv; rfl
    obtain ⟨o, ho, dn⟩ := n1.ex
    have gl : ∀ {σ' : L2.St} {F'' : Hp}, Ex F F'' → σ'[3]? = some (some v4) → σ'[5]? = some (some u) → Ex F' F'' → EvG K none (tOp (rIxL K) (tVar 3) (tVar 5)) σ' F'' (Is (mvD x)) := fun {σ' F''} ee h3 h5 e5 => g_opI (g_var h3 (Rp.mono ee _ _ hv4)) (g_var (d := natD 0) h5 (Rp.mono e5 _ _ hu)) (rv_ixL (d := mvD x) (atI_nat (j := 0) rfl))
    refine ⟨_, rfl, _, rfl, _, rfl, gl e' rfl rfl (Ex.refl F') H' n1.step.inn n1.step.good _ fun d v F2 H2 hd2 s2 hv => ⟨_, rfl, n, m, x, l, o, F2, v, rfl, ⟨nm, okx, n1.low⟩, s2.inn, (by rw [← show d = mvD x from hd2]; exact hv), s2.keep.ex l _ ho, dn, fun uw F3 H3 s3 huw => ?_⟩⟩
    have s23 := s2.trans s3
    have n3 := n1.run g0 h0 s23
    have e3 : Ex F' F3 := s23.sub
    refine t_skip (Step.refl n3.step.inn n3.step.good) ((et_of (K := K) (g_opI (g_var (i := 6) rfl huw) g_non rv_notN)).is rfl) fun F4 H4 s4 e4 => ?_
    have n4 := n3.run g0 h0 s4
    have hl5 := hl60 x (by simp)
    have lv : lv2 (mvD x) := by
      refine ⟨by simp, fun d hd => ?_⟩
      simp only [List.mem_cons, List.not_mem_nil, or_false] at hd
      rcases hd with rfl | rfl | rfl
      · rfl
      · exact ⟨by rw [List.length_map]; omega, fun d hd => by
          obtain ⟨k, _, rfl⟩ := List.mem_map.mp hd
          cases k <;> rfl⟩
      · exact ⟨by simp, fun d hd => by
          simp only [List.mem_cons, List.not_mem_nil, or_false] at hd
          rcases hd with rfl | rfl <;> rfl⟩
    refine t_three (Step.refl n4.step.inn n4.step.good) (g_call (mvD x) (gs_one (gl (e'.trans (e3.trans e4)) rfl rfl (e3.trans e4))) rfl lv) rfl fun v7 v8 v9 F5 H5 s5 e5 h7 h8 h9 => ?_
    have n5' := n4.run g0 h0 s5
    refine t_putNd (K := K) (i := 4) (R := Is (mvD x)) g0 h0 n5' rfl (by simp) (kb_place x).1 (kb_place x).2 (g_tupI (gs_three (g_var (i := 7) rfl h7) (g_var (i := 8) rfl h8) (g_var (i := 9) rfl h9)) (by simp)) (fun F'' e'' => g_call x (gs_two (g_var (i := 7) rfl (Rp.mono e'' _ _ h7)) (g_var (i := 8) rfl (Rp.mono e'' _ _ h8))) rfl hl5) fun d v b F6 H6 hd6 n6 e6 hv6 hb6 => ?_
    refine hN _ F6 H6 ⟨_, _, _, _, _, _, _, rfl, n6, ?_⟩ (((e3.trans e4).trans e5).trans e6)
    exact NV.put (ps := []) .nil (kb_place x).1 (fun p hp => by cases hp) (by simp) hb6 (by rw [← show d = mvD x from hd6]; exact hv6)
  · obtain ⟨y5, y6, y7, y8, y9, y10, xs, rfl, n1, dv⟩ := hI
    subst hds
    rw [List.length_map, List.length_range, List.take_length] at dv
    obtain ⟨F2, s2, e2, nd⟩ := n1.done g0 h0
    have dv2 := dv.mono e2
    have hkb : ∀ p ∈ (mvs.map fun x => (PyData.tuple (placeK x), mvD x)), kb p.1 = true := fun p hp => by
      obtain ⟨x, _, rfl⟩ := List.mem_map.mp hp
      exact (kb_place x).1
    have hnd : ((mvs.map fun x => (PyData.tuple (placeK x), mvD x)).map (·.1)).Nodup := by
      cases mvs with
      | nil => simp
      | cons a r =>
        cases r with
        | nil => simp
        | cons b r => simp at h1
    have keys : RpAll K F2 (xs.map fun x => V.ref x.2.1) (mvs.map fun x => .tuple (placeK x)) := by
      have := dv2.keys
      rw [List.map_map] at this
      exact this
    have gd : ∀ x ∈ mvs, ∀ F3, Ex F2 F3 → ∀ (σ' : L2.St) (y : V), σ'[4]? = some (some (.ref l)) → σ'[10]? = some (some y) → Rp K F3 y (.tuple (placeK x)) → EvG K none (tOp (rIxN P w K) (tVar 4) (tVar 10)) σ' F3 (Is (mvD x)) := fun x hx F3 e3 σ' y h4 h10 hy => by
      obtain ⟨p, hp, hz⟩ := dv2.get hkb hnd (k := .tuple (placeK x)) (d := mvD x) (List.mem_map.mpr ⟨x, hx, rfl⟩)
      exact g_dgetN h4 (nd.mono e3) (g_var h10 hy) (fun b F' hb => tup_ref hb) (kb_place x).1 (kb_place x).2 hp (Rp.mono e3 _ _ hz)
    refine t_retI (K := K) s2 ((g_cbI (gs_one (g_lcE (fun x => PyData.tuple (placeK x)) mvs (fun _ => true) mvD (w_listI ((g_sortN (i := 4) rfl nd keys (canSort_places mvs hl60)).is (by rw [sortD_few (by rw [List.length_map]; exact h1)]))) (by omega) (fun _ => rfl) (fun x hx F3 e3 y hy => ?_) (fun x hx _ F3 e3 y hy => gd x hx F3 e3 _ y rfl rfl hy))) rc_tupL).is ?_) q
    · refine (et_of (K := K) (g_opI (g_opI (gd x hx F3 e3 _ y rfl rfl hy) g_int (rv_ixT (d := mvT x.2.2) (atI_nat (j := 2) rfl))) (g_opI (g_var rfl hy) g_int (rv_ixT (d := .int x.1) (atI_nat (j := 0) rfl))) (rv_neD (shaped_mvT _) rfl))).is ?_
      simp [mvT, PyData.eqv]
    · rw [List.filter_eq_self.mpr (fun _ _ => rfl)]
end
end KC

namespace KC
open PySem PySem.Spec PyProof.Rows L2 L2H Fv Evl StX
abbrev s_HouseTable___init__ : Stmt := inClass (topS 36) 0
theorem sc_HouseTable___init__ : FnScope ["self", "houses", "states", "start", "moves", "state", "others", "move"] ["self", "houses", "states", "start", "moves"] (defScope s_HouseTable___init__) := ⟨rfl, rfl, rfl, by decide +kernel, rfl, by decide +kernel, by decide +kernel⟩
abbrev s_HouseTable_next_move : Stmt := inClass (topS 36) 2
theorem sc_HouseTable_next_move : FnScope ["self", "state", "others"] ["self", "state", "others"] (defScope s_HouseTable_next_move) := ⟨rfl, rfl, rfl, by decide +kernel, rfl, by decide +kernel, by decide +kernel⟩
/-- its default is the empty tuple -/
abbrev FunTab (K : PySem.W.Frag) (dv : V) (f : Addr) (fd : FuncData) : Prop := L2.FunD K "__init__" "HouseTable.__init__" (defArgs s_HouseTable___init__) (defBody s_HouseTable___init__) (defScope s_HouseTable___init__) [dv] [] f fd
/-- the entries of a table -/
def entsD (mvs : List Mv) : List (PyData × PyData) := mvs.map fun x => (.tuple (moveK x), mvT x.2.2)
/-- an instance of HouseTable: n houses, m values, the start whole, the moves -/
structure TabAt (P : Program) (w : World) (K : PySem.W.Frag) (C : Addr) (F : Hp) (x : Addr) (n m : Nat) (mvs : List Mv) : Prop where
  ex : ∃ dx st mv Dd xs, F x = some (.ins C dx [("n", .int n), ("m", .int m), ("states", .int m), ("start", st), ("moves", mv), ("_move_at", .ref Dd)]) ∧ F dx = some (.own x) ∧ Rp K F st (.tuple ((hs m).map .int)) ∧ ND P w K F Dd xs ∧ NV K F xs (entsD mvs)
theorem TabAt.mono {P : Program} {w : World} {K : PySem.W.Frag} {C : Addr} {F F' : Hp} {x : Addr} {n m : Nat} {mvs : List Mv} (e : Ex F F') (h : TabAt P w K C F x n m mvs) : TabAt P w K C F' x n m mvs := by
  obtain ⟨dx, st, mv, Dd, xs, h1, h2, h3, h4, h5⟩ := h.ex
  exact ⟨dx, st, mv, Dd, xs, e _ _ h1, e _ _ h2, Rp.mono e _ _ h3, h4.mono e, h5.mono e⟩
structure TabC (K : PySem.W.Frag) (C : Addr) : Prop where
  cl : Cls K C
  nN : NoAttr K C "n"
  nM : NoAttr K C "m"
  nS : NoAttr K C "states"
  nT : NoAttr K C "start"
  nV : NoAttr K C "moves"
  nA : NoAttr K C "_move_at"
section
variable {K : PySem.W.Frag} {F : Hp} {a : Addr} {P : Program} {w : World} {xs : List NEnt} {ps : List (PyData × PyData)}
mutual
theorem rp_del (h1 : ∀ xs, F a ≠ some (.tup xs)) (h2 : ∀ xs, F a ≠ some (.lst xs)) : ∀ (d : PyData) (v : V), Rp K F v d → Rp K (L2.del F a) v d
  | .none, _, x => by cases x; exact .non
  | .bool b, _, x => by cases x; exact .bl b
  | .int i, _, x => by cases x; exact .int i
  | .str y, _, x => by cases x; exact .str y
  | .tuple ds, v, x => by
    obtain ⟨p, ys, rfl, hl, ha⟩ := rp_tup x
    have ne : p ≠ a := fun z => h1 ys (z ▸ hl)
    exact .tup (by rw [L2.del_ne ne]; exact hl) (rpAll_del h1 h2 ds ys ha)
  | .list ds, v, x => by
    obtain ⟨p, ys, rfl, hl, ha⟩ := rp_lst x
    have ne : p ≠ a := fun z => h2 ys (z ▸ hl)
    exact .lst (by rw [L2.del_ne ne]; exact hl) (rpAll_del h1 h2 ds ys ha)
  | .dict _, _, x => by cases x
theorem rpAll_del (h1 : ∀ xs, F a ≠ some (.tup xs)) (h2 : ∀ xs, F a ≠ some (.lst xs)) : ∀ (ds : List PyData) (vs : List V), RpAll K F vs ds → RpAll K (L2.del F a) vs ds
  | [], _, x => by cases x; exact .nil
  | d :: ds, _, x => by
    cases x with
    | cons x1 x2 => exact .cons (rp_del h1 h2 d _ x1) (rpAll_del h1 h2 ds _ x2)
end
end
section
variable {P : Program} {w : World} {K : PySem.W.Frag} {mg : Str → Option Value} {base : Heap} {CB CO CT fE CF C fI : Addr} {mc : Value}
variable {pt : Option Pt} {σ : L2.St} {F F' F0 H0 H F2 H2 : Hp} {te ta tb ty td : TE} {ts tr : TA} {t : TT} {D : Ends} {tz tu tw : TS} {l a x dx : Addr} {xs : List NEnt} {fs : List (Str × V)} {f : Str} {i : Nat}
/-- self.f = e, e reads self -/
theorem t_fldAt {Φ : V → Hp → Prop} (s : Step none F0 H0 F H) (h0 : H0 x = none) (hx : F x = none) (hi : σ[i]? = some (some (.ref x))) (ho : H x = some (.ins C dx fs)) (cl : Cls K C) (na : NoAttr K C f) (hz : fs.length < 1000)
    (h : ∀ Fp, Ex F Fp → Ex Fp H → Fp x = some (.ins C dx fs) → ∀ Q : VK, (∀ v F2 H2, Φ v F2 → Step none Fp H F2 H2 → Q v H2) → te σ H Q)
    (hΦ : ∀ v F2, F2 x = some (.ins C dx fs) → Φ v F2 → Φ v (L2.del F2 x))
    (q : ∀ v F2 H2, Φ v F2 → Step none F0 H0 F2 H2 → Ex F F2 → F2 x = none → H2 x = some (.ins C dx (putF f v fs)) → tz D σ H2) : tSeq (sFld K (tVar i) te f) tz D σ H := by
  have sp : Step none F0 H0 (upd F x (.ins C dx fs)) H := s.add hx ho h0
  refine h (upd F x (.ins C dx fs)) (Ex.new hx) sp.inn upd_same _ fun v F2 H2 hv s2 => ?_
  have st := sp.trans s2
  have f2 : F2 x = some (.ins C dx fs) := s2.sub _ _ upd_same
  have back : ∀ a o, a ≠ x → F2 a = some o → L2.del F2 x a = some o := fun a o z h => by rw [L2.del_ne z]; exact h
  have exF : Ex F (L2.del F2 x) := fun a o h => by
    have z : a ≠ x := fun z => by rw [z, hx] at h; cases h
    exact back a o z (s2.sub _ _ (by rw [upd_ne z]; exact h))
  have s3 : Step none F0 H0 (L2.del F2 x) H2 := ⟨s.sub.trans exF, fun a o h => by
    by_cases z : a = x
    · rw [z, L2.del_same] at h; cases h
    · rw [L2.del_ne z] at h; exact s2.inn _ _ h, st.keep, .nil, fun a h1 h2 => by
    by_cases z : a = x
    · rw [z, L2.del_same]
    · rw [L2.del_ne z]; exact st.new a h1 h2⟩
  exact ⟨.ref x, hi, x, C, dx, fs, rfl, s2.inn _ _ f2, cl, na, hz, q v (L2.del F2 x) _ (hΦ v F2 f2 hv) (s3.put .nil h0 L2.del_same) exF L2.del_same upd_same⟩
def spTabI (P : Program) (w : World) (K : PySem.W.Frag) (C : Addr) : Sp := fun vs H Q _ => ∃ (x dx : Addr) (n m : Nat) (mvs : List Mv) (F : Hp) (v u : V), vs = [.ref x, .int n, .int m, v, u] ∧ H x = some (.ins C dx []) ∧ H dx = some (.own x) ∧ dx ≠ x ∧ F x = none ∧ F dx = none ∧ Ex F H ∧ Rp K F v (.list ((hs m).map .int)) ∧ Rp K F u (.list (mvs.map mvD)) ∧
  (NMok n m ∧ mvs.length ≤ 1 ∧ ∀ x ∈ mvs, MvOk n m x) ∧ ∀ F2 H2, Step none F (Fv.del (Fv.del H x) dx) F2 H2 → TabAt P w K C F2 x n m mvs → Q .non H2
theorem ok_tabI {f fF fS fK : Addr} {fd fdF fdS fdK : FuncData} {dv : V} (Fn : FunTab K dv f fd) (T : Tx mg) (TC : TabC K CT) {tMv : Tok} (c_MOST_MOVES : mg "MOST_MOVES" = some (.int 20000 tMv))
    (F_check_frame : Fun K "_check_frame" "_check_frame" s_check_frame fF fdF) (b_check_frame : Binds K fdF ["houses", "states", "start"] []) (g_check_frame : mg "_check_frame" = some (.ref fF)) (G_check_frame : FnOk P w K mg base CX0 2 fF fdF ["houses", "states", "start"] (spFrame K))
    (F_is_sequence : Fun K "is_sequence" "is_sequence" s_is_sequence fS fdS) (b_is_sequence : Binds K fdS ["thing"] []) (g_is_sequence : mg "is_sequence" = some (.ref fS))
    (F_kept_moves : Fun K "_kept_moves" "_kept_moves" s_kept_moves fK fdK) (b_kept_moves : Binds K fdK ["houses", "states", "values", "moves"] []) (g_kept_moves : mg "_kept_moves" = some (.ref fK)) (G_kept_moves : FnOk P w K mg base CX0 5 fK fdK ["houses", "states", "values", "moves"] (spKept K)) :
    FnOk P w K mg base CX0 6 f fd ["self", "houses", "states", "start", "moves"] (spTabI P w K CT) := by
  have G_is_sequence : FnOk P w K mg base CX0 1 fS fdS ["thing"] (spSeq K) := ok_seq F_is_sequence T
  refine okD Fn sc_HouseTable___init__ (fun vs H Q E ⟨_, _, _, _, _, _, _, _, h, _⟩ => by rw [h]; rfl) (fun cdv A outer s H vs Q E hr h => ?_)
  obtain ⟨x, dx, n, m, mvs, F, v, u, rfl, hox, hodx, hne, fx, fdx, e, hv, hu, ⟨nm, hz, hok⟩, q⟩ := h
  refine ⟨_, (pss_cons (ps_expr (pe_call G_check_frame (hr.mono (by decide)) (by rfl) g_check_frame F_check_frame.kp b_check_frame .nil pass0 (pa_cons (pv 1) (pa_cons (pv 2) (pa_cons (pv 3) pa_nil)))))
    (pss_cons (ps_if (PW.pt (pw_or (pt_not (pt_val (pe_call G_is_sequence (hr.mono (by decide)) (by rfl) g_is_sequence F_is_sequence.kp b_is_sequence .nil pass0 (pa_cons (pv 4) pa_nil)))) (pw_or1 (pt_cmpR op_gt (pe_callB (c_len (K := K)) (by rfl) T.len (by decide +kernel) (pa_cons (pv 4) pa_nil)) (pe_glob (v := .int 20000) (by rfl) c_MOST_MOVES ⟨_, rfl⟩) (nomark _))))) (pss_one ps_never) pss_nil)
    (pss_cons (ps_fld (pv 0) (pv 1) rfl)
    (pss_cons (ps_fld (pv 0) (pe_callB (c_len (K := K)) (by rfl) T.len (by decide +kernel) (pa_cons (pv 3) pa_nil)) rfl)
    (pss_cons (ps_fld (pv 0) (pv 2) rfl)
    (pss_cons (ps_fld (pv 0) (pe_callTy (c_tup (K := K)) (by rfl) T.tuple (by decide +kernel) (pa_cons (pv 3) pa_nil)) rfl)
    (pss_cons (ps_fld (pv 0) (pe_call G_kept_moves (hr.mono (by decide)) (by rfl) g_kept_moves F_kept_moves.kp b_kept_moves .nil pass0 (pa_cons (pv 1) (pa_cons (pv 2) (pa_cons (e_fld (K := K) (pv 0) rfl) (pa_cons (pv 4) pa_nil))))) rfl)
    (pss_one (ps_fld (pv 0) (pe_dcN (P := P) (w := w) (K := K) (own := [("state", 5), ("others", 6), ("move", 7)]) (g := gTup K 3 (gCons (gName 5) (gCons (gName 6) (gCons (gName 7) gNil)))) rfl (hu65 hr) sc_HouseTable___init__.nd (i_tup (K := K) (e_fld (K := K) (pv 0) rfl)) (blkOk_by (own := [("state", 5), ("others", 6), ("move", 7)]) (N := ["self", "houses", "states", "start", "moves", "state", "others", "move"]) (sc := (defScope s_HouseTable___init__)) (by decide +kernel)) (fun _ _ _ _ _ => (pg_tup (n := 3) rfl (pgs_cons (pg_name (i := 5) sc_HouseTable___init__.nd rfl (by first | exact Or.inl rfl | exact Or.inr rfl)) (pgs_cons (pg_name (i := 6) sc_HouseTable___init__.nd rfl (by first | exact Or.inl rfl | exact Or.inr rfl)) (pgs_cons (pg_name (i := 7) sc_HouseTable___init__.nd rfl (by first | exact Or.inl rfl | exact Or.inr rfl)) pgs_nil))))) (fun _ _ _ _ _ => pts_nil) (fun _ _ _ _ _ => (pe_tup (pa_cons (pv 5) (pa_cons (pv 6) pa_nil)))) (fun _ _ _ _ _ => (pv 7))) rfl))))))))), ?_⟩
  have h0x : Fv.del (Fv.del H x) dx x = none := by rw [Fv.del_ne hne.symm, Fv.del_same]
  have b0 : Fv.del H x x = none := Fv.del_same
  have gn : ∀ {σ' : L2.St} {F' : Hp}, σ'[1]? = some (some (.int (n : Int))) → EvG K none (tVar 1) σ' F' (Is (.int (n : Int))) := fun h => g_var (v := .int n) h (.int _)
  have gm : ∀ {σ' : L2.St} {F' : Hp}, σ'[2]? = some (some (.int (m : Int))) → EvG K none (tVar 2) σ' F' (Is (.int (m : Int))) := fun h => g_var (v := .int m) h (.int _)
  have hl : ((hs m).map PyData.int).length = m := by rw [List.length_map, hs_len]
  refine ⟨_, rfl, _, rfl, _, rfl, n, m, F, v, rfl, nm, e, hv, fun F1 H1 s1 => ?_⟩
  have e1 := s1.sub
  have hu1 := Rp.mono e1 _ _ hu
  dsimp only
  refine t_skip s1 ((et_or (a := false) (b := false) ((et_not (b := true) ((et_B (g_call (PyData.list (mvs.map mvD)) (gs_one (g_var rfl hu1)) rfl trivial)).is rfl)).is rfl) fun _ => ((et_of (K := K) (g_op (g_cbI (gs_one (g_var rfl hu1)) (rc_lenS (.inl rfl))) g_int fun _ _ h1 h2 => by subst h1 h2; exact rv_bl (g := fun i j => decide (j < i)))).is ?_)).is rfl) fun F2 H2 s2 e2 => ?_
  · rw [List.length_map]; simp; omega
  have e12 := e1.trans e2
  have f2x : F2 x = none := s2.new x fx (by rw [hox]; simp)
  have h2x : H2 x = some (.ins CT dx []) := s2.keep.ex x _ hox
  refine t_fld (K := K) ((Step.own1 e x).trans s2) b0 f2x rfl h2x TC.cl TC.nN (by decide) (EvG.toX (gn rfl)) fun v3 F3 H3 hv3 s3 e3 f3x h3x => ?_
  obtain rfl := rp_int hv3
  refine t_fld (K := K) s3 b0 f3x rfl h3x TC.cl TC.nM (by show 1 < 1000; decide) (EvG.toX ((g_cbI (gs_one (g_var rfl (Rp.mono (e12.trans e3) _ _ hv))) (rc_lenS (.inl rfl))).is (by rw [hl]))) fun v4 F4 H4 hv4 s4 e4 f4x h4x => ?_
  obtain rfl := rp_int hv4
  refine t_fld (K := K) s4 b0 f4x rfl h4x TC.cl TC.nS (by show 2 < 1000; decide) (EvG.toX (gm rfl)) fun v5 F5 H5 hv5 s5 e5 f5x h5x => ?_
  obtain rfl := rp_int hv5
  have e15 := ((e12.trans e3).trans e4).trans e5
  refine t_fld (K := K) s5 b0 f5x rfl h5x TC.cl TC.nT (by show 3 < 1000; decide) (EvG.toX (d := .tuple ((hs m).map .int)) (g_cbI (gs_one (g_var rfl (Rp.mono e15 _ _ hv))) rc_tupL)) fun v6 F6 H6 hv6 s6 e6 f6x h6x => ?_
  have e16 := e15.trans e6
  refine t_fldAt (K := K) (Φ := fun v F2 => Rp K F2 v (.tuple (mvs.map mvD))) s6 b0 f6x rfl h6x TC.cl TC.nV (by show 4 < 1000; decide) (fun Fp ep ip hp Q' q' => ?_) (fun v F2 h1 h2 => rp_del (fun ys z => by rw [h1] at z; cases z) (fun ys z => by rw [h1] at z; cases z) _ _ h2) fun v7 F7 H7 hv7 s7 e7 f7x h7x => ?_
  · refine (EvG.toX (g_call (n, m, mvs) (gs_consI (gn rfl) (gs_three (gm rfl) (g_fld (K := K) rfl hp TC.cl TC.nM rfl (.int _)) (g_var rfl (Rp.mono (e16.trans ep) _ _ hu)))) rfl ⟨nm, hz, hok⟩)) H6 ip .nil Q' q'
  refine t_fldAt1 (K := K) (Φ := fun v F2 => ∃ Dd xs, v = .ref Dd ∧ ND P w K F2 Dd xs ∧ NV K F2 xs (entsD mvs)) s7 b0 f7x rfl h7x TC.cl TC.nA (by show 5 < 1000; decide) (fun Fp ep ip hp Q' q' => ?_) (fun v F2 F3 h1 h2 ⟨Dd, xs, h3, h4, h5⟩ => ?_) fun v8 F8 H8 hv8 s8 e8 f8x h8x => ?_
  · refine x_dcN3 (K := K) (fun x : Mv => .int x.1) (fun x => dO x.2.1) (fun x => mvT x.2.2) mvs moveK (fun x => mvT x.2.2) (fun y _ => kb_move y) ?_ (w_tupI (g_fld (K := K) rfl hp TC.cl TC.nV rfl (Rp.mono ep _ _ hv7))) (by omega) (fun _ _ _ => rfl) (fun y hy F' e' x1 x2 x3 h1 h2 h3 => g_tupI (gs_two (g_var rfl h1) (g_var rfl h2)) (by show 2 ≤ 100000; decide)) (fun y hy F' e' x1 x2 x3 h1 h2 h3 => g_var rfl h3) H7 ip .nil Q' q'
    cases mvs with
    | nil => simp
    | cons a r =>
      cases r with
      | nil => simp
      | cons b r => simp at hz
  · obtain ⟨o, h6, h7⟩ := h4.ex
    have nx : Dd ≠ x := fun z => by rw [z, h1] at h6; cases h6
    have ft : ∀ ys, F2 x ≠ some (.tup ys) := fun ys z => by rw [h1] at z; cases z
    have fl : ∀ ys, F2 x ≠ some (.lst ys) := fun ys z => by rw [h1] at z; cases z
    have up : ∀ (d : PyData) (v : V), Rp K F2 v d → Rp K F3 v d := fun d v hd => Rp.mono (fun a o ha => by
      by_cases z : a = x
      · rw [z, L2.del_same] at ha; cases ha
      · rw [L2.del_ne z] at ha; exact h2 a o z ha) _ _ (rp_del ft fl d v hd)
    exact ⟨Dd, xs, h3, ⟨h4.low, ⟨o, h2 _ _ nx h6, h7⟩, fun y hy => by
      obtain ⟨d, a1, a2⟩ := h4.keys y hy
      exact ⟨d, up _ _ a1, a2⟩⟩, Paired.mapP h5 fun _ _ z => ⟨z.1, up _ _ z.2.1, up _ _ z.2.2⟩⟩
  obtain ⟨Dd, xs, rfl, nd, nv⟩ := hv8
  have hdx : (Fv.del H x) dx = some (.own x) := by rw [Fv.del_ne hne]; exact hodx
  have f8d : F8 dx = none := s8.new dx fdx (by rw [hdx]; simp)
  have h8d : H8 dx = some (.own x) := s8.keep.ex dx _ hdx
  have s9 : Step none F (Fv.del (Fv.del H x) dx) (upd F8 dx (.own x)) H8 := (s8.less Fv.del_ex).add f8d h8d Fv.del_same
  have f9x : upd F8 dx (.own x) x = none := by rw [upd_ne hne.symm]; exact f8x
  have s10 := s9.add (a := x) f9x h8x (by rw [Fv.del_ne hne.symm, Fv.del_same])
  have ee : Ex F8 (upd (upd F8 dx (.own x)) x (.ins CT dx (putF "_move_at" (.ref Dd) (putF "moves" v7 (putF "start" v6 (putF "states" (.int m) (putF "m" (.int m) (putF "n" (.int n) [])))))))) := (Ex.new f8d).trans (Ex.new f9x)
  refine q _ H8 s10 ⟨dx, v6, v7, Dd, xs, upd_same, ?_, Rp.mono ((e7.trans e8).trans ee) _ _ hv6, nd.mono ee, nv.mono ee⟩
  rw [upd_ne hne]; exact upd_same
/-! the next move -/
def nextD (mvs : List Mv) (s : Int) (os : ORow) : PyData := match mvs.find? fun x => decide (x.1 = s ∧ x.2.1 = os) with
  | some x => mvT x.2.2
  | none => .int s
theorem next_at {mvs : List Mv} {xs : List NEnt} {s : Int} {os : ORow} (hz : mvs.length ≤ 1) (nv : NV K F xs (entsD mvs)) : Rp K F (match atN xs (nk (.tuple [.int s, dO os])) with | some p => p.2 | none => .int s) (nextD mvs s os) := by
  cases mvs with
  | nil =>
    cases nv
    show Rp K F (.int s) (.int s)
    exact .int s
  | cons x r =>
    cases r with
    | cons b r => simp at hz
    | nil =>
      cases nv with
      | @cons e _ _ _ a b =>
        cases b
        obtain ⟨a1, a2, a3⟩ := a
        unfold nextD
        by_cases z : x.1 = s ∧ x.2.1 = os
        · have : atN [e] (nk (.tuple [.int s, dO os])) = some e.2 := by
            unfold atN
            rw [List.find?_cons_of_pos (by rw [← z.1, ← z.2]; exact decide_eq_true a1)]; rfl
          rw [this, List.find?_cons_of_pos (by simpa using z)]
          exact a3
        · have ne : ¬ e.1 = nk (.tuple [.int s, dO os]) := fun y => by
            rw [a1] at y
            have := nk_inj (kb_move x).1 kb_pair y
            simp only [moveK, PyData.tuple.injEq, List.cons.injEq, PyData.int.injEq, and_true] at this
            exact z ⟨this.1, dO_inj (congrArg PyData.tuple this.2)⟩
          have : atN [e] (nk (.tuple [.int s, dO os])) = none := by
            unfold atN
            rw [List.find?_cons_of_neg (by simpa using ne)]; rfl
          rw [this, List.find?_cons_of_neg (by simpa using z)]
          exact .int s
def spNext (P : Program) (w : World) (K : PySem.W.Frag) (C : Addr) : Sp := fun vs H Q _ => ∃ (x : Addr) (n m : Nat) (mvs : List Mv) (s : Int) (os : ORow) (F : Hp) (v : V), vs = [.ref x, .int s, v] ∧ mvs.length ≤ 1 ∧ Ex F H ∧ TabAt P w K C F x n m mvs ∧ Rp K F v (dO os) ∧
  ∀ u F2 H2, Step none F H F2 H2 → Rp K F2 u (nextD mvs s os) → Q u H2
theorem ok_next {f : Addr} {fd : FuncData} (Fn : Fun K "next_move" "HouseTable.next_move" s_HouseTable_next_move f fd) (T : Tx mg) (TC : TabC K CT) : FnOk P w K mg base CX0 1 f fd ["self", "state", "others"] (spNext P w K CT) := by
  refine Fn.ok sc_HouseTable_next_move (fun vs H Q E ⟨_, _, _, _, _, _, _, _, h, _⟩ => by rw [h]; rfl) (fun cdv A outer s H vs Q E hr h => ?_)
  obtain ⟨x, n, m, mvs, st, os, F, v, rfl, hz, e, tb, hv, q⟩ := h
  obtain ⟨dx, sv, mv, Dd, xs, h1, h2, h3, h4, h5⟩ := tb.ex
  refine ⟨_, (pss_one (ps_ret (pe_bmN PySem.F.plainAttrs_dict PySem.F.slot_dict_get PySem.F.type_dict_get (mt_get2N (K := K) (P := P) (w := w) (hu65 hr)) (e_fld (K := K) (pv 0) rfl) (pa_cons (pe_tup (pa_cons (pv 1) (pa_cons (pe_callTy (c_tup (K := K)) (by rfl) T.tuple (by decide +kernel) (pa_cons (pv 2) pa_nil)) pa_nil))) (pa_cons (pv 1) pa_nil))))), ?_⟩
  obtain ⟨o, h6, h7⟩ := h4.ex
  refine ⟨.ref x, rfl, x, CT, dx, _, .ref Dd, rfl, e _ _ h1, TC.cl, TC.nA, rfl, ⟨Dd, o, rfl, e _ _ h6, h7.1⟩, ?_⟩
  refine (g_tupI (K := K) (ds := [.int st, dO os]) (gs_two (g_var (v := .int st) rfl (.int _)) (g_cbI (gs_one (g_var rfl hv)) rc_tupT)) (by simp)) H e .nil _ fun d u F2 H2 hd s2 hu => ?_
  subst hd
  obtain ⟨b, rfl⟩ := tup_ref hu
  refine ⟨_, rfl, Dd, xs, nk (.tuple [.int st, dO os]), b, .int st, rfl, rfl, (h4.mono s2.sub).mono s2.inn, KeyOk.mono s2.inn ⟨_, hu, kb_pair, rfl, depth_pair⟩, ?_⟩
  exact q _ F2 H2 s2 (Rp.mono s2.sub _ _ (next_at hz h5))
end
end KC

namespace KC
open PySem PySem.Spec PyProof.Rows L2 L2H Fv Evl StX
abbrev s_plan_table : Stmt := topS 52
theorem sc_plan_table : FnScope ["houses", "values", "plan", "house", "moves", "view"] ["houses", "values", "plan", "house"] (defScope s_plan_table) := ⟨rfl, rfl, rfl, by decide +kernel, rfl, by decide +kernel, by decide +kernel⟩
abbrev s_plan_program : Stmt := topS 51
theorem sc_plan_program : FnScope ["houses", "values", "plan", "house"] ["houses", "values", "plan"] (defScope s_plan_program) := ⟨rfl, rfl, rfl, by decide +kernel, rfl, by decide +kernel, by decide +kernel⟩
abbrev s_check_program : Stmt := topS 43
theorem sc_check_program : FnScope ["program", "house", "table"] ["program"] (defScope s_check_program) := ⟨rfl, rfl, rfl, by decide +kernel, rfl, by decide +kernel, by decide +kernel⟩
/-- the moves of one house after a plan of one view -/
def mvsOf (vw : ORow) (v : Int) (h : Nat) : List Mv := match vw.getD h none with
  | some s => [(s, vw.take h ++ vw.drop (h + 1), v)]
  | none => []
theorem mvsOf_few (vw : ORow) (v : Int) (h : Nat) : (mvsOf vw v h).length ≤ 1 := by
  unfold mvsOf
  split <;> simp
structure VwIn (n m : Nat) (vw : ORow) (v : Int) : Prop where
  ln : vw.length = n
  cells : ∀ o ∈ vw, ∀ k, o = some k → 0 ≤ k ∧ k < (m : Int)
  v0 : 0 ≤ v
  v1 : v < (m : Int)
theorem mvsOf_ok {n m : Nat} {vw : ORow} {v : Int} {h : Nat} (nm : NMok n m) (vi : VwIn n m vw v) (hh : h < n) : ∀ x ∈ mvsOf vw v h, MvOk n m x := by
  intro x hx
  have m4 := nm.m4
  unfold mvsOf at hx
  have hl : h < vw.length := by rw [vi.ln]; exact hh
  have hg : vw.getD h none = vw[h] := by rw [List.getD_eq_getElem?_getD, List.getElem?_eq_getElem hl]; rfl
  split at hx
  · rename_i s hs
    rw [List.mem_singleton.mp hx]
    have hc := vi.cells _ (List.getElem_mem hl) s (by rw [← hg]; exact hs)
    refine ⟨hc.1, hc.2, ?_, fun o ho k e => ?_, vi.v0, vi.v1⟩
    · simp only [List.length_append, List.length_take, List.length_drop]
      have := vi.ln
      omega
    · have : o ∈ vw := by
        rcases List.mem_append.mp ho with z | z
        · exact List.mem_of_mem_take z
        · exact List.mem_of_mem_drop z
      have := vi.cells o this k e
      omega
  · cases hx
/-- isinstance asks this of an instance -/
structure TabT (K : PySem.W.Frag) (C : Addr) : Prop where
  ty : ∀ (H : Hp) (a dx : Addr) (fs : List (Str × V)), H a = some (.ins C dx fs) → TyOf K H (.ref a) (.ref C)
  kit : PySem.W.kitOne K (.ref C) (.ref C) = some true
section
variable {P : Program} {w : World} {K : PySem.W.Frag} {mg : Str → Option Value} {base : Heap} {CB CO CT fE CF C fI : Addr} {mc : Value}
variable {pt : Option Pt} {σ : L2.St} {F F' F0 H0 H F2 H2 : Hp} {te ta tb ty td : TE} {ts tr : TA} {t : TT} {D : Ends} {tz tu tw : TS} {l a x dx : Addr} {xs : List NEnt} {fs : List (Str × V)} {f : Str} {i : Nat}
theorem x_tab {E : XK} {n m : Nat} {mvs : List Mv} (h : EvsG K pt ts σ F (· = [.int (n : Int), .int (m : Int), .list ((hs m).map .int), .list (mvs.map mvD)])) (nm : NMok n m) (hz : mvs.length ≤ 1) (hok : ∀ x ∈ mvs, MvOk n m x) :
    EvX pt (tMake C (spTabI P w K C) [] E ts) σ F (fun v F2 => ∃ x, v = .ref x ∧ TabAt P w K C F2 x n m mvs) := fun H1 i g Q q =>
  h H1 i g _ fun ds vs F2 H2 hd s hv => by
    subst hd
    obtain ⟨a, b, v, u, rfl, ha, hb, hv, hu⟩ := rpAll4 hv
    rw [rp_int ha, rp_int hb]
    intro x dx hx hdx hne
    have fr : ∀ {a : Addr}, H2 a = none → F2 a = none := fun {a} h => by
      cases w : F2 a with
      | none => rfl
      | some o => rw [s.inn _ _ w] at h; cases h
    have n1 : (upd H2 dx (.own x)) x = none := by rw [upd_ne hne.symm]; exact hx
    have e1 : Ex H2 (upd (upd H2 dx (.own x)) x (.ins C dx [])) := (Ex.new hdx).trans (Ex.new n1)
    refine ⟨x, dx, n, m, mvs, F2, v, u, rfl, upd_same, by rw [upd_ne hne]; exact upd_same, hne, fr hx, fr hdx, s.inn.trans e1, hv, hu, ⟨nm, hz, hok⟩, fun F3 H3 s3 tb => ⟨rfl, ?_⟩⟩
    have back : Fv.del (Fv.del (upd (upd H2 dx (.own x)) x (.ins C dx [])) x) dx = H2 := by
      funext b
      by_cases z : b = dx
      · rw [z, Fv.del_same, hdx]
      · rw [Fv.del_ne z]
        by_cases y : b = x
        · rw [y, Fv.del_same, hx]
        · rw [Fv.del_ne y, upd_ne y, upd_ne z]
    rw [back] at s3
    exact q _ F3 H3 ⟨x, rfl, tb⟩ (s.trans (s3.lift s.good))
/-! the table of one house -/
def spPT (P : Program) (w : World) (K : PySem.W.Frag) (C : Addr) : Sp := fun vs H Q _ => ∃ (n m h : Nat) (Dp : Addr) (xs : List NEnt) (vw : ORow) (v : Int) (F : Hp), vs = [.int n, .int m, .ref Dp, .int h] ∧ (NMok n m ∧ VwIn n m vw v ∧ h < n) ∧ Ex F H ∧ ND P w K F Dp xs ∧ NV K F xs [(dO vw, .int v)] ∧
  ∀ x F2 H2, Step none F H F2 H2 → TabAt P w K C F2 x n m (mvsOf vw v h) → Q (.ref x) H2
theorem ok_pt {f fN : Addr} {fd fdN : FuncData} (Fn : Fun K "_plan_table" "_plan_table" s_plan_table f fd) (T : Tx mg)
    (M_HouseTable : Mk K CT fN) (g_HouseTable : mg "HouseTable" = some (.ref CT)) (G_HouseTable : FnOk P w K mg base CX0 6 fN fdN ["self", "houses", "states", "start", "moves"] (spTabI P w K CT)) (b_HouseTable : Binds K fdN ["self", "houses", "states", "start", "moves"] []) :
    FnOk P w K mg base CX0 8 f fd ["houses", "values", "plan", "house"] (spPT P w K CT) := by
  refine Fn.ok sc_plan_table (fun vs H Q E ⟨_, _, _, _, _, _, _, _, h, _⟩ => by rw [h]; rfl) (fun cdv A outer s H vs Q E hr h => ?_)
  obtain ⟨n, m, h, Dp, xs, vw, v, F, rfl, ⟨nm, vi, hh⟩, e, nd, nv, q⟩ := h
  refine ⟨_, (pss_cons (ps_setLc (i := 4) (own := [("view", 5)]) (g := gName 5) rfl sc_plan_table.nd rfl rfl (sw_true rfl rfl rfl (by decide +kernel)) (pi_keysN (P := P) (w := w) (pv 2)) (blkOk_by (own := [("view", 5)]) (N := ["houses", "values", "plan", "house", "moves", "view"]) (sc := (defScope s_plan_table)) (by decide +kernel)) (fun _ _ _ _ _ => pg_name (i := 5) sc_plan_table.nd rfl (by first | exact Or.inl rfl | exact Or.inr rfl)) (fun _ _ _ _ _ => (pts_one (pt_cmpR op_notN (pe_ix (o_ixT (K := K)) (pv 5) (pv 3) (fun _ _ => rfl)) pe_non (nomark _)))) (fun _ _ _ _ _ => (pe_tup (pa_cons (pe_ix (o_ixT (K := K)) (pv 5) (pv 3) (fun _ _ => rfl)) (pa_cons (pe_op (o_catA (K := K)) (pe_slice (s_any (K := K)) (pv 5) po_none (po_some (pv 3))) (pe_slice (s_tup (K := K)) (pv 5) (po_some (pe_op op_add (pv 3) pe_int)) po_none)) (pa_cons (pe_tup (pa_cons pe_str (pa_cons (pe_dgetN (P := P) (w := w) (K := K) (hu65 hr) (pv 2) (pv 5) (fun _ _ => rfl)) pa_nil))) pa_nil))))))
    (pss_one (ps_ret (pe_make M_HouseTable G_HouseTable (hr.mono (by decide)) (by rfl) g_HouseTable b_HouseTable .nil pass0 (pa_cons (pv 0) (pa_cons (pv 1) (pa_cons (pe_listRg rfl (by rfl) T.list (prg_1 (by rfl) T.range (pv 1))) (pa_cons (pv 4) pa_nil)))))))), ?_⟩
  have hl : h < vw.length := by rw [vi.ln]; exact hh
  have n5 := nm.n5
  have m4 := nm.m4
  have lv := vi.ln
  have hg : vw.getD h none = vw[h] := by rw [List.getD_eq_getElem?_getD, List.getElem?_eq_getElem hl]; rfl
  have gh : ∀ {σ' : L2.St} {F' : Hp}, σ'[3]? = some (some (.int (h : Int))) → EvG K none (tVar 3) σ' F' (Is (.int (h : Int))) := fun h' => g_var (v := .int h) h' (.int _)
  have keys : RpAll K F (xs.map fun x => V.ref x.2.1) [dO vw] := nv.keys
  refine t_asgI (K := K) (d := .list ((mvsOf vw v h).map mvD)) (Step.refl e .nil) ((g_lcE dO [vw] (fun vw => !(vw.getD h none).isNone) (fun vw => .tuple [optD (vw.getD h none), dO (vw.take h ++ vw.drop (h + 1)), mvT v]) (w_keysN (i := 2) rfl nd keys) (by simp) (fun _ => rfl) (fun vw' hm F' e' y hy => ?_) (fun vw' hm _ F' e' y hy => ?_)).is ?_) fun mv F1 H1 s1 e1 hmv => ?_
  · rw [List.mem_singleton.mp hm] at hy ⊢
    exact et_of (K := K) (g_opI (g_ixO (g_var rfl hy) (gh rfl) hl) g_non rv_notO)
  · rw [List.mem_singleton.mp hm] at hy ⊢
    obtain ⟨p, hp, hz⟩ := (nv.mono e').get (fun p hp => by rw [List.mem_singleton.mp hp]; exact kb_dO vw) (by simp) (k := dO vw) (d := .int v) (by simp)
    refine g_tupI (gs_three (g_ixO (g_var rfl hy) (gh rfl) hl) ((g_opI (g_slU (i := h) (ds := vw.map optD) (.inr rfl) (g_var rfl hy) (gh rfl)) (g_slA (i := h + 1) (g_var rfl hy) ((g_opI (gh rfl) g_int rv_add).is (by simp))) (rv_catA (by simp; omega))).is ?_) (g_tupI (gs_two g_str (g_dgetN rfl (nd.mono e') (g_var rfl hy) (fun b F' hb => tup_ref hb) (kb_dO vw) (depth_dO vw) hp hz)) (by simp))) (by simp)
    show PyData.tuple _ = PyData.tuple _
    simp only [List.map_append, List.map_take, List.map_drop]
  · show PyData.list _ = PyData.list _
    unfold mvsOf
    cases hs : vw.getD h none with
    | none =>
      rw [List.filter_cons_of_neg (by rw [hs]; simp)]; rfl
    | some s =>
      rw [List.filter_cons_of_pos (by rw [hs]; rfl)]
      simp only [List.filter_nil, List.map_cons, List.map_nil, hs]
      rfl
  refine t_retX s1 (x_tab (P := P) (w := w) (K := K) (C := CT) (gs_consI (g_var (v := .int n) rfl (.int _)) (gs_three (g_var (v := .int m) rfl (.int _)) (g_listRg (g_var (v := .int m) rfl (.int _)) (by omega)) (g_var rfl hmv))) nm (mvsOf_few _ _ _) (mvsOf_ok nm vi hh)) fun z F3 H3 ⟨x, ez, tb⟩ s3 => ?_
  rw [ez]
  exact q x F3 H3 s3 tb
/-! the program of a plan of one view -/
/-- a program: a table for each house -/
def ProgAt (P : Program) (w : World) (K : PySem.W.Frag) (C : Addr) (F : Hp) (v : V) (n m : Nat) (mv : Nat → List Mv) : Prop := TupX (fun h u F => ∃ x, u = .ref x ∧ TabAt P w K C F x n m (mv h)) F v (List.range n)
theorem tabMono {C : Addr} {n m : Nat} {mv : Nat → List Mv} : ∀ (h : Nat) (u : V) (F F' : Hp), Ex F F' → (∃ x, u = .ref x ∧ TabAt P w K C F x n m (mv h)) → ∃ x, u = .ref x ∧ TabAt P w K C F' x n m (mv h) := fun _ _ _ _ e ⟨x, h1, h2⟩ => ⟨x, h1, h2.mono e⟩
theorem ProgAt.mono {C : Addr} {v : V} {n m : Nat} {mv : Nat → List Mv} (e : Ex F F') (h : ProgAt P w K C F v n m mv) : ProgAt P w K C F' v n m mv := TupX.mono tabMono e h
theorem ProgAt.get {C : Addr} {v : V} {n m : Nat} {mv : Nat → List Mv} (h : ProgAt P w K C F v n m mv) : ∃ a us, v = .ref a ∧ F a = some (.tup us) ∧ us.length = n ∧ ∀ k < n, ∃ x, us[k]? = some (.ref x) ∧ TabAt P w K C F x n m (mv k) := by
  obtain ⟨a, us, h1, h2, h3⟩ := h
  refine ⟨a, us, h1, h2, by have := Paired.length h3; simpa using this, fun k hk => ?_⟩
  have hl : us.length = n := by have := Paired.length h3; simpa using this
  obtain ⟨y, hy, x, hx, tb⟩ := paired_get h3 (List.getElem?_eq_getElem (show k < us.length by omega))
  rw [List.getElem?_range hk] at hy
  cases hy
  exact ⟨x, by rw [List.getElem?_eq_getElem (show k < us.length by omega), hx], tb⟩
def spProg (P : Program) (w : World) (K : PySem.W.Frag) (C : Addr) : Sp := fun vs H Q _ => ∃ (n m : Nat) (Dp : Addr) (xs : List NEnt) (vw : ORow) (v : Int) (F : Hp), vs = [.int n, .int m, .ref Dp] ∧ (NMok n m ∧ VwIn n m vw v) ∧ Ex F H ∧ ND P w K F Dp xs ∧ NV K F xs [(dO vw, .int v)] ∧
  ∀ u F2 H2, Step none F H F2 H2 → ProgAt P w K C F2 u n m (mvsOf vw v) → Q u H2
theorem ok_prog {f fP : Addr} {fd fdP : FuncData} (Fn : Fun K "plan_program" "plan_program" s_plan_program f fd) (T : Tx mg)
    (F_plan_table : Fun K "_plan_table" "_plan_table" s_plan_table fP fdP) (b_plan_table : Binds K fdP ["houses", "values", "plan", "house"] []) (g_plan_table : mg "_plan_table" = some (.ref fP)) (G_plan_table : FnOk P w K mg base CX0 8 fP fdP ["houses", "values", "plan", "house"] (spPT P w K CT)) :
    FnOk P w K mg base CX0 9 f fd ["houses", "values", "plan"] (spProg P w K CT) := by
  refine Fn.ok sc_plan_program (fun vs H Q E ⟨_, _, _, _, _, _, _, h, _⟩ => by rw [h]; rfl) (fun cdv A outer s H vs Q E hr h => ?_)
  obtain ⟨n, m, Dp, xs, vw, v, F, rfl, ⟨nm, vi⟩, e, nd, nv, q⟩ := h
  refine ⟨_, (pss_one (ps_ret (pe_callTy (c_tup (K := K)) (by rfl) T.tuple (by decide +kernel) (pa_cons (pe_lc (own := [("house", 3)]) (g := gName 3) rfl sc_plan_program.nd (pi_range1 (by rfl) T.range (pa_cons (pv 0) pa_nil)) (blkOk_by (own := [("house", 3)]) (N := ["houses", "values", "plan", "house"]) (sc := (defScope s_plan_program)) (by decide +kernel)) (fun _ _ _ _ _ => pg_name (i := 3) sc_plan_program.nd rfl (by first | exact Or.inl rfl | exact Or.inr rfl)) (fun _ _ _ _ _ => pts_nil) (fun _ _ _ _ _ => (pe_call G_plan_table (hr.mono (by decide)) (by rfl) g_plan_table F_plan_table.kp b_plan_table .nil pass0 (pa_cons (pv 0) (pa_cons (pv 1) (pa_cons (pv 2) (pa_cons (pv 3) pa_nil))))))) pa_nil)))), ?_⟩
  have n5 := nm.n5
  refine t_retX (Step.refl e .nil) (x_tupX tabMono (x_lcX (K := K) natD (List.range n) (fun h u F => ∃ x, u = .ref x ∧ TabAt P w K CT F x n m (mvsOf vw v h)) tabMono (w_range (n := n) (g_var (v := .int n) rfl (.int _)) (by omega)) (by simp; omega) (fun _ => rfl) fun h hh F' e' y hy => ?_)) fun z F3 H3 pr s3 => q z F3 H3 s3 pr
  obtain rfl := rp_int hy
  exact fun H1 i1 g Q q => ⟨_, rfl, _, rfl, _, rfl, _, rfl, n, m, h, Dp, xs, vw, v, F', rfl, ⟨nm, vi, List.mem_range.mp hh⟩, i1, nd.mono e', nv.mono e', fun x F2 H2 s2 tb => q _ F2 H2 ⟨x, rfl, tb⟩ (s2.lift g)⟩
/-! check_program -/
/-- is_sequence of a tuple, whatever it holds -/
def spSeqX (K : PySem.W.Frag) : Sp := fun vs H Q _ => ∃ (a : Addr) (us : List V) (F : Hp), vs = [.ref a] ∧ Ex F H ∧ F a = some (.tup us) ∧ ∀ F2 H2, Step none F H F2 H2 → Q (.bl true) H2
theorem ok_seqX {f : Addr} {fd : FuncData} (Fn : Fun K "is_sequence" "is_sequence" s_is_sequence f fd) (T : Tx mg) : FnOk P w K mg base CX0 1 f fd ["thing"] (spSeqX K) := by
  refine Fn.ok sc_is_sequence (fun vs H Q E ⟨_, _, _, h, _⟩ => by rw [h]; rfl) (fun cdv A outer s H vs Q E hr h => ?_)
  obtain ⟨a, us, F, rfl, e, hl, q⟩ := h
  refine ⟨_, (pss_one (ps_ret (pe_callB (c_isiT (K := K)) (by rfl) T.isinstance (by decide +kernel) (pa_cons (pv 0) (pa_cons (pe_tup (pa_cons (pe_bltn (v := .ty "list") (by rfl) T.list (by decide +kernel) rfl) (pa_cons (pe_bltn (v := .ty "tuple") (by rfl) T.tuple (by decide +kernel) rfl) pa_nil))) pa_nil))))), ?_⟩
  refine ⟨_, rfl, sz_of (by show 2 ≤ 100000; decide), fun p hp => ?_⟩
  have s3 : Step none F H (upd F p (.tup [.ty "list", .ty "tuple"])) (upd H p (.tup [.ty "list", .ty "tuple"])) := .laid e .nil hp
  refine ⟨.ref a, p, _, .type "tuple", [.type "list", .type "tuple"], true, rfl, upd_same, .cons (.ty _) (.cons (.ty _) .nil), .base (.tup (s3.inn _ _ (s3.sub _ _ hl))), ?_, q _ _ s3⟩
  exact kitAny_cons (b := false) (kit_ty (by decide +kernel)) (fun _ => kitAny_cons (b := true) (kit_ty (by decide +kernel)) (fun hc => by cases hc) (fun _ => rfl)) (fun hb => by cases hb)
theorem et_seqX {E : XK} {i : Nat} {a : Addr} {us : List V} (h0 : σ[i]? = some (some (.ref a))) (hl : F a = some (.tup us)) : EtG none (tB (tCall (spSeqX K) [] E (tCons (tVar i) tNil))) σ F (· = true) := et_B (K := K) fun H1 e g Q q =>
  ⟨_, h0, a, us, F, rfl, e, hl, fun F2 H2 s => q (.bool true) _ F2 H2 rfl s (.bl true)⟩
theorem et_isiX {i : Nat} {C x dx : Addr} {fs : List (Str × V)} (TT : TabT K C) (h0 : σ[i]? = some (some (.ref x))) (hx : F x = some (.ins C dx fs)) : EtG pt (tB (tCB (rIsi K) (tCons (tVar i) (tCons (tC (.ref C)) tNil)))) σ F (· = true) := et_B (K := K) fun H1 e g Q q =>
  ⟨_, h0, .ref x, .ref C, .ref C, .ref C, true, rfl, .own C, .base (TT.ty H1 x dx fs (e _ _ hx)), TT.kit, q (.bool true) _ F H1 rfl (.refl e g) (.bl true)⟩
def spCP (P : Program) (w : World) (K : PySem.W.Frag) (C : Addr) : Sp := fun vs H Q _ => ∃ (n m : Nat) (mv : Nat → List Mv) (F : Hp) (v : V), vs = [v] ∧ NMok n m ∧ Ex F H ∧ ProgAt P w K C F v n m mv ∧ ∀ F2 H2, Step none F H F2 H2 → Q v H2
theorem ok_cp {f fS : Addr} {fd fdS : FuncData} (Fn : Fun K "check_program" "check_program" s_check_program f fd) (T : Tx mg) (TC : TabC K CT) (TT : TabT K CT) (g_HouseTable : mg "HouseTable" = some (.ref CT)) {tH : Tok} (c_MOST_HOUSES : mg "MOST_HOUSES" = some (.int 5 tH))
    (F_is_sequence : Fun K "is_sequence" "is_sequence" s_is_sequence fS fdS) (b_is_sequence : Binds K fdS ["thing"] []) (g_is_sequence : mg "is_sequence" = some (.ref fS)) : FnOk P w K mg base CX0 2 f fd ["program"] (spCP P w K CT) := by
  have G_is_sequence : FnOk P w K mg base CX0 1 fS fdS ["thing"] (spSeqX K) := ok_seqX F_is_sequence T
  refine Fn.ok sc_check_program (fun vs H Q E ⟨_, _, _, _, _, h, _⟩ => by rw [h]; rfl) (fun cdv A outer s H vs Q E hr h => ?_)
  obtain ⟨n, m, mv, F, v, rfl, nm, e, pr, q⟩ := h
  obtain ⟨a, us, rfl, hl, hn, tabs⟩ := pr.get
  have n2 := nm.n2
  have n5 := nm.n5
  refine ⟨_, (pss_cons (ps_if (PW.pt (pw_or (pt_not (pt_val (pe_call G_is_sequence (hr.mono (by decide)) (by rfl) g_is_sequence F_is_sequence.kp b_is_sequence .nil pass0 (pa_cons (pv 0) pa_nil)))) (pw_or1 (pt_not (pt_chain op_le op_le pe_int (pe_callB (c_len (K := K)) (by rfl) T.len (by decide +kernel) (pa_cons (pv 0) pa_nil)) (pe_glob (v := .int 5) (by rfl) c_MOST_HOUSES ⟨_, rfl⟩)))))) (pss_one ps_never) pss_nil)
    (pss_cons (ps_for PassesOwn.never rfl (pi_range1 (by rfl) T.range (pa_cons (pe_callB (c_len (K := K)) (by rfl) T.len (by decide +kernel) (pa_cons (pv 0) pa_nil)) pa_nil)) (pg_name (i := 1) sc_check_program.nd rfl (by first | exact Or.inl rfl | exact Or.inr rfl)) (pss_cons (ps_set (i := 2) sc_check_program.nd rfl (by first | exact Or.inl rfl | exact Or.inr rfl) (pe_ix (o_ixT (K := K)) (pv 0) (pv 1) (fun _ _ => rfl)))
    (pss_cons (ps_if (pt_not (pt_val (pe_callB (c_isi (K := K)) (by rfl) T.isinstance (by decide +kernel) (pa_cons (pv 2) (pa_cons (pe_glob (v := .ref CT) (by rfl) g_HouseTable rfl) pa_nil))))) (pss_one ps_never) pss_nil)
    (pss_cons (ps_if (pt_cmpR op_ne (e_fld (K := K) (pv 2) rfl) (pe_callB (c_len (K := K)) (by rfl) T.len (by decide +kernel) (pa_cons (pv 0) pa_nil)) (nomark _)) (pss_one ps_never) pss_nil)
    (pss_one (ps_if (pt_cmpR op_ne (e_fld (K := K) (pv 2) rfl) (e_fld (K := K) (pe_ix (o_ixT (K := K)) (pv 0) pe_int (fun _ _ => rfl)) rfl) (nomark _)) (pss_one ps_never) pss_nil))))))
    (pss_one (ps_ret (pe_callTy (c_tup (K := K)) (by rfl) T.tuple (by decide +kernel) (pa_cons (pv 0) pa_nil)))))), ?_⟩
  have gl : ∀ {σ' : L2.St} {F' : Hp}, Ex F F' → σ'[0]? = some (some (.ref a)) → EvG K none (tCB (Fv.rLen K) (tCons (tVar 0) tNil)) σ' F' (Is (.int (n : Int))) := fun ee h => (g_lenX h (ee _ _ hl)).is (by rw [hn])
  have gx : ∀ {σ' : L2.St} {F' : Hp} {k : Nat} {x : Addr} {ti : TE}, Ex F F' → σ'[0]? = some (some (.ref a)) → us[k]? = some (.ref x) → EvG K none ti σ' F' (Is (.int (k : Int))) → EvX none (tOp (rIxT K) (tVar 0) ti) σ' F' (fun v _ => v = .ref x) := fun ee h hk ht => x_ixT h (ee _ _ hl) hk ht
  have gfld : ∀ {σ' : L2.St} {F' : Hp} {te : TE} {x : Addr} {k : Nat}, Ex F F' → TabAt P w K CT F x n m (mv k) → EvX none te σ' F' (fun v _ => v = .ref x) → EvG K none (tFld K te "m") σ' F' (Is (.int (m : Int))) := fun {σ' F' te x k} ee tb h => by
    obtain ⟨dx, sv, mvv, Dd, xs, h1, h2, h3, h4, h5⟩ := tb.ex
    exact g_fldX h TC.cl TC.nM fun v F2 e2 ev => ⟨x, dx, _, .int m, ev, e2 _ _ (ee _ _ h1), rfl, .int _⟩
  refine t_skip (Step.refl e .nil) (et_or (a := false) (b := false) (et_not (b := true) (et_seqX rfl hl)) fun _ => et_not (b := true) (et_of (K := K) (g_chain (b := true) g_int (gl (Ex.refl F) rfl) g_int (rv_imp (rv_bl (g := fun i j => decide (i ≤ j))) fun z hz => by rw [hz]; simp; omega) (fun _ => rv_imp (rv_bl (g := fun i j => decide (i ≤ j))) fun z hz => by rw [hz]; simp; omega) fun hb => by cases hb))) fun F2 H2 s2 e2 => ?_
  refine t_for (K := K) (ds := rng 0 n) s2 (w_rng1I (n := (n : Int)) (gs_one (gl e2 rfl)) (by omega) (by omega)) (fun i σ' F' => ∃ y z, σ' = [some (.ref a), y, z]) (fun F2 e2 => ⟨_, _, rfl⟩) (fun i d hd σ' F4 H4 u hI s4 e4 hu N hN => ?_) (fun σ' F4 H4 hI s4 e4 => ?_)
  · obtain ⟨y, z, rfl⟩ := hI
    rw [rng_nat] at hd
    have hi : i < n := by have := (List.getElem?_eq_some_iff.mp hd).1; simpa using this
    have ed : d = natD i := by
      rw [List.getElem?_map, List.getElem?_range hi] at hd
      exact (Option.some.inj hd).symm
    subst ed
    have e24 := e2.trans e4
    obtain ⟨x, hx, tb⟩ := tabs i hi
    obtain ⟨x0, hx0, tb0⟩ := tabs 0 (by omega)
    obtain ⟨dx, sv, mvv, Dd, xs, h1, h2, h3, h4, h5⟩ := id tb.ex
    refine t_asgX s4 (gx (k := i) e24 rfl hx (g_var (i := 1) rfl hu)) fun v F5 H5 hv5 s5 e5 => ?_
    subst hv5
    have e25 := e24.trans e5
    refine t_skip s5 (et_not (b := true) (et_isiX (C := CT) TT rfl (e25 _ _ h1))) fun F6 H6 s6 e6 => ?_
    have e26 := e25.trans e6
    refine t_skip s6 ((et_of (K := K) (g_opI (g_fld (i := 2) rfl (e26 _ _ h1) TC.cl TC.nN rfl (.int (n : Int))) (gl e26 rfl) rv_neI)).is (by simp)) fun F7 H7 s7 e7 => ?_
    have e27 := e26.trans e7
    refine t_if1 (b := false) s7 ((et_of (K := K) (g_opI (g_fld (i := 2) rfl (e27 _ _ h1) TC.cl TC.nM rfl (.int (m : Int))) (gfld (k := 0) e27 tb0 (gx (k := 0) e27 rfl hx0 g_int)) rv_neI)).is (by simp)) (fun z => by cases z) fun _ F8 H8 s8 e8 => hN _ F8 H8 ⟨_, _, rfl⟩ s8 (((e5.trans e6).trans e7).trans e8)
  · obtain ⟨y, z, rfl⟩ := hI
    refine t_retX s4 (x_tupSame (K := K) (i := 0) rfl ((e2.trans e4) _ _ hl)) fun z F3 H3 ez s3 => ?_
    rw [ez]
    exact q F3 H3 s3
end
end KC

namespace KC
open PySem PySem.Spec PyProof.Rows L2 L2H Fv Evl StX
abbrev s_first_standing : Stmt := topS 45
theorem sc_first_standing : FnScope ["program", "entry", "tables", "checked", "house"] ["program", "entry"] (defScope s_first_standing) := ⟨rfl, rfl, rfl, by decide +kernel, rfl, by decide +kernel, by decide +kernel⟩
abbrev s_cells_beside : Stmt := topS 49
theorem sc_cells_beside : FnScope ["standing", "house", "other"] ["standing", "house"] (defScope s_cells_beside) := ⟨rfl, rfl, rfl, by decide +kernel, rfl, by decide +kernel, by decide +kernel⟩
abbrev s_behind_step : Stmt := topS 46
theorem sc_behind_step : FnScope ["tables", "standing", "house", "step", "held", "cell", "seat", "move"] ["tables", "standing", "house"] (defScope s_behind_step) := ⟨rfl, rfl, rfl, by decide +kernel, rfl, by decide +kernel, by decide +kernel⟩
abbrev s_checked_step : Stmt := topS 47
theorem sc_checked_step : FnScope ["tables", "standing", "house"] ["tables", "standing", "house"] (defScope s_checked_step) := ⟨rfl, rfl, rfl, by decide +kernel, rfl, by decide +kernel, by decide +kernel⟩
abbrev s_last_standing : Stmt := topS 48
theorem sc_last_standing : FnScope ["program", "standing", "run", "tables", "last", "house"] ["program", "standing", "run"] (defScope s_last_standing) := ⟨rfl, rfl, rfl, by decide +kernel, rfl, by decide +kernel, by decide +kernel⟩
/-- where a house stands: the word, what it holds, its cell -/
abbrev Seat := Str × Int × Option Int
abbrev seat0 : Seat := ("", 0, none)
def seatD (x : Seat) : PyData := .tuple [.str x.1, .int x.2.1, optD x.2.2]
def standD (l : List Seat) : PyData := .tuple (l.map seatD)
def beside (l : List Seat) (h : Nat) : ORow := ((List.range l.length).filter fun k => !decide (k = h)).map fun k => (l.getD k seat0).2.2
def nextV (mvs : List Mv) (s : Int) (os : ORow) : Option Int := (mvs.find? fun x => decide (x.1 = s ∧ x.2.1 = os)).map (·.2.2)
theorem next_of {mvs : List Mv} {s v : Int} {os : ORow} (h : nextV mvs s os = some v) : nextD mvs s os = mvT v := by
  unfold nextV at h
  unfold nextD
  cases e : mvs.find? fun x => decide (x.1 = s ∧ x.2.1 = os) with
  | none => rw [e] at h; cases h
  | some x =>
    rw [e] at h
    have : x.2.2 = v := by simpa using h
    simp only [this]
def seatOf (mv : Nat → List Mv) (l : List Seat) (h : Nat) : Seat := if (l.getD h seat0).1 = "write" then ("scan", (l.getD h seat0).2.1, some (l.getD h seat0).2.1) else ("done", (nextV (mv h) (l.getD h seat0).2.1 (beside l h)).getD 0, (l.getD h seat0).2.2)
def stepS (mv : Nat → List Mv) (l : List Seat) (h : Nat) : List Seat := l.set h (seatOf mv l h)
def StepOk (mv : Nat → List Mv) (l : List Seat) (h : Nat) : Prop := h < l.length ∧ ((l.getD h seat0).1 = "write" ∨ ((l.getD h seat0).1 = "scan" ∧ (nextV (mv h) (l.getD h seat0).2.1 (beside l h)).isSome = true))
def runS (mv : Nat → List Mv) (l : List Seat) (run : List Nat) : List Seat := run.foldl (stepS mv) l
def RunOk (mv : Nat → List Mv) : List Seat → List Nat → Prop
  | _, [] => True
  | l, h :: r => StepOk mv l h ∧ RunOk mv (stepS mv l h) r
theorem step_len (mv : Nat → List Mv) (l : List Seat) (h : Nat) : (stepS mv l h).length = l.length := by simp [stepS]
theorem set_take {α : Type} {l : List α} {h : Nat} {x : α} (hl : h < l.length) : l.set h x = l.take h ++ [x] ++ l.drop (h + 1) := by
  rw [List.set_eq_take_append_cons_drop, if_pos hl]; simp
theorem run_at {mv : Nat → List Mv} : ∀ (run : List Nat) (l : List Seat), RunOk mv l run → ∀ i h, run[i]? = some h → StepOk mv (runS mv l (run.take i)) h
  | [], _, _, i, h, e => by simp at e
  | a :: r, l, ok, 0, h, e => by
    have : a = h := by simpa using e
    rw [← this]; exact ok.1
  | a :: r, l, ok, i + 1, h, e => run_at r (stepS mv l a) ok.2 i h (by simpa using e)
theorem run_len (mv : Nat → List Mv) : ∀ (run : List Nat) (l : List Seat), (runS mv l run).length = l.length
  | [], _ => rfl
  | a :: r, l => (run_len mv r (stepS mv l a)).trans (step_len mv l a)
section
variable {P : Program} {w : World} {K : PySem.W.Frag} {mg : Str → Option Value} {base : Heap} {CB CO CT fE CF C fI : Addr} {mc : Value}
variable {pt : Option Pt} {σ : L2.St} {F F' F0 H0 H F2 H2 : Hp} {te ta tb ty td : TE} {ts tr : TA} {t : TT} {D : Ends} {tz tu tw : TS} {l a x dx : Addr} {xs : List NEnt} {fs : List (Str × V)} {f : Str} {i : Nat}
theorem rv_seat {ls : List Seat} {k : Nat} (h : k < ls.length) : RvG K (rIxT K) (standD ls) (.int (k : Int)) (Is (seatD (ls.getD k seat0))) := rv_ixT (atI_nat (by rw [List.getElem?_map, List.getElem?_eq_getElem h, List.getD_eq_getElem?_getD, List.getElem?_eq_getElem h]; rfl))
/-! the first standing -/
def firstS (r : List Int) : List Seat := r.map fun k => ("write", k, none)
def spFirst (P : Program) (w : World) (K : PySem.W.Frag) (C : Addr) : Sp := fun vs H Q _ => ∃ (n m : Nat) (mv : Nat → List Mv) (r : List Int) (F : Hp) (v u : V), vs = [v, u] ∧ (NMok n m ∧ r.length = n ∧ ∀ k ∈ r, 0 ≤ k ∧ k < (m : Int)) ∧ Ex F H ∧ ProgAt P w K C F v n m mv ∧ Rp K F u (dT r) ∧
  ∀ z F2 H2, Step none F H F2 H2 → Rp K F2 z (standD (firstS r)) → Q z H2
theorem ok_first {f fP fE : Addr} {fd fdP fdE : FuncData} (Fn : Fun K "first_standing" "first_standing" s_first_standing f fd) (T : Tx mg) (TC : TabC K CT)
    (F_check_program : Fun K "check_program" "check_program" s_check_program fP fdP) (b_check_program : Binds K fdP ["program"] []) (g_check_program : mg "check_program" = some (.ref fP)) (G_check_program : FnOk P w K mg base CX0 2 fP fdP ["program"] (spCP P w K CT))
    (F_check_entry : Fun K "check_entry" "check_entry" s_check_entry fE fdE) (b_check_entry : Binds K fdE ["houses", "values", "entry"] []) (g_check_entry : mg "check_entry" = some (.ref fE)) (G_check_entry : FnOk P w K mg base CX0 2 fE fdE ["houses", "values", "entry"] (spEnt K)) :
    FnOk P w K mg base CX0 3 f fd ["program", "entry"] (spFirst P w K CT) := by
  refine Fn.ok sc_first_standing (fun vs H Q E ⟨_, _, _, _, _, _, _, h, _⟩ => by rw [h]; rfl) (fun cdv A outer s H vs Q E hr h => ?_)
  obtain ⟨n, m, mv, r, F, v, u, rfl, ⟨nm, hr1, hr2⟩, e, pr, hu, q⟩ := h
  have n2 := nm.n2
  have n5 := nm.n5
  have m4 := nm.m4
  refine ⟨_, (pss_cons (ps_set (i := 2) sc_first_standing.nd rfl (by first | exact Or.inl rfl | exact Or.inr rfl) (pe_call G_check_program (hr.mono (by decide)) (by rfl) g_check_program F_check_program.kp b_check_program .nil pass0 (pa_cons (pv 0) pa_nil)))
    (pss_cons (ps_set (i := 3) sc_first_standing.nd rfl (by first | exact Or.inl rfl | exact Or.inr rfl) (pe_call G_check_entry (hr.mono (by decide)) (by rfl) g_check_entry F_check_entry.kp b_check_entry .nil pass0 (pa_cons (pe_callB (c_len (K := K)) (by rfl) T.len (by decide +kernel) (pa_cons (pv 2) pa_nil)) (pa_cons (e_fld (K := K) (pe_ix (o_ixT (K := K)) (pv 2) pe_int (fun _ _ => rfl)) rfl) (pa_cons (pv 1) pa_nil)))))
    (pss_one (ps_ret (pe_callTy (c_tup (K := K)) (by rfl) T.tuple (by decide +kernel) (pa_cons (pe_lc (own := [("house", 4)]) (g := gName 4) rfl sc_first_standing.nd (pi_range1 (by rfl) T.range (pa_cons (pe_callB (c_len (K := K)) (by rfl) T.len (by decide +kernel) (pa_cons (pv 2) pa_nil)) pa_nil)) (blkOk_by (own := [("house", 4)]) (N := ["program", "entry", "tables", "checked", "house"]) (sc := (defScope s_first_standing)) (by decide +kernel)) (fun _ _ _ _ _ => pg_name (i := 4) sc_first_standing.nd rfl (by first | exact Or.inl rfl | exact Or.inr rfl)) (fun _ _ _ _ _ => pts_nil) (fun _ _ _ _ _ => (pe_tup (pa_cons pe_str (pa_cons (pe_ix (o_ixT (K := K)) (e_fld (K := K) (pe_ix (o_ixT (K := K)) (pv 2) (pv 4) (fun _ _ => rfl)) rfl) (pe_ix (o_ixT (K := K)) (pv 3) (pv 4) (fun _ _ => rfl)) (fun _ _ => rfl)) (pa_cons pe_non pa_nil)))))) pa_nil)))))), ?_⟩
  refine ⟨_, rfl, n, m, mv, F, v, rfl, nm, e, pr, fun F1 H1 s1 => ?_⟩
  dsimp only
  obtain ⟨a, us, rfl, hl, hn, tabs⟩ := pr.get
  have e1 := s1.sub
  have gl : ∀ {σ' : L2.St} {F' : Hp}, Ex F F' → σ'[2]? = some (some (.ref a)) → EvG K none (tCB (Fv.rLen K) (tCons (tVar 2) tNil)) σ' F' (Is (.int (n : Int))) := fun ee h => (g_lenX h (ee _ _ hl)).is (by rw [hn])
  have gx : ∀ {σ' : L2.St} {F' : Hp} {k : Nat} {x : Addr} {ti : TE}, Ex F F' → σ'[2]? = some (some (.ref a)) → us[k]? = some (.ref x) → EvG K none ti σ' F' (Is (.int (k : Int))) → EvX none (tOp (rIxT K) (tVar 2) ti) σ' F' (fun v _ => v = .ref x) := fun ee h hk ht => x_ixT h (ee _ _ hl) hk ht
  obtain ⟨x0, hx0, tb0⟩ := tabs 0 (by omega)
  have gm : EvG K none (tFld K (tOp (rIxT K) (tVar 2) (tC (.int 0))) "m") [some (.ref a), some u, some (.ref a), none, none] F1 (Is (.int (m : Int))) := by
    obtain ⟨dx, sv, mvv, Dd, xs, h1, h2, h3, h4, h5⟩ := tb0.ex
    exact g_fldX (gx (k := 0) e1 rfl hx0 g_int) TC.cl TC.nM fun v F2 e2 ev => ⟨x0, dx, _, .int m, ev, e2 _ _ (e1 _ _ h1), rfl, .int _⟩
  refine t_asgI (K := K) (d := dT r) s1 (g_call (n, m, r) (gs_three (gl e1 rfl) gm (g_var rfl (Rp.mono e1 _ _ hu))) rfl ⟨n5, by show m ≤ 5; omega, hr1, hr2⟩) fun c F2 H2 s2 e2 hc => ?_
  have e12 := e1.trans e2
  refine t_retI (K := K) s2 ((g_cbI (gs_one (g_lcEM natD (List.range n) (fun k => seatD ("write", r.getD k 0, none)) (w_range (gl e12 rfl) (by omega)) (by simp; omega) (fun _ => rfl) fun k hk F' e' y hy => ?_)) rc_tupL).is ?_) q
  · have hk' : k < n := List.mem_range.mp hk
    have hkr : k < r.length := by omega
    obtain ⟨x, hx, tb⟩ := tabs k hk'
    obtain ⟨dx, sv, mvv, Dd, xs, h1, h2, h3, h4, h5⟩ := tb.ex
    have e13 := e12.trans e'
    have hb := hr2 r[k] (List.getElem_mem hkr)
    obtain ⟨j, hj⟩ : ∃ j : Nat, r[k] = (j : Int) := ⟨r[k].toNat, by omega⟩
    have hjm : j < m := by omega
    refine g_tupI (gs_three g_str (g_opI (g_fldX (gx (k := k) e13 rfl hx (g_var rfl hy)) TC.cl TC.nT fun v F2 e2 ev => ⟨x, dx, _, sv, ev, e2 _ _ (e13 _ _ h1), rfl, Rp.mono (e13.trans e2) _ _ h3⟩) (g_opI (g_var rfl (Rp.mono e' _ _ hc)) (g_var rfl hy) (rv_ixT (d := .int (j : Int)) (atI_nat ?_))) (rv_ixT (d := .int (r.getD k 0)) (atI_nat ?_))) g_non) (by simp)
    · rw [List.getElem?_map, List.getElem?_eq_getElem hkr, hj]; rfl
    · unfold hs
      rw [List.map_map, List.getElem?_map, List.getElem?_range hjm, List.getD_eq_getElem?_getD, List.getElem?_eq_getElem hkr]
      simp [hj]
  · show PyData.tuple _ = PyData.tuple _
    rw [show firstS r = (List.range n).map (fun k => (("write", r.getD k 0, none) : Seat)) by
      unfold firstS
      refine List.ext_getElem (by simp [hr1]) fun i h1 h2 => ?_
      simp only [List.getElem_map, List.getElem_range]
      have : i < r.length := by simpa using h1
      rw [List.getD_eq_getElem?_getD, List.getElem?_eq_getElem this]; rfl]
    rw [List.map_map]; rfl
/-! what stands beside a house -/
abbrev spBeside (K : PySem.W.Frag) : Sp := PSp K (fun i : List Seat × Nat => [standD i.1, .int i.2]) (fun i => i.1.length ≤ 60) (fun i => dO (beside i.1 i.2))
theorem ok_beside {f : Addr} {fd : FuncData} (Fn : Fun K "cells_beside" "cells_beside" s_cells_beside f fd) (T : Tx mg) : FnOk P w K mg base CX0 1 f fd ["standing", "house"] (spBeside K) := by
  refine Fn.ok sc_cells_beside (PSp.len (fun _ => rfl)) (fun cdv A outer s H vs Q E hr h => ?_)
  obtain ⟨⟨ls, h⟩, F, hz, e, ha, q⟩ := h
  replace hz : ls.length ≤ 60 := hz
  obtain ⟨v1, v2, rfl, hv1, hv2⟩ := rpAll2 ha
  refine ⟨_, (pss_one (ps_ret (pe_callTy (c_tup (K := K)) (by rfl) T.tuple (by decide +kernel) (pa_cons (pe_lc (own := [("other", 2)]) (g := gName 2) rfl sc_cells_beside.nd (pi_range1 (by rfl) T.range (pa_cons (pe_callB (c_len (K := K)) (by rfl) T.len (by decide +kernel) (pa_cons (pv 0) pa_nil)) pa_nil)) (blkOk_by (own := [("other", 2)]) (N := ["standing", "house", "other"]) (sc := (defScope s_cells_beside)) (by decide +kernel)) (fun _ _ _ _ _ => pg_name (i := 2) sc_cells_beside.nd rfl (by first | exact Or.inl rfl | exact Or.inr rfl)) (fun _ _ _ _ _ => (pts_one (pt_cmpR op_ne (pv 2) (pv 1) (nomark _)))) (fun _ _ _ _ _ => (pe_ix (o_ixT (K := K)) (pe_ix (o_ixT (K := K)) (pv 0) (pv 2) (fun _ _ => rfl)) pe_int (fun _ _ => rfl)))) pa_nil)))), ?_⟩
  refine t_retI (K := K) (Step.refl e .nil) ((g_cbI (gs_one (g_lcE natD (List.range ls.length) (fun k => !decide (k = h)) (fun k => optD (ls.getD k seat0).2.2) (w_len (g_var rfl hv1) (by simp) (by omega)) (by simp; omega) (fun _ => rfl) (fun k hk F' e' y hy => ?_) (fun k hk _ F' e' y hy => ?_))) rc_tupL).is ?_) q
  · exact (et_of (K := K) (g_opI (g_var rfl hy) (g_var rfl (Rp.mono e' _ _ hv2)) rv_neI)).is (by
      by_cases z : k = h
      · rw [z]; simp
      · have : (k : Int) ≠ (h : Int) := fun y => z (by omega)
        simp [z, this])
  · exact g_opI (g_opI (g_var rfl (Rp.mono e' _ _ hv1)) (g_var rfl hy) (rv_seat (List.mem_range.mp hk))) g_int (rv_ixT (d := optD (ls.getD k seat0).2.2) (atI_nat (j := 2) rfl))
  · show PyData.tuple _ = PyData.tuple _
    unfold beside
    rw [List.map_map]; rfl
/-! a step -/
def spBS (P : Program) (w : World) (K : PySem.W.Frag) (C : Addr) : Sp := fun vs H Q _ => ∃ (n m h : Nat) (mv : Nat → List Mv) (ls : List Seat) (F : Hp) (v u : V), vs = [v, u, .int h] ∧ (NMok n m ∧ ls.length = n ∧ StepOk mv ls h ∧ ∀ k, (mv k).length ≤ 1) ∧ Ex F H ∧ ProgAt P w K C F v n m mv ∧ Rp K F u (standD ls) ∧
  ∀ z F2 H2, Step none F H F2 H2 → Rp K F2 z (standD (stepS mv ls h)) → Q z H2
theorem ok_bs {f fN fB fS : Addr} {fd fdN fdB fdS : FuncData} (Fn : Fun K "behind_step" "behind_step" s_behind_step f fd) (T : Tx mg) (TC : TabC K CT)
    (m_next_move : Meth K CT "next_move" fN) (G_next_move : FnOk P w K mg base CX0 1 fN fdN ["self", "state", "others"] (spNext P w K CT)) (b_next_move : Binds K fdN ["self", "state", "others"] [])
    (F_cells_beside : Fun K "cells_beside" "cells_beside" s_cells_beside fB fdB) (b_cells_beside : Binds K fdB ["standing", "house"] []) (g_cells_beside : mg "cells_beside" = some (.ref fB))
    (F_is_sequence : Fun K "is_sequence" "is_sequence" s_is_sequence fS fdS) (b_is_sequence : Binds K fdS ["thing"] []) (g_is_sequence : mg "is_sequence" = some (.ref fS)) :
    FnOk P w K mg base CX0 2 f fd ["tables", "standing", "house"] (spBS P w K CT) := by
  have G_cells_beside : FnOk P w K mg base CX0 1 fB fdB ["standing", "house"] (spBeside K) := ok_beside F_cells_beside T
  have G_is_sequence : FnOk P w K mg base CX0 1 fS fdS ["thing"] (spSeq K) := ok_seq F_is_sequence T
  refine Fn.ok sc_behind_step (fun vs H Q E ⟨_, _, _, _, _, _, _, _, h, _⟩ => by rw [h]; rfl) (fun cdv A outer s H vs Q E hr h => ?_)
  obtain ⟨n, m, h, mv, ls, F, v, u, rfl, ⟨nm, hln, ⟨hlt, hok⟩, few⟩, e, pr, hu, q⟩ := h
  have n5 := nm.n5
  obtain ⟨a, us, rfl, hl, hn, tabs⟩ := pr.get
  obtain ⟨x, hx, tb⟩ := tabs h (by omega)
  refine ⟨_, (pss_cons (ps_asg (pe_ix (o_ixT (K := K)) (pv 1) (pv 2) (fun _ _ => rfl)) (pg_tup rfl (pgs_cons (pg_name (i := 3) sc_behind_step.nd rfl (by first | exact Or.inl rfl | exact Or.inr rfl)) (pgs_cons (pg_name (i := 4) sc_behind_step.nd rfl (by first | exact Or.inl rfl | exact Or.inr rfl)) (pgs_cons (pg_name (i := 5) sc_behind_step.nd rfl (by first | exact Or.inl rfl | exact Or.inr rfl)) pgs_nil)))))
    (pss_cons (ps_if (pt_cmpR op_eq (pv 3) pe_str (nomark _)) (pss_one (ps_set (i := 6) sc_behind_step.nd rfl (by first | exact Or.inl rfl | exact Or.inr rfl) (pe_tup (pa_cons pe_str (pa_cons (pv 4) (pa_cons (pv 4) pa_nil)))))) (pss_cons (ps_set (i := 7) sc_behind_step.nd rfl (by first | exact Or.inl rfl | exact Or.inr rfl) (pe_meth (pe_ix (o_ixT (K := K)) (pv 0) (pv 2) (fun _ _ => rfl)) TC.cl m_next_move G_next_move (hr.mono (by decide)) b_next_move .nil pass0 (pa_cons (pv 4) (pa_cons (pe_call G_cells_beside (hr.mono (by decide)) (by rfl) g_cells_beside F_cells_beside.kp b_cells_beside .nil pass0 (pa_cons (pv 1) (pa_cons (pv 2) pa_nil))) pa_nil))))
    (pss_one (ps_set (i := 6) sc_behind_step.nd rfl (by first | exact Or.inl rfl | exact Or.inr rfl) (pe_ifExp (pt_val (pe_call G_is_sequence (hr.mono (by decide)) (by rfl) g_is_sequence F_is_sequence.kp b_is_sequence .nil pass0 (pa_cons (pv 7) pa_nil))) (pe_tup (pa_cons pe_str (pa_cons (pe_ix (o_ixT (K := K)) (pv 7) pe_int (fun _ _ => rfl)) (pa_cons (pv 5) pa_nil)))) (pe_tup (pa_cons pe_str (pa_cons (pv 7) (pa_cons (pv 5) pa_nil)))))))))
    (pss_one (ps_ret (pe_op (o_catA (K := K)) (pe_op (o_catA (K := K)) (pe_slice (s_any (K := K)) (pv 1) po_none (po_some (pv 2))) (pe_tup (pa_cons (pv 6) pa_nil))) (pe_slice (s_tup (K := K)) (pv 1) (po_some (pe_op op_add (pv 2) pe_int)) po_none)))))), ?_⟩
  have gh : ∀ {σ' : L2.St} {F' : Hp}, σ'[2]? = some (some (.int (h : Int))) → EvG K none (tVar 2) σ' F' (Is (.int (h : Int))) := fun h' => g_var (v := .int h) h' (.int _)
  refine t_three (Step.refl e .nil) (g_opI (g_var rfl hu) (gh rfl) (rv_seat hlt)) rfl fun v3 v4 v5 F1 H1 s1 e1 h3 h4 h5 => ?_
  obtain rfl := rp_str h3
  obtain rfl := rp_int h4
  have hu1 := Rp.mono e1 _ _ hu
  unfold stepS at q
  rw [set_take hlt] at q
  have tail : ∀ (F3 : Hp), Ex F1 F3 → ∀ (σ' : L2.St) (z : V) (sx : Seat), σ'[1]? = some (some u) → σ'[2]? = some (some (.int (h : Int))) → σ'[6]? = some (some z) → Rp K F3 z (seatD sx) → EvG K none (tOp (rCatA K) (tOp (rCatA K) (tSl (rSlU K) (tVar 1) tNoPart (tPart (tVar 2))) (tTup (tCons (tVar 6) tNil))) (tSl (rSlA K) (tVar 1) (tPart (tOp (rI0 fun i j => .int (i + j)) (tVar 2) (tC (.int 1)))) tNoPart)) σ' F3 (Is (standD (ls.take h ++ [sx] ++ ls.drop (h + 1)))) := fun F3 e3 σ' z sx h1 h2 h6 hz => by
    have hu3 := Rp.mono e3 _ _ hu1
    refine (g_opI (g_opI (g_slU (i := h) (ds := ls.map seatD) (.inr rfl) (g_var h1 hu3) (gh h2)) (g_tupI (gs_one (g_var h6 hz)) (by simp)) (rv_catA (by simp; omega))) (g_slA (i := h + 1) (g_var h1 hu3) ((g_opI (gh h2) g_int rv_add).is (by simp))) (rv_catA (by simp; omega))).is ?_
    show PyData.tuple _ = PyData.tuple _
    simp only [List.map_append, List.map_take, List.map_drop, List.map_cons, List.map_nil]
  refine t_if (b := decide ((ls.getD h seat0).1 = ("write" : Str))) s1 (et_of (K := K) (g_opI (g_var (v := .str (ls.getD h seat0).1) rfl (.str _)) g_str rv_eqS)) (fun hb F2 H2 s2 e2 => ?_) (fun hb F2 H2 s2 e2 => ?_)
  · have hw : (ls.getD h seat0).1 = "write" := of_decide_eq_true hb
    refine t_asg1 (K := K) s2 (g_tupI (gs_three g_str (g_var (v := .int (ls.getD h seat0).2.1) rfl (.int _)) (g_var (v := .int (ls.getD h seat0).2.1) rfl (.int _))) (by simp)) fun d z F3 H3 hd s3 e3 hz => ?_
    dsimp only
    refine t_retI (K := K) s3 (tail F3 (e2.trans e3) _ z (seatOf mv ls h) rfl rfl rfl ?_) q
    rw [show d = _ from hd] at hz
    unfold seatOf
    rw [if_pos hw]; exact hz
  · have hw : ¬ (ls.getD h seat0).1 = "write" := of_decide_eq_false hb
    obtain ⟨hsc, hns⟩ := hok.resolve_left hw
    obtain ⟨vv, hvv⟩ := Option.isSome_iff_exists.mp hns
    have e12 := e1.trans e2
    obtain ⟨dx, sv, mvv, Dd, xs, h1', h2', h3', h4', h5'⟩ := id tb.ex
    refine t_asgI (K := K) (d := mvT vv) s2 ((g_methX (z := nextD (mv h) (ls.getD h seat0).2.1 (beside ls h)) (ds := [.int (ls.getD h seat0).2.1, dO (beside ls h)]) (x_ixT (k := h) rfl (e12 _ _ hl) hx (gh rfl)) (e12 _ _ h1') rfl (fun F' e' => gs_two (g_var (v := .int (ls.getD h seat0).2.1) rfl (.int _)) (g_call (ls, h) (gs_two (g_var rfl (Rp.mono (e2.trans e') _ _ hu1)) (gh rfl)) rfl (by show ls.length ≤ 60; omega))) fun F3 H3 vs e3 i3 hvs Q' q' => ?_).is (next_of hvv)) fun z F3 H3 s3 e3 hz => ?_
    · obtain ⟨w1, w2, rfl, hw1, hw2⟩ := rpAll2 hvs
      obtain rfl := rp_int hw1
      exact ⟨x, n, m, mv h, (ls.getD h seat0).2.1, beside ls h, F3, w2, rfl, few h, i3, tb.mono (e12.trans e3), hw2, fun u F4 H4 s4 hu4 => q' u F4 H4 s4 hu4⟩
    · have h53 := Rp.mono (e2.trans e3) _ _ h5
      refine t_asg1 (K := K) s3 (g_ifX (b := true) (et_B (g_call (mvT vv) (gs_one (g_var rfl hz)) rfl trivial)) (fun _ => g_tupI (ds := [.str "done", .int vv, optD (ls.getD h seat0).2.2]) (gs_three g_str (g_opI (g_var rfl hz) g_int (rv_ixT (d := .int vv) (atI_nat (j := 1) rfl))) (g_var rfl h53)) (by simp)) (fun hb => by cases hb)) fun d z2 F4 H4 hd s4 e4 hz2 => ?_
      dsimp only
      refine t_retI (K := K) s4 (tail F4 ((e2.trans e3).trans e4) _ z2 (seatOf mv ls h) rfl rfl rfl ?_) q
      rw [show d = _ from hd] at hz2
      unfold seatOf
      rw [if_neg hw, hvv]; exact hz2
/-! checked steps, a run -/
theorem ok_cs {f fB fW : Addr} {fd fdB fdW : FuncData} (Fn : Fun K "checked_step" "checked_step" s_checked_step f fd) (T : Tx mg)
    (F_is_whole : FunW K fW fdW) (b_is_whole : Binds K fdW ["thing", "low", "high"] []) (g_is_whole : mg "is_whole" = some (.ref fW))
    (F_behind_step : Fun K "behind_step" "behind_step" s_behind_step fB fdB) (b_behind_step : Binds K fdB ["tables", "standing", "house"] []) (g_behind_step : mg "behind_step" = some (.ref fB)) (G_behind_step : FnOk P w K mg base CX0 2 fB fdB ["tables", "standing", "house"] (spBS P w K CT)) :
    FnOk P w K mg base CX0 3 f fd ["tables", "standing", "house"] (spBS P w K CT) := by
  have G_is_whole : FnOk P w K mg base CX0 1 fW fdW ["thing", "low", "high"] (spWhole K) := ok_whole F_is_whole T
  refine Fn.ok sc_checked_step (fun vs H Q E ⟨_, _, _, _, _, _, _, _, h, _⟩ => by rw [h]; rfl) (fun cdv A outer s H vs Q E hr h => ?_)
  obtain ⟨n, m, h, mv, ls, F, v, u, rfl, ⟨nm, hln, ⟨hlt, hok⟩, few⟩, e, pr, hu, q⟩ := h
  refine ⟨_, (pss_cons (ps_if (PW.pt (pw_or (pt_not (pt_val (pe_call G_is_whole (hr.mono (by decide)) (by rfl) g_is_whole F_is_whole.kp b_is_whole .nil pass0 (pa_cons (pv 2) (pa_cons pe_int (pa_cons (pe_op op_sub (pe_callB (c_len (K := K)) (by rfl) T.len (by decide +kernel) (pa_cons (pv 1) pa_nil)) pe_int) pa_nil)))))) (pw_or1 (pt_cmpR op_eq (pe_ix (o_ixT (K := K)) (pe_ix (o_ixT (K := K)) (pv 1) (pv 2) (fun _ _ => rfl)) pe_int (fun _ _ => rfl)) pe_str (nomark _))))) (pss_one ps_never) pss_nil)
    (pss_one (ps_ret (pe_call G_behind_step (hr.mono (by decide)) (by rfl) g_behind_step F_behind_step.kp b_behind_step .nil pass0 (pa_cons (pv 0) (pa_cons (pv 1) (pa_cons (pv 2) pa_nil))))))), ?_⟩
  have gh : ∀ {σ' : L2.St} {F' : Hp}, σ'[2]? = some (some (.int (h : Int))) → EvG K none (tVar 2) σ' F' (Is (.int (h : Int))) := fun h' => g_var (v := .int h) h' (.int _)
  have nd : ¬ (ls.getD h seat0).1 = "done" := by
    rcases hok with z | ⟨z, _⟩ <;> rw [z] <;> decide
  refine t_skip (Step.refl e .nil) (et_or (a := false) (b := false) (et_not (b := true) (et_B (K := K) ((g_call (.int (h : Int), some 0, some ((ls.length : Int) - 1)) (gs_three (gh rfl) g_int (g_opI ((g_cbI (gs_one (g_var rfl hu)) rc_lenT).is (by rw [List.length_map])) g_int rv_sub)) rfl trivial).is ?_))) fun _ => (et_of (K := K) (g_opI (g_opI (g_opI (g_var rfl hu) (gh rfl) (rv_seat hlt)) g_int (rv_ixT (d := .str (ls.getD h seat0).1) (atI_nat (j := 0) rfl))) g_str rv_eqS)).is (decide_eq_false nd)) fun F2 H2 s2 e2 => ?_
  · simp only [isWhole, loOk, hiOk]; simp; omega
  exact ⟨_, rfl, _, rfl, _, rfl, n, m, h, mv, ls, F2, v, u, rfl, ⟨nm, hln, ⟨hlt, hok⟩, few⟩, s2.inn, pr.mono e2, Rp.mono e2 _ _ hu, fun z F3 H3 s3 hz => q z F3 H3 (s2.trans s3) hz⟩
def spLast (P : Program) (w : World) (K : PySem.W.Frag) (C : Addr) : Sp := fun vs H Q _ => ∃ (n m : Nat) (mv : Nat → List Mv) (ls : List Seat) (run : List Nat) (F : Hp) (v u r : V), vs = [v, u, r] ∧ (NMok n m ∧ ls.length = n ∧ RunOk mv ls run ∧ (∀ k, (mv k).length ≤ 1) ∧ run.length ≤ 1000) ∧ Ex F H ∧ ProgAt P w K C F v n m mv ∧ Rp K F u (standD ls) ∧ Rp K F r (dT (run.map Int.ofNat)) ∧
  ∀ z F2 H2, Step none F H F2 H2 → Rp K F2 z (standD (runS mv ls run)) → Q z H2
theorem lv2_stand (ls : List Seat) (h : ls.length ≤ 1000) : lv2 (standD ls) := ⟨by rw [List.length_map]; exact h, fun d hd => by
  obtain ⟨k, _, rfl⟩ := List.mem_map.mp hd
  refine ⟨by simp, fun d hd => ?_⟩
  simp only [List.mem_cons, List.not_mem_nil, or_false] at hd
  rcases hd with rfl | rfl | rfl
  · rfl
  · rfl
  · cases k.2.2 <;> rfl⟩
theorem ok_last {f fP fA fC : Addr} {fd fdP fdA fdC : FuncData} (Fn : Fun K "last_standing" "last_standing" s_last_standing f fd) (T : Tx mg)
    (F_check_program : Fun K "check_program" "check_program" s_check_program fP fdP) (b_check_program : Binds K fdP ["program"] []) (g_check_program : mg "check_program" = some (.ref fP)) (G_check_program : FnOk P w K mg base CX0 2 fP fdP ["program"] (spCP P w K CT))
    (F_as_tuples : Fun K "as_tuples" "as_tuples" s_as_tuples fA fdA) (b_as_tuples : Binds K fdA ["thing"] []) (g_as_tuples : mg "as_tuples" = some (.ref fA)) (G_as_tuples : FnOk P w K mg base CX0 4 fA fdA ["thing"] (spAsT K lv2))
    (F_checked_step : Fun K "checked_step" "checked_step" s_checked_step fC fdC) (b_checked_step : Binds K fdC ["tables", "standing", "house"] []) (g_checked_step : mg "checked_step" = some (.ref fC)) (G_checked_step : FnOk P w K mg base CX0 3 fC fdC ["tables", "standing", "house"] (spBS P w K CT)) :
    FnOk P w K mg base CX0 5 f fd ["program", "standing", "run"] (spLast P w K CT) := by
  refine Fn.ok sc_last_standing (fun vs H Q E ⟨_, _, _, _, _, _, _, _, _, h, _⟩ => by rw [h]; rfl) (fun cdv A outer s H vs Q E hr h => ?_)
  obtain ⟨n, m, mv, ls, run, F, v, u, r, rfl, ⟨nm, hln, hok, few, hz⟩, e, pr, hu, hrun, q⟩ := h
  have n5 := nm.n5
  refine ⟨_, (pss_cons (ps_set (i := 3) sc_last_standing.nd rfl (by first | exact Or.inl rfl | exact Or.inr rfl) (pe_call G_check_program (hr.mono (by decide)) (by rfl) g_check_program F_check_program.kp b_check_program .nil pass0 (pa_cons (pv 0) pa_nil)))
    (pss_cons (ps_set (i := 4) sc_last_standing.nd rfl (by first | exact Or.inl rfl | exact Or.inr rfl) (pe_call G_as_tuples (hr.mono (by decide)) (by rfl) g_as_tuples F_as_tuples.kp b_as_tuples .nil pass0 (pa_cons (pv 1) pa_nil)))
    (pss_cons (ps_for PassesOwn.never rfl (i_tup (K := K) (pv 2)) (pg_name (i := 5) sc_last_standing.nd rfl (by first | exact Or.inl rfl | exact Or.inr rfl)) (pss_one (ps_set (i := 4) sc_last_standing.nd rfl (by first | exact Or.inl rfl | exact Or.inr rfl) (pe_call G_checked_step (hr.mono (by decide)) (by rfl) g_checked_step F_checked_step.kp b_checked_step .nil pass0 (pa_cons (pv 3) (pa_cons (pv 4) (pa_cons (pv 5) pa_nil)))))))
    (pss_one (ps_ret (pv 4)))))), ?_⟩
  refine ⟨_, rfl, n, m, mv, F, v, rfl, nm, e, pr, fun F1 H1 s1 => ?_⟩
  dsimp only
  have e1 := s1.sub
  refine t_asgI (K := K) (d := standD ls) s1 (g_call (standD ls) (gs_one (g_var rfl (Rp.mono e1 _ _ hu))) rfl (lv2_stand ls (by omega))) fun z F2 H2 s2 e2 hz2 => ?_
  have e12 := e1.trans e2
  refine t_for (K := K) (ds := (run.map Int.ofNat).map .int) s2 (w_tupI (g_var rfl (Rp.mono e12 _ _ hrun))) (fun i σ' F' => ∃ z y, σ' = [some v, some u, some r, some v, some z, y] ∧ Rp K F' z (standD (runS mv ls (run.take i)))) (fun F3 e3 => ⟨z, _, rfl, Rp.mono e3 _ _ hz2⟩) (fun i d hd σ' F4 H4 y hI s4 e4 hy N hN => ?_) (fun σ' F4 H4 hI s4 e4 => ?_)
  · obtain ⟨z', y', rfl, hz'⟩ := hI
    rw [List.map_map] at hd
    obtain ⟨h, hh, rfl⟩ := get_map hd
    have ok := run_at run ls hok i h hh
    refine t_asg1 (K := K) (R := Is (standD (stepS mv (runS mv ls (run.take i)) h))) s4 (fun H5 i5 g Q' q' => ⟨_, rfl, _, rfl, _, rfl, n, m, h, mv, runS mv ls (run.take i), F4, v, z', by rw [rp_int hy]; rfl, ⟨nm, by rw [run_len]; exact hln, ok, few⟩, i5, pr.mono (e12.trans e4), hz', fun z F6 H6 s6 hz6 => q' _ z F6 H6 rfl s6 hz6⟩) fun d2 v2 F5 H5 hd2 s5 e5 hv2 => hN _ F5 H5 ⟨v2, _, rfl, ?_⟩ s5 e5
    rw [show d2 = _ from hd2] at hv2
    rw [take_succA hh]
    show Rp K F5 v2 (standD (List.foldl _ _ _))
    rw [List.foldl_append]
    exact hv2
  · obtain ⟨z', y', rfl, hz'⟩ := hI
    rw [List.length_map, List.length_map, List.take_length] at hz'
    exact t_retI (K := K) s4 (g_var rfl hz') q
end
end KC

namespace KC
open PySem PySem.Spec PyProof.Rows L2 L2H Fv Evl StX
abbrev s_law_heard : Stmt := topS 56
theorem sc_law_heard : FnScope ["_law_view", "_law_house"] ["_law_view"] (defScope s_law_heard) := ⟨rfl, rfl, rfl, by decide +kernel, rfl, by decide +kernel, by decide +kernel⟩
abbrev s_law_played : Stmt := topS 79
theorem sc_law_played : FnScope ["_law_n", "_law_m", "_law_view", "_law_value", "_law_entry", "_law_run", "_law_program", "_law_due", "_law_house"] ["_law_n", "_law_m", "_law_view", "_law_value", "_law_entry", "_law_run"] (defScope s_law_played) := ⟨rfl, rfl, rfl, by decide +kernel, rfl, by decide +kernel, by decide +kernel⟩
theorem code_le : ∀ {a b : List Int}, a.length = b.length → TS.Bd 4 a → TS.Bd 4 b → ¬ b < a → TS.code 4 a ≤ TS.code 4 b
  | [], [], _, _, _, _ => Int.le_refl _
  | [], _ :: _, h, _, _, _ => by simp at h
  | _ :: _, [], h, _, _, _ => by simp at h
  | d :: r, e :: q, h, ha, hb, hc => by
    have hl : r.length = q.length := by simpa using h
    rcases Int.lt_trichotomy d e with z | z | z
    · exact Int.le_of_lt (TS.code_lt (B := 4) (d := d) (e := e) hl ha.tail hb.tail z)
    · subst z
      have := code_le hl ha.tail hb.tail fun w => hc (List.cons_lt_cons_iff.mpr (.inr ⟨rfl, w⟩))
      rw [TS.code.eq_2, TS.code.eq_2, hl]
      omega
    · exact absurd (List.cons_lt_cons_iff.mpr (.inl z)) hc
/-- ascending, some more than once -/
abbrev Srt (rs : List (List Int)) : Prop := rs.Pairwise fun a b => TS.code 4 a ≤ TS.code 4 b
theorem dataLe_dT : (PySem.W.dataLe false dT : List Int → List Int → Bool) = fun p q => decide (¬ q < p) := by
  funext p q
  show (!PySem.W.dataLt (dT q) (dT p)) = _
  have e1 : PySem.W.dataLt (dT q) (dT p) = decide (q < p) := (PySem.W.dataLt_tuple _ _).trans (PySem.W.dataLt_ints q p)
  rw [e1, decide_not]
theorem srt_sortL {n m : Nat} (hm : m ≤ 4) {ks : List (List Int)} (h : ∀ r ∈ ks, Row n m r) : Srt (sortL ks) := by
  have h1 : (sortL ks).Pairwise fun a b => (fun p q : List Int => decide (¬ q < p)) a b = true := by
    unfold sortL
    rw [dataLe_dT]
    refine List.pairwise_mergeSort (fun a b c h k => ?_) (fun a b => ?_) ks
    · simp only [decide_eq_true_eq] at h k ⊢
      exact (List.le_trans (show a ≤ b from h) (show b ≤ c from k) : a ≤ c)
    · simp only [Bool.or_eq_true, decide_eq_true_eq]
      exact List.le_total a b
  refine List.Pairwise.imp_of_mem (fun {a b} ha hb h2 => ?_) h1
  have ra := h a ((sortL_perm ks).mem_iff.mp ha)
  have rb := h b ((sortL_perm ks).mem_iff.mp hb)
  exact code_le (ra.1.trans rb.1.symm) (ra.bd hm).2 (rb.bd hm).2 (by simpa using h2)
theorem head_same {n m : Nat} (hm : m ≤ 4) {A B : List (List Int)} (hA : Srt A) (hB : Srt B) (he : ∀ x, x ∈ A ↔ x ∈ B) (hr : ∀ x ∈ A, Row n m x) : A.head? = B.head? := by
  cases A with
  | nil =>
    cases B with
    | nil => rfl
    | cons b bs => exact absurd ((he b).mpr (by simp)) (by simp)
  | cons a as =>
    cases B with
    | nil => exact absurd ((he a).mp (by simp)) (by simp)
    | cons b bs =>
      have least : ∀ {x : List Int} {y : List Int} {ys : List (List Int)}, Srt (y :: ys) → x ∈ y :: ys → TS.code 4 y ≤ TS.code 4 x := fun {x y ys} h hx => by
        rcases List.mem_cons.mp hx with z | z
        · rw [z]; exact Int.le_refl _
        · exact (List.pairwise_cons.mp h).1 x z
      have h1 := least hB ((he a).mp (by simp))
      have h2 := least hA ((he b).mpr (by simp))
      have ra := hr a (by simp)
      have rb := hr b ((he b).mpr (by simp))
      have : a = b := code_inj (ra.1.trans rb.1.symm) (ra.bd hm).2 (rb.bd hm).2 (by omega)
      rw [this]; rfl
theorem goes_at {vw : ORow} {r : List Int} (h : goesB vw r = true) {k : Nat} (hk : k < vw.length) : (vw.getD k none).isNone = true ∨ vw.getD k none = some (r.getD k 0) := by
  unfold goesB at h
  have := List.all_eq_true.mp h k (List.mem_range.mpr hk)
  rw [Bool.or_eq_true, decide_eq_true_eq] at this
  exact this
/-! the run that is due -/
def midS (r : List Int) (ws : List Nat) : List Seat := (List.range r.length).map fun k => if k ∈ ws then ("scan", r.getD k 0, some (r.getD k 0)) else ("write", r.getD k 0, none)
theorem mid_len (r : List Int) (ws : List Nat) : (midS r ws).length = r.length := by simp [midS]
theorem mid_at {r : List Int} {ws : List Nat} {k : Nat} (hk : k < r.length) : (midS r ws).getD k seat0 = (if k ∈ ws then (("scan", r.getD k 0, some (r.getD k 0)) : Seat) else (("write", r.getD k 0, none) : Seat)) := by
  rw [List.getD_eq_getElem?_getD, List.getElem?_eq_getElem (by rw [mid_len]; exact hk)]
  simp [midS]
theorem first_mid (r : List Int) : firstS r = midS r [] := by
  unfold firstS midS
  refine List.ext_getElem (by simp) fun i h1 h2 => ?_
  have : i < r.length := by simpa using h1
  simp [List.getD_eq_getElem?_getD, List.getElem?_eq_getElem this]
theorem mid_step {mv : Nat → List Mv} {r : List Int} {ws : List Nat} {h : Nat} (hh : h < r.length) (hn : h ∉ ws) : StepOk mv (midS r ws) h ∧ stepS mv (midS r ws) h = midS r (ws ++ [h]) := by
  have at_ := mid_at (r := r) (ws := ws) hh
  rw [if_neg hn] at at_
  refine ⟨⟨by rw [mid_len]; exact hh, .inl (by rw [at_])⟩, ?_⟩
  have sx : seatOf mv (midS r ws) h = ((("scan" : Str), r.getD h 0, some (r.getD h 0)) : Seat) := by
    unfold seatOf
    rw [at_, if_pos rfl]
  unfold stepS
  rw [sx]
  refine List.ext_getElem (by simp [midS]) fun i h1 h2 => ?_
  rw [List.getElem_set]
  by_cases z : h = i
  · subst z
    rw [if_pos rfl]
    simp [midS]
  · rw [if_neg z]
    simp only [midS, List.getElem_map, List.getElem_range, List.mem_append, List.mem_singleton]
    have : ¬ i = h := fun y => z y.symm
    by_cases y : i ∈ ws
    · rw [if_pos y, if_pos (.inl y)]
    · rw [if_neg y, if_neg (by rintro (q | q); exact y q; exact this q)]
theorem mid_run {mv : Nat → List Mv} {r : List Int} : ∀ (rest ws : List Nat), (ws ++ rest).Nodup → (∀ h ∈ rest, h < r.length) → RunOk mv (midS r ws) rest ∧ runS mv (midS r ws) rest = midS r (ws ++ rest)
  | [], ws, _, _ => ⟨trivial, by rw [List.append_nil]; rfl⟩
  | h :: rest, ws, nd, hb => by
    have hn : h ∉ ws := fun z => by
      have := (List.nodup_append.mp nd).2.2 h z h (by simp)
      exact this rfl
    obtain ⟨a, b⟩ := mid_step (mv := mv) (hb h (by simp)) hn
    obtain ⟨c, d⟩ := mid_run rest (ws ++ [h]) (by simpa using nd) fun x hx => hb x (List.mem_cons_of_mem _ hx)
    refine ⟨⟨a, by rw [b]; exact c⟩, ?_⟩
    show runS mv (stepS mv (midS r ws) h) rest = _
    rw [b, d]; simp
theorem run_app {mv : Nat → List Mv} : ∀ (a b : List Nat) (l : List Seat), RunOk mv l a → RunOk mv (runS mv l a) b → RunOk mv l (a ++ b)
  | [], _, _, _, h => h
  | x :: a, b, l, h1, h2 => ⟨h1.1, run_app a b _ h1.2 h2⟩
theorem but_one {α : Type} (d : α) : ∀ (l : List α) (h : Nat), ((List.range l.length).filter fun k => !decide (k = h)).map (fun k => l.getD k d) = l.take h ++ l.drop (h + 1)
  | [], h => by simp
  | a :: l, 0 => by
    rw [List.length_cons, List.range_succ_eq_map, List.filter_cons_of_neg (by simp), List.filter_map, List.map_map]
    have e1 : ((fun k => !decide (k = 0)) ∘ Nat.succ) = fun _ => true := by funext k; simp
    rw [e1, List.filter_eq_self.mpr (fun _ _ => rfl)]
    show (List.range l.length).map (fun k => l.getD k d) = l
    refine List.ext_getElem (by simp) fun i h1 h2 => ?_
    simp [List.getD_eq_getElem?_getD, List.getElem?_eq_getElem h2]
  | a :: l, h + 1 => by
    rw [List.length_cons, List.range_succ_eq_map, List.filter_cons_of_pos (by simp), List.filter_map, List.map_cons, List.map_map]
    have e1 : ((fun k => !decide (k = h + 1)) ∘ Nat.succ) = fun k => !decide (k = h) := by
      funext k
      by_cases z : k = h <;> simp [z]
    rw [e1]
    show a :: ((List.range l.length).filter fun k => !decide (k = h)).map (fun k => l.getD k d) = a :: (l.take h ++ l.drop (h + 1))
    rw [but_one d l h]
/-- the houses that a view hears -/
def heardN (vw : ORow) : List Nat := (List.range vw.length).filter fun k => !(vw.getD k none).isNone
theorem heard_nat (vw : ORow) : heardV vw = (heardN vw).map Int.ofNat := rfl
theorem heardN_mem {vw : ORow} {k : Nat} : k ∈ heardN vw ↔ k < vw.length ∧ (vw.getD k none).isNone = false := by
  unfold heardN
  rw [List.mem_filter, List.mem_range]
  simp
def runN (vw : ORow) : List Nat := heardN vw ++ (heardN vw).take 1
theorem run_nat (vw : ORow) : heardV vw ++ (heardV vw).take 1 = (runN vw).map Int.ofNat := by
  unfold runN
  rw [heard_nat, List.map_append, List.map_take]
/-- what is due behind the run -/
def dueS (vw : ORow) (r : List Int) (v : Int) (h0 : Nat) : List Seat := (List.range r.length).map fun k => if (vw.getD k none).isNone = true then ("write", r.getD k 0, none) else if k = h0 then ("done", v, some (r.getD k 0)) else ("scan", r.getD k 0, some (r.getD k 0))
theorem due_run {n : Nat} {vw : ORow} {r : List Int} {v : Int} {h0 : Nat} {hs' : List Nat} (hv : vw.length = n) (hr : r.length = n) (hg : goesB vw r = true) (he : heardN vw = h0 :: hs') :
    RunOk (mvsOf vw v) (firstS r) (runN vw) ∧ runS (mvsOf vw v) (firstS r) (runN vw) = dueS vw r v h0 := by
  have hb : ∀ h ∈ heardN vw, h < r.length := fun h hh => by have := (heardN_mem.mp hh).1; omega
  have nd : (heardN vw).Nodup := List.Nodup.sublist List.filter_sublist List.nodup_range
  obtain ⟨ok1, run1⟩ := mid_run (mv := mvsOf vw v) (r := r) (heardN vw) [] (by simpa using nd) hb
  rw [List.nil_append] at run1
  have m0 : h0 ∈ heardN vw := by rw [he]; simp
  have hl0 := hb h0 m0
  have at0 := mid_at (r := r) (ws := heardN vw) hl0
  rw [if_pos m0] at at0
  have vat : ∀ k < n, k ∈ heardN vw → vw.getD k none = some (r.getD k 0) := fun k hk hm => by
    rcases goes_at hg (k := k) (by omega) with z | z
    · rw [(heardN_mem.mp hm).2] at z; cases z
    · exact z
  have cell : ∀ k < n, ((midS r (heardN vw)).getD k seat0).2.2 = vw.getD k none := fun k hk => by
    rw [mid_at (by omega)]
    by_cases z : k ∈ heardN vw
    · rw [if_pos z, vat k hk z]
    · rw [if_neg z]
      have : (vw.getD k none).isNone = true := by
        cases y : (vw.getD k none).isNone with
        | true => rfl
        | false => exact absurd (heardN_mem.mpr ⟨by omega, y⟩) z
      rw [Option.isNone_iff_eq_none.mp this]
  have bes : beside (midS r (heardN vw)) h0 = vw.take h0 ++ vw.drop (h0 + 1) := by
    rw [← but_one none vw h0]
    unfold beside
    rw [mid_len, hr, ← hv]
    refine List.map_congr_left fun k hk => ?_
    have := List.mem_range.mp (List.mem_filter.mp hk).1
    exact cell k (by omega)
  have nx : nextV (mvsOf vw v h0) (r.getD h0 0) (beside (midS r (heardN vw)) h0) = some v := by
    unfold nextV mvsOf
    rw [vat h0 (by omega) m0, bes]
    simp
  have sx : seatOf (mvsOf vw v) (midS r (heardN vw)) h0 = ((("done" : Str), v, some (r.getD h0 0)) : Seat) := by
    unfold seatOf
    rw [at0, if_neg (by show ¬ (("scan" : Str) = "write"); decide), nx]; rfl
  have ok0 : StepOk (mvsOf vw v) (midS r (heardN vw)) h0 := ⟨by rw [mid_len]; exact hl0, .inr (by rw [at0]; exact ⟨rfl, by rw [nx]; rfl⟩)⟩
  have e1 : runN vw = heardN vw ++ [h0] := by unfold runN; rw [he]; rfl
  rw [first_mid, e1]
  refine ⟨run_app _ _ _ ok1 (by rw [run1]; exact ⟨ok0, trivial⟩), ?_⟩
  show List.foldl _ _ _ = _
  rw [List.foldl_append]
  show stepS (mvsOf vw v) (runS (mvsOf vw v) (midS r []) (heardN vw)) h0 = _
  rw [run1]
  unfold stepS
  rw [sx]
  refine List.ext_getElem (by simp [midS, dueS]) fun i h1 h2 => ?_
  have hi : i < r.length := by simpa [dueS] using h2
  rw [List.getElem_set]
  simp only [dueS, midS, List.getElem_map, List.getElem_range]
  by_cases z : h0 = i
  · subst z
    rw [if_pos rfl, if_neg (by rw [(heardN_mem.mp m0).2]; simp), if_pos rfl]
  · rw [if_neg z]
    have z' : ¬ i = h0 := fun y => z y.symm
    by_cases y : i ∈ heardN vw
    · rw [if_pos y, if_neg (by rw [(heardN_mem.mp y).2]; simp), if_neg z']
    · rw [if_neg y]
      have : (vw.getD i none).isNone = true := by
        cases q : (vw.getD i none).isNone with
        | true => rfl
        | false => exact absurd (heardN_mem.mpr ⟨by omega, q⟩) y
      rw [if_pos this]
section
variable {P : Program} {w : World} {K : PySem.W.Frag} {mg : Str → Option Value} {base : Heap} {CB CO CT fE CF C fI : Addr} {mc : Value}
variable {pt : Option Pt} {σ : L2.St} {F F' F0 H0 H F2 H2 : Hp} {te ta tb ty td : TE} {ts tr : TA} {t : TT} {D : Ends} {tz tu tw : TS} {l a x dx : Addr} {xs : List NEnt} {fs : List (Str × V)} {f : Str} {i : Nat}
abbrev spLHeard (K : PySem.W.Frag) : Sp := PSp K (fun v : ORow => [dO v]) (fun v => v.length ≤ 60) (fun v => dT (heardV v))
theorem ok_lheard {f : Addr} {fd : FuncData} (Fn : Fun K "_law_heard" "_law_heard" s_law_heard f fd) (T : Tx mg) : FnOk P w K mg base CX0 1 f fd ["_law_view"] (spLHeard K) := by
  refine Fn.ok sc_law_heard (PSp.len (fun _ => rfl)) (fun cdv A outer s H vs Q E hr h => ?_)
  obtain ⟨vw, F, hz, e, ha, q⟩ := h
  obtain ⟨v, rfl, hv⟩ := rpAll1 ha
  refine ⟨_, (pss_one (ps_ret (pe_callTy (c_tup (K := K)) (by rfl) T.tuple (by decide +kernel) (pa_cons (pe_lc (own := [("_law_house", 1)]) (g := gName 1) rfl sc_law_heard.nd (pi_range1 (by rfl) T.range (pa_cons (pe_callB (c_len (K := K)) (by rfl) T.len (by decide +kernel) (pa_cons (pv 0) pa_nil)) pa_nil)) (blkOk_by (own := [("_law_house", 1)]) (N := ["_law_view", "_law_house"]) (sc := (defScope s_law_heard)) (by decide +kernel)) (fun _ _ _ _ _ => pg_name (i := 1) sc_law_heard.nd rfl (by first | exact Or.inl rfl | exact Or.inr rfl)) (fun _ _ _ _ _ => (pts_one (pt_cmpR op_notN (pe_ix (o_ixT (K := K)) (pv 0) (pv 1) (fun _ _ => rfl)) pe_non (nomark _)))) (fun _ _ _ _ _ => (pv 1))) pa_nil)))), ?_⟩
  refine t_retI (K := K) (Step.refl e .nil) ((g_cbI (gs_one (g_lcE natD (List.range vw.length) (fun k => !(vw.getD k none).isNone) natD (w_len (g_var rfl hv) (by simp) (by omega)) (by simp; omega) (fun _ => rfl) (fun k hk F' e' y hy => et_of (g_opI (g_ixO (g_var rfl (Rp.mono e' _ _ hv)) (g_var rfl hy) (List.mem_range.mp hk)) g_non rv_notO)) (fun k _ _ F' e' y hy => g_var rfl hy))) rc_tupL).is ?_) q
  show PyData.tuple _ = PyData.tuple ((heardV vw).map PyData.int)
  unfold heardV
  rw [List.map_map]; rfl
/-! a program that decides so soon is played -/
theorem x_prog {E : XK} {i0 i1 i2 i3 n m : Nat} {vw : ORow} {v : Int} {u : V} (h0 : σ[i0]? = some (some (.int n))) (h1 : σ[i1]? = some (some (.int m))) (h2 : σ[i2]? = some (some u)) (hu : Rp K F u (dO vw)) (h3 : σ[i3]? = some (some (.int v))) (nm : NMok n m) (vi : VwIn n m vw v) :
    EvX pt (tCall (spProg P w K CT) [] E (tCons (tVar i0) (tCons (tVar i1) (tCons (tDPairN P w K (tVar i2) (tVar i3)) tNil)))) σ F (fun z F2 => ProgAt P w K CT F2 z n m (mvsOf vw v)) := fun H1 e g Q q =>
  ⟨_, h0, _, h1, x_dpair (K := K) (ks := vw.map optD) (z := .int v) (kb_dO vw) (depth_dO vw) (g_var h2 hu) (fun F' e' => g_var (v := .int v) h3 (.int _)) H1 e g _ fun d F2 H2 ⟨Dp, xs, ed, nd, nv⟩ s => by
    subst ed
    exact ⟨n, m, Dp, xs, vw, v, F2, rfl, ⟨nm, vi⟩, s.inn, nd, nv, fun z F3 H3 s3 pr => q z F3 H3 pr (s.trans (s3.lift s.good))⟩⟩
end
end KC

namespace KC
open PySem PySem.Spec PyProof.Rows L2 L2H Fv Evl StX
section
variable {P : Program} {w : World} {K : PySem.W.Frag} {mg : Str → Option Value} {base : Heap} {CB CO CT fE CF C fI : Addr} {mc : Value}
variable {pt : Option Pt} {σ : L2.St} {F F' F0 H0 H F2 H2 : Hp} {te ta tb ty td : TE} {ts tr : TA} {t : TT} {D : Ends} {tz tu tw : TS} {l a x dx : Addr} {xs : List NEnt} {fs : List (Str × V)} {f : Str} {i : Nat}
theorem heardN_len (vw : ORow) : (heardN vw).length ≤ vw.length := by
  unfold heardN
  exact Nat.le_trans (List.length_filter_le _ _) (by simp)
theorem due_at {vw : ORow} {r : List Int} {v : Int} {h0 k : Nat} (hk : k < r.length) : (dueS vw r v h0)[k]? = some (if (vw.getD k none).isNone = true then (("write", r.getD k 0, none) : Seat) else if k = h0 then (("done", v, some (r.getD k 0)) : Seat) else (("scan", r.getD k 0, some (r.getD k 0)) : Seat)) := by
  unfold dueS
  rw [List.getElem?_map, List.getElem?_range hk]; rfl
def spPlayed (K : PySem.W.Frag) : Sp := fun vs H Q _ => ∃ (n m : Nat) (vw : ORow) (v : Int) (r : List Int) (F : Hp) (u e1 run : V), vs = [.int n, .int m, u, .int v, e1, run] ∧ (NMok n m ∧ VwIn n m vw v ∧ r.length = n ∧ (∀ k ∈ r, 0 ≤ k ∧ k < (m : Int)) ∧ goesB vw r = true ∧ heardV vw ≠ []) ∧ Ex F H ∧ Rp K F u (dO vw) ∧ Rp K F e1 (dT r) ∧ Rp K F run (dT (heardV vw ++ (heardV vw).take 1)) ∧
  ∀ z F2 H2, Step none F H F2 H2 → Rp K F2 z (.bool true) → Q z H2
theorem ok_played {f fP fF fL fS : Addr} {fd fdP fdF fdL fdS : FuncData} (Fn : Fun K "_law_played" "_law_played" s_law_played f fd) (T : Tx mg)
    (F_plan_program : Fun K "plan_program" "plan_program" s_plan_program fP fdP) (b_plan_program : Binds K fdP ["houses", "values", "plan"] []) (g_plan_program : mg "plan_program" = some (.ref fP)) (G_plan_program : FnOk P w K mg base CX0 9 fP fdP ["houses", "values", "plan"] (spProg P w K CT))
    (F_first_standing : Fun K "first_standing" "first_standing" s_first_standing fF fdF) (b_first_standing : Binds K fdF ["program", "entry"] []) (g_first_standing : mg "first_standing" = some (.ref fF)) (G_first_standing : FnOk P w K mg base CX0 3 fF fdF ["program", "entry"] (spFirst P w K CT))
    (F_last_standing : Fun K "last_standing" "last_standing" s_last_standing fL fdL) (b_last_standing : Binds K fdL ["program", "standing", "run"] []) (g_last_standing : mg "last_standing" = some (.ref fL)) (G_last_standing : FnOk P w K mg base CX0 5 fL fdL ["program", "standing", "run"] (spLast P w K CT))
    (F_law_same : Fun K "_law_same" "_law_same" s_law_same fS fdS) (b_law_same : Binds K fdS ["_law_told", "_law_due"] []) (g_law_same : mg "_law_same" = some (.ref fS)) :
    FnOk P w K mg base CX0 10 f fd ["_law_n", "_law_m", "_law_view", "_law_value", "_law_entry", "_law_run"] (spPlayed K) := by
  have G_law_same : FnOk P w K mg base CX0 3 fS fdS ["_law_told", "_law_due"] (spSm K lv2) := ok_same F_law_same T b_law_same g_law_same
  refine Fn.ok sc_law_played (fun vs H Q E ⟨_, _, _, _, _, _, _, _, _, h, _⟩ => by rw [h]; rfl) (fun cdv A outer s H vs Q E hr h => ?_)
  obtain ⟨n, m, vw, v, r, F, u, e1, run, rfl, ⟨nm, vi, hrl, hrb, hg, hne⟩, e, hu, he1, hrun, q⟩ := h
  have n5 := nm.n5
  have lv := vi.ln
  obtain ⟨h0, hs', hhe⟩ : ∃ h0 hs', heardN vw = h0 :: hs' := by
    cases hh : heardN vw with
    | nil => rw [heard_nat, hh] at hne; exact absurd rfl hne
    | cons a b => exact ⟨a, b, rfl⟩
  obtain ⟨rok, rrun⟩ := due_run (v := v) lv hrl hg hhe
  have hnl := heardN_len vw
  refine ⟨_, (pss_cons (ps_set (i := 6) sc_law_played.nd rfl (by first | exact Or.inl rfl | exact Or.inr rfl) (pe_call G_plan_program (hr.mono (by decide)) (by rfl) g_plan_program F_plan_program.kp b_plan_program .nil pass0 (pa_cons (pv 0) (pa_cons (pv 1) (pa_cons (pe_dpairN (P := P) (w := w) (K := K) (hu65 hr) (pv 2) (pv 3)) pa_nil)))))
    (pss_cons (ps_set (i := 7) sc_law_played.nd rfl (by first | exact Or.inl rfl | exact Or.inr rfl) (pe_lst pa_nil))
    (pss_cons (ps_for PassesOwn.never rfl (pi_range1 (by rfl) T.range (pa_cons (pv 0) pa_nil)) (pg_name (i := 8) sc_law_played.nd rfl (by first | exact Or.inl rfl | exact Or.inr rfl)) (pss_one (ps_if (pt_cmpR op_isN (pe_ix (o_ixT (K := K)) (pv 2) (pv 8) (fun _ _ => rfl)) pe_non (nomark _)) (pss_one (ps_expr (pe_bm PySem.F.plainAttrs_list PySem.F.slot_list_append PySem.F.type_list_append mt_append (pv 7) (pa_cons (pe_tup (pa_cons pe_str (pa_cons (pe_ix (o_ixT (K := K)) (pv 4) (pv 8) (fun _ _ => rfl)) (pa_cons pe_non pa_nil)))) pa_nil)))) (pss_one (ps_if (pt_cmpR op_eq (pv 8) (pe_ix (o_ixT (K := K)) (pv 5) pe_int (fun _ _ => rfl)) (nomark _)) (pss_one (ps_expr (pe_bm PySem.F.plainAttrs_list PySem.F.slot_list_append PySem.F.type_list_append mt_append (pv 7) (pa_cons (pe_tup (pa_cons pe_str (pa_cons (pv 3) (pa_cons (pe_ix (o_ixT (K := K)) (pv 4) (pv 8) (fun _ _ => rfl)) pa_nil)))) pa_nil)))) (pss_one (ps_expr (pe_bm PySem.F.plainAttrs_list PySem.F.slot_list_append PySem.F.type_list_append mt_append (pv 7) (pa_cons (pe_tup (pa_cons pe_str (pa_cons (pe_ix (o_ixT (K := K)) (pv 4) (pv 8) (fun _ _ => rfl)) (pa_cons (pe_ix (o_ixT (K := K)) (pv 4) (pv 8) (fun _ _ => rfl)) pa_nil)))) pa_nil)))))))))
    (pss_one (ps_ret (pe_call G_law_same (hr.mono (by decide)) (by rfl) g_law_same F_law_same.kp b_law_same .nil pass0 (pa_cons (pe_call G_last_standing (hr.mono (by decide)) (by rfl) g_last_standing F_last_standing.kp b_last_standing .nil pass0 (pa_cons (pv 6) (pa_cons (pe_call G_first_standing (hr.mono (by decide)) (by rfl) g_first_standing F_first_standing.kp b_first_standing .nil pass0 (pa_cons (pv 6) (pa_cons (pv 4) pa_nil))) (pa_cons (pv 5) pa_nil)))) (pa_cons (pe_callTy (c_tup (K := K)) (by rfl) T.tuple (by decide +kernel) (pa_cons (pv 7) pa_nil)) pa_nil)))))))), ?_⟩
  refine t_asgX (Step.refl e .nil) (x_prog (K := K) (n := n) (m := m) (vw := vw) (v := v) rfl rfl rfl hu rfl nm vi) fun pz F1 H1 pr s1 ee1 => ?_
  have g0 : Good none F H := .nil
  refine t_newL (K := K) s1 (fun l hl0 hlH g1 => ?_) (fun l h => s1.back l h)
  have e12 : Ex F F1 := ee1
  have gh : ∀ {σ' : L2.St} {F' : Hp} {k : Nat} {y : V}, σ'[8]? = some (some y) → Rp K F' y (natD k) → EvG K none (tVar 8) σ' F' (Is (.int (k : Int))) := fun h hy => g_var h hy
  refine t_forG (K := K) (ds := (List.range n).map natD) g0 hl0 g1 (w_range (n := n) (g_var (v := .int n) rfl (.int _)) (by omega)) (fun i σ' F' l' => (∃ y, σ' = [some (.int n), some (.int m), some u, some (.int v), some e1, some run, some pz, some (.ref l), y]) ∧ l' = ((dueS vw r v h0).take i).map seatD) (fun F2 e2 => ⟨⟨_, rfl⟩, by simp⟩) (fun i d hd σ' F' H' y l' hI g' e' hy N hN => ?_) (fun σ' F' H' l' hI g' e' => ?_)
  · obtain ⟨⟨y0, rfl⟩, rfl⟩ := hI
    have hi : i < n := by have := (List.getElem?_eq_some_iff.mp hd).1; simpa using this
    have ed : d = natD i := by
      rw [List.getElem?_map, List.getElem?_range hi] at hd
      exact (Option.some.inj hd).symm
    subst ed
    have hir : i < r.length := by omega
    have hzl : (((dueS vw r v h0).take i).map seatD).length < 100000 := by
      rw [List.length_map, List.length_take]; omega
    have at_ := due_at (vw := vw) (v := v) (h0 := h0) hir
    have ge : ∀ {σ' : L2.St} {F'' : Hp}, Ex F' F'' → σ'[4]? = some (some e1) → σ'[8]? = some (some y) → EvG K none (tOp (rIxT K) (tVar 4) (tVar 8)) σ' F'' (Is (.int (r.getD i 0))) := fun ee h4 h8 => g_opI (g_var h4 (Rp.mono ((ee1.trans e').trans ee) _ _ he1)) (g_var h8 (Rp.mono ee _ _ hy)) (rv_ixT (d := .int (r.getD i 0)) (atI_nat (by rw [List.getElem?_map, List.getElem?_eq_getElem hir, List.getD_eq_getElem?_getD, List.getElem?_eq_getElem hir]; rfl)))
    have fin : ∀ (sx : Seat), (dueS vw r v h0)[i]? = some sx → ((dueS vw r v h0).take i).map seatD ++ [seatD sx] = ((dueS vw r v h0).take (i + 1)).map seatD := fun sx hs => by
      rw [take_succA hs, List.map_append]; rfl
    refine t_if1G (K := K) (b := (vw.getD i none).isNone) g0 hl0 g' (et_of (K := K) (g_opI (g_ixO (g_var rfl (Rp.mono (ee1.trans e') _ _ hu)) (gh rfl hy) (by omega)) g_non rv_isO)) (fun hb F2 H2 g2 e2 => ?_) (fun hb F2 H2 g2 e2 => ?_)
    · rw [if_pos hb] at at_
      refine t_app (K := K) (R := Is (seatD ("write", r.getD i 0, none))) g0 hl0 g2 rfl (g_tupI (gs_three g_str (ge e2 rfl rfl) g_non) (by simp)) hzl fun d F3 H3 hd3 g3 e3 => hN _ F3 H3 _ ⟨⟨_, rfl⟩, ?_⟩ g3 (e2.trans e3)
      rw [show d = _ from hd3]; exact fin _ at_
    · rw [if_neg (by rw [hb]; simp)] at at_
      have hrun2 := Rp.mono ((ee1.trans e').trans e2) _ _ hrun
      have hh0 : (heardV vw ++ (heardV vw).take 1).map PyData.int = PyData.int (h0 : Int) :: ((heardV vw ++ (heardV vw).take 1).map PyData.int).tail := by
        rw [heard_nat, hhe]; rfl
      refine t_if1G (K := K) (b := decide ((i : Int) = (h0 : Int))) g0 hl0 g2 (et_of (K := K) (g_opI (gh rfl (Rp.mono e2 _ _ hy)) (g_opI (g_var rfl hrun2) g_int (rv_ixT (d := .int (h0 : Int)) (atI_nat (j := 0) (by rw [hh0]; rfl)))) rv_eqI)) (fun hb2 F3 H3 g3 e3 => ?_) (fun hb2 F3 H3 g3 e3 => ?_)
      · have z : i = h0 := by have := of_decide_eq_true hb2; omega
        rw [if_pos z] at at_
        refine t_app (K := K) (R := Is (seatD ("done", v, some (r.getD i 0)))) g0 hl0 g3 rfl (g_tupI (gs_three g_str (g_var (v := .int v) rfl (.int _)) (ge (e2.trans e3) rfl rfl)) (by simp)) hzl fun d F4 H4 hd4 g4 e4 => hN _ F4 H4 _ ⟨⟨_, rfl⟩, ?_⟩ g4 ((e2.trans e3).trans e4)
        rw [show d = _ from hd4]; exact fin _ at_
      · have z : ¬ i = h0 := fun y => by have := of_decide_eq_false hb2; omega
        rw [if_neg z] at at_
        refine t_app (K := K) (R := Is (seatD ("scan", r.getD i 0, some (r.getD i 0)))) g0 hl0 g3 rfl (g_tupI (gs_three g_str (ge (e2.trans e3) rfl rfl) (ge (e2.trans e3) rfl rfl)) (by simp)) hzl fun d F4 H4 hd4 g4 e4 => hN _ F4 H4 _ ⟨⟨_, rfl⟩, ?_⟩ g4 ((e2.trans e3).trans e4)
        rw [show d = _ from hd4]; exact fin _ at_
  · obtain ⟨⟨y0, rfl⟩, rfl⟩ := hI
    obtain ⟨F2, s2, e2, r2⟩ := g'.done g0 hl0
    have dl : (dueS vw r v h0).length = n := by simp [dueS, hrl]
    rw [List.length_map, List.length_range, show (dueS vw r v h0).take n = dueS vw r v h0 from List.take_of_length_le (by omega)] at r2
    have e02 : Ex F1 F2 := e'.trans e2
    have hlast : EvG K none (tCall (spLast P w K CT) [] E0 (tCons (tVar 6) (tCons (tCall (spFirst P w K CT) [] E0 (tCons (tVar 6) (tCons (tVar 4) tNil))) (tCons (tVar 5) tNil)))) [some (.int n), some (.int m), some u, some (.int v), some e1, some run, some pz, some (.ref l), y0] F2 (Is (standD (dueS vw r v h0))) := fun H3 i3 gg Q' q' =>
      ⟨_, rfl, ⟨_, rfl, _, rfl, n, m, mvsOf vw v, r, F2, pz, e1, rfl, ⟨nm, hrl, hrb⟩, i3, pr.mono e02, Rp.mono (ee1.trans e02) _ _ he1, fun z2 F4 H4 s4 hz2 => ⟨_, rfl, n, m, mvsOf vw v, firstS r, runN vw, F4, pz, z2, run, rfl, ⟨nm, by simp [firstS, hrl], rok, mvsOf_few vw v, by
        unfold runN
        rw [List.length_append, List.length_take]; omega⟩, s4.inn, pr.mono (e02.trans s4.sub), hz2, by rw [← run_nat]; exact Rp.mono ((ee1.trans e02).trans s4.sub) _ _ hrun, fun z3 F5 H5 s5 hz3 => q' _ z3 F5 H5 rfl (s4.trans s5) (by rw [← rrun]; exact hz3)⟩⟩⟩
    exact t_retI (K := K) s2 (g_call (standD (dueS vw r v h0)) (gs_two hlast (g_cbI (gs_one (g_var rfl r2)) rc_tupL)) rfl (lv2_stand _ (by omega))) q
end
end KC

namespace KC
open PySem PySem.Spec PyProof.Rows L2 L2H Fv Evl StX
abbrev s_law_right : Stmt := topS 80
theorem sc_law_right : FnScope ["_law_pot_here", "_law_rows_here", "_law_told", "_law_n", "_law_m", "_law_book", "_law_outcomes", "_law_view", "_law_fit", "_law_row", "_law_heard_here", "_law_value", "_law_unlike", "_law_found"] ["_law_pot_here", "_law_rows_here", "_law_told", "_law_n", "_law_m", "_law_book", "_law_outcomes", "_law_view"] (defScope s_law_right) := ⟨rfl, rfl, rfl, by decide +kernel, rfl, by decide +kernel, by decide +kernel⟩
/-- what stands between the book's rows R2 and the law's R -/
structure Sit (n m : Nat) (R R2 M : List (List Int)) (k8 k0 : List (List Key × V)) : Prop where
  nm : NMok n m
  s2 : Srt R2
  s1 : Srt R
  mem : ∀ r, r ∈ R2 ↔ r ∈ R
  row : ∀ r ∈ R, Row n m r
  val : ∀ r ∈ R, valR M (M.map (tv k8)) r = tv k0 r
  sd : ∀ {vw : ORow}, vw.length = n → Side n R2 M (M.map (tv k8)) vw
  tl : ∀ r ∈ R, valV k0 (key r) = some (.int (tv k0 r))
  few : R.length ≤ 60
/-- what is due of a value -/
def dueOf (vw : ORow) : List (List Int) → PyData
  | [] => .none
  | r :: _ => .tuple [dT r, dT (heardV vw ++ (heardV vw).take 1)]
def dueR (k0 : List (List Key × V)) (k : Int) (vw : ORow) (fit : List (List Int)) : PyData := dueOf vw (fit.filter (fun r => !decide (tv k0 r = k)))
theorem soon_due {n m : Nat} {R R2 M : List (List Int)} {k8 k0 : List (List Key × V)} (S : Sit n m R R2 M k8 k0) {vw : ORow} (k : Int) : soonR M (M.map (tv k8)) k vw (R2.filter (goesB vw)) = dueR k0 k vw (R.filter (goesB vw)) := by
  have e1 : (R2.filter (goesB vw)).filter (fun r => !decide (valR M (M.map (tv k8)) r = k)) = (R2.filter (goesB vw)).filter (fun r => !decide (tv k0 r = k)) := List.filter_congr fun r hr => by
    rw [S.val r ((S.mem r).mp (List.mem_filter.mp hr).1)]
  unfold soonR dueR
  rw [e1]
  have hA : Srt ((R2.filter (goesB vw)).filter fun r => !decide (tv k0 r = k)) := (S.s2.sublist List.filter_sublist).sublist List.filter_sublist
  have hB : Srt ((R.filter (goesB vw)).filter fun r => !decide (tv k0 r = k)) := (S.s1.sublist List.filter_sublist).sublist List.filter_sublist
  have he : ∀ x, x ∈ (R2.filter (goesB vw)).filter (fun r => !decide (tv k0 r = k)) ↔ x ∈ (R.filter (goesB vw)).filter (fun r => !decide (tv k0 r = k)) := fun x => by
    simp only [List.mem_filter, S.mem x]
  have hh := head_same S.nm.m4 hA hB he fun x hx => S.row x ((S.mem x).mp (List.mem_filter.mp (List.mem_filter.mp hx).1).1)
  generalize (R2.filter (goesB vw)).filter (fun r => !decide (tv k0 r = k)) = A at hh
  generalize (R.filter (goesB vw)).filter (fun r => !decide (tv k0 r = k)) = B at hh
  cases A with
  | nil =>
    cases B with
    | nil => rfl
    | cons b bs => cases hh
  | cons a as =>
    cases B with
    | nil => cases hh
    | cons b bs =>
      have : a = b := by simpa using hh
      rw [this]; rfl
theorem fit_nil {n m : Nat} {R R2 M : List (List Int)} {k8 k0 : List (List Key × V)} (S : Sit n m R R2 M k8 k0) {vw : ORow} : R2.filter (goesB vw) = [] ↔ R.filter (goesB vw) = [] := by
  simp only [List.filter_eq_nil_iff]
  exact ⟨fun h r hr => h r ((S.mem r).mpr hr), fun h r hr => h r ((S.mem r).mp hr)⟩
section
variable {P : Program} {w : World} {K : PySem.W.Frag} {mg : Str → Option Value} {base : Heap} {CB CO CT CE fE CF C fI : Addr} {mc : Value}
variable {pt : Option Pt} {σ : L2.St} {F F' F0 H0 H F2 H2 : Hp} {te ta tb ty td : TE} {ts tr : TA} {t u : TT} {D : Ends} {tz tu tw : TS} {l a x dx : Addr} {xs : List NEnt} {fs : List (Str × V)} {f : Str} {i : Nat}
theorem et_ofU (h : EvG K pt te σ F (fun d => ∃ b, d = .bool b)) : EtG pt (tTest te) σ F (fun _ => True) := fun H1 i g Q q => h H1 i g _ fun d v F2 H2 ⟨b, hd⟩ s hv => by
  subst hd
  obtain rfl := rp_bool hv
  exact ⟨b, rfl, q b F2 H2 trivial s⟩
theorem et_andW {a : Bool} {R : Bool → Prop} (h1 : EtG pt t σ F (· = a)) (h2 : a = true → EtG pt u σ F R) (hf : a = false → R false) : EtG pt (tAnd t u) σ F R := fun H1 i g Q q => h1 H1 i g _ fun c F2 H2 hc s => by
  subst hc
  cases c with
  | true =>
    rw [if_pos rfl]
    exact (h2 rfl).mono s.sub H2 s.inn s.good Q fun b F3 H3 hb s3 => q b F3 H3 hb (s.trans s3)
  | false =>
    rw [if_neg (by simp)]
    exact q false F2 H2 (hf rfl) s
theorem t_ifU1 {R : Bool → Prop} (s : Step pt F0 H0 F H) (h : EtG pt t σ F R) (h1 : R true → ∀ F2 H2, Step pt F0 H0 F2 H2 → Ex F F2 → tu D σ H2) (h2 : ∀ F2 H2, Step pt F0 H0 F2 H2 → Ex F F2 → tw D σ H2) : tIfS t tu tw D σ H := h H s.inn s.good _ fun b F2 H2 hb s2 => by
  cases b with
  | true => rw [if_pos rfl]; exact h1 hb F2 H2 (s.trans s2) s2.sub
  | false => rw [if_neg (by simp)]; exact h2 F2 H2 (s.trans s2) s2.sub
theorem lv2_due (k0 : List (List Key × V)) (k : Int) (vw : ORow) (fit : List (List Int)) (hz : vw.length ≤ 5) (hr : ∀ r ∈ fit, r.length ≤ 5) : lv2 (dueR k0 k vw fit) := by
  have hl := heard_len vw
  have at1 : ∀ l : List Int, l.length ≤ 20 → lv1 (dT l) := fun l h => ⟨by rw [List.length_map]; omega, fun d hd => by
    obtain ⟨j, _, rfl⟩ := List.mem_map.mp hd
    rfl⟩
  unfold dueR
  cases e : fit.filter (fun r => !decide (tv k0 r = k)) with
  | nil => rfl
  | cons r rs =>
    refine ⟨by simp, fun d hd => ?_⟩
    simp only [List.mem_cons, List.not_mem_nil, or_false] at hd
    rcases hd with rfl | rfl
    · refine at1 r ?_
      have : r ∈ fit := (List.mem_filter.mp (show r ∈ fit.filter _ by rw [e]; simp)).1
      have := hr r this
      omega
    · refine at1 _ ?_
      rw [List.length_append, List.length_take]; omega
def spRight (K : PySem.W.Frag) (CB CO : Addr) : Sp := fun vs H Q _ => ∃ (q : Pt) (n m : Nat) (R R2 M : List (List Int)) (k8 k0 : List (List Key × V)) (D0 x y : Addr) (vw : ORow) (F : Hp) (rv u : V), vs = [.ref q.p, rv, .ref D0, .int n, .int m, .ref x, .ref y, u] ∧ (Sit n m R R2 M k8 k0 ∧ vw.length = n ∧ ∀ o ∈ vw, ∀ k, o = some k → 0 ≤ k ∧ k < (m : Int)) ∧ Ex F H ∧ Good (some q) F H ∧ Bk K CB F x n m R2 ∧ Oc K CO F y M (M.map (tv k8)) ∧ F D0 = some (.dT k0) ∧ Rp K F rv (dLT R) ∧ Rp K F u (dO vw) ∧
  ∀ z F2 H2, Step (some q) F H F2 H2 → Rp K F2 z (.bool true) → Q z H2
theorem ok_right {f fG fO fH fS fR fP fD : Addr} {fd fdG fdO fdH fdS fdR fdP fdD : FuncData} (Fn : Fun K "_law_right" "_law_right" s_law_right f fd) (T : Tx mg)
    (F_law_goes : Fun K "_law_goes" "_law_goes" s_law_goes fG fdG) (b_law_goes : Binds K fdG ["_law_view", "_law_row"] []) (g_law_goes : mg "_law_goes" = some (.ref fG))
    (F_law_outside : Fun K "_law_outside" "_law_outside" s_law_outside fO fdO) (b_law_outside : Binds K fdO ["_law_book", "_law_outcomes", "_law_view"] []) (g_law_outside : mg "_law_outside" = some (.ref fO)) (G_law_outside : FnOk P w K mg base CX0 7 fO fdO ["_law_book", "_law_outcomes", "_law_view"] (spOutside K CB CO))
    (F_law_heard : Fun K "_law_heard" "_law_heard" s_law_heard fH fdH) (b_law_heard : Binds K fdH ["_law_view"] []) (g_law_heard : mg "_law_heard" = some (.ref fH))
    (F_sooner_run : Fun K "sooner_run" "sooner_run" s_sooner_run fS fdS) (b_sooner_run : Binds K fdS ["book", "outcomes", "view", "value"] []) (g_sooner_run : mg "sooner_run" = some (.ref fS)) (G_sooner_run : FnOk P w K mg base CX0 6 fS fdS ["book", "outcomes", "view", "value"] (spSoon K CB CO))
    (F_law_same : Fun K "_law_same" "_law_same" s_law_same fR fdR) (b_law_same : Binds K fdR ["_law_told", "_law_due"] []) (g_law_same : mg "_law_same" = some (.ref fR))
    (F_law_played : Fun K "_law_played" "_law_played" s_law_played fP fdP) (b_law_played : Binds K fdP ["_law_n", "_law_m", "_law_view", "_law_value", "_law_entry", "_law_run"] []) (g_law_played : mg "_law_played" = some (.ref fP)) (G_law_played : FnOk P w K mg base CX0 10 fP fdP ["_law_n", "_law_m", "_law_view", "_law_value", "_law_entry", "_law_run"] (spPlayed K))
    (F_law_draw : Fun K "_law_draw" "_law_draw" s_law_draw fD fdD) (b_law_draw : Binds K fdD ["_law_pot_here", "_law_many"] []) (g_law_draw : mg "_law_draw" = some (.ref fD)) :
    FnOk P w K mg base CX0 11 f fd ["_law_pot_here", "_law_rows_here", "_law_told", "_law_n", "_law_m", "_law_book", "_law_outcomes", "_law_view"] (spRight K CB CO) := by
  have G_law_goes : FnOk P w K mg base CX0 1 fG fdG ["_law_view", "_law_row"] (spGoes K) := ok_goesL F_law_goes T
  have G_law_heard : FnOk P w K mg base CX0 1 fH fdH ["_law_view"] (spLHeard K) := ok_lheard F_law_heard T
  have G_law_same : FnOk P w K mg base CX0 3 fR fdR ["_law_told", "_law_due"] (spSm K lv2) := ok_same F_law_same T b_law_same g_law_same
  have G_law_draw : FnOk P w K mg base CX0 1 fD fdD ["_law_pot_here", "_law_many"] (spDraw K) := ok_draw F_law_draw T
  refine Fn.ok sc_law_right (fun vs H Q E ⟨_, _, _, _, _, _, _, _, _, _, _, _, _, _, _, h, _⟩ => by rw [h]; rfl) (fun cdv A outer s H vs Q E hr h => ?_)
  obtain ⟨pq, n, m, R, R2, M, k8, k0, D0, x, y, vw, F, rv, u, rfl, ⟨S, hvw, hcells⟩, e, g, bk, oc, hD, hrv, hu, q⟩ := h
  have nm := S.nm
  have n5 := nm.n5
  have m4 := nm.m4
  refine ⟨_, (pss_cons (ps_setLc (i := 8) (own := [("_law_row", 9)]) (g := gName 9) rfl sc_law_right.nd rfl rfl (sw_true rfl rfl rfl (by decide +kernel)) (i_list (K := K) (pv 1)) (blkOk_by (own := [("_law_row", 9)]) (N := ["_law_pot_here", "_law_rows_here", "_law_told", "_law_n", "_law_m", "_law_book", "_law_outcomes", "_law_view", "_law_fit", "_law_row", "_law_heard_here", "_law_value", "_law_unlike", "_law_found"]) (sc := (defScope s_law_right)) (by decide +kernel)) (fun _ _ _ _ _ => pg_name (i := 9) sc_law_right.nd rfl (by first | exact Or.inl rfl | exact Or.inr rfl)) (fun _ _ _ _ _ => (pts_one (pt_val (pe_call G_law_goes (hr.mono (by decide)) (by rfl) g_law_goes F_law_goes.kp b_law_goes .nil pass0 (pa_cons (pv 7) (pa_cons (pv 9) pa_nil)))))) (fun _ _ _ _ _ => (pv 9)))
    (pss_cons (ps_if (pt_not (e_truth (K := K) (pv 8))) (pss_one (ps_ret (pe_call G_law_outside (hr.mono (by decide)) (by rfl) g_law_outside F_law_outside.kp b_law_outside .nil pass0 (pa_cons (pv 5) (pa_cons (pv 6) (pa_cons (pv 7) pa_nil)))))) pss_nil)
    (pss_cons (ps_set (i := 10) sc_law_right.nd rfl (by first | exact Or.inl rfl | exact Or.inr rfl) (pe_call G_law_heard (hr.mono (by decide)) (by rfl) g_law_heard F_law_heard.kp b_law_heard .nil pass0 (pa_cons (pv 7) pa_nil)))
    (pss_cons (ps_for PassesOwn.never rfl (pi_range1 (by rfl) T.range (pa_cons (pv 4) pa_nil)) (pg_name (i := 11) sc_law_right.nd rfl (by first | exact Or.inl rfl | exact Or.inr rfl)) (pss_cons (ps_setLc (i := 12) (own := [("_law_row", 9)]) (g := gName 9) rfl sc_law_right.nd rfl rfl (sw_true rfl rfl rfl (by decide +kernel)) (i_list (K := K) (pv 8)) (blkOk_by (own := [("_law_row", 9)]) (N := ["_law_pot_here", "_law_rows_here", "_law_told", "_law_n", "_law_m", "_law_book", "_law_outcomes", "_law_view", "_law_fit", "_law_row", "_law_heard_here", "_law_value", "_law_unlike", "_law_found"]) (sc := (defScope s_law_right)) (by decide +kernel)) (fun _ _ _ _ _ => pg_name (i := 9) sc_law_right.nd rfl (by first | exact Or.inl rfl | exact Or.inr rfl)) (fun _ _ _ _ _ => (pts_one (pt_cmpR op_ne (pe_dget (hu_of hr) (pv 2) (pv 9) (fun _ _ => rfl)) (pv 11) (nomark _)))) (fun _ _ _ _ _ => (pv 9)))
    (pss_cons (ps_set (i := 13) sc_law_right.nd rfl (by first | exact Or.inl rfl | exact Or.inr rfl) (pe_call G_sooner_run (hr.mono (by decide)) (by rfl) g_sooner_run F_sooner_run.kp b_sooner_run .nil pass0 (pa_cons (pv 5) (pa_cons (pv 6) (pa_cons (pv 7) (pa_cons (pv 11) pa_nil))))))
    (pss_cons (ps_if (pt_not (pt_val (pe_call G_law_same (hr.mono (by decide)) (by rfl) g_law_same F_law_same.kp b_law_same .nil pass0 (pa_cons (pv 13) (pa_cons (pe_ifExp (e_truth (K := K) (pv 12)) (pe_tup (pa_cons (pe_ix (o_ixL (K := K)) (pv 12) pe_int (fun _ _ => rfl)) (pa_cons (pe_op (o_catA (K := K)) (pv 10) (pe_slice (s_any (K := K)) (pv 10) (po_some pe_int) (po_some pe_int))) pa_nil))) pe_non) pa_nil))))) (pss_one (ps_ret pe_bl)) pss_nil)
    (pss_one (ps_if (PW.pt (pw_and (e_truth (K := K) (pv 12)) (pw_and (e_truth (K := K) (pv 10)) (pw_and1 (pt_cmpR op_eq (pe_call G_law_draw (hr.mono (by decide)) (by rfl) g_law_draw F_law_draw.kp b_law_draw .nil pass0 (pa_cons (pv 0) (pa_cons pe_int pa_nil))) pe_int (nomark _)))))) (pss_one (ps_if (pt_not (pt_val (pe_call G_law_played (hr.mono (by decide)) (by rfl) g_law_played F_law_played.kp b_law_played .nil pass0 (pa_cons (pv 3) (pa_cons (pv 4) (pa_cons (pv 7) (pa_cons (pv 11) (pa_cons (pe_ix (o_ixL (K := K)) (pv 12) pe_int (fun _ _ => rfl)) (pa_cons (pe_op (o_catA (K := K)) (pv 10) (pe_slice (s_any (K := K)) (pv 10) (po_some pe_int) (po_some pe_int))) pa_nil))))))))) (pss_one (ps_ret pe_bl)) pss_nil)) pss_nil))))))
    (pss_one (ps_ret pe_bl)))))), ?_⟩
  have s0 : Step (some pq) F H F H := Step.refl e g
  have fl : (R.filter (goesB vw)).length ≤ 60 := Nat.le_trans (List.length_filter_le _ _) S.few
  have hlen : ∀ r ∈ R, r.length = n := fun r hr' => (S.row r hr').1
  have gn : ∀ {σ' : L2.St} {F' : Hp}, σ'[3]? = some (some (.int (n : Int))) → EvG K (some pq) (tVar 3) σ' F' (Is (.int (n : Int))) := fun h => g_var (v := .int n) h (.int _)
  have gm : ∀ {σ' : L2.St} {F' : Hp}, σ'[4]? = some (some (.int (m : Int))) → EvG K (some pq) (tVar 4) σ' F' (Is (.int (m : Int))) := fun h => g_var (v := .int m) h (.int _)
  refine t_asgI (K := K) (d := dLT (R.filter (goesB vw))) s0 (g_lcE dT R (goesB vw) dT (w_listI (g_var rfl hrv)) (by have := S.few; omega) (fun _ => rfl) (fun r hr' F3 e3 w hw => et_B (g_call (vw, r) (gs_two (g_var rfl (Rp.mono e3 _ _ hu)) (g_var rfl hw)) rfl ⟨by show vw.length = r.length; rw [hvw, hlen r hr'], by show vw.length ≤ 100; omega⟩)) (fun r _ _ F3 e3 w hw => g_var rfl hw)) fun fv F1 H1 s1 e1 hfv => ?_
  refine t_when (b := !(!((R.filter (goesB vw)).map dT).isEmpty)) s1 (et_not (et_truL (g_var rfl hfv))) (fun hb F2 H2 s2 e2 => ?_) (fun hb F2 H2 s2 e2 => ?_)
  · have hnil : R.filter (goesB vw) = [] := by
      cases hq : R.filter (goesB vw) with
      | nil => rfl
      | cons _ _ => rw [hq] at hb; simp at hb
    have e12 := e1.trans e2
    exact t_retI (K := K) s2 (fun H3 i3 g3 Q' q' => ⟨_, rfl, _, rfl, _, rfl, x, y, n, m, R2, M, M.map (tv k8), vw, F2, u, rfl, S.sd hvw, (fit_nil S).mpr hnil, i3, bk.mono e12, oc.mono e12, Rp.mono e12 _ _ hu, fun F4 H4 s4 => q' _ _ F4 H4 rfl (s4.lift g3) (.bl true)⟩) q
  · have hne : R.filter (goesB vw) ≠ [] := fun z => by rw [z] at hb; simp at hb
    have hne2 : R2.filter (goesB vw) ≠ [] := fun z => hne ((fit_nil S).mp z)
    have e12 := e1.trans e2
    have hfv2 := Rp.mono e2 _ _ hfv
    refine t_asgI (K := K) (d := dT (heardV vw)) s2 (g_call vw (gs_one (g_var rfl (Rp.mono e12 _ _ hu))) rfl (by show vw.length ≤ 60; omega)) fun hv F3 H3 s3 e3 hhv => ?_
    have e13 := e12.trans e3
    have hfv3 := Rp.mono e3 _ _ hfv2
    have hhl := heard_len vw
    refine t_for (K := K) (ds := (List.range m).map natD) s3 (w_range (gm rfl) (by omega)) (fun i σ' F' => ∃ z9 z11 z12 z13, σ' = [some (.ref pq.p), some rv, some (.ref D0), some (.int n), some (.int m), some (.ref x), some (.ref y), some u, some fv, z9, some hv, z11, z12, z13]) (fun F2 e2 => ⟨_, _, _, _, rfl⟩) (fun i d hd σ' F4 H4 w hI s4 e4 hw N hN => ?_) (fun σ' F4 H4 hI s4 e4 => ?_)
    · obtain ⟨z9, z11, z12, z13, rfl⟩ := hI
      have hi : i < m := by have := (List.getElem?_eq_some_iff.mp hd).1; simpa using this
      have ed : d = natD i := by
        rw [List.getElem?_map, List.getElem?_range hi] at hd
        exact (Option.some.inj hd).symm
      subst ed
      obtain rfl := rp_int hw
      have e14 := e13.trans e4
      have gv : ∀ {σ' : L2.St} {F' : Hp}, σ'[11]? = some (some (.int (i : Int))) → EvG K (some pq) (tVar 11) σ' F' (Is (.int (i : Int))) := fun h => g_var (v := .int (i : Int)) h (.int _)
      have hfv4 := Rp.mono e4 _ _ hfv3
      generalize hun : (R.filter (goesB vw)).filter (fun r => !decide (tv k0 r = (i : Int))) = un
      have hdue : dueR k0 (i : Int) vw (R.filter (goesB vw)) = dueOf vw un := by
        unfold dueR
        rw [hun]
      have hul : un.length ≤ 60 := by rw [← hun]; exact Nat.le_trans (List.length_filter_le _ _) fl
      refine t_asgI (K := K) (d := dLT un) s4 ((g_lcE dT (R.filter (goesB vw)) (fun r => !decide (tv k0 r = (i : Int))) dT (w_listI (g_var rfl hfv4)) (by omega) (fun _ => rfl) (fun r hr' F5 e5 y2 hy => ?_) (fun r _ _ F5 e5 y2 hy => g_var rfl hy)).is (by rw [hun])) fun uv F5 H5 s5 e5 huv => ?_
      · exact et_of (K := K) (g_opI (g_dget (kvs := k0) (m := r) (fun H6 i6 g6 Q6 q6 => ⟨_, rfl, q6 _ F5 H6 ⟨D0, rfl, (e14.trans e5) _ _ hD⟩ (.refl i6 g6)⟩) (fun F6 e6 => g_var rfl (Rp.mono e6 _ _ hy)) (S.tl r (List.mem_filter.mp hr').1)) (gv rfl) rv_neI)
      have e15 := e14.trans e5
      refine t_asgI (K := K) (d := dueR k0 (i : Int) vw (R.filter (goesB vw))) s5 (fun H6 i6 g6 Q' q' => ⟨_, rfl, _, rfl, _, rfl, _, rfl, x, y, n, m, R2, M, M.map (tv k8), vw, (i : Int), F5, u, rfl, S.sd hvw, hne2, i6, bk.mono e15, oc.mono e15, Rp.mono e15 _ _ hu, fun z F7 H7 s7 hz => q' _ z F7 H7 rfl (s7.lift g6) (by rw [← soon_due S]; exact hz)⟩) fun sv F6 H6 s6 e6 hsv => ?_
      have huv6 := Rp.mono e6 _ _ huv
      have hhv6 := Rp.mono ((e4.trans e5).trans e6) _ _ hhv
      have grun : ∀ {σ' : L2.St} {F' : Hp}, Ex F6 F' → σ'[10]? = some (some hv) → EvG K (some pq) (tOp (rCatA K) (tVar 10) (tSl (rSlU K) (tVar 10) (tPart (tC (.int 0))) (tPart (tC (.int 1))))) σ' F' (Is (dT (heardV vw ++ (heardV vw).take 1))) := fun {σ' F'} ee h => by
        have hh := Rp.mono ee _ _ hhv6
        refine (g_opI (g_var h hh) (g_slU0 (i := 1) (ds := (heardV vw).map PyData.int) (.inr rfl) (g_var h hh) g_int) (rv_catA (by simp; omega))).is ?_
        show PyData.tuple _ = PyData.tuple _
        simp only [List.map_append, List.map_take]
      have gfst : ∀ {σ' : L2.St} {F' : Hp} {r : List Int} {rs : List (List Int)}, un = r :: rs → Ex F6 F' → σ'[12]? = some (some uv) → EvG K (some pq) (tOp (rIxL K) (tVar 12) (tC (.int 0))) σ' F' (Is (dT r)) := fun {σ' F' r rs} he ee h => by
        have hh := Rp.mono ee _ _ huv6
        rw [he] at hh
        exact g_opI (g_var h hh) g_int (rv_ixL (d := dT r) (atI_nat (j := 0) rfl))
      refine t_skip s6 (et_not (b := true) (et_B (K := K) (g_call (dueR k0 (i : Int) vw (R.filter (goesB vw))) (gs_two (g_var (i := 13) rfl hsv) (g_ifX (b := !(un.map dT).isEmpty) (et_truL (g_var (i := 12) rfl huv6)) (fun hb7 => ?_) (fun hb7 => ?_))) rfl (lv2_due _ _ _ _ (by omega) fun r hr' => by have := hlen r (List.mem_filter.mp hr').1; omega)))) fun F7 H7 s7 e7 => ?_
      · cases un with
        | nil => simp at hb7
        | cons r rs =>
          rw [hdue]
          exact g_tupI (gs_two (gfst rfl (Ex.refl F6) rfl) (grun (Ex.refl F6) rfl)) (by simp)
      · cases un with
        | nil => rw [hdue]; exact g_non
        | cons r rs => simp at hb7
      have huv7 := Rp.mono e7 _ _ huv6
      have hhv7 := Rp.mono e7 _ _ hhv6
      refine t_ifU1 (R := fun c => c = true → un ≠ [] ∧ heardV vw ≠ []) s7 (et_andW (a := !(un.map dT).isEmpty) (et_truL (g_var (i := 12) rfl huv7)) (fun h1 => et_andW (a := !((heardV vw).map PyData.int).isEmpty) (et_truT (g_var (i := 10) rfl hhv7)) (fun h2 => ?_) (fun _ z => by cases z)) (fun _ z => by cases z)) (fun hc F8 H8 s8 e8 => ?_) (fun F8 H8 s8 e8 => hN _ F8 H8 ⟨_, _, _, _, rfl⟩ s8 (((e5.trans e6).trans e7).trans e8))
      · have a1 : un ≠ [] := fun z => by rw [z] at h1; simp at h1
        have a2 : heardV vw ≠ [] := fun z => by rw [z] at h2; simp at h2
        refine fun H9 i9 g9 Q9 q9 => (et_ofU (K := K) (g_op (R3 := fun z => ∃ b : Bool, z = .bool b) (g_callP (m := 4) rfl g_int ⟨by omega, by omega⟩) g_int fun d1 d2 ⟨k, h1, _⟩ h2 => ?_)) H9 i9 g9 Q9 fun b F9 H9' _ s9 => q9 b F9 H9' (fun _ => ⟨a1, a2⟩) s9
        subst h1; subst h2
        intro F H x y i hx hy Q q
        exact rv_eqI F H x y i hx hy Q fun z v F2 H2 hz s hv => q z v F2 H2 ⟨_, hz⟩ s hv
      · obtain ⟨a1, a2⟩ := hc rfl
        obtain ⟨r, rs, hur⟩ : ∃ r rs, un = r :: rs := by
          cases un with
          | nil => exact absurd rfl a1
          | cons a b => exact ⟨a, b, rfl⟩
        have hrm : r ∈ R.filter (goesB vw) := (List.mem_filter.mp (show r ∈ (R.filter (goesB vw)).filter _ by rw [hun, hur]; simp)).1
        obtain ⟨hrR, hrg⟩ := List.mem_filter.mp hrm
        have hrow := S.row r hrR
        have e18 := ((e15.trans e6).trans e7).trans e8
        have e68 := e7.trans e8
        refine t_if1 (b := false) s8 (et_not (b := true) (et_B (K := K) (b := true) ?_)) (fun z => by cases z) fun _ F9 H9 s9 e9 => hN _ F9 H9 ⟨_, _, _, _, rfl⟩ s9 ((((e5.trans e6).trans e7).trans e8).trans e9)
        refine fun H9 i9 g9 Q9 q9 => ⟨_, rfl, _, rfl, _, rfl, _, rfl, gfst hur e68 rfl H9 i9 g9 _ fun d v F10 H10 hd10 s10 hv10 => grun (e68.trans s10.sub) rfl H10 s10.inn s10.good _ fun d2 v2 F11 H11 hd11 s11 hv11 => ?_⟩
        rw [show d = _ from hd10] at hv10
        rw [show d2 = _ from hd11] at hv11
        have e0B := (e18.trans s10.sub).trans s11.sub
        exact ⟨n, m, vw, (i : Int), r, F11, u, v, v2, rfl, ⟨nm, ⟨hvw, hcells, by omega, by omega⟩, hrow.1, hrow.2, hrg, a2⟩, s11.inn, Rp.mono e0B _ _ hu, Rp.mono s11.sub _ _ hv10, hv11, fun z F12 H12 s12 hz => q9 _ z F12 H12 rfl ((s10.trans s11).trans (s12.lift s11.good)) hz⟩
    · exact t_retI (K := K) s4 g_bl q
end
end KC

namespace KC
open PySem PySem.Spec PyProof.Rows L2 L2H Fv Evl StX
abbrev s_law : Stmt := topS 81
theorem sc_law : FnScope ["_law_script", "_law_pot_here", "_law_n", "_law_m", "_law_lots_here", "_law_rows_here", "_law_told", "_law_book", "_law_outcomes", "_law_views_here", "_law_at", "_law_view"] ["_law_script"] (defScope s_law) := ⟨rfl, rfl, rfl, by decide +kernel, rfl, by decide +kernel, by decide +kernel⟩
theorem views_cells (m : Nat) : ∀ n, ∀ vw ∈ viewsOf m n, ∀ o ∈ vw, ∀ k, o = some k → 0 ≤ k ∧ k < (m : Int)
  | 0, vw, h, o, ho, k, e => by
    have : vw = [] := List.mem_singleton.mp h
    rw [this] at ho; cases ho
  | n + 1, vw, h, o, ho, k, e => by
    obtain ⟨r0, hr0, hr1⟩ := List.mem_flatMap.mp h
    obtain ⟨j, hj, rfl⟩ := List.mem_map.mp hr1
    rcases List.mem_append.mp ho with z | z
    · exact views_cells m n r0 hr0 o z k e
    · rw [List.mem_singleton.mp z] at e
      subst e
      rcases List.mem_cons.mp hj with y | y
      · cases y
      · obtain ⟨i, hi, e2⟩ := List.mem_map.mp y
        have : (i : Int) = k := by simpa using e2
        have := List.mem_range.mp hi
        omega
section
variable {P : Program} {w : World} {K : PySem.W.Frag} {mg : Str → Option Value} {base : Heap} {CB CO CT CE fE CF : Addr}
variable {pt : Option Pt} {σ : L2.St} {F F' F0 H0 H : Hp} {te ti ta tb tc tm td : TE} {ts tr : TA} {D : Ends} {tz : TS} {l : Addr} {kvs : List (List Key × V)}
theorem t_two {i j n : Nat} {Rz : PyData → PyData → Prop} (s : Step pt F0 H0 F H) (h : EvG K pt te σ F (fun d => ∃ d1 d2, d = .tuple [d1, d2] ∧ Rz d1 d2)) (hn : n = 2) (q : ∀ d1 d2 v1 v2 F2 H2, Rz d1 d2 → Step pt F0 H0 F2 H2 → Ex F F2 → Rp K F2 v1 d1 → Rp K F2 v2 d2 → tz D ((σ.set i (some v1)).set j (some v2)) H2) :
    tSeq (tAsg te (gTup K n (gCons (gName i) (gCons (gName j) gNil)))) tz D σ H := h H s.inn s.good _ fun d v F2 H2 ⟨d1, d2, hd, hR⟩ s2 hv => by
  subst hd
  obtain ⟨a, xs, rfl, hl, ha⟩ := rp_tup hv
  obtain ⟨x1, x2, rfl, h1, h2⟩ := rpAll2 ha
  exact ⟨a, _, rfl, SqT.of (s2.inn _ _ hl), hn.symm, x1, _, rfl, x2, _, rfl, rfl, q d1 d2 x1 x2 F2 H2 hR (s.trans s2) s2.sub h1 h2⟩
theorem x_bookE {E : XK} {n m : Nat} {src : PyData} {rs : List (List Int)} (h : EvsG K pt ts σ F (· = [.int (n : Int), .int (m : Int), src])) (h1 : RowsD src rs) (hn : 2 ≤ n ∧ n ≤ 5) (hm : 1 ≤ m ∧ m ≤ 4) (hl : rs.length < 64) (hr : ∀ r ∈ rs, Row n m r) :
    EvX pt (tMake CB (spBook K CB) [] E ts) σ F (fun v F2 => ∃ x R, v = .ref x ∧ Asc R ∧ (∀ r, r ∈ R ↔ r ∈ rs) ∧ Bk K CB F2 x n m R) := fun H1 i g Q q =>
  h H1 i g _ fun ds vs F2 H2 hd s hv => by
    subst hd
    obtain ⟨a, b, v, rfl, ha, hb, hv⟩ := rpAll3 hv
    rw [rp_int ha, rp_int hb]
    intro x dx hx hdx hne
    have fr : ∀ {a : Addr}, H2 a = none → F2 a = none := fun {a} h => by
      cases w : F2 a with
      | none => rfl
      | some o => rw [s.inn _ _ w] at h; cases h
    have n1 : (upd H2 dx (.own x)) x = none := by rw [upd_ne hne.symm]; exact hx
    have e1 : Ex H2 (upd (upd H2 dx (.own x)) x (.ins CB dx [])) := (Ex.new hdx).trans (Ex.new n1)
    refine ⟨x, dx, n, m, src, rs, F2, v, rfl, upd_same, by rw [upd_ne hne]; exact upd_same, hne, fr hx, fr hdx, s.inn.trans e1, hv, h1, hn, hm, hl, hr, fun F3 H3 R s3 ha' hm' bk => ⟨rfl, ?_⟩⟩
    have back : Fv.del (Fv.del (upd (upd H2 dx (.own x)) x (.ins CB dx [])) x) dx = H2 := by
      funext b
      by_cases z : b = dx
      · rw [z, Fv.del_same, hdx]
      · rw [Fv.del_ne z]
        by_cases y : b = x
        · rw [y, Fv.del_same, hx]
        · rw [Fv.del_ne y, upd_ne y, upd_ne z]
    rw [back] at s3
    exact q _ F3 H3 ⟨x, R, rfl, ha', hm', bk⟩ (s.trans (s3.lift s.good))
theorem t_asgE {i : Nat} {Φ : V → Hp → Prop} (s : Step pt F0 H0 F H) (h : EvX pt te σ F Φ) (q : ∀ v F2 H2, Φ v F2 → Step pt F0 H0 F2 H2 → Ex F F2 → tz D (σ.set i (some v)) H2) : tSeq (tAsg te (gName i)) tz D σ H :=
  h H s.inn s.good _ fun v F2 H2 hv s2 => q v F2 H2 hv (s.trans s2) s2.sub
theorem x_any {E : XK} {mn : Str} {q : Pt} {j : Nat} {R lots : List (List Int)} {n m : Nat} (h0 : σ[j]? = some (some (.ref q.p))) (h : EvsG K (some q) ts σ F (· = [dLT R, .int m, dLT lots, .str mn])) (hp : 1 ≤ n ∧ n ≤ 5 ∧ R.length ≤ 60 ∧ (∀ r ∈ R, r.length = n) ∧ 1 ≤ m ∧ m ≤ 4 ∧ calmP mn n m lots R) :
    EvX (some q) (tCall (spAny K mn) [] E (tCons (tVar j) ts)) σ F (fun v F2 => ∃ D kvs, v = .ref D ∧ F2 D = some (.dT kvs) ∧ Told kvs R m ∧ OneV n lots R kvs) := fun H1 i g Q k =>
  ⟨_, h0, h H1 i g _ fun ds vs F2 H2 hd s2 hv => by
    subst hd
    obtain ⟨a, b, c, d, rfl, ha, hb, hc, hd⟩ := rpAll4 hv
    obtain rfl := rp_int hb
    exact ⟨q, R, lots, n, m, F2, a, c, d, rfl, hp, s2.inn, s2.good, ha, hc, hd, fun Dd kvs F3 H3 hn ht h1 hz s3 hD => k _ F3 H3 ⟨Dd, kvs, rfl, hD, ht, h1⟩ (s2.trans s3)⟩⟩
theorem x_wild {E : XK} {q : Pt} {j : Nat} {R : List (List Int)} {m : Nat} (h0 : σ[j]? = some (some (.ref q.p))) (h : EvsG K (some q) ts σ F (· = [dLT R, .int m])) (hp : R.length ≤ 100 ∧ 1 ≤ m ∧ m ≤ 4) :
    EvX (some q) (tCall (spWild K) [] E (tCons (tVar j) ts)) σ F (fun v F2 => ∃ D kvs, v = .ref D ∧ F2 D = some (.dT kvs) ∧ Told kvs R m) := fun H1 i g Q k =>
  ⟨_, h0, h H1 i g _ fun ds vs F2 H2 hd s2 hv => by
    subst hd
    obtain ⟨a, b, rfl, ha, hb⟩ := rpAll2 hv
    obtain rfl := rp_int hb
    exact ⟨q, R, m, F2, a, rfl, hp, s2.inn, s2.good, ha, fun Dd kvs F3 H3 hn ht hz s3 hD => k _ F3 H3 ⟨Dd, kvs, rfl, hD, ht⟩ (s2.trans s3)⟩⟩
theorem x_wide {E : XK} {q : Pt} {i0 i1 i2 i3 i4 : Nat} {n m : Nat} {R : List (List Int)} {D0 : Addr} {kvs0 : List (List Key × V)} {v : V} (h0 : σ[i0]? = some (some (.ref q.p))) (h1 : σ[i1]? = some (some (.int n))) (h2 : σ[i2]? = some (some (.int m))) (h3 : σ[i3]? = some (some v)) (h4 : σ[i4]? = some (some (.ref D0)))
    (hp : (1 ≤ n ∧ n ≤ 5) ∧ (1 ≤ m ∧ m ≤ 4) ∧ R.length ≤ 60 ∧ (∀ r ∈ R, Row n m r) ∧ Told kvs0 R m) (hD : F D0 = some (.dT kvs0)) (hv : Rp K F v (dLT R)) :
    EvX (some q) (tCall (spWide K CO) [] E (tCons (tVar i0) (tCons (tVar i1) (tCons (tVar i2) (tCons (tVar i3) (tCons (tVar i4) tNil)))))) σ F (fun v F2 => ∃ x M M' kvs, v = .ref x ∧ WideP n m kvs0 R kvs M ∧ M'.Perm M ∧ M.length ≤ 70 ∧ Oc K CO F2 x M' (M'.map (tv kvs))) := fun H1 e g Q k =>
  ⟨_, h0, _, h1, _, h2, _, h3, _, h4, q, n, m, R, D0, kvs0, F, v, rfl, hp, e, g, hD, hv, fun x M M' kvs F2 H2 w1 w2 w3 s oc => k _ F2 H2 ⟨x, M, M', kvs, rfl, w1, w2, w3, oc⟩ s⟩
theorem srt_asc {R : List (List Int)} (h : Asc R) : Srt R := List.Pairwise.imp (fun h => Int.le_of_lt h) h
theorem val_in {M : List (List Int)} {kvs : List (List Key × V)} {x : List Int} (hx : x ∈ M) : valR M (M.map (tv kvs)) x = tv kvs x := by
  have hi := List.idxOf_lt_length_of_mem hx
  unfold valR
  rw [List.getD_eq_getElem?_getD, List.getElem?_map, List.getElem?_eq_getElem hi]
  show tv kvs _ = _
  rw [List.getElem_idxOf hi]
theorem cut_fr (xs : List V) (k : Nat) : cutV xs (some (k : Int)) none = xs.drop k := by
  unfold cutV
  rw [HT.sIx_nat, HT.sIx_none]
  by_cases z : k ≤ xs.length
  · rw [Nat.min_eq_left z]
    exact List.take_of_length_le (by rw [List.length_drop]; omega)
  · rw [Nat.min_eq_right (by omega), Nat.sub_self, List.take_zero, List.drop_eq_nil_of_le (by omega)]
theorem rp_drop {F : Hp} : ∀ (n : Nat) {xs : List V} {ds : List PyData}, RpAll K F xs ds → RpAll K F (xs.drop n) (ds.drop n)
  | 0, _, _, h => h
  | n + 1, _, _, h => by
    cases h with
    | nil => exact .nil
    | cons h1 h2 => exact rp_drop n h2
theorem g_slF {ds : List PyData} {k : Nat} (h : EvG K pt te σ F (Is (.list ds))) (hk : EvG K pt ti σ F (Is (.int (k : Int)))) : EvG K pt (tSl (rSlL K) te (tPart ti) tNoPart) σ F (Is (.list (ds.drop k))) := fun H1 e g Q q =>
  h H1 e g _ fun d v F2 H2 hd s hv => hk.mono s.sub H2 s.inn s.good _ fun e2 u F3 H3 he s2 hu => by
    subst hd; subst he
    obtain rfl := rp_int hu
    obtain ⟨a, xs, rfl, hl, ha⟩ := rp_lst hv
    refine ⟨(k : Int), rfl, a, xs, rfl, SqL.of (s2.inn _ _ (s2.sub _ _ hl)), fun p hp => ?_⟩
    rw [cut_fr]
    have s3 : Step pt F3 H3 (upd F3 p (.lst (xs.drop k))) (upd H3 p (.lst (xs.drop k))) := .laid s2.inn s2.good hp
    exact q _ _ _ _ rfl ((s.trans s2).trans s3) (.lst upd_same (RpAll.mono (s2.sub.trans s3.sub) _ _ (rp_drop k ha)))
def spLaw (K : PySem.W.Frag) : Sp := fun vs H Q _ => ∃ (a : Addr) (ns : List Int), vs = [.ref a] ∧ SqL K H a (ns.map V.int) ∧ ∀ H', Q (.bl true) H'
theorem ok_law {f fP fZ fD fL fC fA fW fI fT fV fX : Addr} {fd fdP fdZ fdD fdL fdC fdA fdW fdB fdT fdV fdX : FuncData} (Fn : Fun K "law" "law" s_law f fd) (T : Tx mg)
    (F_law_pot : Fun K "_law_pot" "_law_pot" s_law_pot fP fdP) (b_law_pot : Binds K fdP ["_law_script", "_law_salt"] []) (g_law_pot : mg "_law_pot" = some (.ref fP))
    (F_law_sizes : Fun K "_law_sizes" "_law_sizes" s_law_sizes fZ fdZ) (b_law_sizes : Binds K fdZ ["_law_pot_here"] []) (g_law_sizes : mg "_law_sizes" = some (.ref fZ))
    (F_law_draw : Fun K "_law_draw" "_law_draw" s_law_draw fD fdD) (b_law_draw : Binds K fdD ["_law_pot_here", "_law_many"] []) (g_law_draw : mg "_law_draw" = some (.ref fD))
    (F_law_lots : Fun K "_law_lots" "_law_lots" s_law_lots fL fdL) (b_law_lots : Binds K fdL ["_law_pot_here", "_law_n"] []) (g_law_lots : mg "_law_lots" = some (.ref fL)) (G_law_lots : FnOk P w K mg base CX0 3 fL fdL ["_law_pot_here", "_law_n"] (spLawLots K))
    (F_law_calm_rows : Fun K "_law_calm_rows" "_law_calm_rows" s_law_calm_rows fC fdC) (b_law_calm_rows : Binds K fdC ["_law_pot_here", "_law_n", "_law_m", "_law_lots_here", "_law_manner"] []) (g_law_calm_rows : mg "_law_calm_rows" = some (.ref fC)) (G_law_calm_rows : FnOk P w K mg base CX0 5 fC fdC ["_law_pot_here", "_law_n", "_law_m", "_law_lots_here", "_law_manner"] (spCalm K "sure"))
    (F_law_any_told : Fun K "_law_any_told" "_law_any_told" s_law_any_told fA fdA) (b_law_any_told : Binds K fdA ["_law_pot_here", "_law_rows_here", "_law_m", "_law_lots_here", "_law_manner"] []) (g_law_any_told : mg "_law_any_told" = some (.ref fA)) (G_law_any_told : FnOk P w K mg base CX0 4 fA fdA ["_law_pot_here", "_law_rows_here", "_law_m", "_law_lots_here", "_law_manner"] (spAny K "sure"))
    (F_law_wild_told : Fun K "_law_wild_told" "_law_wild_told" s_law_wild_told fW fdW) (b_law_wild_told : Binds K fdW ["_law_pot_here", "_law_rows_here", "_law_m"] []) (g_law_wild_told : mg "_law_wild_told" = some (.ref fW))
    (M_Book : Mk K CB fI) (g_Book : mg "Book" = some (.ref CB)) (b_Book : Binds K fdB ["self", "houses", "values", "inputs"] []) (G_Book : FnOk P w K mg base CX0 4 fI fdB ["self", "houses", "values", "inputs"] (spBook K CB))
    (F_law_wide_table : Fun K "_law_wide_table" "_law_wide_table" s_law_wide_table fT fdT) (b_law_wide_table : Binds K fdT ["_law_pot_here", "_law_n", "_law_m", "_law_rows_here", "_law_told"] []) (g_law_wide_table : mg "_law_wide_table" = some (.ref fT)) (G_law_wide_table : FnOk P w K mg base CX0 8 fT fdT ["_law_pot_here", "_law_n", "_law_m", "_law_rows_here", "_law_told"] (spWide K CO))
    (F_law_views : Fun K "_law_views" "_law_views" s_law_views fV fdV) (b_law_views : Binds K fdV ["_law_n", "_law_m"] []) (g_law_views : mg "_law_views" = some (.ref fV)) (G_law_views : FnOk P w K mg base CX0 2 fV fdV ["_law_n", "_law_m"] (spViews K))
    (F_law_right : Fun K "_law_right" "_law_right" s_law_right fX fdX) (b_law_right : Binds K fdX ["_law_pot_here", "_law_rows_here", "_law_told", "_law_n", "_law_m", "_law_book", "_law_outcomes", "_law_view"] []) (g_law_right : mg "_law_right" = some (.ref fX)) (G_law_right : FnOk P w K mg base CX0 11 fX fdX ["_law_pot_here", "_law_rows_here", "_law_told", "_law_n", "_law_m", "_law_book", "_law_outcomes", "_law_view"] (spRight K CB CO)) :
    FnOk P w K mg base CX0 12 f fd ["_law_script"] (spLaw K) := by
  have G_law_pot : FnOk P w K mg base CX0 1 fP fdP ["_law_script", "_law_salt"] (spPot K) := ok_pot F_law_pot T
  have G_law_draw : FnOk P w K mg base CX0 1 fD fdD ["_law_pot_here", "_law_many"] (spDraw K) := ok_draw F_law_draw T
  have G_law_sizes : FnOk P w K mg base CX0 2 fZ fdZ ["_law_pot_here"] (spSizes K) := ok_sizes F_law_sizes T F_law_draw b_law_draw g_law_draw
  have G_law_wild_told : FnOk P w K mg base CX0 2 fW fdW ["_law_pot_here", "_law_rows_here", "_law_m"] (spWild K) := ok_wild F_law_wild_told T F_law_draw b_law_draw g_law_draw
  refine Fn.ok sc_law (fun vs H Q E ⟨_, _, h, _⟩ => by rw [h]; rfl) (fun cdv A outer s H vs Q E hr h => ?_)
  obtain ⟨a, ns, rfl, hS, q⟩ := h
  refine ⟨_, (pss_cons (ps_set (i := 1) sc_law.nd rfl (by first | exact Or.inl rfl | exact Or.inr rfl) (pe_call G_law_pot (hr.mono (by decide)) (by rfl) g_law_pot F_law_pot.kp b_law_pot .nil pass0 (pa_cons (pv 0) (pa_cons pe_int pa_nil))))
    (pss_cons (ps_asg (pe_call G_law_sizes (hr.mono (by decide)) (by rfl) g_law_sizes F_law_sizes.kp b_law_sizes .nil pass0 (pa_cons (pv 1) pa_nil)) (pg_tup rfl (pgs_cons (pg_name (i := 2) sc_law.nd rfl (by first | exact Or.inl rfl | exact Or.inr rfl)) (pgs_cons (pg_name (i := 3) sc_law.nd rfl (by first | exact Or.inl rfl | exact Or.inr rfl)) pgs_nil))))
    (pss_cons (ps_set (i := 4) sc_law.nd rfl (by first | exact Or.inl rfl | exact Or.inr rfl) (pe_call G_law_lots (hr.mono (by decide)) (by rfl) g_law_lots F_law_lots.kp b_law_lots .nil pass0 (pa_cons (pv 1) (pa_cons (pv 2) pa_nil))))
    (pss_cons (ps_set (i := 5) sc_law.nd rfl (by first | exact Or.inl rfl | exact Or.inr rfl) (pe_call G_law_calm_rows (hr.mono (by decide)) (by rfl) g_law_calm_rows F_law_calm_rows.kp b_law_calm_rows .nil pass0 (pa_cons (pv 1) (pa_cons (pv 2) (pa_cons (pv 3) (pa_cons (pv 4) (pa_cons pe_str pa_nil)))))))
    (pss_cons (ps_set (i := 6) sc_law.nd rfl (by first | exact Or.inl rfl | exact Or.inr rfl) (pe_call G_law_any_told (hr.mono (by decide)) (by rfl) g_law_any_told F_law_any_told.kp b_law_any_told .nil pass0 (pa_cons (pv 1) (pa_cons (pv 5) (pa_cons (pv 3) (pa_cons (pv 4) (pa_cons pe_str pa_nil)))))))
    (pss_cons (ps_if (pt_cmpR op_eq (pe_call G_law_draw (hr.mono (by decide)) (by rfl) g_law_draw F_law_draw.kp b_law_draw .nil pass0 (pa_cons (pv 1) (pa_cons pe_int pa_nil))) pe_int (nomark _)) (pss_one (ps_set (i := 6) sc_law.nd rfl (by first | exact Or.inl rfl | exact Or.inr rfl) (pe_call G_law_wild_told (hr.mono (by decide)) (by rfl) g_law_wild_told F_law_wild_told.kp b_law_wild_told .nil pass0 (pa_cons (pv 1) (pa_cons (pv 5) (pa_cons (pv 3) pa_nil)))))) pss_nil)
    (pss_cons (ps_par (i := 7) (j := 8) rfl sc_law.nd rfl rfl (by decide) rfl rfl (pa_cons (pe_make M_Book G_Book (hr.mono (by decide)) (by rfl) g_Book b_Book .nil pass0 (pa_cons (pv 2) (pa_cons (pv 3) (pa_cons (pv 5) pa_nil)))) (pa_cons (pe_call G_law_wide_table (hr.mono (by decide)) (by rfl) g_law_wide_table F_law_wide_table.kp b_law_wide_table .nil pass0 (pa_cons (pv 1) (pa_cons (pv 2) (pa_cons (pv 3) (pa_cons (pv 5) (pa_cons (pv 6) pa_nil)))))) pa_nil)) (by rfl))
    (pss_cons (ps_set (i := 9) sc_law.nd rfl (by first | exact Or.inl rfl | exact Or.inr rfl) (pe_call G_law_views (hr.mono (by decide)) (by rfl) g_law_views F_law_views.kp b_law_views .nil pass0 (pa_cons (pv 2) (pa_cons (pv 3) pa_nil))))
    (pss_cons (ps_set (i := 10) sc_law.nd rfl (by first | exact Or.inl rfl | exact Or.inr rfl) (pe_call G_law_draw (hr.mono (by decide)) (by rfl) g_law_draw F_law_draw.kp b_law_draw .nil pass0 (pa_cons (pv 1) (pa_cons (pe_callB (c_len (K := K)) (by rfl) T.len (by decide +kernel) (pa_cons (pv 9) pa_nil)) pa_nil))))
    (pss_cons (ps_for PassesOwn.never rfl (i_list (K := K) (pe_slice (s_list (K := K)) (pe_op op_cat (pe_slice (s_list (K := K)) (pv 9) (po_some (pv 10)) po_none) (pe_slice (s_list (K := K)) (pv 9) (po_some pe_int) (po_some (pv 10)))) (po_some pe_int) (po_some pe_int))) (pg_name (i := 11) sc_law.nd rfl (by first | exact Or.inl rfl | exact Or.inr rfl)) (pss_one (ps_if (pt_not (pt_val (pe_call G_law_right (hr.mono (by decide)) (by rfl) g_law_right F_law_right.kp b_law_right .nil pass0 (pa_cons (pv 1) (pa_cons (pv 5) (pa_cons (pv 6) (pa_cons (pv 2) (pa_cons (pv 3) (pa_cons (pv 7) (pa_cons (pv 8) (pa_cons (pv 11) pa_nil))))))))))) (pss_one (ps_ret pe_bl)) pss_nil)))
    (pss_one (ps_ret pe_bl)))))))))))), ?_⟩
  refine ⟨_, rfl, ⟨a, ns, 78, H, rfl, hS, by decide, by decide, Ex.refl H, fun pq F1 H1 s0 g1 _ => ?_⟩⟩
  have s1 : Step (some pq) F1 H1 F1 H1 := Step.refl s0.inn g1
  refine t_two (K := K) (Rz := fun d1 d2 => ∃ n m : Nat, d1 = .int n ∧ d2 = .int m ∧ n ∈ [2, 3, 4, 5] ∧ 1 ≤ m ∧ m ≤ capN n) s1 ((g_callQ () rfl gs_nil rfl trivial).imp fun d ⟨n, m, h1, h2, h3, h4⟩ => ⟨_, _, h1, n, m, rfl, rfl, h2, h3, h4⟩) rfl fun d1 d2 v1 v2 F2 H2 hd s2 e2 hv1 hv2 => ?_
  obtain ⟨n, m, rfl, rfl, hn, m1, mc⟩ := hd
  obtain rfl := rp_int hv1
  obtain rfl := rp_int hv2
  have nb : 2 ≤ n ∧ n ≤ 5 := by simp only [List.mem_cons, List.not_mem_nil, or_false] at hn; omega
  obtain ⟨c2, c4⟩ := cap_few nb.1 nb.2
  have m4 : m ≤ 4 := by omega
  have gn : ∀ {σ' : L2.St} {F' : Hp}, σ'[2]? = some (some (.int n)) → EvG K (some pq) (tVar 2) σ' F' (Is (.int n)) := fun h => g_var (v := .int n) h (.int _)
  have gm : ∀ {σ' : L2.St} {F' : Hp}, σ'[3]? = some (some (.int m)) → EvG K (some pq) (tVar 3) σ' F' (Is (.int m)) := fun h => g_var (v := .int m) h (.int _)
  refine t_asg (K := K) (R := fun d => ∃ ls, d = dLT ls ∧ (∀ l ∈ ls, OneGood n l) ∧ ls.length ≤ 20) s2 ((g_callP (m := (n : Int)) rfl (gn rfl) ⟨by omega, by omega⟩).imp fun d ⟨ls, h, h1, h2, _⟩ => ⟨ls, h, by rw [show ((n : Nat) : Int).toNat = n by omega] at h1; exact h1, h2⟩) fun d lv F3 H3 hd s3 e3 hlv => ?_
  obtain ⟨lots, rfl, hlg, hl20⟩ := hd
  -- rows without a clash
  refine t_asg (K := K) (R := CalmD "sure" n m lots) s3 (g_callQ (n, m, lots) rfl (gs_consI (gn rfl) (gs_three (gm rfl) (g_var rfl hlv) g_str)) rfl ⟨by simp only; omega, by simp only; omega, m1, m4⟩) fun d rv F5 H5 hd s5 e5 hrv => ?_
  obtain ⟨ks, rfl, calm0, k12, hrow0⟩ := hd
  have memK : ∀ r, r ∈ sortL ks ↔ r ∈ ks := fun r => (sortL_perm ks).mem_iff
  have lenK : (sortL ks).length = ks.length := (sortL_perm ks).length_eq
  have calmK : calmP "sure" n m lots (sortL ks) := calm_set (fun x => (memK x).symm) calm0
  have hsrt : Srt (sortL ks) := srt_sortL m4 hrow0
  have hrow : ∀ r ∈ sortL ks, Row n m r := fun r hr' => hrow0 r ((memK r).mp hr')
  have hR12 : (sortL ks).length ≤ 12 := by omega
  generalize sortL ks = R at hrv calmK hsrt hrow hR12
  have hlen : ∀ r ∈ R, r.length = n := fun r hr' => (hrow r hr').1
  have hlv5 := Rp.mono e5 _ _ hlv
  -- what is told
  refine t_asgE (Φ := fun v F2 => ∃ D kvs, v = .ref D ∧ F2 D = some (.dT kvs) ∧ Told kvs R m) s5 (fun H1 i g Q k => x_any (K := K) (mn := "sure") (R := R) (lots := lots) (n := n) (m := m) rfl (gs_consI (g_var rfl hrv) (gs_three (gm rfl) (g_var rfl hlv5) g_str)) ⟨by omega, nb.2, by omega, hlen, m1, m4, calmK⟩ H1 i g Q fun v F2 H2 ⟨D, kvs, h1, h2, h3, h4⟩ s => k v F2 H2 ⟨D, kvs, h1, h2, h3⟩ s) fun dv F6 H6 hΦ s6 e6 => ?_
  obtain ⟨Da, kva, rfl, hDa, hta⟩ := hΦ
  have hrv6 := Rp.mono e6 _ _ hrv
  refine t_ifJoin (fun σ' F' H' => ∃ D0 kvs0, σ' = [some (.ref a), some (.ref pq.p), some (.int n), some (.int m), some lv, some rv, some (.ref D0), none, none, none, none, none] ∧ F' D0 = some (.dT kvs0) ∧ Told kvs0 R m ∧ Ex F6 F' ∧ Step (some pq) F1 H1 F' H') s6.inn s6.good (et_ofU (K := K) (g_op (R3 := fun z => ∃ b : Bool, z = .bool b) (g_callP (m := 3) rfl g_int ⟨by omega, by omega⟩) g_int fun d1 d2 ⟨k, h1, _⟩ h2 => ?_)) (fun F7 H7 s7 N hN => ?_) (fun F7 H7 s7 N hN => ?_) fun σ' F7 H7 ⟨D0, kvs0, eσ, hD0, ht0, e67, s7⟩ => ?_
  · subst h1; subst h2
    intro F H x y i hx hy Q q
    exact rv_eqI F H x y i hx hy Q fun z v F2 H2 hz s hv => q z v F2 H2 ⟨_, hz⟩ s hv
  · refine t_asgX1 (D := { nx := N, rt := _, bk := _, ct := _ }) (s6.trans s7) (x_wild (K := K) (R := R) (m := m) rfl (gs_two (g_var rfl (Rp.mono s7.sub _ _ hrv6)) (gm rfl)) ⟨by omega, m1, m4⟩) fun v F8 H8 ⟨D, kvs, h1, h2, h3⟩ s8 e8 => ?_
    subst h1
    exact hN _ F8 H8 ⟨D, kvs, rfl, h2, h3, s7.sub.trans e8, s8⟩
  · exact hN _ F7 H7 ⟨Da, kva, rfl, s7.sub _ _ hDa, hta, s7.sub, s6.trans s7⟩
  subst eσ
  have hrv7 := Rp.mono e67 _ _ hrv6
  -- book, outcomes
  refine t_twoX s7 (x_bookE (K := K) (CB := CB) (n := n) (m := m) (rs := R) (gs_three (gn rfl) (gm rfl) (g_var rfl hrv7)) (.inl rfl) nb ⟨m1, m4⟩ (by omega) hrow)
    (fun F' e' => x_wide (K := K) (CO := CO) (n := n) (m := m) (R := R) (D0 := D0) (kvs0 := kvs0) rfl rfl rfl rfl rfl ⟨⟨by omega, nb.2⟩, ⟨m1, m4⟩, by omega, hrow, ht0⟩ (e' _ _ hD0) (Rp.mono e' _ _ hrv7)) (fun v F F' e ⟨x, R2, h1, h2, h3, h4⟩ => ⟨x, R2, h1, h2, h3, h4.mono e⟩) fun bv ov F8 H8 ⟨x, R2, ex, hasc2, memR2, bk⟩ ⟨y, M, M', k8, ey, hW, hperm, hM70, oc⟩ s8 e8 => ?_
  subst ex; subst ey
  have inM : ∀ r ∈ R2, r ∈ M' := fun r hr' => hperm.mem_iff.mpr (hW.sub r ((memR2 r).mp hr'))
  have told4 : ∀ r ∈ M', 0 ≤ tv k8 r ∧ tv k8 r < 4 := fun r hr' => by
    obtain ⟨_, h2, h3⟩ := hW.told.1 r (hperm.mem_iff.mp hr')
    exact ⟨h2, by omega⟩
  have R2l : R2.length ≤ 60 := by
    have := nd_len hasc2.nd fun r hr' => (memR2 r).mp hr'
    omega
  have S : Sit n m R R2 M' k8 kvs0 := ⟨⟨nb.1, nb.2, m1, m4⟩, srt_asc hasc2, hsrt, memR2, hrow, fun r hr' => by rw [val_in (hperm.mem_iff.mpr (hW.sub r hr'))]; exact hW.eq r hr', fun {vw} hvw => ⟨hvw, nb.2, R2l, fun r hr' => hlen r ((memR2 r).mp hr'), hperm.nodup_iff.mpr hW.ks.2, List.length_map _, fun r hr' => by have := (hW.row r (hperm.mem_iff.mp hr')).1; omega, inM, fun j hj => by
    obtain ⟨r, hr', rfl⟩ := List.mem_map.mp hj
    exact told4 r hr'⟩, fun r hr' => (ht0.1 r hr').1, by omega⟩
  have hrv8 := Rp.mono e8 _ _ hrv7
  have hD8 := e8 _ _ hD0
  obtain ⟨vl1, vl2⟩ := views_len m n
  have vp := cap_pow n hn m (by rw [List.mem_range]; omega) mc n (by rw [List.mem_range]; omega)
  have vpos : 0 < (m + 1) ^ n := Nat.pow_pos (by omega)
  refine t_asgI (K := K) (d := dLO (viewsOf m n)) s8 (g_call (n, m) (gs_two (gn rfl) (gm rfl)) rfl ⟨hn, m1, mc⟩) fun vv F9 H9 s9 e9 hvv => ?_
  refine t_asg (K := K) (R := fun d => ∃ k : Int, d = .int k ∧ 0 ≤ k ∧ k < ((viewsOf m n).length : Int)) s9 (g_callP (m := ((viewsOf m n).length : Int)) rfl ((g_cbI (gs_one (g_var (i := 9) rfl hvv)) (rc_lenS (.inl rfl))).is (by rw [List.length_map])) ⟨by rw [vl1]; omega, by rw [vl1]; omega⟩) fun d av F10 H10 hd s10 e10 hav => ?_
  obtain ⟨k, rfl, k0, k1⟩ := hd
  obtain rfl := rp_int hav
  obtain ⟨j, rfl⟩ : ∃ j : Nat, k = (j : Int) := ⟨k.toNat, by omega⟩
  have hvv10 := Rp.mono e10 _ _ hvv
  have gj : ∀ {σ' : L2.St} {F' : Hp}, σ'[10]? = some (some (.int (j : Int))) → EvG K (some pq) (tVar 10) σ' F' (Is (.int (j : Int))) := fun h => g_var (v := .int (j : Int)) h (.int _)
  refine t_for (K := K) (ds := ((((viewsOf m n).map dO).drop j ++ ((viewsOf m n).map dO).take j).take 90)) s10 (w_listI (g_sl0 (k := 90) (g_opI (g_slF (g_var (i := 9) rfl hvv10) (gj rfl)) (g_sl0 (k := j) (g_var (i := 9) rfl hvv10) (gj rfl)) (rv_cat (by rw [List.length_drop, List.length_take, List.length_map]; omega))) g_int)) (fun i σ' F' => ∃ z1, σ' = [some (.ref a), some (.ref pq.p), some (.int n), some (.int m), some lv, some rv, some (.ref D0), some (.ref x), some (.ref y), some vv, some (.int (j : Int)), z1]) (fun F2 e2 => ⟨_, rfl⟩) (fun i d hd σ' F' H' u hI s' e' hu N hN => ?_) (fun σ' F11 H11 hI s11 e11 => ?_)
  · obtain ⟨z1, rfl⟩ := hI
    have hm : d ∈ (viewsOf m n).map dO := by
      have h1 := List.mem_of_mem_take (List.mem_of_getElem? hd)
      rcases List.mem_append.mp h1 with z | z
      · exact List.mem_of_mem_drop z
      · exact List.mem_of_mem_take z
    obtain ⟨vw, hvw, rfl⟩ := List.mem_map.mp hm
    have e8' := (e9.trans e10).trans e'
    refine t_if1 (b := false) s' (et_not (b := true) (et_B (K := K) fun H12 i12 g12 Q' q' => ⟨_, rfl, _, rfl, _, rfl, _, rfl, _, rfl, _, rfl, _, rfl, _, rfl, pq, n, m, R, R2, M', k8, kvs0, D0, x, y, vw, F', rv, u, rfl, ⟨S, vl2 vw hvw, views_cells m n vw hvw⟩, i12, g12, bk.mono e8', oc.mono e8', e8' _ _ hD8, Rp.mono e8' _ _ hrv8, hu, fun z F13 H13 s13 hz => q' _ z F13 H13 rfl s13 hz⟩)) (fun z => by cases z) fun _ F12 H12 s12 e12 => hN _ F12 H12 ⟨_, rfl⟩ s12 e12
  · obtain ⟨z1, rfl⟩ := hI
    refine t_retI (K := K) (d := .bool true) s11 g_bl fun v F14 H14 s14 hv => ?_
    obtain rfl := rp_bool hv
    exact q H14
end
end KC

namespace KC
open PySem PySem.Spec PyProof.Rows L2 Fv Evl StX
theorem binds_tab {K : PySem.W.Frag} {dv : V} {f : Addr} {fd : FuncData} (F : FunTab K dv f fd) : Binds K fd ["self", "houses", "states", "start", "moves"] [] := by
  obtain ⟨ds, hv, hb⟩ := L2.FunD.binds1 F (ps := ["self", "houses", "states", "start", "moves"]) 5 1 (by simp) rfl fun T kV doc pm an cdv ct us its hl hi => match us, its, hl, hi with | [_, _, _, _, _], [_], _, _ => ⟨_, rfl, rfl⟩
  cases hv
  exact hb
theorem binds_whole {K : PySem.W.Frag} {f : Addr} {fd : FuncData} (F : FunW K f fd) : Binds K fd ["thing", "low", "high"] [] := by
  obtain ⟨ds, hv, hb⟩ := L2.FunD.binds1 F (ps := ["thing", "low", "high"]) 3 2 (by simp) rfl fun T kV doc pm an cdv ct us its hl hi => match us, its, hl, hi with | [_, _, _], [_, _], _, _ => ⟨_, rfl, rfl⟩
  cases hv
  exact hb
theorem exm_is {K : PySem.W.Frag} {S B : Addr} {r : Bool} (hb : PySem.W.subIn K (.ref B) (.type "BaseException") = some true) (hc : PySem.W.isClsIn K B = true) (ht : PySem.W.typeIn K (.ref B) = some (.type "type")) (hs : PySem.W.subIn K (.ref S) (.ref B) = some r) : PySem.W.exmOne K (.ref S) (.ref B) = some r := by
  have hc' : (PySem.W.clsIn K B).isSome = true := hc
  unfold PySem.W.exmOne PySem.W.kitCls
  simp only [hb, hc', ht, hs, beq_self_eq_true, Bool.and_self, if_true]
theorem kit_ref {K : PySem.W.Frag} {S B : Addr} (hc : PySem.W.isClsIn K B = true) (ht : PySem.W.typeIn K (.ref B) = some (.type "type")) (hs : PySem.W.subIn K (.ref S) (.ref B) = some true) : PySem.W.kitOne K (.ref S) (.ref B) = some true := by
  have hc' : (PySem.W.clsIn K B).isSome = true := hc
  unfold PySem.W.kitOne PySem.W.kitCls
  simp [hc', ht, hs]
theorem kit_VE {K : PySem.W.Frag} {S : Addr} (hs : PySem.W.subIn K (.ref S) (.type "ValueError") = some true) : PySem.W.kitOne K (.ref S) (.type "ValueError") = some true := by
  have hk : PySem.W.kitMeta "ValueError" = true := by decide +kernel
  unfold PySem.W.kitOne PySem.W.kitCls
  simp [hk, hs]
section
variable {P : Program} {w : World} {K : PySem.W.Frag} {mg : Str → Option Value}
theorem all_mk {l : PySem.W.OpenLaw} {h : Heap} {fa : Addr} (X : K.In h) (G : h.Ns mainGlobals mg) (hfa : mg "law" = some (.ref fa))
    {CB : Addr}
    {CO : Addr}
    {CT : Addr}
    {f0 : Addr} {od0 an0 : Option Addr} {sl0 : Array (Option Value)} {oc0 kV0 dc0 pm0 cd0 ct0 : Value}
    {f1 : Addr} {od1 an1 : Option Addr} {sl1 : Array (Option Value)} {oc1 kV1 dc1 pm1 cd1 ct1 : Value}
    {f2 : Addr} {od2 an2 : Option Addr} {sl2 : Array (Option Value)} {oc2 kV2 dc2 pm2 cd2 ct2 : Value}
    {f3 : Addr} {od3 an3 : Option Addr} {sl3 : Array (Option Value)} {oc3 kV3 dc3 pm3 cd3 ct3 : Value}
    {f4 : Addr} {od4 an4 : Option Addr} {sl4 : Array (Option Value)} {oc4 kV4 dc4 pm4 cd4 ct4 : Value}
    {f5 : Addr} {od5 an5 : Option Addr} {sl5 : Array (Option Value)} {oc5 kV5 dc5 pm5 cd5 ct5 : Value}
    {f6 : Addr} {od6 an6 : Option Addr} {sl6 : Array (Option Value)} {oc6 kV6 dc6 pm6 cd6 ct6 : Value}
    {f7 : Addr} {od7 an7 : Option Addr} {sl7 : Array (Option Value)} {oc7 kV7 dc7 pm7 cd7 ct7 : Value}
    {f8 : Addr} {od8 an8 : Option Addr} {sl8 : Array (Option Value)} {oc8 kV8 dc8 pm8 cd8 ct8 : Value}
    {f9 : Addr} {od9 an9 : Option Addr} {sl9 : Array (Option Value)} {oc9 kV9 dc9 pm9 cd9 ct9 : Value}
    {f10 : Addr} {od10 an10 : Option Addr} {sl10 : Array (Option Value)} {oc10 kV10 dc10 pm10 cd10 ct10 : Value}
    {f11 : Addr} {od11 an11 : Option Addr} {sl11 : Array (Option Value)} {oc11 kV11 dc11 pm11 cd11 ct11 : Value}
    {f12 : Addr} {od12 an12 : Option Addr} {sl12 : Array (Option Value)} {oc12 kV12 dc12 pm12 cd12 ct12 : Value}
    {f13 : Addr} {od13 an13 : Option Addr} {sl13 : Array (Option Value)} {oc13 kV13 dc13 pm13 cd13 ct13 : Value}
    {f14 : Addr} {od14 an14 : Option Addr} {sl14 : Array (Option Value)} {oc14 kV14 dc14 pm14 cd14 ct14 : Value}
    {f15 : Addr} {od15 an15 : Option Addr} {sl15 : Array (Option Value)} {oc15 kV15 dc15 pm15 cd15 ct15 : Value}
    {f16 : Addr} {od16 an16 : Option Addr} {sl16 : Array (Option Value)} {oc16 kV16 dc16 pm16 cd16 ct16 : Value}
    {f17 : Addr} {od17 an17 : Option Addr} {sl17 : Array (Option Value)} {oc17 kV17 dc17 pm17 cd17 ct17 : Value}
    {f18 : Addr} {od18 an18 : Option Addr} {sl18 : Array (Option Value)} {oc18 kV18 dc18 pm18 cd18 ct18 : Value}
    {f19 : Addr} {od19 an19 : Option Addr} {sl19 : Array (Option Value)} {oc19 kV19 dc19 pm19 cd19 ct19 : Value}
    {f20 : Addr} {od20 an20 : Option Addr} {sl20 : Array (Option Value)} {oc20 kV20 dc20 pm20 cd20 ct20 : Value}
    {f21 : Addr} {od21 an21 : Option Addr} {sl21 : Array (Option Value)} {oc21 kV21 dc21 pm21 cd21 ct21 : Value}
    {f22 : Addr} {od22 an22 : Option Addr} {sl22 : Array (Option Value)} {oc22 kV22 dc22 pm22 cd22 ct22 : Value}
    {f23 : Addr} {od23 an23 : Option Addr} {sl23 : Array (Option Value)} {oc23 kV23 dc23 pm23 cd23 ct23 : Value}
    {f24 : Addr} {od24 an24 : Option Addr} {sl24 : Array (Option Value)} {oc24 kV24 dc24 pm24 cd24 ct24 : Value}
    {f25 : Addr} {od25 an25 : Option Addr} {sl25 : Array (Option Value)} {oc25 kV25 dc25 pm25 cd25 ct25 : Value}
    {f26 : Addr} {od26 an26 : Option Addr} {sl26 : Array (Option Value)} {oc26 kV26 dc26 pm26 cd26 ct26 : Value}
    {f27 : Addr} {od27 an27 : Option Addr} {sl27 : Array (Option Value)} {oc27 kV27 dc27 pm27 cd27 ct27 : Value}
    {f28 : Addr} {od28 an28 : Option Addr} {sl28 : Array (Option Value)} {oc28 kV28 dc28 pm28 cd28 ct28 : Value}
    {f29 : Addr} {od29 an29 : Option Addr} {sl29 : Array (Option Value)} {oc29 kV29 dc29 pm29 cd29 ct29 : Value}
    {f30 : Addr} {od30 an30 : Option Addr} {sl30 : Array (Option Value)} {oc30 kV30 dc30 pm30 cd30 ct30 : Value}
    {f31 : Addr} {od31 an31 : Option Addr} {sl31 : Array (Option Value)} {oc31 kV31 dc31 pm31 cd31 ct31 : Value}
    {f32 : Addr} {od32 an32 : Option Addr} {sl32 : Array (Option Value)} {oc32 kV32 dc32 pm32 cd32 ct32 : Value}
    {f33 : Addr} {od33 an33 : Option Addr} {sl33 : Array (Option Value)} {oc33 kV33 dc33 pm33 cd33 ct33 : Value}
    {f34 : Addr} {od34 an34 : Option Addr} {sl34 : Array (Option Value)} {oc34 kV34 dc34 pm34 cd34 ct34 : Value}
    {f35 : Addr} {od35 an35 : Option Addr} {sl35 : Array (Option Value)} {oc35 kV35 dc35 pm35 cd35 ct35 : Value}
    {f36 : Addr} {od36 an36 : Option Addr} {sl36 : Array (Option Value)} {oc36 kV36 dc36 pm36 cd36 ct36 : Value}
    {f37 : Addr} {od37 an37 : Option Addr} {sl37 : Array (Option Value)} {oc37 kV37 dc37 pm37 cd37 ct37 : Value}
    {f38 : Addr} {od38 an38 : Option Addr} {sl38 : Array (Option Value)} {oc38 kV38 dc38 pm38 cd38 ct38 : Value}
    {f39 : Addr} {od39 an39 : Option Addr} {sl39 : Array (Option Value)} {oc39 kV39 dc39 pm39 cd39 ct39 : Value}
    {f40 : Addr} {od40 an40 : Option Addr} {sl40 : Array (Option Value)} {oc40 kV40 dc40 pm40 cd40 ct40 : Value}
    {f41 : Addr} {od41 an41 : Option Addr} {sl41 : Array (Option Value)} {oc41 kV41 dc41 pm41 cd41 ct41 : Value}
    {f42 : Addr} {od42 an42 : Option Addr} {sl42 : Array (Option Value)} {oc42 kV42 dc42 pm42 cd42 ct42 : Value}
    {f43 : Addr} {od43 an43 : Option Addr} {sl43 : Array (Option Value)} {oc43 kV43 dc43 pm43 cd43 ct43 : Value}
    {f44 : Addr} {od44 an44 : Option Addr} {sl44 : Array (Option Value)} {oc44 kV44 dc44 pm44 cd44 ct44 : Value}
    {f45 : Addr} {od45 an45 : Option Addr} {sl45 : Array (Option Value)} {oc45 kV45 dc45 pm45 cd45 ct45 : Value}
    {f46 : Addr} {od46 an46 : Option Addr} {sl46 : Array (Option Value)} {oc46 kV46 dc46 pm46 cd46 ct46 : Value}
    {f47 : Addr} {od47 an47 : Option Addr} {sl47 : Array (Option Value)} {oc47 kV47 dc47 pm47 cd47 ct47 : Value}
    {f48 : Addr} {od48 an48 : Option Addr} {sl48 : Array (Option Value)} {oc48 kV48 dc48 pm48 cd48 ct48 : Value}
    {f49 : Addr} {od49 an49 : Option Addr} {sl49 : Array (Option Value)} {oc49 kV49 dc49 pm49 cd49 ct49 : Value}
    {f50 : Addr} {od50 an50 : Option Addr} {sl50 : Array (Option Value)} {oc50 kV50 dc50 pm50 cd50 ct50 : Value}
    {f51 : Addr} {od51 an51 : Option Addr} {sl51 : Array (Option Value)} {oc51 kV51 dc51 pm51 cd51 ct51 : Value}
    {f52 : Addr} {od52 an52 : Option Addr} {sl52 : Array (Option Value)} {oc52 kV52 dc52 pm52 cd52 ct52 : Value}
    {f53 : Addr} {od53 an53 : Option Addr} {sl53 : Array (Option Value)} {oc53 kV53 dc53 pm53 cd53 ct53 : Value}
    {f54 : Addr} {od54 an54 : Option Addr} {sl54 : Array (Option Value)} {oc54 kV54 dc54 pm54 cd54 ct54 : Value}
    {TW : Addr} {ocT : Value} {odT : Option Addr} {nT : Nat} {slT : Array (Option Value)}
    {f55 : Addr} {od55 an55 : Option Addr} {sl55 : Array (Option Value)} {oc55 kV55 dc55 pm55 cd55 ct55 : Value}
    {f56 : Addr} {od56 an56 : Option Addr} {sl56 : Array (Option Value)} {oc56 kV56 dc56 pm56 cd56 ct56 : Value}
    {f57 : Addr} {od57 an57 : Option Addr} {sl57 : Array (Option Value)} {oc57 kV57 dc57 pm57 cd57 ct57 : Value}
    {f58 : Addr} {od58 an58 : Option Addr} {sl58 : Array (Option Value)} {oc58 kV58 dc58 pm58 cd58 ct58 : Value}
    {TM59 eM59 : Addr} {ocM59 : Value} {odM59 : Option Addr} {nM59 : Nat} {slM59 : Array (Option Value)}
    {f59 : Addr} {od59 an59 : Option Addr} {sl59 : Array (Option Value)} {oc59 kV59 dc59 pm59 cd59 ct59 : Value}
    {f60 : Addr} {od60 an60 : Option Addr} {sl60 : Array (Option Value)} {oc60 kV60 dc60 pm60 cd60 ct60 : Value}
    {CF : Addr}
    {f61 : Addr} {od61 an61 : Option Addr} {sl61 : Array (Option Value)} {oc61 kV61 dc61 pm61 cd61 ct61 : Value}
    {CE NE : Addr} {nmE qE : Str} {bsE bmE subE : List Value} {snE : List Str} {abE : Bool} {coE : Option Bool} {ddE : Option Addr} {x0E x1E x2E x3E x5E : Option Value}
    {tL : Tok}
    {tS : Tok}
    {tV : Tok}
    {tM : Tok}
    {tH : Tok}
    (aCB : PySem.W.nsIn K mainGlobals "Book" = some (some (.ref CB)))
    (aCO : PySem.W.nsIn K mainGlobals "Outcomes" = some (some (.ref CO)))
    (aCT : PySem.W.nsIn K mainGlobals "HouseTable" = some (some (.ref CT)))
    (a0 : PySem.W.nsIn K mainGlobals "is_sequence" = some (some (.ref f0)))
    (l0 : K.lookup f0 = some ⟨oc0, od0, .func (PySem.W.fnOf "is_sequence" "is_sequence" (defArgs s_is_sequence) (defBody s_is_sequence) (defScope s_is_sequence) .none kV0 dc0 pm0 an0 cd0 ct0), sl0⟩)
    (c0 : PySem.W.codeIn K cd0 "is_sequence" = true)
    (k0 : PySem.W.keepIn K (.ref f0) = true)
    (a1 : PySem.W.nsIn K mainGlobals "is_whole_row" = some (some (.ref f1)))
    (l1 : K.lookup f1 = some ⟨oc1, od1, .func (PySem.W.fnOf "is_whole_row" "is_whole_row" (defArgs s_is_whole_row) (defBody s_is_whole_row) (defScope s_is_whole_row) .none kV1 dc1 pm1 an1 cd1 ct1), sl1⟩)
    (c1 : PySem.W.codeIn K cd1 "is_whole_row" = true)
    (k1 : PySem.W.keepIn K (.ref f1) = true)
    (a2 : PySem.W.nsIn K mainGlobals "as_tuples" = some (some (.ref f2)))
    (l2 : K.lookup f2 = some ⟨oc2, od2, .func (PySem.W.fnOf "as_tuples" "as_tuples" (defArgs s_as_tuples) (defBody s_as_tuples) (defScope s_as_tuples) .none kV2 dc2 pm2 an2 cd2 ct2), sl2⟩)
    (c2 : PySem.W.codeIn K cd2 "as_tuples" = true)
    (k2 : PySem.W.keepIn K (.ref f2) = true)
    (a3 : PySem.W.nsIn K mainGlobals "check_entry" = some (some (.ref f3)))
    (l3 : K.lookup f3 = some ⟨oc3, od3, .func (PySem.W.fnOf "check_entry" "check_entry" (defArgs s_check_entry) (defBody s_check_entry) (defScope s_check_entry) .none kV3 dc3 pm3 an3 cd3 ct3), sl3⟩)
    (c3 : PySem.W.codeIn K cd3 "check_entry" = true)
    (k3 : PySem.W.keepIn K (.ref f3) = true)
    (a4 : PySem.W.nsIn K mainGlobals "heard_houses" = some (some (.ref f4)))
    (l4 : K.lookup f4 = some ⟨oc4, od4, .func (PySem.W.fnOf "heard_houses" "heard_houses" (defArgs s_heard_houses) (defBody s_heard_houses) (defScope s_heard_houses) .none kV4 dc4 pm4 an4 cd4 ct4), sl4⟩)
    (c4 : PySem.W.codeIn K cd4 "heard_houses" = true)
    (k4 : PySem.W.keepIn K (.ref f4) = true)
    (a5 : PySem.W.nsIn K mainGlobals "view_within" = some (some (.ref f5)))
    (l5 : K.lookup f5 = some ⟨oc5, od5, .func (PySem.W.fnOf "view_within" "view_within" (defArgs s_view_within) (defBody s_view_within) (defScope s_view_within) .none kV5 dc5 pm5 an5 cd5 ct5), sl5⟩)
    (c5 : PySem.W.codeIn K cd5 "view_within" = true)
    (k5 : PySem.W.keepIn K (.ref f5) = true)
    (a6 : PySem.W.nsIn K mainGlobals "goes_on" = some (some (.ref f6)))
    (l6 : K.lookup f6 = some ⟨oc6, od6, .func (PySem.W.fnOf "goes_on" "goes_on" (defArgs s_goes_on) (defBody s_goes_on) (defScope s_goes_on) .none kV6 dc6 pm6 an6 cd6 ct6), sl6⟩)
    (c6 : PySem.W.codeIn K cd6 "goes_on" = true)
    (k6 : PySem.W.keepIn K (.ref f6) = true)
    (a7 : PySem.W.nsIn K mainGlobals "_inputs_behind" = some (some (.ref f7)))
    (l7 : K.lookup f7 = some ⟨oc7, od7, .func (PySem.W.fnOf "_inputs_behind" "_inputs_behind" (defArgs s_inputs_behind) (defBody s_inputs_behind) (defScope s_inputs_behind) .none kV7 dc7 pm7 an7 cd7 ct7), sl7⟩)
    (c7 : PySem.W.codeIn K cd7 "_inputs_behind" = true)
    (k7 : PySem.W.keepIn K (.ref f7) = true)
    (a8 : PySem.W.nsIn K mainGlobals "settled_values" = some (some (.ref f8)))
    (l8 : K.lookup f8 = some ⟨oc8, od8, .func (PySem.W.fnOf "settled_values" "settled_values" (defArgs s_settled_values) (defBody s_settled_values) (defScope s_settled_values) .none kV8 dc8 pm8 an8 cd8 ct8), sl8⟩)
    (c8 : PySem.W.codeIn K cd8 "settled_values" = true)
    (k8 : PySem.W.keepIn K (.ref f8) = true)
    (a9 : PySem.W.nsIn K mainGlobals "first_view" = some (some (.ref f9)))
    (l9 : K.lookup f9 = some ⟨oc9, od9, .func (PySem.W.fnOf "first_view" "first_view" (defArgs s_first_view) (defBody s_first_view) (defScope s_first_view) .none kV9 dc9 pm9 an9 cd9 ct9), sl9⟩)
    (c9 : PySem.W.codeIn K cd9 "first_view" = true)
    (k9 : PySem.W.keepIn K (.ref f9) = true)
    (a10 : PySem.W.nsIn K mainGlobals "sooner_run" = some (some (.ref f10)))
    (l10 : K.lookup f10 = some ⟨oc10, od10, .func (PySem.W.fnOf "sooner_run" "sooner_run" (defArgs s_sooner_run) (defBody s_sooner_run) (defScope s_sooner_run) .none kV10 dc10 pm10 an10 cd10 ct10), sl10⟩)
    (c10 : PySem.W.codeIn K cd10 "sooner_run" = true)
    (k10 : PySem.W.keepIn K (.ref f10) = true)
    (a11 : PySem.W.nsIn K mainGlobals "_checked_inputs" = some (some (.ref f11)))
    (l11 : K.lookup f11 = some ⟨oc11, od11, .func (PySem.W.fnOf "_checked_inputs" "_checked_inputs" (defArgs s_checked_inputs) (defBody s_checked_inputs) (defScope s_checked_inputs) .none kV11 dc11 pm11 an11 cd11 ct11), sl11⟩)
    (c11 : PySem.W.codeIn K cd11 "_checked_inputs" = true)
    (k11 : PySem.W.keepIn K (.ref f11) = true)
    (a12 : PySem.W.nsIn K mainGlobals "_places_in" = some (some (.ref f12)))
    (l12 : K.lookup f12 = some ⟨oc12, od12, .func (PySem.W.fnOf "_places_in" "_places_in" (defArgs s_places_in) (defBody s_places_in) (defScope s_places_in) .none kV12 dc12 pm12 an12 cd12 ct12), sl12⟩)
    (c12 : PySem.W.codeIn K cd12 "_places_in" = true)
    (k12 : PySem.W.keepIn K (.ref f12) = true)
    (a13 : PySem.W.nsIn K mainGlobals "_check_frame" = some (some (.ref f13)))
    (l13 : K.lookup f13 = some ⟨oc13, od13, .func (PySem.W.fnOf "_check_frame" "_check_frame" (defArgs s_check_frame) (defBody s_check_frame) (defScope s_check_frame) .none kV13 dc13 pm13 an13 cd13 ct13), sl13⟩)
    (c13 : PySem.W.codeIn K cd13 "_check_frame" = true)
    (k13 : PySem.W.keepIn K (.ref f13) = true)
    (a14 : PySem.W.nsIn K mainGlobals "_is_row" = some (some (.ref f14)))
    (l14 : K.lookup f14 = some ⟨oc14, od14, .func (PySem.W.fnOf "_is_row" "_is_row" (defArgs s_is_row) (defBody s_is_row) (defScope s_is_row) .none kV14 dc14 pm14 an14 cd14 ct14), sl14⟩)
    (c14 : PySem.W.codeIn K cd14 "_is_row" = true)
    (k14 : PySem.W.keepIn K (.ref f14) = true)
    (a15 : PySem.W.nsIn K mainGlobals "_is_move" = some (some (.ref f15)))
    (l15 : K.lookup f15 = some ⟨oc15, od15, .func (PySem.W.fnOf "_is_move" "_is_move" (defArgs s_is_move) (defBody s_is_move) (defScope s_is_move) .none kV15 dc15 pm15 an15 cd15 ct15), sl15⟩)
    (c15 : PySem.W.codeIn K cd15 "_is_move" = true)
    (k15 : PySem.W.keepIn K (.ref f15) = true)
    (a16 : PySem.W.nsIn K mainGlobals "_place_of" = some (some (.ref f16)))
    (l16 : K.lookup f16 = some ⟨oc16, od16, .func (PySem.W.fnOf "_place_of" "_place_of" (defArgs s_place_of) (defBody s_place_of) (defScope s_place_of) .none kV16 dc16 pm16 an16 cd16 ct16), sl16⟩)
    (c16 : PySem.W.codeIn K cd16 "_place_of" = true)
    (k16 : PySem.W.keepIn K (.ref f16) = true)
    (a17 : PySem.W.nsIn K mainGlobals "_kept_moves" = some (some (.ref f17)))
    (l17 : K.lookup f17 = some ⟨oc17, od17, .func (PySem.W.fnOf "_kept_moves" "_kept_moves" (defArgs s_kept_moves) (defBody s_kept_moves) (defScope s_kept_moves) .none kV17 dc17 pm17 an17 cd17 ct17), sl17⟩)
    (c17 : PySem.W.codeIn K cd17 "_kept_moves" = true)
    (k17 : PySem.W.keepIn K (.ref f17) = true)
    (a18 : PySem.W.nsIn K mainGlobals "_entry_fault" = some (some (.ref f18)))
    (l18 : K.lookup f18 = some ⟨oc18, od18, .func (PySem.W.fnOf "_entry_fault" "_entry_fault" (defArgs s_entry_fault) (defBody s_entry_fault) (defScope s_entry_fault) .none kV18 dc18 pm18 an18 cd18 ct18), sl18⟩)
    (c18 : PySem.W.codeIn K cd18 "_entry_fault" = true)
    (k18 : PySem.W.keepIn K (.ref f18) = true)
    (a19 : PySem.W.nsIn K mainGlobals "check_program" = some (some (.ref f19)))
    (l19 : K.lookup f19 = some ⟨oc19, od19, .func (PySem.W.fnOf "check_program" "check_program" (defArgs s_check_program) (defBody s_check_program) (defScope s_check_program) .none kV19 dc19 pm19 an19 cd19 ct19), sl19⟩)
    (c19 : PySem.W.codeIn K cd19 "check_program" = true)
    (k19 : PySem.W.keepIn K (.ref f19) = true)
    (a20 : PySem.W.nsIn K mainGlobals "first_standing" = some (some (.ref f20)))
    (l20 : K.lookup f20 = some ⟨oc20, od20, .func (PySem.W.fnOf "first_standing" "first_standing" (defArgs s_first_standing) (defBody s_first_standing) (defScope s_first_standing) .none kV20 dc20 pm20 an20 cd20 ct20), sl20⟩)
    (c20 : PySem.W.codeIn K cd20 "first_standing" = true)
    (k20 : PySem.W.keepIn K (.ref f20) = true)
    (a21 : PySem.W.nsIn K mainGlobals "behind_step" = some (some (.ref f21)))
    (l21 : K.lookup f21 = some ⟨oc21, od21, .func (PySem.W.fnOf "behind_step" "behind_step" (defArgs s_behind_step) (defBody s_behind_step) (defScope s_behind_step) .none kV21 dc21 pm21 an21 cd21 ct21), sl21⟩)
    (c21 : PySem.W.codeIn K cd21 "behind_step" = true)
    (k21 : PySem.W.keepIn K (.ref f21) = true)
    (a22 : PySem.W.nsIn K mainGlobals "checked_step" = some (some (.ref f22)))
    (l22 : K.lookup f22 = some ⟨oc22, od22, .func (PySem.W.fnOf "checked_step" "checked_step" (defArgs s_checked_step) (defBody s_checked_step) (defScope s_checked_step) .none kV22 dc22 pm22 an22 cd22 ct22), sl22⟩)
    (c22 : PySem.W.codeIn K cd22 "checked_step" = true)
    (k22 : PySem.W.keepIn K (.ref f22) = true)
    (a23 : PySem.W.nsIn K mainGlobals "last_standing" = some (some (.ref f23)))
    (l23 : K.lookup f23 = some ⟨oc23, od23, .func (PySem.W.fnOf "last_standing" "last_standing" (defArgs s_last_standing) (defBody s_last_standing) (defScope s_last_standing) .none kV23 dc23 pm23 an23 cd23 ct23), sl23⟩)
    (c23 : PySem.W.codeIn K cd23 "last_standing" = true)
    (k23 : PySem.W.keepIn K (.ref f23) = true)
    (a24 : PySem.W.nsIn K mainGlobals "cells_beside" = some (some (.ref f24)))
    (l24 : K.lookup f24 = some ⟨oc24, od24, .func (PySem.W.fnOf "cells_beside" "cells_beside" (defArgs s_cells_beside) (defBody s_cells_beside) (defScope s_cells_beside) .none kV24 dc24 pm24 an24 cd24 ct24), sl24⟩)
    (c24 : PySem.W.codeIn K cd24 "cells_beside" = true)
    (k24 : PySem.W.keepIn K (.ref f24) = true)
    (a25 : PySem.W.nsIn K mainGlobals "plan_program" = some (some (.ref f25)))
    (l25 : K.lookup f25 = some ⟨oc25, od25, .func (PySem.W.fnOf "plan_program" "plan_program" (defArgs s_plan_program) (defBody s_plan_program) (defScope s_plan_program) .none kV25 dc25 pm25 an25 cd25 ct25), sl25⟩)
    (c25 : PySem.W.codeIn K cd25 "plan_program" = true)
    (k25 : PySem.W.keepIn K (.ref f25) = true)
    (a26 : PySem.W.nsIn K mainGlobals "_plan_table" = some (some (.ref f26)))
    (l26 : K.lookup f26 = some ⟨oc26, od26, .func (PySem.W.fnOf "_plan_table" "_plan_table" (defArgs s_plan_table) (defBody s_plan_table) (defScope s_plan_table) .none kV26 dc26 pm26 an26 cd26 ct26), sl26⟩)
    (c26 : PySem.W.codeIn K cd26 "_plan_table" = true)
    (k26 : PySem.W.keepIn K (.ref f26) = true)
    (a27 : PySem.W.nsIn K mainGlobals "_law_same" = some (some (.ref f27)))
    (l27 : K.lookup f27 = some ⟨oc27, od27, .func (PySem.W.fnOf "_law_same" "_law_same" (defArgs s_law_same) (defBody s_law_same) (defScope s_law_same) .none kV27 dc27 pm27 an27 cd27 ct27), sl27⟩)
    (c27 : PySem.W.codeIn K cd27 "_law_same" = true)
    (k27 : PySem.W.keepIn K (.ref f27) = true)
    (a28 : PySem.W.nsIn K mainGlobals "_law_goes" = some (some (.ref f28)))
    (l28 : K.lookup f28 = some ⟨oc28, od28, .func (PySem.W.fnOf "_law_goes" "_law_goes" (defArgs s_law_goes) (defBody s_law_goes) (defScope s_law_goes) .none kV28 dc28 pm28 an28 cd28 ct28), sl28⟩)
    (c28 : PySem.W.codeIn K cd28 "_law_goes" = true)
    (k28 : PySem.W.keepIn K (.ref f28) = true)
    (a29 : PySem.W.nsIn K mainGlobals "_law_heard" = some (some (.ref f29)))
    (l29 : K.lookup f29 = some ⟨oc29, od29, .func (PySem.W.fnOf "_law_heard" "_law_heard" (defArgs s_law_heard) (defBody s_law_heard) (defScope s_law_heard) .none kV29 dc29 pm29 an29 cd29 ct29), sl29⟩)
    (c29 : PySem.W.codeIn K cd29 "_law_heard" = true)
    (k29 : PySem.W.keepIn K (.ref f29) = true)
    (a30 : PySem.W.nsIn K mainGlobals "_law_draw" = some (some (.ref f30)))
    (l30 : K.lookup f30 = some ⟨oc30, od30, .func (PySem.W.fnOf "_law_draw" "_law_draw" (defArgs s_law_draw) (defBody s_law_draw) (defScope s_law_draw) .none kV30 dc30 pm30 an30 cd30 ct30), sl30⟩)
    (c30 : PySem.W.codeIn K cd30 "_law_draw" = true)
    (k30 : PySem.W.keepIn K (.ref f30) = true)
    (a31 : PySem.W.nsIn K mainGlobals "_law_pot" = some (some (.ref f31)))
    (l31 : K.lookup f31 = some ⟨oc31, od31, .func (PySem.W.fnOf "_law_pot" "_law_pot" (defArgs s_law_pot) (defBody s_law_pot) (defScope s_law_pot) .none kV31 dc31 pm31 an31 cd31 ct31), sl31⟩)
    (c31 : PySem.W.codeIn K cd31 "_law_pot" = true)
    (k31 : PySem.W.keepIn K (.ref f31) = true)
    (a32 : PySem.W.nsIn K mainGlobals "_law_sizes" = some (some (.ref f32)))
    (l32 : K.lookup f32 = some ⟨oc32, od32, .func (PySem.W.fnOf "_law_sizes" "_law_sizes" (defArgs s_law_sizes) (defBody s_law_sizes) (defScope s_law_sizes) .none kV32 dc32 pm32 an32 cd32 ct32), sl32⟩)
    (c32 : PySem.W.codeIn K cd32 "_law_sizes" = true)
    (k32 : PySem.W.keepIn K (.ref f32) = true)
    (a33 : PySem.W.nsIn K mainGlobals "_law_lot" = some (some (.ref f33)))
    (l33 : K.lookup f33 = some ⟨oc33, od33, .func (PySem.W.fnOf "_law_lot" "_law_lot" (defArgs s_law_lot) (defBody s_law_lot) (defScope s_law_lot) .none kV33 dc33 pm33 an33 cd33 ct33), sl33⟩)
    (c33 : PySem.W.codeIn K cd33 "_law_lot" = true)
    (k33 : PySem.W.keepIn K (.ref f33) = true)
    (a34 : PySem.W.nsIn K mainGlobals "_law_lots" = some (some (.ref f34)))
    (l34 : K.lookup f34 = some ⟨oc34, od34, .func (PySem.W.fnOf "_law_lots" "_law_lots" (defArgs s_law_lots) (defBody s_law_lots) (defScope s_law_lots) .none kV34 dc34 pm34 an34 cd34 ct34), sl34⟩)
    (c34 : PySem.W.codeIn K cd34 "_law_lots" = true)
    (k34 : PySem.W.keepIn K (.ref f34) = true)
    (a35 : PySem.W.nsIn K mainGlobals "_law_longer" = some (some (.ref f35)))
    (l35 : K.lookup f35 = some ⟨oc35, od35, .func (PySem.W.fnOf "_law_longer" "_law_longer" (defArgs s_law_longer) (defBody s_law_longer) (defScope s_law_longer) .none kV35 dc35 pm35 an35 cd35 ct35), sl35⟩)
    (c35 : PySem.W.codeIn K cd35 "_law_longer" = true)
    (k35 : PySem.W.keepIn K (.ref f35) = true)
    (a36 : PySem.W.nsIn K mainGlobals "_law_rows" = some (some (.ref f36)))
    (l36 : K.lookup f36 = some ⟨oc36, od36, .func (PySem.W.fnOf "_law_rows" "_law_rows" (defArgs s_law_rows) (defBody s_law_rows) (defScope s_law_rows) .none kV36 dc36 pm36 an36 cd36 ct36), sl36⟩)
    (c36 : PySem.W.codeIn K cd36 "_law_rows" = true)
    (k36 : PySem.W.keepIn K (.ref f36) = true)
    (a37 : PySem.W.nsIn K mainGlobals "_law_covers" = some (some (.ref f37)))
    (l37 : K.lookup f37 = some ⟨oc37, od37, .func (PySem.W.fnOf "_law_covers" "_law_covers" (defArgs s_law_covers) (defBody s_law_covers) (defScope s_law_covers) .none kV37 dc37 pm37 an37 cd37 ct37), sl37⟩)
    (c37 : PySem.W.codeIn K cd37 "_law_covers" = true)
    (k37 : PySem.W.keepIn K (.ref f37) = true)
    (a38 : PySem.W.nsIn K mainGlobals "_law_lets" = some (some (.ref f38)))
    (l38 : K.lookup f38 = some ⟨oc38, od38, .func (PySem.W.fnOf "_law_lets" "_law_lets" (defArgs s_law_lets) (defBody s_law_lets) (defScope s_law_lets) .none kV38 dc38 pm38 an38 cd38 ct38), sl38⟩)
    (c38 : PySem.W.codeIn K cd38 "_law_lets" = true)
    (k38 : PySem.W.keepIn K (.ref f38) = true)
    (a39 : PySem.W.nsIn K mainGlobals "_law_differ" = some (some (.ref f39)))
    (l39 : K.lookup f39 = some ⟨oc39, od39, .func (PySem.W.fnOf "_law_differ" "_law_differ" (defArgs s_law_differ) (defBody s_law_differ) (defScope s_law_differ) .none kV39 dc39 pm39 an39 cd39 ct39), sl39⟩)
    (c39 : PySem.W.codeIn K cd39 "_law_differ" = true)
    (k39 : PySem.W.keepIn K (.ref f39) = true)
    (a40 : PySem.W.nsIn K mainGlobals "_law_near" = some (some (.ref f40)))
    (l40 : K.lookup f40 = some ⟨oc40, od40, .func (PySem.W.fnOf "_law_near" "_law_near" (defArgs s_law_near) (defBody s_law_near) (defScope s_law_near) .none kV40 dc40 pm40 an40 cd40 ct40), sl40⟩)
    (c40 : PySem.W.codeIn K cd40 "_law_near" = true)
    (k40 : PySem.W.keepIn K (.ref f40) = true)
    (a41 : PySem.W.nsIn K mainGlobals "_law_groups" = some (some (.ref f41)))
    (l41 : K.lookup f41 = some ⟨oc41, od41, .func (PySem.W.fnOf "_law_groups" "_law_groups" (defArgs s_law_groups) (defBody s_law_groups) (defScope s_law_groups) .none kV41 dc41 pm41 an41 cd41 ct41), sl41⟩)
    (c41 : PySem.W.codeIn K cd41 "_law_groups" = true)
    (k41 : PySem.W.keepIn K (.ref f41) = true)
    (a42 : PySem.W.nsIn K mainGlobals "_law_fits" = some (some (.ref f42)))
    (l42 : K.lookup f42 = some ⟨oc42, od42, .func (PySem.W.fnOf "_law_fits" "_law_fits" (defArgs s_law_fits) (defBody s_law_fits) (defScope s_law_fits) .none kV42 dc42 pm42 an42 cd42 ct42), sl42⟩)
    (c42 : PySem.W.codeIn K cd42 "_law_fits" = true)
    (k42 : PySem.W.keepIn K (.ref f42) = true)
    (a43 : PySem.W.nsIn K mainGlobals "_law_values" = some (some (.ref f43)))
    (l43 : K.lookup f43 = some ⟨oc43, od43, .func (PySem.W.fnOf "_law_values" "_law_values" (defArgs s_law_values) (defBody s_law_values) (defScope s_law_values) .none kV43 dc43 pm43 an43 cd43 ct43), sl43⟩)
    (c43 : PySem.W.codeIn K cd43 "_law_values" = true)
    (k43 : PySem.W.keepIn K (.ref f43) = true)
    (a44 : PySem.W.nsIn K mainGlobals "_law_clash" = some (some (.ref f44)))
    (l44 : K.lookup f44 = some ⟨oc44, od44, .func (PySem.W.fnOf "_law_clash" "_law_clash" (defArgs s_law_clash) (defBody s_law_clash) (defScope s_law_clash) .none kV44 dc44 pm44 an44 cd44 ct44), sl44⟩)
    (c44 : PySem.W.codeIn K cd44 "_law_clash" = true)
    (k44 : PySem.W.keepIn K (.ref f44) = true)
    (a45 : PySem.W.nsIn K mainGlobals "_law_calm_rows" = some (some (.ref f45)))
    (l45 : K.lookup f45 = some ⟨oc45, od45, .func (PySem.W.fnOf "_law_calm_rows" "_law_calm_rows" (defArgs s_law_calm_rows) (defBody s_law_calm_rows) (defScope s_law_calm_rows) .none kV45 dc45 pm45 an45 cd45 ct45), sl45⟩)
    (c45 : PySem.W.codeIn K cd45 "_law_calm_rows" = true)
    (k45 : PySem.W.keepIn K (.ref f45) = true)
    (a46 : PySem.W.nsIn K mainGlobals "_law_any_told" = some (some (.ref f46)))
    (l46 : K.lookup f46 = some ⟨oc46, od46, .func (PySem.W.fnOf "_law_any_told" "_law_any_told" (defArgs s_law_any_told) (defBody s_law_any_told) (defScope s_law_any_told) .none kV46 dc46 pm46 an46 cd46 ct46), sl46⟩)
    (c46 : PySem.W.codeIn K cd46 "_law_any_told" = true)
    (k46 : PySem.W.keepIn K (.ref f46) = true)
    (a47 : PySem.W.nsIn K mainGlobals "_law_wild_told" = some (some (.ref f47)))
    (l47 : K.lookup f47 = some ⟨oc47, od47, .func (PySem.W.fnOf "_law_wild_told" "_law_wild_told" (defArgs s_law_wild_told) (defBody s_law_wild_told) (defScope s_law_wild_told) .none kV47 dc47 pm47 an47 cd47 ct47), sl47⟩)
    (c47 : PySem.W.codeIn K cd47 "_law_wild_told" = true)
    (k47 : PySem.W.keepIn K (.ref f47) = true)
    (a48 : PySem.W.nsIn K mainGlobals "_law_table" = some (some (.ref f48)))
    (l48 : K.lookup f48 = some ⟨oc48, od48, .func (PySem.W.fnOf "_law_table" "_law_table" (defArgs s_law_table) (defBody s_law_table) (defScope s_law_table) .none kV48 dc48 pm48 an48 cd48 ct48), sl48⟩)
    (c48 : PySem.W.codeIn K cd48 "_law_table" = true)
    (k48 : PySem.W.keepIn K (.ref f48) = true)
    (a49 : PySem.W.nsIn K mainGlobals "_law_wide_table" = some (some (.ref f49)))
    (l49 : K.lookup f49 = some ⟨oc49, od49, .func (PySem.W.fnOf "_law_wide_table" "_law_wide_table" (defArgs s_law_wide_table) (defBody s_law_wide_table) (defScope s_law_wide_table) .none kV49 dc49 pm49 an49 cd49 ct49), sl49⟩)
    (c49 : PySem.W.codeIn K cd49 "_law_wide_table" = true)
    (k49 : PySem.W.keepIn K (.ref f49) = true)
    (a50 : PySem.W.nsIn K mainGlobals "_law_views" = some (some (.ref f50)))
    (l50 : K.lookup f50 = some ⟨oc50, od50, .func (PySem.W.fnOf "_law_views" "_law_views" (defArgs s_law_views) (defBody s_law_views) (defScope s_law_views) .none kV50 dc50 pm50 an50 cd50 ct50), sl50⟩)
    (c50 : PySem.W.codeIn K cd50 "_law_views" = true)
    (k50 : PySem.W.keepIn K (.ref f50) = true)
    (a51 : PySem.W.nsIn K mainGlobals "_law_outside" = some (some (.ref f51)))
    (l51 : K.lookup f51 = some ⟨oc51, od51, .func (PySem.W.fnOf "_law_outside" "_law_outside" (defArgs s_law_outside) (defBody s_law_outside) (defScope s_law_outside) .none kV51 dc51 pm51 an51 cd51 ct51), sl51⟩)
    (c51 : PySem.W.codeIn K cd51 "_law_outside" = true)
    (k51 : PySem.W.keepIn K (.ref f51) = true)
    (a52 : PySem.W.nsIn K mainGlobals "_law_played" = some (some (.ref f52)))
    (l52 : K.lookup f52 = some ⟨oc52, od52, .func (PySem.W.fnOf "_law_played" "_law_played" (defArgs s_law_played) (defBody s_law_played) (defScope s_law_played) .none kV52 dc52 pm52 an52 cd52 ct52), sl52⟩)
    (c52 : PySem.W.codeIn K cd52 "_law_played" = true)
    (k52 : PySem.W.keepIn K (.ref f52) = true)
    (a53 : PySem.W.nsIn K mainGlobals "_law_right" = some (some (.ref f53)))
    (l53 : K.lookup f53 = some ⟨oc53, od53, .func (PySem.W.fnOf "_law_right" "_law_right" (defArgs s_law_right) (defBody s_law_right) (defScope s_law_right) .none kV53 dc53 pm53 an53 cd53 ct53), sl53⟩)
    (c53 : PySem.W.codeIn K cd53 "_law_right" = true)
    (k53 : PySem.W.keepIn K (.ref f53) = true)
    (a54 : PySem.W.nsIn K mainGlobals "law" = some (some (.ref f54)))
    (l54 : K.lookup f54 = some ⟨oc54, od54, .func (PySem.W.fnOf "law" "law" (defArgs s_law) (defBody s_law) (defScope s_law) .none kV54 dc54 pm54 an54 cd54 ct54), sl54⟩)
    (c54 : PySem.W.codeIn K cd54 "law" = true)
    (k54 : PySem.W.keepIn K (.ref f54) = true)
    (a55 : PySem.W.nsIn K mainGlobals "is_whole" = some (some (.ref f55)))
    (l55 : K.lookup f55 = some ⟨oc55, od55, .func (PySem.W.fnOf "is_whole" "is_whole" (defArgs s_is_whole) (defBody s_is_whole) (defScope s_is_whole) (.ref TW) kV55 dc55 pm55 an55 cd55 ct55), sl55⟩)
    (c55 : PySem.W.codeIn K cd55 "is_whole" = true)
    (k55 : PySem.W.keepIn K (.ref f55) = true)
    (lT : K.lookup TW = some ⟨ocT, odT, .seq [Value.none, Value.none].toArray nT, slT⟩)
    (a56 : PySem.W.findIn K (.ref CB) "__init__" = some (some (.ref f56)))
    (i56 : PySem.W.isFn K (.ref f56) = true)
    (l56 : K.lookup f56 = some ⟨oc56, od56, .func (PySem.W.fnOf "__init__" "Book.__init__" (defArgs s_Book___init__) (defBody s_Book___init__) (defScope s_Book___init__) .none kV56 dc56 pm56 an56 cd56 ct56), sl56⟩)
    (c56 : PySem.W.codeIn K cd56 "Book.__init__" = true)
    (k56 : PySem.W.keepIn K (.ref f56) = true)
    (a57 : PySem.W.findIn K (.ref CO) "__init__" = some (some (.ref f57)))
    (i57 : PySem.W.isFn K (.ref f57) = true)
    (l57 : K.lookup f57 = some ⟨oc57, od57, .func (PySem.W.fnOf "__init__" "Outcomes.__init__" (defArgs s_Outcomes___init__) (defBody s_Outcomes___init__) (defScope s_Outcomes___init__) .none kV57 dc57 pm57 an57 cd57 ct57), sl57⟩)
    (c57 : PySem.W.codeIn K cd57 "Outcomes.__init__" = true)
    (k57 : PySem.W.keepIn K (.ref f57) = true)
    (a58 : PySem.W.findIn K (.ref CO) "value_of" = some (some (.ref f58)))
    (i58 : PySem.W.isFn K (.ref f58) = true)
    (l58 : K.lookup f58 = some ⟨oc58, od58, .func (PySem.W.fnOf "value_of" "Outcomes.value_of" (defArgs s_Outcomes_value_of) (defBody s_Outcomes_value_of) (defScope s_Outcomes_value_of) .none kV58 dc58 pm58 an58 cd58 ct58), sl58⟩)
    (c58 : PySem.W.codeIn K cd58 "Outcomes.value_of" = true)
    (k58 : PySem.W.keepIn K (.ref f58) = true)
    (a59 : PySem.W.findIn K (.ref CT) "__init__" = some (some (.ref f59)))
    (i59 : PySem.W.isFn K (.ref f59) = true)
    (l59 : K.lookup f59 = some ⟨oc59, od59, .func (PySem.W.fnOf "__init__" "HouseTable.__init__" (defArgs s_HouseTable___init__) (defBody s_HouseTable___init__) (defScope s_HouseTable___init__) (.ref TM59) kV59 dc59 pm59 an59 cd59 ct59), sl59⟩)
    (c59 : PySem.W.codeIn K cd59 "HouseTable.__init__" = true)
    (k59 : PySem.W.keepIn K (.ref f59) = true)
    (lM59 : K.lookup TM59 = some ⟨ocM59, odM59, .seq [Value.ref eM59].toArray nM59, slM59⟩)
    (a60 : PySem.W.findIn K (.ref CT) "next_move" = some (some (.ref f60)))
    (i60 : PySem.W.isFn K (.ref f60) = true)
    (l60 : K.lookup f60 = some ⟨oc60, od60, .func (PySem.W.fnOf "next_move" "HouseTable.next_move" (defArgs s_HouseTable_next_move) (defBody s_HouseTable_next_move) (defScope s_HouseTable_next_move) .none kV60 dc60 pm60 an60 cd60 ct60), sl60⟩)
    (c60 : PySem.W.codeIn K cd60 "HouseTable.next_move" = true)
    (k60 : PySem.W.keepIn K (.ref f60) = true)
    (aF : PySem.W.nsIn K mainGlobals "FirmError" = some (some (.ref CF)))
    (rdF : PySem.W.readsIn K CF (.type "type") = true)
    (gaF : PySem.W.specialIn K (.ref CF) "__getattribute__" = some (some (.builtin "type.__getattribute__")))
    (vF : PySem.W.findCls K (.ref CF) (.type "type") "__init__" = some (.val (.builtin "ValueError.__init__")))
    (iF : PySem.W.isClsIn K CF = true)
    (yF : PySem.W.typeIn K (.ref CF) = some (.type "type"))
    (aaE : PySem.W.nsIn K mainGlobals "Outside" = some (some (.ref CE)))
    (a61 : PySem.W.findIn K (.ref CE) "__init__" = some (some (.ref f61)))
    (tIE : PySem.W.typeIn K (.ref f61) = some (.type "function"))
    (l61 : K.lookup f61 = some ⟨oc61, od61, .func (PySem.W.fnOf "__init__" "Outside.__init__" (defArgs s_Outside___init__) (defBody s_Outside___init__) (defScope s_Outside___init__) .none kV61 dc61 pm61 an61 cd61 ct61), sl61⟩)
    (c61 : PySem.W.codeIn K cd61 "Outside.__init__" = true)
    (k61 : PySem.W.keepIn K (.ref f61) = true)
    (lEE : K.lookup CE = some (excClassObj nmE qE CE NE bsE bmE true snE subE abE coE ddE x0E x1E x2E x3E x5E "ValueError.__new__"))
    (vEE : PySem.HandSPX.refsVE bmE = true)
    (sEE : PySem.W.findIn K (.ref CE) "__setattr__" = some (some (.builtin "object.__setattr__")))
    (eEE : PySem.W.subIn K (.ref CE) (.type "BaseException") = some true)
    (yEE : PySem.W.typeIn K (.ref CE) = some (.type "type"))
    (kEE : PySem.W.keepIn K (.ref CE) = true)
    (iEE : PySem.W.isClsIn K CE = true)
    (xgE : PySem.W.findIn K (.ref CE) "__getattribute__" = some (some (.builtin "BaseException.__getattribute__")))
    (xhE : PySem.W.findIn K (.ref CE) "__getattr__" = some none)
    (hEE : PySem.W.hasDictIn K CE = true)
    (ssE : PySem.W.subIn K (.ref CE) (.ref CE) = some true)
    (sfE : PySem.W.subIn K (.ref CE) (.ref CF) = some true)
    (svE : PySem.W.subIn K (.ref CE) (.type "ValueError") = some true)
    (nE_view : PySem.W.findIn K (.ref CE) "view" = some none)
    (z_isinstance : PySem.W.nsIn K mainGlobals "isinstance" = some none)
    (z_list : PySem.W.nsIn K mainGlobals "list" = some none)
    (z_tuple : PySem.W.nsIn K mainGlobals "tuple" = some none)
    (z_bool : PySem.W.nsIn K mainGlobals "bool" = some none)
    (z_int : PySem.W.nsIn K mainGlobals "int" = some none)
    (z_str : PySem.W.nsIn K mainGlobals "str" = some none)
    (z_all : PySem.W.nsIn K mainGlobals "all" = some none)
    (z_any : PySem.W.nsIn K mainGlobals "any" = some none)
    (z_range : PySem.W.nsIn K mainGlobals "range" = some none)
    (z_sorted : PySem.W.nsIn K mainGlobals "sorted" = some none)
    (z_set : PySem.W.nsIn K mainGlobals "set" = some none)
    (z_max : PySem.W.nsIn K mainGlobals "max" = some none)
    (z_len : PySem.W.nsIn K mainGlobals "len" = some none)
    (z_min : PySem.W.nsIn K mainGlobals "min" = some none)
    (z_repr : PySem.W.nsIn K mainGlobals "repr" = some none)
    (pgCB : PySem.W.plainGet K CB Str.empty = true)
    (hdCB : PySem.W.hasDictIn K CB = true)
    (poCB : PySem.W.plainOver K CB = true)
    (saCB : PySem.W.findIn K (.ref CB) "__setattr__" = some (some (.builtin "object.__setattr__")))
    (mkCB : PySem.W.makesIn K CB = true)
    (kcCB : PySem.W.keepIn K (.ref CB) = true)
    (noCB_n : PySem.W.findIn K (.ref CB) "n" = some none)
    (noCB_m : PySem.W.findIn K (.ref CB) "m" = some none)
    (noCB_inputs : PySem.W.findIn K (.ref CB) "inputs" = some none)
    (noCB_held : PySem.W.findIn K (.ref CB) "_held" = some none)
    (pgCO : PySem.W.plainGet K CO Str.empty = true)
    (hdCO : PySem.W.hasDictIn K CO = true)
    (poCO : PySem.W.plainOver K CO = true)
    (saCO : PySem.W.findIn K (.ref CO) "__setattr__" = some (some (.builtin "object.__setattr__")))
    (mkCO : PySem.W.makesIn K CO = true)
    (kcCO : PySem.W.keepIn K (.ref CO) = true)
    (noCO_inputs : PySem.W.findIn K (.ref CO) "inputs" = some none)
    (noCO_told : PySem.W.findIn K (.ref CO) "told" = some none)
    (noCO_places : PySem.W.findIn K (.ref CO) "_places" = some none)
    (pgCT : PySem.W.plainGet K CT Str.empty = true)
    (hdCT : PySem.W.hasDictIn K CT = true)
    (poCT : PySem.W.plainOver K CT = true)
    (saCT : PySem.W.findIn K (.ref CT) "__setattr__" = some (some (.builtin "object.__setattr__")))
    (mkCT : PySem.W.makesIn K CT = true)
    (kcCT : PySem.W.keepIn K (.ref CT) = true)
    (noCT_n : PySem.W.findIn K (.ref CT) "n" = some none)
    (noCT_m : PySem.W.findIn K (.ref CT) "m" = some none)
    (noCT_states : PySem.W.findIn K (.ref CT) "states" = some none)
    (noCT_start : PySem.W.findIn K (.ref CT) "start" = some none)
    (noCT_moves : PySem.W.findIn K (.ref CT) "moves" = some none)
    (noCT_move_at : PySem.W.findIn K (.ref CT) "_move_at" = some none)
    (ml0 : PySem.W.nsIn K mainGlobals "MOST_INPUTS" = some (some (.int 256 tL)))
    (ml1 : PySem.W.nsIn K mainGlobals "MOST_STATES" = some (some (.int 40 tS)))
    (ml2 : PySem.W.nsIn K mainGlobals "MOST_VALUES" = some (some (.int 4 tV)))
    (ml3 : PySem.W.nsIn K mainGlobals "MOST_MOVES" = some (some (.int 20000 tM)))
    (ml4 : PySem.W.nsIn K mainGlobals "MOST_HOUSES" = some (some (.int 5 tH)))
    (ciT : PySem.W.findIn K (.ref CT) "__class__" = some (some (.builtin "object.__class__")))
    (spT : PySem.W.specialIn K (.builtin "object.__class__") "__get__" = some (some (.builtin "getset_descriptor.__get__")))
    (tkT : PySem.W.takesIn K (.builtin "object.__class__") = some true)
    (moT : PySem.W.mroIn K CT (.type "object") = some true)
    (icT : PySem.W.isClsIn K CT = true)
    (tyT : PySem.W.typeIn K (.ref CT) = some (.type "type"))
    (ssT : PySem.W.subIn K (.ref CT) (.ref CT) = some true) :
    ∃ fd : FuncData, (∀ (s : Shared) (v : Value), BindsTo s fd ⟨[v], []⟩ [("_law_script", v)]) ∧ ∀ base : Heap, K.In base → base.Ns mainGlobals mg → FnOk l.prog w K mg base CX0 12 fa fd ["_law_script"] (spLaw K) := by
  have e := hfa.symm.trans (PySem.W.mg_of X G a54)
  cases e
  have T : Tx mg := ⟨PySem.W.mg_none_of X G z_isinstance, PySem.W.mg_none_of X G z_list, PySem.W.mg_none_of X G z_tuple, PySem.W.mg_none_of X G z_bool, PySem.W.mg_none_of X G z_int, PySem.W.mg_none_of X G z_str, PySem.W.mg_none_of X G z_all, PySem.W.mg_none_of X G z_any, PySem.W.mg_none_of X G z_range, PySem.W.mg_none_of X G z_sorted, PySem.W.mg_none_of X G z_set, PySem.W.mg_none_of X G z_max, PySem.W.mg_none_of X G z_len, PySem.W.mg_none_of X G z_min, PySem.W.mg_none_of X G z_repr⟩
  have F0 := fun_mk (st := s_is_sequence) l0 c0 k0
  have b0 := F0.binds (ps := ["thing"]) fun _ _ _ _ _ _ us hl => match us, hl with | [_], _ => rfl
  have g0 := PySem.W.mg_of X G a0
  have F1 := fun_mk (st := s_is_whole_row) l1 c1 k1
  have b1 := F1.binds (ps := ["thing"]) fun _ _ _ _ _ _ us hl => match us, hl with | [_], _ => rfl
  have g1 := PySem.W.mg_of X G a1
  have F2 := fun_mk (st := s_as_tuples) l2 c2 k2
  have b2 := F2.binds (ps := ["thing"]) fun _ _ _ _ _ _ us hl => match us, hl with | [_], _ => rfl
  have g2 := PySem.W.mg_of X G a2
  have F3 := fun_mk (st := s_check_entry) l3 c3 k3
  have b3 := F3.binds (ps := ["houses", "values", "entry"]) fun _ _ _ _ _ _ us hl => match us, hl with | [_, _, _], _ => rfl
  have g3 := PySem.W.mg_of X G a3
  have F4 := fun_mk (st := s_heard_houses) l4 c4 k4
  have b4 := F4.binds (ps := ["view"]) fun _ _ _ _ _ _ us hl => match us, hl with | [_], _ => rfl
  have g4 := PySem.W.mg_of X G a4
  have F5 := fun_mk (st := s_view_within) l5 c5 k5
  have b5 := F5.binds (ps := ["one", "other"]) fun _ _ _ _ _ _ us hl => match us, hl with | [_, _], _ => rfl
  have g5 := PySem.W.mg_of X G a5
  have F6 := fun_mk (st := s_goes_on) l6 c6 k6
  have b6 := F6.binds (ps := ["view", "entry"]) fun _ _ _ _ _ _ us hl => match us, hl with | [_, _], _ => rfl
  have g6 := PySem.W.mg_of X G a6
  have F7 := fun_mk (st := s_inputs_behind) l7 c7 k7
  have b7 := F7.binds (ps := ["book", "view"]) fun _ _ _ _ _ _ us hl => match us, hl with | [_, _], _ => rfl
  have g7 := PySem.W.mg_of X G a7
  have F8 := fun_mk (st := s_settled_values) l8 c8 k8
  have b8 := F8.binds (ps := ["book", "outcomes", "view"]) fun _ _ _ _ _ _ us hl => match us, hl with | [_, _, _], _ => rfl
  have g8 := PySem.W.mg_of X G a8
  have F9 := fun_mk (st := s_first_view) l9 c9 k9
  have b9 := F9.binds (ps := ["book", "outcomes", "view"]) fun _ _ _ _ _ _ us hl => match us, hl with | [_, _, _], _ => rfl
  have g9 := PySem.W.mg_of X G a9
  have F10 := fun_mk (st := s_sooner_run) l10 c10 k10
  have b10 := F10.binds (ps := ["book", "outcomes", "view", "value"]) fun _ _ _ _ _ _ us hl => match us, hl with | [_, _, _, _], _ => rfl
  have g10 := PySem.W.mg_of X G a10
  have F11 := fun_mk (st := s_checked_inputs) l11 c11 k11
  have b11 := F11.binds (ps := ["houses", "values", "inputs"]) fun _ _ _ _ _ _ us hl => match us, hl with | [_, _, _], _ => rfl
  have g11 := PySem.W.mg_of X G a11
  have F12 := fun_mk (st := s_places_in) l12 c12 k12
  have b12 := F12.binds (ps := ["inputs"]) fun _ _ _ _ _ _ us hl => match us, hl with | [_], _ => rfl
  have g12 := PySem.W.mg_of X G a12
  have F13 := fun_mk (st := s_check_frame) l13 c13 k13
  have b13 := F13.binds (ps := ["houses", "states", "start"]) fun _ _ _ _ _ _ us hl => match us, hl with | [_, _, _], _ => rfl
  have g13 := PySem.W.mg_of X G a13
  have F14 := fun_mk (st := s_is_row) l14 c14 k14
  have b14 := F14.binds (ps := ["houses", "others"]) fun _ _ _ _ _ _ us hl => match us, hl with | [_, _], _ => rfl
  have g14 := PySem.W.mg_of X G a14
  have F15 := fun_mk (st := s_is_move) l15 c15 k15
  have b15 := F15.binds (ps := ["states", "values", "move"]) fun _ _ _ _ _ _ us hl => match us, hl with | [_, _, _], _ => rfl
  have g15 := PySem.W.mg_of X G a15
  have F16 := fun_mk (st := s_place_of) l16 c16 k16
  have b16 := F16.binds (ps := ["state", "others"]) fun _ _ _ _ _ _ us hl => match us, hl with | [_, _], _ => rfl
  have g16 := PySem.W.mg_of X G a16
  have F17 := fun_mk (st := s_kept_moves) l17 c17 k17
  have b17 := F17.binds (ps := ["houses", "states", "values", "moves"]) fun _ _ _ _ _ _ us hl => match us, hl with | [_, _, _, _], _ => rfl
  have g17 := PySem.W.mg_of X G a17
  have F18 := fun_mk (st := s_entry_fault) l18 c18 k18
  have b18 := F18.binds (ps := ["houses", "states", "values", "row", "found"]) fun _ _ _ _ _ _ us hl => match us, hl with | [_, _, _, _, _], _ => rfl
  have g18 := PySem.W.mg_of X G a18
  have F19 := fun_mk (st := s_check_program) l19 c19 k19
  have b19 := F19.binds (ps := ["program"]) fun _ _ _ _ _ _ us hl => match us, hl with | [_], _ => rfl
  have g19 := PySem.W.mg_of X G a19
  have F20 := fun_mk (st := s_first_standing) l20 c20 k20
  have b20 := F20.binds (ps := ["program", "entry"]) fun _ _ _ _ _ _ us hl => match us, hl with | [_, _], _ => rfl
  have g20 := PySem.W.mg_of X G a20
  have F21 := fun_mk (st := s_behind_step) l21 c21 k21
  have b21 := F21.binds (ps := ["tables", "standing", "house"]) fun _ _ _ _ _ _ us hl => match us, hl with | [_, _, _], _ => rfl
  have g21 := PySem.W.mg_of X G a21
  have F22 := fun_mk (st := s_checked_step) l22 c22 k22
  have b22 := F22.binds (ps := ["tables", "standing", "house"]) fun _ _ _ _ _ _ us hl => match us, hl with | [_, _, _], _ => rfl
  have g22 := PySem.W.mg_of X G a22
  have F23 := fun_mk (st := s_last_standing) l23 c23 k23
  have b23 := F23.binds (ps := ["program", "standing", "run"]) fun _ _ _ _ _ _ us hl => match us, hl with | [_, _, _], _ => rfl
  have g23 := PySem.W.mg_of X G a23
  have F24 := fun_mk (st := s_cells_beside) l24 c24 k24
  have b24 := F24.binds (ps := ["standing", "house"]) fun _ _ _ _ _ _ us hl => match us, hl with | [_, _], _ => rfl
  have g24 := PySem.W.mg_of X G a24
  have F25 := fun_mk (st := s_plan_program) l25 c25 k25
  have b25 := F25.binds (ps := ["houses", "values", "plan"]) fun _ _ _ _ _ _ us hl => match us, hl with | [_, _, _], _ => rfl
  have g25 := PySem.W.mg_of X G a25
  have F26 := fun_mk (st := s_plan_table) l26 c26 k26
  have b26 := F26.binds (ps := ["houses", "values", "plan", "house"]) fun _ _ _ _ _ _ us hl => match us, hl with | [_, _, _, _], _ => rfl
  have g26 := PySem.W.mg_of X G a26
  have F27 := fun_mk (st := s_law_same) l27 c27 k27
  have b27 := F27.binds (ps := ["_law_told", "_law_due"]) fun _ _ _ _ _ _ us hl => match us, hl with | [_, _], _ => rfl
  have g27 := PySem.W.mg_of X G a27
  have F28 := fun_mk (st := s_law_goes) l28 c28 k28
  have b28 := F28.binds (ps := ["_law_view", "_law_row"]) fun _ _ _ _ _ _ us hl => match us, hl with | [_, _], _ => rfl
  have g28 := PySem.W.mg_of X G a28
  have F29 := fun_mk (st := s_law_heard) l29 c29 k29
  have b29 := F29.binds (ps := ["_law_view"]) fun _ _ _ _ _ _ us hl => match us, hl with | [_], _ => rfl
  have g29 := PySem.W.mg_of X G a29
  have F30 := fun_mk (st := s_law_draw) l30 c30 k30
  have b30 := F30.binds (ps := ["_law_pot_here", "_law_many"]) fun _ _ _ _ _ _ us hl => match us, hl with | [_, _], _ => rfl
  have g30 := PySem.W.mg_of X G a30
  have F31 := fun_mk (st := s_law_pot) l31 c31 k31
  have b31 := F31.binds (ps := ["_law_script", "_law_salt"]) fun _ _ _ _ _ _ us hl => match us, hl with | [_, _], _ => rfl
  have g31 := PySem.W.mg_of X G a31
  have F32 := fun_mk (st := s_law_sizes) l32 c32 k32
  have b32 := F32.binds (ps := ["_law_pot_here"]) fun _ _ _ _ _ _ us hl => match us, hl with | [_], _ => rfl
  have g32 := PySem.W.mg_of X G a32
  have F33 := fun_mk (st := s_law_lot) l33 c33 k33
  have b33 := F33.binds (ps := ["_law_pot_here", "_law_n"]) fun _ _ _ _ _ _ us hl => match us, hl with | [_, _], _ => rfl
  have g33 := PySem.W.mg_of X G a33
  have F34 := fun_mk (st := s_law_lots) l34 c34 k34
  have b34 := F34.binds (ps := ["_law_pot_here", "_law_n"]) fun _ _ _ _ _ _ us hl => match us, hl with | [_, _], _ => rfl
  have g34 := PySem.W.mg_of X G a34
  have F35 := fun_mk (st := s_law_longer) l35 c35 k35
  have b35 := F35.binds (ps := ["_law_rows_here", "_law_marks"]) fun _ _ _ _ _ _ us hl => match us, hl with | [_, _], _ => rfl
  have g35 := PySem.W.mg_of X G a35
  have F36 := fun_mk (st := s_law_rows) l36 c36 k36
  have b36 := F36.binds (ps := ["_law_n", "_law_m"]) fun _ _ _ _ _ _ us hl => match us, hl with | [_, _], _ => rfl
  have g36 := PySem.W.mg_of X G a36
  have F37 := fun_mk (st := s_law_covers) l37 c37 k37
  have b37 := F37.binds (ps := ["_law_n", "_law_lots_here"]) fun _ _ _ _ _ _ us hl => match us, hl with | [_, _], _ => rfl
  have g37 := PySem.W.mg_of X G a37
  have F38 := fun_mk (st := s_law_lets) l38 c38 k38
  have b38 := F38.binds (ps := ["_law_lots_here", "_law_lot_here"]) fun _ _ _ _ _ _ us hl => match us, hl with | [_, _], _ => rfl
  have g38 := PySem.W.mg_of X G a38
  have F39 := fun_mk (st := s_law_differ) l39 c39 k39
  have b39 := F39.binds (ps := ["_law_one", "_law_other"]) fun _ _ _ _ _ _ us hl => match us, hl with | [_, _], _ => rfl
  have g39 := PySem.W.mg_of X G a39
  have F40 := fun_mk (st := s_law_near) l40 c40 k40
  have b40 := F40.binds (ps := ["_law_one", "_law_other", "_law_lots_here", "_law_manner"]) fun _ _ _ _ _ _ us hl => match us, hl with | [_, _, _, _], _ => rfl
  have g40 := PySem.W.mg_of X G a40
  have F41 := fun_mk (st := s_law_groups) l41 c41 k41
  have b41 := F41.binds (ps := ["_law_rows_here", "_law_lots_here", "_law_manner"]) fun _ _ _ _ _ _ us hl => match us, hl with | [_, _, _], _ => rfl
  have g41 := PySem.W.mg_of X G a41
  have F42 := fun_mk (st := s_law_fits) l42 c42 k42
  have b42 := F42.binds (ps := ["_law_value", "_law_entry", "_law_lots_here", "_law_manner"]) fun _ _ _ _ _ _ us hl => match us, hl with | [_, _, _, _], _ => rfl
  have g42 := PySem.W.mg_of X G a42
  have F43 := fun_mk (st := s_law_values) l43 c43 k43
  have b43 := F43.binds (ps := ["_law_group", "_law_m", "_law_lots_here", "_law_manner"]) fun _ _ _ _ _ _ us hl => match us, hl with | [_, _, _, _], _ => rfl
  have g43 := PySem.W.mg_of X G a43
  have F44 := fun_mk (st := s_law_clash) l44 c44 k44
  have b44 := F44.binds (ps := ["_law_rows_here", "_law_n", "_law_m", "_law_lots_here", "_law_manner"]) fun _ _ _ _ _ _ us hl => match us, hl with | [_, _, _, _, _], _ => rfl
  have g44 := PySem.W.mg_of X G a44
  have F45 := fun_mk (st := s_law_calm_rows) l45 c45 k45
  have b45 := F45.binds (ps := ["_law_pot_here", "_law_n", "_law_m", "_law_lots_here", "_law_manner"]) fun _ _ _ _ _ _ us hl => match us, hl with | [_, _, _, _, _], _ => rfl
  have g45 := PySem.W.mg_of X G a45
  have F46 := fun_mk (st := s_law_any_told) l46 c46 k46
  have b46 := F46.binds (ps := ["_law_pot_here", "_law_rows_here", "_law_m", "_law_lots_here", "_law_manner"]) fun _ _ _ _ _ _ us hl => match us, hl with | [_, _, _, _, _], _ => rfl
  have g46 := PySem.W.mg_of X G a46
  have F47 := fun_mk (st := s_law_wild_told) l47 c47 k47
  have b47 := F47.binds (ps := ["_law_pot_here", "_law_rows_here", "_law_m"]) fun _ _ _ _ _ _ us hl => match us, hl with | [_, _, _], _ => rfl
  have g47 := PySem.W.mg_of X G a47
  have F48 := fun_mk (st := s_law_table) l48 c48 k48
  have b48 := F48.binds (ps := ["_law_rows_here", "_law_told"]) fun _ _ _ _ _ _ us hl => match us, hl with | [_, _], _ => rfl
  have g48 := PySem.W.mg_of X G a48
  have F49 := fun_mk (st := s_law_wide_table) l49 c49 k49
  have b49 := F49.binds (ps := ["_law_pot_here", "_law_n", "_law_m", "_law_rows_here", "_law_told"]) fun _ _ _ _ _ _ us hl => match us, hl with | [_, _, _, _, _], _ => rfl
  have g49 := PySem.W.mg_of X G a49
  have F50 := fun_mk (st := s_law_views) l50 c50 k50
  have b50 := F50.binds (ps := ["_law_n", "_law_m"]) fun _ _ _ _ _ _ us hl => match us, hl with | [_, _], _ => rfl
  have g50 := PySem.W.mg_of X G a50
  have F51 := fun_mk (st := s_law_outside) l51 c51 k51
  have b51 := F51.binds (ps := ["_law_book", "_law_outcomes", "_law_view"]) fun _ _ _ _ _ _ us hl => match us, hl with | [_, _, _], _ => rfl
  have g51 := PySem.W.mg_of X G a51
  have F52 := fun_mk (st := s_law_played) l52 c52 k52
  have b52 := F52.binds (ps := ["_law_n", "_law_m", "_law_view", "_law_value", "_law_entry", "_law_run"]) fun _ _ _ _ _ _ us hl => match us, hl with | [_, _, _, _, _, _], _ => rfl
  have g52 := PySem.W.mg_of X G a52
  have F53 := fun_mk (st := s_law_right) l53 c53 k53
  have b53 := F53.binds (ps := ["_law_pot_here", "_law_rows_here", "_law_told", "_law_n", "_law_m", "_law_book", "_law_outcomes", "_law_view"]) fun _ _ _ _ _ _ us hl => match us, hl with | [_, _, _, _, _, _, _, _], _ => rfl
  have g53 := PySem.W.mg_of X G a53
  have F54 := fun_mk (st := s_law) l54 c54 k54
  have b54 := F54.binds (ps := ["_law_script"]) fun _ _ _ _ _ _ us hl => match us, hl with | [_], _ => rfl
  have g54 := PySem.W.mg_of X G a54
  have F55 : FunW K f55 _ := ⟨⟨oc55, od55, .ref TW, kV55, dc55, pm55, an55, cd55, ct55, sl55, rfl, l55, c55, .inr ⟨by simp, TW, _, [.none, .none], nT, rfl, lT, rfl, .cons rfl (.cons rfl .nil)⟩, .inl rfl⟩, k55⟩
  have b55 := binds_whole F55
  have g55 := PySem.W.mg_of X G a55
  have F56 := fun_mk (st := s_Book___init__) l56 c56 k56
  have b56 := F56.binds (ps := ["self", "houses", "values", "inputs"]) fun _ _ _ _ _ _ us hl => match us, hl with | [_, _, _, _], _ => rfl
  have F57 := fun_mk (st := s_Outcomes___init__) l57 c57 k57
  have b57 := F57.binds (ps := ["self", "inputs", "told"]) fun _ _ _ _ _ _ us hl => match us, hl with | [_, _, _], _ => rfl
  have F58 := fun_mk (st := s_Outcomes_value_of) l58 c58 k58
  have b58 := F58.binds (ps := ["self", "entry"]) fun _ _ _ _ _ _ us hl => match us, hl with | [_, _], _ => rfl
  have F59 : FunTab K (.ref eM59) f59 _ := ⟨⟨oc59, od59, .ref TM59, kV59, dc59, pm59, an59, cd59, ct59, sl59, rfl, l59, c59, .inr ⟨by simp, TM59, _, [.ref eM59], nM59, rfl, lM59, rfl, .cons rfl .nil⟩, .inl rfl⟩, k59⟩
  have b59 := binds_tab F59
  have F60 := fun_mk (st := s_HouseTable_next_move) l60 c60 k60
  have b60 := F60.binds (ps := ["self", "state", "others"]) fun _ _ _ _ _ _ us hl => match us, hl with | [_, _, _], _ => rfl
  have FM : FirmC K mg CF (.type "type") := ⟨PySem.W.mg_of X G aF, ⟨rdF, gaF⟩, vF⟩
  have F61 := fun_mk (st := s_Outside___init__) l61 c61 k61
  have b61 := F61.binds (ps := ["self", "view"]) fun _ _ _ _ _ _ us hl => match us, hl with | [_, _], _ => rfl
  have ECE : ErrC K mg CF CE f61 "Outside" ["view"] := ⟨⟨⟨_, _, _, _, _, _, _, _, _, _, _, _, _, _, _, lEE, vEE⟩, sEE, eEE, yEE, kEE⟩, a61, tIE, (List.forall_mem_singleton.mpr nE_view), PySem.W.mg_of X G aaE, ⟨xgE, xhE, eEE, hEE⟩, exm_is eEE iEE yEE ssE, kit_ref iF yF sfE, kit_VE svE⟩
  have gCB := PySem.W.mg_of X G aCB
  have clCB : Cls K CB := ⟨pgCB, hdCB, poCB, saCB⟩
  have gCO := PySem.W.mg_of X G aCO
  have clCO : Cls K CO := ⟨pgCO, hdCO, poCO, saCO⟩
  have gCT := PySem.W.mg_of X G aCT
  have clCT : Cls K CT := ⟨pgCT, hdCT, poCT, saCT⟩
  have BC : BookC K CB := ⟨clCB, noCB_n, noCB_m, noCB_inputs, noCB_held⟩
  have OC : OutC K CO := ⟨clCO, noCO_inputs, noCO_told, noCO_places⟩
  have TC : TabC K CT := ⟨clCT, noCT_n, noCT_m, noCT_states, noCT_start, noCT_moves, noCT_move_at⟩
  have TT : TabT K CT := ⟨fun H a dx fs e => .ins e clCT ciT spT tkT moT, kit_ref icT tyT ssT⟩
  refine ⟨PySem.W.fnOf "law" "law" (defArgs s_law) (defBody s_law) (defScope s_law) .none kV54 dc54 pm54 an54 cd54 ct54, fun s v => .of_eq rfl, fun base _ _ => ?_⟩
  have Ogo := ok_goes (P := l.prog) (w := w) (base := base) F6 T F5 b5 g5
  have Oent := ok_gentry (P := l.prog) (w := w) (base := base) F3 T F0 b0 g0 F55 b55 g55
  have Obook := ok_book (P := l.prog) (w := w) (base := base) F56 T BC (PySem.W.mg_of X G ml0) F0 b0 g0 F55 b55 g55 F3 b3 g3 F11 b11 g11
  have Oa1 := ok_as1 (P := l.prog) (w := w) (base := base) F2 T b2 g2 F0 b0 g0
  have Oa2 := ok_as2 (P := l.prog) (w := w) (base := base) F2 T b2 g2 F0 b0 g0
  have Oas : FnOk l.prog w K mg base CX0 4 f2 _ ["thing"] (spAsU K) := FnOk.or (Fv.FnOk.up Oa1 (by decide)) Oa2
  have Opl := ok_pl (P := l.prog) (w := w) (base := base) F12 T F1 b1 g1 F0 b0 g0 F55 g55
  have Oout := ok_out (P := l.prog) (w := w) (base := base) F57 T OC F2 b2 g2 Oas F12 b12 g12 Opl
  have Oval := ok_val (P := l.prog) (w := w) (base := base) F58 T OC F1 b1 g1 F0 b0 g0 F55 g55
  have Obeh := ok_beh (P := l.prog) (w := w) (base := base) F7 T BC F6 b6 g6 Ogo
  have Oset := ok_set (P := l.prog) (w := w) (base := base) F8 T OC F7 b7 g7 Obeh (⟨a58, i58, k58⟩ : Meth K CO "value_of" f58) Oval b58
  have OfvG := ok_fvG (P := l.prog) (w := w) (base := base) F9 T F8 b8 g8 Oset
  have OfvN := ok_fvN (P := l.prog) (w := w) (base := base) F9 T FM ECE F61 b61 F8 b8 g8 Oset
  have Osoon := ok_soon (P := l.prog) (w := w) (base := base) F10 T F55 g55 F9 b9 g9 OfvG F7 b7 g7 Obeh OC (⟨a58, i58, k58⟩ : Meth K CO "value_of" f58) Oval b58 F4 b4 g4
  have OsoonB := ok_soonB (P := l.prog) (w := w) (base := base) F10 T FM ECE F61 b61 F55 g55 F9 b9 g9 OfvN F7 b7 g7 Obeh OC (⟨a58, i58, k58⟩ : Meth K CO "value_of" f58) Oval b58 F4 b4 g4
  have Ooutside := ok_outside (P := l.prog) (w := w) (base := base) F51 T ECE F27 b27 g27 F10 b10 g10 OsoonB
  have OasT := ok_asT (P := l.prog) (w := w) (base := base) F2 T b2 g2 F0 b0 g0
  have Oframe := ok_frame (P := l.prog) (w := w) (base := base) F13 T (PySem.W.mg_of X G ml4) (PySem.W.mg_of X G ml1) (PySem.W.mg_of X G ml2) F0 b0 g0 F55 b55 g55
  have Oef := ok_ef (P := l.prog) (w := w) (base := base) F18 T (PySem.W.mg_of X G ml1) F0 b0 g0 F55 b55 g55 F14 b14 g14 F15 b15 g15 F16 b16 g16
  have Okept := ok_kept (P := l.prog) (w := w) (base := base) F17 T F18 b18 g18 Oef F2 b2 g2 OasT F16 b16 g16
  have OtabI := ok_tabI (P := l.prog) (w := w) (base := base) F59 T TC (PySem.W.mg_of X G ml3) F13 b13 g13 Oframe F0 b0 g0 F17 b17 g17 Okept
  have Onext := ok_next (P := l.prog) (w := w) (base := base) F60 T TC
  have Opt := ok_pt (P := l.prog) (w := w) (base := base) F26 T (⟨mkCT, a59, i59, kcCT⟩ : Mk K CT f59) gCT OtabI b59
  have Oprog := ok_prog (P := l.prog) (w := w) (base := base) F25 T F26 b26 g26 Opt
  have Ocp := ok_cp (P := l.prog) (w := w) (base := base) F19 T TC TT gCT (PySem.W.mg_of X G ml4) F0 b0 g0
  have Ofirst := ok_first (P := l.prog) (w := w) (base := base) F20 T TC F19 b19 g19 Ocp F3 b3 g3 Oent
  have Obs := ok_bs (P := l.prog) (w := w) (base := base) F21 T TC (⟨a60, i60, k60⟩ : Meth K CT "next_move" f60) Onext b60 F24 b24 g24 F0 b0 g0
  have Ocs := ok_cs (P := l.prog) (w := w) (base := base) F22 T F55 b55 g55 F21 b21 g21 Obs
  have Olast := ok_last (P := l.prog) (w := w) (base := base) F23 T F19 b19 g19 Ocp F2 b2 g2 OasT F22 b22 g22 Ocs
  have Oplayed := ok_played (P := l.prog) (w := w) (base := base) F52 T F25 b25 g25 Oprog F20 b20 g20 Ofirst F23 b23 g23 Olast F27 b27 g27
  have Olots := ok_law_lots (P := l.prog) (w := w) (base := base) F34 T F30 b30 g30 F33 b33 g33
  have Ogrps := ok_grps (P := l.prog) (w := w) (base := base) (by decide : ("sure" : Str) ≠ "letters") F41 T F40 b40 g40 F37 b37 g37 F39 b39 g39 F38 b38 g38
  have Ovals := ok_lvals (P := l.prog) (w := w) (base := base) F43 T F38 b38 g38 F42 b42 g42
  have Oclash := ok_clash (P := l.prog) (w := w) (base := base) F44 T F41 b41 g41 Ogrps F43 b43 g43 Ovals
  have OrowsF := ok_rowsF (P := l.prog) (w := w) (base := base) F36 T F35 b35 g35
  have Ocalm := ok_calm (P := l.prog) (w := w) (base := base) F45 T F30 b30 g30 F36 b36 g36 OrowsF F44 b44 g44 Oclash
  have Oany := ok_any (P := l.prog) (w := w) (base := base) F46 T F30 b30 g30 F41 b41 g41 Ogrps F43 b43 g43 Ovals
  have Otab := ok_tab (P := l.prog) (w := w) (base := base) F48 T (⟨mkCO, a57, i57, kcCO⟩ : Mk K CO f57) gCO Oout b57
  have Owide := ok_wide (P := l.prog) (w := w) (base := base) F49 T F30 b30 g30 F48 b48 g48 Otab
  have Oviews := ok_views (P := l.prog) (w := w) (base := base) F50 T F35 b35 g35
  have Oright := ok_right (P := l.prog) (w := w) (base := base) F53 T F28 b28 g28 F51 b51 g51 Ooutside F29 b29 g29 F10 b10 g10 Osoon F27 b27 g27 F52 b52 g52 Oplayed F30 b30 g30
  exact ok_law F54 T F31 b31 g31 F32 b32 g32 F30 b30 g30 F34 b34 g34 Olots F45 b45 g45 Ocalm F46 b46 g46 Oany F47 b47 g47 (⟨mkCB, a56, i56, kcCB⟩ : Mk K CB f56) gCB b56 Obook F49 b49 g49 Owide F50 b50 g50 Oviews F53 b53 g53 Oright
end
theorem walk {l : PySem.W.OpenLaw} {q : Program} {loose : List Str} {XP : (Str → Option Value) → Heap → Prop} {YP : World → Heap → Prop} {d : DefRec} {K : Params → PySem.W.Frag} (hn : l.most = some 63) (hdf : d.params.defaults = [])
    (hY : ∀ (w : World) (h : Heap), YP w h → (K w.params).In h)
    (F : ∀ (w : World) (mg : Str → Option Value) (fa : Addr) (h : Heap), (K w.params).In h → h.Ns mainGlobals mg → mg d.name = some (.ref fa) →
      ∃ fd : FuncData, (∀ (s : Shared) (u : Value), BindsTo s fd ⟨[u], []⟩ [("_law_script", u)]) ∧ ∀ base : Heap, (K w.params).In base → base.Ns mainGlobals mg → FnOk l.prog w (K w.params) mg base CX0 12 fa fd ["_law_script"] (spLaw (K w.params))) :
    PySem.W.WalkO q loose XP YP l.row.toRowW d [] (fun f vs => PySem.call f vs) :=
  L2.walk_of (n := 63) (k := 12) (x := "_law_script") (CX := fun _ => CX0) (sp := fun w => spLaw (K w.params)) hn (by decide) hdf ⟨rfl, by decide, by decide⟩ hY F (fun _ _ a ns _ _ hS => ⟨a, ns, rfl, hS, fun _ => rfl⟩) fun _ _ _ _ _ z => z
end KC

open PySem PySem.W PyProof.Rows
set_option maxRecDepth 100000 in
set_option maxHeartbeats 0 in
theorem PySem.Challenge.cw_firmvalues_k78_whole_deciding_sooner_is_holds : PySem.Challenge.rw_firmvalues_k78_whole_deciding_sooner_is.Holds := by
  w_on; o_law; k_head; (case hw => w_witness2)
  k_fill
  refine KC.walk (l := PySem.Challenge.rw_firmvalues_k78_whole_deciding_sooner_is) rfl rfl (fun w h Y => PySem.W.kIn_of Y) ?F
  case F =>
    intro w mg fa h KX G hmg
    refine' KC.all_mk KX G hmg ?aCB ?aCO ?aCT ?a0 ?l0 ?c0 ?k0 ?a1 ?l1 ?c1 ?k1 ?a2 ?l2 ?c2 ?k2 ?a3 ?l3 ?c3 ?k3 ?a4 ?l4 ?c4 ?k4 ?a5 ?l5 ?c5 ?k5 ?a6 ?l6 ?c6 ?k6 ?a7 ?l7 ?c7 ?k7 ?a8 ?l8 ?c8 ?k8 ?a9 ?l9 ?c9 ?k9 ?a10 ?l10 ?c10 ?k10 ?a11 ?l11 ?c11 ?k11 ?a12 ?l12 ?c12 ?k12 ?a13 ?l13 ?c13 ?k13 ?a14 ?l14 ?c14 ?k14 ?a15 ?l15 ?c15 ?k15 ?a16 ?l16 ?c16 ?k16 ?a17 ?l17 ?c17 ?k17 ?a18 ?l18 ?c18 ?k18 ?a19 ?l19 ?c19 ?k19 ?a20 ?l20 ?c20 ?k20 ?a21 ?l21 ?c21 ?k21 ?a22 ?l22 ?c22 ?k22 ?a23 ?l23 ?c23 ?k23 ?a24 ?l24 ?c24 ?k24 ?a25 ?l25 ?c25 ?k25 ?a26 ?l26 ?c26 ?k26 ?a27 ?l27 ?c27 ?k27 ?a28 ?l28 ?c28 ?k28 ?a29 ?l29 ?c29 ?k29 ?a30 ?l30 ?c30 ?k30 ?a31 ?l31 ?c31 ?k31 ?a32 ?l32 ?c32 ?k32 ?a33 ?l33 ?c33 ?k33 ?a34 ?l34 ?c34 ?k34 ?a35 ?l35 ?c35 ?k35 ?a36 ?l36 ?c36 ?k36 ?a37 ?l37 ?c37 ?k37 ?a38 ?l38 ?c38 ?k38 ?a39 ?l39 ?c39 ?k39 ?a40 ?l40 ?c40 ?k40 ?a41 ?l41 ?c41 ?k41 ?a42 ?l42 ?c42 ?k42 ?a43 ?l43 ?c43 ?k43 ?a44 ?l44 ?c44 ?k44 ?a45 ?l45 ?c45 ?k45 ?a46 ?l46 ?c46 ?k46 ?a47 ?l47 ?c47 ?k47 ?a48 ?l48 ?c48 ?k48 ?a49 ?l49 ?c49 ?k49 ?a50 ?l50 ?c50 ?k50 ?a51 ?l51 ?c51 ?k51 ?a52 ?l52 ?c52 ?k52 ?a53 ?l53 ?c53 ?k53 ?a54 ?l54 ?c54 ?k54 ?a55 ?l55 ?c55 ?k55 ?lT ?a56 ?i56 ?l56 ?c56 ?k56 ?a57 ?i57 ?l57 ?c57 ?k57 ?a58 ?i58 ?l58 ?c58 ?k58 ?a59 ?i59 ?l59 ?c59 ?k59 ?lM59 ?a60 ?i60 ?l60 ?c60 ?k60 ?aF ?rdF ?gaF ?vF ?iF ?yF ?aaE ?a61 ?tIE ?l61 ?c61 ?k61 ?lEE ?vEE ?sEE ?eEE ?yEE ?kEE ?iEE ?xgE ?xhE ?hEE ?ssE ?sfE ?svE ?nE_view ?z_isinstance ?z_list ?z_tuple ?z_bool ?z_int ?z_str ?z_all ?z_any ?z_range ?z_sorted ?z_set ?z_max ?z_len ?z_min ?z_repr ?pgCB ?hdCB ?poCB ?saCB ?mkCB ?kcCB ?noCB_n ?noCB_m ?noCB_inputs ?noCB_held ?pgCO ?hdCO ?poCO ?saCO ?mkCO ?kcCO ?noCO_inputs ?noCO_told ?noCO_places ?pgCT ?hdCT ?poCT ?saCT ?mkCT ?kcCT ?noCT_n ?noCT_m ?noCT_states ?noCT_start ?noCT_moves ?noCT_move_at ?ml0 ?ml1 ?ml2 ?ml3 ?ml4 ?ciT ?spT ?tkT ?moT ?icT ?tyT ?ssT
    (case aCB => k_is)
    (case aCO => k_is)
    (case aCT => k_is)
    (case a0 => k_is)
    (case l0 => k_is)
    (case c0 => k_is)
    (case k0 => k_is)
    (case a1 => k_is)
    (case l1 => k_is)
    (case c1 => k_is)
    (case k1 => k_is)
    (case a2 => k_is)
    (case l2 => k_is)
    (case c2 => k_is)
    (case k2 => k_is)
    (case a3 => k_is)
    (case l3 => k_is)
    (case c3 => k_is)
    (case k3 => k_is)
    (case a4 => k_is)
    (case l4 => k_is)
    (case c4 => k_is)
    (case k4 => k_is)
    (case a5 => k_is)
    (case l5 => k_is)
    (case c5 => k_is)
    (case k5 => k_is)
    (case a6 => k_is)
    (case l6 => k_is)
    (case c6 => k_is)
    (case k6 => k_is)
    (case a7 => k_is)
    (case l7 => k_is)
    (case c7 => k_is)
    (case k7 => k_is)
    (case a8 => k_is)
    (case l8 => k_is)
    (case c8 => k_is)
    (case k8 => k_is)
    (case a9 => k_is)
    (case l9 => k_is)
    (case c9 => k_is)
    (case k9 => k_is)
    (case a10 => k_is)
    (case l10 => k_is)
    (case c10 => k_is)
    (case k10 => k_is)
    (case a11 => k_is)
    (case l11 => k_is)
    (case c11 => k_is)
    (case k11 => k_is)
    (case a12 => k_is)
    (case l12 => k_is)
    (case c12 => k_is)
    (case k12 => k_is)
    (case a13 => k_is)
    (case l13 => k_is)
    (case c13 => k_is)
    (case k13 => k_is)
    (case a14 => k_is)
    (case l14 => k_is)
    (case c14 => k_is)
    (case k14 => k_is)
    (case a15 => k_is)
    (case l15 => k_is)
    (case c15 => k_is)
    (case k15 => k_is)
    (case a16 => k_is)
    (case l16 => k_is)
    (case c16 => k_is)
    (case k16 => k_is)
    (case a17 => k_is)
    (case l17 => k_is)
    (case c17 => k_is)
    (case k17 => k_is)
    (case a18 => k_is)
    (case l18 => k_is)
    (case c18 => k_is)
    (case k18 => k_is)
    (case a19 => k_is)
    (case l19 => k_is)
    (case c19 => k_is)
    (case k19 => k_is)
    (case a20 => k_is)
    (case l20 => k_is)
    (case c20 => k_is)
    (case k20 => k_is)
    (case a21 => k_is)
    (case l21 => k_is)
    (case c21 => k_is)
    (case k21 => k_is)
    (case a22 => k_is)
    (case l22 => k_is)
    (case c22 => k_is)
    (case k22 => k_is)
    (case a23 => k_is)
    (case l23 => k_is)
    (case c23 => k_is)
    (case k23 => k_is)
    (case a24 => k_is)
    (case l24 => k_is)
    (case c24 => k_is)
    (case k24 => k_is)
    (case a25 => k_is)
    (case l25 => k_is)
    (case c25 => k_is)
    (case k25 => k_is)
    (case a26 => k_is)
    (case l26 => k_is)
    (case c26 => k_is)
    (case k26 => k_is)
    (case a27 => k_is)
    (case l27 => k_is)
    (case c27 => k_is)
    (case k27 => k_is)
    (case a28 => k_is)
    (case l28 => k_is)
    (case c28 => k_is)
    (case k28 => k_is)
    (case a29 => k_is)
    (case l29 => k_is)
    (case c29 => k_is)
    (case k29 => k_is)
    (case a30 => k_is)
    (case l30 => k_is)
    (case c30 => k_is)
    (case k30 => k_is)
    (case a31 => k_is)
    (case l31 => k_is)
    (case c31 => k_is)
    (case k31 => k_is)
    (case a32 => k_is)
    (case l32 => k_is)
    (case c32 => k_is)
    (case k32 => k_is)
    (case a33 => k_is)
    (case l33 => k_is)
    (case c33 => k_is)
    (case k33 => k_is)
    (case a34 => k_is)
    (case l34 => k_is)
    (case c34 => k_is)
    (case k34 => k_is)
    (case a35 => k_is)
    (case l35 => k_is)
    (case c35 => k_is)
    (case k35 => k_is)
    (case a36 => k_is)
    (case l36 => k_is)
    (case c36 => k_is)
    (case k36 => k_is)
    (case a37 => k_is)
    (case l37 => k_is)
    (case c37 => k_is)
    (case k37 => k_is)
    (case a38 => k_is)
    (case l38 => k_is)
    (case c38 => k_is)
    (case k38 => k_is)
    (case a39 => k_is)
    (case l39 => k_is)
    (case c39 => k_is)
    (case k39 => k_is)
    (case a40 => k_is)
    (case l40 => k_is)
    (case c40 => k_is)
    (case k40 => k_is)
    (case a41 => k_is)
    (case l41 => k_is)
    (case c41 => k_is)
    (case k41 => k_is)
    (case a42 => k_is)
    (case l42 => k_is)
    (case c42 => k_is)
    (case k42 => k_is)
    (case a43 => k_is)
    (case l43 => k_is)
    (case c43 => k_is)
    (case k43 => k_is)
    (case a44 => k_is)
    (case l44 => k_is)
    (case c44 => k_is)
    (case k44 => k_is)
    (case a45 => k_is)
    (case l45 => k_is)
    (case c45 => k_is)
    (case k45 => k_is)
    (case a46 => k_is)
    (case l46 => k_is)
    (case c46 => k_is)
    (case k46 => k_is)
    (case a47 => k_is)
    (case l47 => k_is)
    (case c47 => k_is)
    (case k47 => k_is)
    (case a48 => k_is)
    (case l48 => k_is)
    (case c48 => k_is)
    (case k48 => k_is)
    (case a49 => k_is)
    (case l49 => k_is)
    (case c49 => k_is)
    (case k49 => k_is)
    (case a50 => k_is)
    (case l50 => k_is)
    (case c50 => k_is)
    (case k50 => k_is)
    (case a51 => k_is)
    (case l51 => k_is)
    (case c51 => k_is)
    (case k51 => k_is)
    (case a52 => k_is)
    (case l52 => k_is)
    (case c52 => k_is)
    (case k52 => k_is)
    (case a53 => k_is)
    (case l53 => k_is)
    (case c53 => k_is)
    (case k53 => k_is)
    (case a54 => k_is)
    (case l54 => k_is)
    (case c54 => k_is)
    (case k54 => k_is)
    (case a55 => k_is)
    (case l55 => k_is)
    (case c55 => k_is)
    (case k55 => k_is)
    (case lT => k_is)
    (case a56 => k_is)
    (case i56 => k_is)
    (case l56 => k_is)
    (case c56 => k_is)
    (case k56 => k_is)
    (case a57 => k_is)
    (case i57 => k_is)
    (case l57 => k_is)
    (case c57 => k_is)
    (case k57 => k_is)
    (case a58 => k_is)
    (case i58 => k_is)
    (case l58 => k_is)
    (case c58 => k_is)
    (case k58 => k_is)
    (case a59 => k_is)
    (case i59 => k_is)
    (case l59 => k_is)
    (case c59 => k_is)
    (case k59 => k_is)
    (case lM59 => k_is)
    (case a60 => k_is)
    (case i60 => k_is)
    (case l60 => k_is)
    (case c60 => k_is)
    (case k60 => k_is)
    (case aF => k_is)
    (case rdF => k_is)
    (case gaF => k_is)
    (case vF => k_is)
    (case iF => k_is)
    (case yF => k_is)
    (case aaE => k_is)
    (case a61 => k_is)
    (case tIE => k_is)
    (case l61 => k_is)
    (case c61 => k_is)
    (case k61 => k_is)
    (case lEE => k_is)
    (case vEE => decide +kernel)
    (case sEE => k_is)
    (case eEE => k_is)
    (case yEE => k_is)
    (case kEE => k_is)
    (case iEE => k_is)
    (case xgE => k_is)
    (case xhE => k_is)
    (case hEE => k_is)
    (case ssE => k_is)
    (case sfE => k_is)
    (case svE => k_is)
    (case nE_view => k_is)
    (case z_isinstance => k_is)
    (case z_list => k_is)
    (case z_tuple => k_is)
    (case z_bool => k_is)
    (case z_int => k_is)
    (case z_str => k_is)
    (case z_all => k_is)
    (case z_any => k_is)
    (case z_range => k_is)
    (case z_sorted => k_is)
    (case z_set => k_is)
    (case z_max => k_is)
    (case z_len => k_is)
    (case z_min => k_is)
    (case z_repr => k_is)
    (case pgCB => k_is)
    (case hdCB => k_is)
    (case poCB => k_is)
    (case saCB => k_is)
    (case mkCB => k_is)
    (case kcCB => k_is)
    (case noCB_n => k_is)
    (case noCB_m => k_is)
    (case noCB_inputs => k_is)
    (case noCB_held => k_is)
    (case pgCO => k_is)
    (case hdCO => k_is)
    (case poCO => k_is)
    (case saCO => k_is)
    (case mkCO => k_is)
    (case kcCO => k_is)
    (case noCO_inputs => k_is)
    (case noCO_told => k_is)
    (case noCO_places => k_is)
    (case pgCT => k_is)
    (case hdCT => k_is)
    (case poCT => k_is)
    (case saCT => k_is)
    (case mkCT => k_is)
    (case kcCT => k_is)
    (case noCT_n => k_is)
    (case noCT_m => k_is)
    (case noCT_states => k_is)
    (case noCT_start => k_is)
    (case noCT_moves => k_is)
    (case noCT_move_at => k_is)
    (case ml0 => k_is)
    (case ml1 => k_is)
    (case ml2 => k_is)
    (case ml3 => k_is)
    (case ml4 => k_is)
    (case ciT => k_is)
    (case spT => k_is)
    (case tkT => k_is)
    (case moT => k_is)
    (case icT => k_is)
    (case tyT => k_is)
    (case ssT => k_is)

