import PyProof.Rows.All
import Wide.All
import OpenK.AllK
import Wide.FinOn
import HandS.ForMost
import HandS.Base
import HandS.Call
import HandS.List
import HandS.Comp
import HandS.Ends
import HandS.Evl
import HandS.Words
import HandS.IsInst
import HandS.Deep
import HandS.Conv
import HandS.Flow
import HandS.Star
import HandS.TupAny
import HandS.SetFor
import HandS.SortKw
import HandS.Strs
import KE.DataMinMax
import KE.SortData
import HandS.Dict
import HandS.DictComp
import KE.SortCalls
import HandS.ClsMeth
import HandS.Property
import HandS.Style
import HandS.ExcInit
import HandS.ExcField
import HandS.ExcIs
import PyProof.ReprRoads
import PyProof.ReprReads
import HandS.ExcOwn
import KE.KIsAll
import KE.KMatchCls
import HandS.Small
import PyProof.Rows.TupMore
import HandS.HotCalls
import HandS.Text
import HandS.More
import HandS.SuiteRaise
import HandS.RaiseFrom
import HandS.ExcInitHot
import HandS.TupSets
import HandS.OwnEq
import KE.SortKeyHeap
import KE.FramesApart
import HandS.SetKeys
import PyProof.DictMoreH
import KE.KDictSum
import KE.KeyNested
import KE.KDictKeyed
import HandS.Iter
import HandS.TupLen
import PyProof.DictTruth
import HandS.SortInts
import HandS.TupMul
import PyProof.DictDisplay
import HandS.WordsList
import HandS.Exc
import HandS.WordsExc
import HandS.Defaults
import PySem.Challenge.RW_firmvalues_k40_whole_collects_amid_write
import HandS.Wide
import PyProof.Conv_int_bool
import Flt.Ops
import PyProof.InstNe
import PyProof.Seq
import HandS.FStr
import HandS.MakeKwOnly
set_option Elab.async false
set_option linter.all false
set_option maxRecDepth 100000
set_option maxHeartbeats 8000000
/-! fv: what an expression evaluates to, over a part of the heap that stays -/
namespace Fv
open PySem L2 Evl
/-! ### data in the heap: lists stand in the heap itself, tuples are read -/
mutual
inductive Rp (K : PySem.W.Frag) (H : Hp) : V → PyData → Prop
  | non : Rp K H .non .none
  | bl (b : Bool) : Rp K H (.bl b) (.bool b)
  | int (i : Int) : Rp K H (.int i) (.int i)
  | str (x : Str) : Rp K H (.str x) (.str x)
  | lst {a : Addr} {xs : List V} {ds : List PyData} : H a = some (.lst xs) → RpAll K H xs ds → Rp K H (.ref a) (.list ds)
  | tup {a : Addr} {xs : List V} {ds : List PyData} : H a = some (.tup xs) → RpAll K H xs ds → Rp K H (.ref a) (.tuple ds)
inductive RpAll (K : PySem.W.Frag) (H : Hp) : List V → List PyData → Prop
  | nil : RpAll K H [] []
  | cons {v : V} {vs : List V} {d : PyData} {ds : List PyData} : Rp K H v d → RpAll K H vs ds → RpAll K H (v :: vs) (d :: ds)
end
section
variable {K : PySem.W.Frag} {H H' : Hp}
mutual
theorem Rp.mono (e : Ex H H') : ∀ (d : PyData) (v : V), Rp K H v d → Rp K H' v d
  | .none, _, h => by cases h; exact .non
  | .bool b, _, h => by cases h; exact .bl b
  | .int i, _, h => by cases h; exact .int i
  | .str x, _, h => by cases h; exact .str x
  | .list ds, _, h => by
    cases h with
    | lst hs ha => exact .lst (e _ _ hs) (RpAll.mono e ds _ ha)
  | .tuple ds, _, h => by
    cases h with
    | tup hs ha => exact .tup (e _ _ hs) (RpAll.mono e ds _ ha)
  | .dict _, _, h => by cases h
theorem RpAll.mono (e : Ex H H') : ∀ (ds : List PyData) (vs : List V), RpAll K H vs ds → RpAll K H' vs ds
  | [], _, h => by cases h; exact .nil
  | d :: ds, _, h => by
    cases h with
    | cons h1 h2 => exact .cons (Rp.mono e d _ h1) (RpAll.mono e ds _ h2)
end
mutual
theorem Rp.dp : ∀ (d : PyData) (v : V), Rp K H v d → Dp K H v d
  | .none, _, h => by cases h; exact .non
  | .bool b, _, h => by cases h; exact .bl b
  | .int i, _, h => by cases h; exact .int i
  | .str x, _, h => by cases h; exact .str x
  | .list ds, _, h => by
    cases h with
    | lst hs ha => exact .lst (.inl (.inl hs)) (RpAll.dp ds _ ha)
  | .tuple ds, _, h => by
    cases h with
    | tup hs ha => exact .tup (st_of hs) (RpAll.dp ds _ ha)
  | .dict _, _, h => by cases h
theorem RpAll.dp : ∀ (ds : List PyData) (vs : List V), RpAll K H vs ds → DpAll K H vs ds
  | [], _, h => by cases h; exact .nil
  | d :: ds, _, h => by
    cases h with
    | cons h1 h2 => exact .cons (Rp.dp d _ h1) (RpAll.dp ds _ h2)
end
theorem RpAll.length : ∀ {ds : List PyData} {vs : List V}, RpAll K H vs ds → vs.length = ds.length
  | [], _, h => by cases h; rfl
  | d :: ds, _, h => by
    cases h with
    | cons h1 h2 => simp [RpAll.length h2]
theorem RpAll.append : ∀ {ds es : List PyData} {vs ws : List V}, RpAll K H vs ds → RpAll K H ws es → RpAll K H (vs ++ ws) (ds ++ es)
  | [], _, _, _, h, k => by cases h; exact k
  | d :: ds, _, _, _, h, k => by
    cases h with
    | cons h1 h2 => exact .cons h1 (RpAll.append h2 k)
theorem RpAll.get : ∀ {ds : List PyData} {vs : List V} {i : Nat} {v : V}, RpAll K H vs ds → vs[i]? = some v → ∃ d, ds[i]? = some d ∧ Rp K H v d
  | [], _, _, _, h, e => by cases h; simp at e
  | d :: ds, _, 0, _, h, e => by
    cases h with
    | cons h1 h2 => simp at e; subst e; exact ⟨d, rfl, h1⟩
  | d :: ds, _, i + 1, _, h, e => by
    cases h with
    | cons h1 h2 =>
      obtain ⟨d', e1, r⟩ := RpAll.get h2 (by simpa using e)
      exact ⟨d', by simpa using e1, r⟩
theorem RpAll.getD : ∀ {ds : List PyData} {vs : List V} {i : Nat} {d : PyData}, RpAll K H vs ds → ds[i]? = some d → ∃ v, vs[i]? = some v ∧ Rp K H v d
  | [], _, _, _, h, e => by simp at e
  | d :: ds, _, 0, _, h, e => by
    cases h with
    | cons h1 h2 => simp at e; subst e; exact ⟨_, rfl, h1⟩
  | d :: ds, _, i + 1, _, h, e => by
    cases h with
    | cons h1 h2 =>
      obtain ⟨v, e1, r⟩ := RpAll.getD h2 (by simpa using e)
      exact ⟨v, by simpa using e1, r⟩
theorem RpAll.one {v : V} {d : PyData} (h : Rp K H v d) : RpAll K H [v] [d] := .cons h .nil
theorem rp_int {v : V} {i : Int} (h : Rp K H v (.int i)) : v = .int i := by cases h; rfl
theorem rp_bool {v : V} {b : Bool} (h : Rp K H v (.bool b)) : v = .bl b := by cases h; rfl
theorem rp_none {v : V} (h : Rp K H v .none) : v = .non := by cases h; rfl
theorem rp_str {v : V} {x : Str} (h : Rp K H v (.str x)) : v = .str x := by cases h; rfl
theorem rp_tup {v : V} {ds : List PyData} (h : Rp K H v (.tuple ds)) : ∃ a xs, v = .ref a ∧ H a = some (.tup xs) ∧ RpAll K H xs ds := by
  cases h with
  | tup hs ha => exact ⟨_, _, rfl, hs, ha⟩
theorem rp_lst {v : V} {ds : List PyData} (h : Rp K H v (.list ds)) : ∃ a xs, v = .ref a ∧ H a = some (.lst xs) ∧ RpAll K H xs ds := by
  cases h with
  | lst hs ha => exact ⟨_, _, rfl, hs, ha⟩
theorem rpAll_ints : ∀ {ns : List Int} {vs : List V}, RpAll K H vs (ns.map PyData.int) → vs = ns.map V.int
  | [], _, h => by cases h; rfl
  | n :: ns, _, h => by
    cases h with
    | cons h1 h2 => rw [rp_int h1, rpAll_ints h2]; rfl
theorem rpAll_of_ints : ∀ (ns : List Int), RpAll K H (ns.map V.int) (ns.map PyData.int)
  | [] => .nil
  | n :: ns => .cons (.int n) (rpAll_of_ints ns)
end
theorem tx {K : PySem.W.Frag} {H H' : Hp} {a : Addr} {xs : List V} (e : Ex H H') (h : H a = some (.tup xs)) : SqT K H' a xs := st_of (e _ _ h)
/-! ### the part that stays, and what may change -/
/-- what F2 has more than F was not there before -/
def New (F H F2 : Hp) : Prop := ∀ a, F a = none → (∃ o, H a = some o ∧ ∀ ys, o ≠ .tup ys) → F2 a = none
theorem loose_ne {H : Hp} {a b : Addr} (h : ∃ o, H a = some o ∧ ∀ ys, o ≠ .tup ys) (h0 : H b = none) : a ≠ b := fun z => by
  obtain ⟨o, h1, _⟩ := h
  rw [z, h0] at h1; cases h1
/-- the law's pot: three numbers and a list of numbers, which stays -/
structure Pt where
  p : Addr
  l : Addr
  ns : List Int
structure PotAt (H : Hp) (q : Pt) : Prop where
  ne : q.l ≠ q.p
  ls : H q.l = some (.lst (q.ns.map V.int))
  few : q.ns.length ≤ 60
  ex : ∃ (a b c : Int), H q.p = some (.lst [.int a, .int b, .int c, .ref q.l]) ∧ 0 ≤ a ∧ 0 ≤ b ∧ b < 2147483647 ∧ 0 ≤ c ∧ c ≤ q.ns.length
def Keep (pt : Option Pt) (H H' : Hp) : Prop := ∀ a o, (∀ q, pt = some q → a ≠ q.p) → H a = some o → H' a = some o
def Good (pt : Option Pt) (F H : Hp) : Prop := ∀ q, pt = some q → F q.p = none ∧ PotAt H q
theorem PotAt.some {H : Hp} {q : Pt} (h : PotAt H q) : H q.p ≠ none := by
  obtain ⟨a, b, c, e, _⟩ := h.ex
  rw [e]; simp
theorem PotAt.loose {H : Hp} {q : Pt} (h : PotAt H q) : ∃ o : HO, H q.p = Option.some o ∧ ∀ ys, o ≠ HO.tup ys := by
  obtain ⟨a, b, c, e, _⟩ := h.ex
  rw [e]; simp
theorem Keep.refl (pt : Option Pt) (H : Hp) : Keep pt H H := fun _ _ _ h => h
theorem Keep.trans {pt : Option Pt} {H H1 H2 : Hp} (a : Keep pt H H1) (b : Keep pt H1 H2) : Keep pt H H2 := fun x o n h => b x o n (a x o n h)
theorem Keep.of {pt : Option Pt} {H H1 : Hp} (a : Ex H H1) : Keep pt H H1 := fun x o _ h => a x o h
theorem Keep.ex {H H1 : Hp} (a : Keep none H H1) : Ex H H1 := fun x o h => a x o (fun _ z => by cases z) h
theorem Good.nil {F H : Hp} : Good none F H := fun _ h => by cases h
theorem PotAt.mono {H H' : Hp} {q : Pt} (h : PotAt H q) (e : Ex H H') : PotAt H' q := by
  obtain ⟨a, b, c, h1, r⟩ := h.ex
  exact ⟨h.ne, e _ _ h.ls, h.few, a, b, c, e _ _ h1, r⟩
theorem Good.less {pt : Option Pt} {F F' H : Hp} (g : Good pt F' H) (e : Ex F F') : Good pt F H := fun p hp => by
  refine ⟨?_, (g p hp).2⟩
  cases w : F p.p with
  | none => rfl
  | some o =>
    have h := (g p hp).1
    rw [e p.p o w] at h
    cases h
/-- what F knows stays where only the pot changes -/
theorem Keep.sub {pt : Option Pt} {F H H1 : Hp} (k : Keep pt H H1) (g : Good pt F H) (e : Ex F H) : Ex F H1 := fun a o h => by
  refine k a o (fun q z w => ?_) (e a o h)
  have := (g q z).1
  rw [← w, h] at this
  cases this
theorem New.refl (F H : Hp) : New F H F := fun _ h _ => h
/-- there before -/
theorem Keep.there {pt : Option Pt} {H H1 : Hp} (k : Keep pt H H1) {F F1 : Hp} (g : Good pt F1 H1) {a : Addr} (h : H a ≠ none) : H1 a ≠ none := by
  cases e : H a with
  | none => exact absurd e h
  | some o =>
    by_cases z : ∃ q, pt = some q ∧ a = q.p
    · obtain ⟨q, z1, z2⟩ := z
      rw [z2]; exact (g q z1).2.some
    · rw [k a o (fun q w1 w2 => z ⟨q, w1, w2⟩) e]; simp
theorem Keep.loose {pt : Option Pt} {H H1 : Hp} (k : Keep pt H H1) {F1 : Hp} (g : Good pt F1 H1) {a : Addr} (h : ∃ o, H a = some o ∧ ∀ ys, o ≠ .tup ys) : ∃ o, H1 a = some o ∧ ∀ ys, o ≠ .tup ys := by
  obtain ⟨o, e, n⟩ := h
  by_cases z : ∃ q, pt = some q ∧ a = q.p
  · obtain ⟨q, z1, z2⟩ := z
    rw [z2]; exact (g q z1).2.loose
  · exact ⟨o, k a o (fun q w1 w2 => z ⟨q, w1, w2⟩) e, n⟩
/-- what a piece leaves: F grew to F2, H became H2 -/
structure Step (pt : Option Pt) (F H F2 H2 : Hp) : Prop where
  sub : Ex F F2
  inn : Ex F2 H2
  keep : Keep pt H H2
  good : Good pt F2 H2
  new : New F H F2
theorem Step.refl {pt : Option Pt} {F H : Hp} (e : Ex F H) (g : Good pt F H) : Step pt F H F H := ⟨Ex.refl F, e, Keep.refl pt H, g, New.refl F H⟩
theorem Step.trans {pt : Option Pt} {F H F1 H1 F2 H2 : Hp} (a : Step pt F H F1 H1) (b : Step pt F1 H1 F2 H2) : Step pt F H F2 H2 :=
  ⟨a.sub.trans b.sub, b.inn, a.keep.trans b.keep, b.good, fun x h1 h2 => b.new x (a.new x h1 h2) (a.keep.loose a.good h2)⟩
/-- two parts together -/
def join (F G : Hp) : Hp := fun a => match F a with | some o => some o | none => G a
theorem join_l {F G : Hp} : Ex F (join F G) := fun a o h => by unfold join; rw [h]
theorem join_r {F G H : Hp} (f : Ex F H) (g : Ex G H) : Ex G (join F G) := fun a o h => by
  unfold join
  cases e : F a with
  | none => exact h
  | some u =>
    have h1 := f a u e
    rw [g a o h] at h1
    exact h1.symm
theorem join_in {F G H : Hp} (f : Ex F H) (g : Ex G H) : Ex (join F G) H := fun a o h => by
  unfold join at h
  cases e : F a with
  | none =>
    rw [e] at h
    exact g a o h
  | some u =>
    rw [e] at h
    have z := f a u e
    rw [z]
    exact h
theorem join_none {F G : Hp} {a : Addr} (f : F a = none) (g : G a = none) : join F G a = none := by unfold join; rw [f]; exact g
/-- the same piece seen from a greater part -/
theorem Step.wide {pt : Option Pt} {F F' H F2 H2 : Hp} (e : Ex F F') (e' : Ex F' H) (g : Good pt F' H) (s : Step pt F H F2 H2) : Step pt F' H (join F2 F') H2 := by
  have k : Ex F' H2 := s.keep.sub g e'
  refine ⟨join_r s.inn k, join_in s.inn k, s.keep, fun p hp => ⟨join_none (s.good p hp).1 (g p hp).1, (s.good p hp).2⟩, fun a h1 h2 => join_none (s.new a ?_ h2) h1⟩
  cases q : F a with
  | none => rfl
  | some o => rw [e a o q] at h1; cases h1
/-- a piece that changes nothing, where a pot stands -/
theorem Step.lift {pt : Option Pt} {F H F2 H2 : Hp} (g : Good pt F H) (s : Step none F H F2 H2) : Step pt F H F2 H2 :=
  ⟨s.sub, s.inn, Keep.of s.keep.ex, fun p hp => ⟨s.new p.p (g p hp).1 (g p hp).2.loose, (g p hp).2.mono s.keep.ex⟩, s.new⟩
/-- a new object is laid and stays -/
theorem Step.laid {pt : Option Pt} {F H : Hp} {p : Addr} {o : HO} (e : Ex F H) (g : Good pt F H) (hp : H p = none) : Step pt F H (upd F p o) (upd H p o) := by
  have fp : F p = none := by
    cases q : F p with
    | none => rfl
    | some u => rw [e p u q] at hp; cases hp
  refine ⟨Ex.new fp, fun a u h => ?_, Keep.of (Ex.new hp), fun x hx => ?_, fun a h1 h2 => ?_⟩
  · by_cases z : a = p
    · rw [z, upd_same] at h ⊢; exact h
    · rw [upd_ne z] at h ⊢; exact e a _ h
  · obtain ⟨q1, q2⟩ := g x hx
    have hxp : x.p ≠ p := fun z => q2.some (by rw [z]; exact hp)
    exact ⟨by rw [upd_ne hxp]; exact q1, q2.mono (Ex.new hp)⟩
  · have z : a ≠ p := loose_ne h2 hp
    rw [upd_ne z]; exact h1
/-! ### what evaluates to what -/
abbrev PD := PyData → Prop
def EvG (K : PySem.W.Frag) (pt : Option Pt) (te : TE) (σ : L2.St) (F : Hp) (R : PD) : Prop :=
  ∀ H1, Ex F H1 → Good pt F H1 → ∀ Q : VK, (∀ d v F2 H2, R d → Step pt F H1 F2 H2 → Rp K F2 v d → Q v H2) → te σ H1 Q
def EvsG (K : PySem.W.Frag) (pt : Option Pt) (ta : TA) (σ : L2.St) (F : Hp) (R : List PyData → Prop) : Prop :=
  ∀ H1, Ex F H1 → Good pt F H1 → ∀ Q : List V → Hp → Prop, (∀ ds vs F2 H2, R ds → Step pt F H1 F2 H2 → RpAll K F2 vs ds → Q vs H2) → ta σ H1 Q
def EtG (pt : Option Pt) (tt : TT) (σ : L2.St) (F : Hp) (R : Bool → Prop) : Prop :=
  ∀ H1, Ex F H1 → Good pt F H1 → ∀ Q : Bool → Hp → Prop, (∀ b F2 H2, R b → Step pt F H1 F2 H2 → Q b H2) → tt σ H1 Q
/-- operations on values -/
def RvG (K : PySem.W.Frag) (r : L2.R2) (d e : PyData) (R : PD) : Prop := ∀ F H x y, Ex F H → Rp K F x d → Rp K F y e → ∀ Q : VK, (∀ z v F2 H2, R z → Step none F H F2 H2 → Rp K F2 v z → Q v H2) → r x y H Q
def RcG (K : PySem.W.Frag) (r : List V → Hp → VK → Prop) (ds : List PyData) (R : PD) : Prop := ∀ F H vs, Ex F H → RpAll K F vs ds → ∀ Q : VK, (∀ z v F2 H2, R z → Step none F H F2 H2 → Rp K F2 v z → Q v H2) → r vs H Q
/-- the same d -/
abbrev Is (d : PyData) : PD := fun x => x = d
section
variable {K : PySem.W.Frag} {pt : Option Pt} {σ : L2.St} {F F' : Hp} {te ta tb : TE} {ts tr : TA} {t u : TT} {R R1 S2 R3 : PD} {d e z : PyData} {r : L2.R2}
theorem EvG.mono (h : EvG K pt te σ F R) (e : Ex F F') : EvG K pt te σ F' R := fun H1 i g Q q =>
  h H1 (e.trans i) (g.less e) Q fun d v F2 H2 hr s hv => q d v _ H2 hr (s.wide e i g) (Rp.mono join_l _ _ hv)
theorem EvG.lift (h : EvG K none te σ F R) : EvG K pt te σ F R := fun H1 i g Q q => h H1 i .nil Q fun d v F2 H2 hr s hv => q d v F2 H2 hr (s.lift g) hv
theorem EvG.imp (h : EvG K pt te σ F R) (k : ∀ d, R d → R1 d) : EvG K pt te σ F R1 := fun H1 i g Q q => h H1 i g Q fun d v F2 H2 hr s hv => q d v F2 H2 (k d hr) s hv
theorem EvG.is (h : EvG K pt te σ F (Is d)) (k : d = e) : EvG K pt te σ F (Is e) := k ▸ h
theorem EtG.mono {R : Bool → Prop} (h : EtG pt t σ F R) (e : Ex F F') : EtG pt t σ F' R := fun H1 i g Q q =>
  h H1 (e.trans i) (g.less e) Q fun b F2 H2 hr s => q b _ H2 hr (s.wide e i g)
theorem EtG.lift {R : Bool → Prop} (h : EtG none t σ F R) : EtG pt t σ F R := fun H1 i g Q q => h H1 i .nil Q fun b F2 H2 hr s => q b F2 H2 hr (s.lift g)
theorem EtG.is {b c : Bool} (h : EtG pt t σ F (· = b)) (k : b = c) : EtG pt t σ F (· = c) := k ▸ h
theorem EvsG.mono {R : List PyData → Prop} (h : EvsG K pt ts σ F R) (e : Ex F F') : EvsG K pt ts σ F' R := fun H1 i g Q q =>
  h H1 (e.trans i) (g.less e) Q fun d v F2 H2 hr s hv => q d v _ H2 hr (s.wide e i g) (RpAll.mono join_l _ _ hv)
theorem g_var {i : Nat} {v : V} (h : σ[i]? = some (some v)) (hr : Rp K F v d) : EvG K pt (tVar i) σ F (Is d) := fun H1 e g Q q => ⟨v, h, q d v F H1 rfl (.refl e g) hr⟩
theorem g_int {i : Int} : EvG K pt (tC (.int i)) σ F (Is (.int i)) := fun H1 e g Q q => q _ _ F H1 rfl (.refl e g) (.int i)
theorem g_bl {b : Bool} : EvG K pt (tC (.bl b)) σ F (Is (.bool b)) := fun H1 e g Q q => q _ _ F H1 rfl (.refl e g) (.bl b)
theorem g_non : EvG K pt (tC .non) σ F (Is .none) := fun H1 e g Q q => q _ _ F H1 rfl (.refl e g) .non
theorem g_str {x : Str} : EvG K pt (tC (.str x)) σ F (Is (.str x)) := fun H1 e g Q q => q _ _ F H1 rfl (.refl e g) (.str x)
/-- two parts, one after the other; the second may know the first's value -/
theorem g_op (ha : EvG K pt ta σ F R1) (hb : EvG K pt tb σ F S2) (hr : ∀ d e, R1 d → S2 e → RvG K r d e R3) : EvG K pt (tOp r ta tb) σ F R3 := fun H1 i g Q q =>
  ha H1 i g _ fun d v F2 H2 hd s hv => hb.mono s.sub H2 s.inn s.good _ fun e w F3 H3 he s3 hw =>
    hr d e hd he F3 H3 v w s3.inn (Rp.mono s3.sub _ _ hv) hw Q fun z x F4 H4 hz s4 hx => q z x F4 H4 hz ((s.trans s3).trans (s4.lift s3.good)) hx
theorem gs_nil : EvsG K pt tNil σ F (· = []) := fun H1 i g Q q => q [] [] F H1 rfl (.refl i g) .nil
theorem gs_cons {R2 : List PyData → Prop} (ha : EvG K pt ta σ F R1) (hb : EvsG K pt tr σ F R2) : EvsG K pt (tCons ta tr) σ F (fun l => ∃ d ds, l = d :: ds ∧ R1 d ∧ R2 ds) := fun H1 i g Q q =>
  ha H1 i g _ fun d v F2 H2 hd s hv => hb.mono s.sub H2 s.inn s.good _ fun ds vs F3 H3 hds s3 hvs => q (d :: ds) (v :: vs) F3 H3 ⟨d, ds, rfl, hd, hds⟩ (s.trans s3) (.cons (Rp.mono s3.sub _ _ hv) hvs)
theorem gs_consI {ds : List PyData} (ha : EvG K pt ta σ F (Is d)) (hb : EvsG K pt tr σ F (· = ds)) : EvsG K pt (tCons ta tr) σ F (· = d :: ds) := fun H1 i g Q q =>
  gs_cons ha hb H1 i g Q fun l vs F2 H2 h s hv => by
    obtain ⟨d', ds', e, h1, h2⟩ := h
    exact q l vs F2 H2 (by rw [e, h1, h2]) s hv
theorem g_tup {R : List PyData → Prop} (h : EvsG K pt ts σ F R) (hz : ∀ ds, R ds → ds.length ≤ 100000) : EvG K pt (tTup ts) σ F (fun x => ∃ ds, x = .tuple ds ∧ R ds) := fun H1 i g Q q =>
  h H1 i g _ fun ds vs F2 H2 hd s hv => ⟨by rw [hv.length]; exact sz_of (hz ds hd), fun p hp => by
    have s3 : Step pt F2 H2 (upd F2 p (.tup vs)) (upd H2 p (.tup vs)) := .laid s.inn s.good hp
    exact q (.tuple ds) _ _ _ ⟨ds, rfl, hd⟩ (s.trans s3) (.tup upd_same (RpAll.mono s3.sub _ _ hv))⟩
theorem g_lst {R : List PyData → Prop} (h : EvsG K pt ts σ F R) (hz : ∀ ds, R ds → ds.length ≤ 100000) : EvG K pt (tLst ts) σ F (fun x => ∃ ds, x = .list ds ∧ R ds) := fun H1 i g Q q =>
  h H1 i g _ fun ds vs F2 H2 hd s hv => ⟨by rw [hv.length]; exact sz_of (hz ds hd), fun p hp => by
    have s3 : Step pt F2 H2 (upd F2 p (.lst vs)) (upd H2 p (.lst vs)) := .laid s.inn s.good hp
    exact q (.list ds) _ _ _ ⟨ds, rfl, hd⟩ (s.trans s3) (.lst upd_same (RpAll.mono s3.sub _ _ hv))⟩
theorem g_tupI {ds : List PyData} (h : EvsG K pt ts σ F (· = ds)) (hz : ds.length ≤ 100000) : EvG K pt (tTup ts) σ F (Is (.tuple ds)) := (g_tup h fun _ e => by rw [e]; exact hz).imp fun _ ⟨_, e, e2⟩ => by rw [e, e2]
theorem g_lstI {ds : List PyData} (h : EvsG K pt ts σ F (· = ds)) (hz : ds.length ≤ 100000) : EvG K pt (tLst ts) σ F (Is (.list ds)) := (g_lst h fun _ e => by rw [e]; exact hz).imp fun _ ⟨_, e, e2⟩ => by rw [e, e2]
/-- tests -/
theorem et_of {b : Bool} (h : EvG K pt te σ F (Is (.bool b))) : EtG pt (tTest te) σ F (· = b) := fun H1 i g Q q => h H1 i g _ fun d v F2 H2 hd s hv => by
  subst hd
  exact ⟨b, rp_bool hv, q b F2 H2 rfl s⟩
theorem et_B {b : Bool} (h : EvG K pt te σ F (Is (.bool b))) : EtG pt (tB te) σ F (· = b) := fun H1 i g Q q => h H1 i g _ fun d v F2 H2 hd s hv => by
  subst hd
  exact ⟨b, rp_bool hv, q b F2 H2 rfl s⟩
theorem et_yes : EtG pt tYes σ F (· = true) := fun H1 i g Q q => q true F H1 rfl (.refl i g)
theorem et_not {b : Bool} (h : EtG pt t σ F (· = b)) : EtG pt (tNot t) σ F (· = !b) := fun H1 i g Q q => h H1 i g _ fun c F2 H2 hc s => by
  subst hc
  exact q _ F2 H2 rfl s
theorem et_and {a b : Bool} (h1 : EtG pt t σ F (· = a)) (h2 : a = true → EtG pt u σ F (· = b)) : EtG pt (tAnd t u) σ F (· = (a && b)) := fun H1 i g Q q => h1 H1 i g _ fun c F2 H2 hc s => by
  subst hc
  cases c with
  | true => exact (h2 rfl).mono s.sub H2 s.inn s.good Q fun b' F3 H3 hb s3 => q b' F3 H3 (by rw [hb]; rfl) (s.trans s3)
  | false => exact q false F2 H2 rfl s
theorem et_or {a b : Bool} (h1 : EtG pt t σ F (· = a)) (h2 : a = false → EtG pt u σ F (· = b)) : EtG pt (tOr t u) σ F (· = (a || b)) := fun H1 i g Q q => h1 H1 i g _ fun c F2 H2 hc s => by
  subst hc
  cases c with
  | false => exact (h2 rfl).mono s.sub H2 s.inn s.good Q fun b' F3 H3 hb s3 => q b' F3 H3 (by rw [hb]; rfl) (s.trans s3)
  | true => exact q true F2 H2 rfl s
theorem g_andV {a b : Bool} (h1 : EvG K pt ta σ F (Is (.bool a))) (h2 : a = true → EvG K pt tb σ F (Is (.bool b))) : EvG K pt (tAndV ta tb) σ F (Is (.bool (a && b))) := fun H1 i g Q q => h1 H1 i g _ fun d v F2 H2 hd s hv => by
  subst hd
  refine ⟨a, rp_bool hv, ?_⟩
  cases a with
  | true => exact (h2 rfl).mono s.sub H2 s.inn s.good Q fun d' v' F3 H3 hd' s3 hv' => q d' v' F3 H3 hd' (s.trans s3) hv'
  | false => exact q _ _ F2 H2 rfl s (.bl false)
theorem g_orV {a b : Bool} (h1 : EvG K pt ta σ F (Is (.bool a))) (h2 : a = false → EvG K pt tb σ F (Is (.bool b))) : EvG K pt (tOrV ta tb) σ F (Is (.bool (a || b))) := fun H1 i g Q q => h1 H1 i g _ fun d v F2 H2 hd s hv => by
  subst hd
  refine ⟨a, rp_bool hv, ?_⟩
  cases a with
  | false => exact (h2 rfl).mono s.sub H2 s.inn s.good Q fun d' v' F3 H3 hd' s3 hv' => q d' v' F3 H3 hd' (s.trans s3) hv'
  | true => exact q _ _ F2 H2 rfl s (.bl true)
theorem g_notV {a : Bool} (h : EvG K pt ta σ F (Is (.bool a))) : EvG K pt (tNotV ta) σ F (Is (.bool (!a))) := fun H1 i g Q q => h H1 i g _ fun d v F2 H2 hd s hv => by
  subst hd
  exact ⟨a, rp_bool hv, q _ _ F2 H2 rfl s (.bl _)⟩
theorem g_if {b : Bool} (h : EtG pt t σ F (· = b)) (h1 : b = true → EvG K pt ta σ F R) (h2 : b = false → EvG K pt tb σ F R) : EvG K pt (tIf t ta tb) σ F R := fun H1 i g Q q => h H1 i g _ fun c F2 H2 hc s => by
  subst hc
  cases c with
  | true => exact (h1 rfl).mono s.sub H2 s.inn s.good Q fun d' v' F3 H3 hd' s3 hv' => q d' v' F3 H3 hd' (s.trans s3) hv'
  | false => exact (h2 rfl).mono s.sub H2 s.inn s.good Q fun d' v' F3 H3 hd' s3 hv' => q d' v' F3 H3 hd' (s.trans s3) hv'
/-- a value from an operation that lays nothing -/
theorem rv_val (h : ∀ F H x y, Ex F H → Rp K F x d → Rp K F y e → ∃ v, (∀ Q : VK, Q v H → r x y H Q) ∧ Rp K F v z) : RvG K r d e (Is z) := fun F H x y i hx hy Q q => by
  obtain ⟨v, k, hv⟩ := h F H x y i hx hy
  exact k Q (q z v F H rfl (.refl i .nil) hv)
theorem rc_val {r : List V → Hp → VK → Prop} {ds : List PyData} (h : ∀ F H vs, Ex F H → RpAll K F vs ds → ∃ v, (∀ Q : VK, Q v H → r vs H Q) ∧ Rp K F v z) : RcG K r ds (Is z) := fun F H vs i hx Q q => by
  obtain ⟨v, k, hv⟩ := h F H vs i hx
  exact k Q (q z v F H rfl (.refl i .nil) hv)
theorem rv_I0 {g : Int → Int → V} {f : Int → Int → PyData} {i j : Int} (hg : ∀ F, Rp K F (g i j) (f i j)) : RvG K (rI0 g) (.int i) (.int j) (Is (f i j)) := rv_val fun F H x y _ hx hy => ⟨g i j, fun Q q => ⟨i, j, rp_int hx, rp_int hy, q⟩, hg F⟩
theorem rv_I {C : Int → Int → Prop} {g : Int → Int → V} {f : Int → Int → PyData} {i j : Int} (hc : C i j) (hg : ∀ F, Rp K F (g i j) (f i j)) : RvG K (rI C g) (.int i) (.int j) (Is (f i j)) := rv_val fun F H x y _ hx hy => ⟨g i j, fun Q q => ⟨i, j, rp_int hx, rp_int hy, hc, q⟩, hg F⟩
theorem rv_eqD (hd : SeqAt.shaped d = true) (he : SeqAt.shaped e = true) : RvG K (rEqD K) d e (Is (.bool (PyData.eqv d e))) := rv_val fun F H x y i hx hy => ⟨_, fun Q q => ⟨d, e, Rp.dp _ _ (Rp.mono i _ _ hx), Rp.dp _ _ (Rp.mono i _ _ hy), hd, he, q⟩, .bl _⟩
theorem rv_neD (hd : SeqAt.shaped d = true) (he : SeqAt.shaped e = true) : RvG K (rNeD K) d e (Is (.bool (!PyData.eqv d e))) := rv_val fun F H x y i hx hy => ⟨_, fun Q q => ⟨d, e, Rp.dp _ _ (Rp.mono i _ _ hx), Rp.dp _ _ (Rp.mono i _ _ hy), hd, he, q⟩, .bl _⟩
theorem g_cb {r : List V → Hp → VK → Prop} {R1 : List PyData → Prop} (h : EvsG K pt ts σ F R1) (hr : ∀ ds, R1 ds → RcG K r ds R) : EvG K pt (tCB r ts) σ F R := fun H1 i g Q q =>
  h H1 i g _ fun ds vs F2 H2 hd s hv => hr ds hd F2 H2 vs s.inn hv Q fun z v F3 H3 hz s3 hv' => q z v F3 H3 hz (s.trans (s3.lift s.good)) hv'
end
end Fv
namespace Fv
open PySem L2 Evl
/-! ### what is walked -/
structure Yields (K : PySem.W.Frag) (J : It) (F : Hp) (ds : List PyData) : Prop where
  go : ∀ i H, Ex F H → i < ds.length → J.go i H
  stop : ∀ H, Ex F H → J.stop ds.length H
  yld : ∀ i H x H', Ex F H → i < ds.length → J.yld i H x H' → H' = H ∧ ∃ d, ds[i]? = some d ∧ Rp K F x d
def WiG (K : PySem.W.Frag) (pt : Option Pt) (wi : TI) (σ : L2.St) (F : Hp) (R : List PyData → Prop) : Prop :=
  ∀ H1, Ex F H1 → Good pt F H1 → ∀ RR : It → Hp → Prop, (∀ ds J F2 H2, R ds → Step pt F H1 F2 H2 → Yields K J F2 ds → RR J H2) → wi σ H1 RR
section
variable {K : PySem.W.Frag} {pt : Option Pt} {σ : L2.St} {F F' : Hp} {te ta tb : TE} {ts tr : TA} {t u : TT} {R R1 S2 R3 : PD} {d e z : PyData} {r : L2.R2} {wi wi1 : TI}
theorem w_listI {ds : List PyData} (h : EvG K pt te σ F (Is (.list ds))) : WiG K pt (iList K te) σ F (· = ds) := fun H1 i g RR q =>
  h H1 i g _ fun d v F2 H2 hd s hv => by
    subst hd
    obtain ⟨a, xs, rfl, hl, ha⟩ := rp_lst hv
    refine ⟨a, rfl, ⟨xs, sq_of (s.inn _ _ hl)⟩, q ds _ F2 H2 rfl s ⟨fun i H e hi => ?_, fun H e => ⟨xs, sq_of (e _ _ hl), Nat.le_of_eq ha.length⟩, fun i H x H' e hi y => ?_⟩⟩
    · have hi' : i < xs.length := by rw [ha.length]; exact hi
      exact ⟨xs, xs[i], sq_of (e _ _ hl), List.getElem?_eq_getElem hi'⟩
    · exact ⟨y.1, ha.get (y.2 xs (sq_of (e _ _ hl)))⟩
/-- the numbers lo, lo + 1, .. -/
def rng (lo : Int) (n : Nat) : List PyData := (List.range n).map fun (k : Nat) => PyData.int (lo + (k : Int))
theorem rng_len (lo : Int) (n : Nat) : (rng lo n).length = n := by unfold rng; simp
theorem rng_get {lo : Int} {n i : Nat} (h : i < n) : (rng lo n)[i]? = some (.int (lo + (i : Int))) := by unfold rng; rw [List.getElem?_map, List.getElem?_range h]; rfl
theorem y_rng (lo : Int) (n : Nat) (F : Hp) : Yields K (Itr lo n) F (rng lo n) := ⟨fun i H _ hi => by rw [rng_len] at hi; exact hi, fun H _ => by rw [rng_len]; exact Nat.le_refl _, fun i H x H' _ hi y => by
  rw [rng_len] at hi
  exact ⟨y.1, _, rng_get hi, by rw [y.2]; exact .int _⟩⟩
theorem w_rng1 {R0 : List PyData → Prop} (h : EvsG K pt ts σ F R0) (hn : ∀ ds, R0 ds → ∃ n : Int, ds = [.int n] ∧ -(2 ^ 62) ≤ n ∧ n < 2 ^ 62) : WiG K pt (iRng1 ts) σ F (fun l => ∃ n : Int, R0 [.int n] ∧ l = rng 0 n.toNat) := fun H1 i g RR q =>
  h H1 i g _ fun ds vs F2 H2 hd s hv => by
    obtain ⟨n, rfl, h1, h2⟩ := hn ds hd
    have e : vs = [.int n] := rpAll_ints (ns := [n]) hv
    subst e
    exact ⟨n, rfl, h1, h2, q _ _ F2 H2 ⟨n, hd, rfl⟩ s (y_rng 0 n.toNat F2)⟩
theorem w_rng1I {n : Int} (h : EvsG K pt ts σ F (· = [.int n])) (h1 : -(2 ^ 62) ≤ n) (h2 : n < 2 ^ 62) : WiG K pt (iRng1 ts) σ F (· = rng 0 n.toNat) := fun H1 i g RR q =>
  w_rng1 h (fun ds e => ⟨n, e, h1, h2⟩) H1 i g RR fun ds J F2 H2 hd s y => by
    obtain ⟨m, e1, e2⟩ := hd
    have : m = n := by injection e1 with e1; injection e1
    subst this
    exact q ds J F2 H2 e2 s y
/-! ### comprehensions -/
/-- a list that grows at Dl beside the part that stays -/
def Grow (K : PySem.W.Frag) (pt : Option Pt) (F H1 : Hp) (Dl : Addr) (A : List PyData → Prop) (H' : Hp) : Prop :=
  ∃ F' l acc, Step pt F H1 F' H' ∧ F' Dl = none ∧ H' Dl = some (.lst acc) ∧ RpAll K F' acc l ∧ A l
theorem Good.upd {F H : Hp} {Dl : Addr} {o : HO} (g : Good pt F H) (h : ∀ q, pt = some q → Dl ≠ q.p ∧ Dl ≠ q.l) : Good pt F (upd H Dl o) := fun q hq => by
  obtain ⟨g1, g2⟩ := g q hq
  obtain ⟨a, b, c, e, r⟩ := g2.ex
  refine ⟨g1, g2.ne, ?_, g2.few, a, b, c, ?_, r⟩
  · rw [upd_ne (h q hq).2.symm]; exact g2.ls
  · rw [upd_ne (h q hq).1.symm]; exact e
theorem off_pot {F H : Hp} {Dl : Addr} (g : Good pt F H) (h : H Dl = none) : ∀ q, pt = some q → Dl ≠ q.p ∧ Dl ≠ q.l := fun q hq => by
  obtain ⟨_, g2⟩ := g q hq
  exact ⟨fun z => g2.some (by rw [← z]; exact h), fun z => by have := g2.ls; rw [← z, h] at this; cases this⟩
theorem Step.put {F H1 F' H' : Hp} {Dl : Addr} {o : HO} (s : Step pt F H1 F' H') (g : Good pt F H1) (h1 : H1 Dl = none) (f : F' Dl = none) : Step pt F H1 F' (upd H' Dl o) :=
  ⟨s.sub, fun a u h => by
    have : a ≠ Dl := fun z => by rw [z, f] at h; cases h
    rw [upd_ne this]; exact s.inn a u h, fun a u n h => by
    have : a ≠ Dl := fun z => by rw [z, h1] at h; cases h
    rw [upd_ne this]; exact s.keep a u n h, s.good.upd (off_pot g h1), s.new⟩
theorem Grow.start {F H1 : Hp} {Dl : Addr} {A : List PyData → Prop} (i : Ex F H1) (g : Good pt F H1) (h : H1 Dl = none) (a : A []) : Grow K pt F H1 Dl A (upd H1 Dl (.lst [])) := by
  have f : F Dl = none := by
    cases w : F Dl with
    | none => rfl
    | some o => rw [i _ _ w] at h; cases h
  exact ⟨F, [], [], (Step.refl i g).put g h f, f, upd_same, .nil, a⟩
/-- frozen at the end -/
theorem Grow.done {F H1 H' : Hp} {Dl : Addr} {A : List PyData → Prop} (g : Good pt F H1) (h : H1 Dl = none) (w : Grow K pt F H1 Dl A H') : ∃ F2 l, A l ∧ Step pt F H1 F2 H' ∧ Rp K F2 (.ref Dl) (.list l) := by
  obtain ⟨F', l, acc, s, f, e, r, a⟩ := w
  have e1 : Ex F' (upd F' Dl (.lst acc)) := Ex.new f
  refine ⟨upd F' Dl (.lst acc), l, a, ⟨s.sub.trans e1, fun b u hb => ?_, s.keep, fun q hq => ⟨?_, (s.good q hq).2⟩, fun b h1 h2 => ?_⟩, .lst upd_same (RpAll.mono e1 _ _ r)⟩
  · by_cases z : b = Dl
    · rw [z, upd_same] at hb; rw [z, e]; exact hb
    · rw [upd_ne z] at hb; exact s.inn b u hb
  · rw [upd_ne (off_pot g h q hq).1.symm]; exact (s.good q hq).1
  · have z : b ≠ Dl := loose_ne h2 h
    rw [upd_ne z]; exact s.new b h1 h2
theorem Grow.imp {F H1 H' : Hp} {Dl : Addr} {A B : List PyData → Prop} (w : Grow K pt F H1 Dl A H') (k : ∀ l, A l → B l) : Grow K pt F H1 Dl B H' := by
  obtain ⟨F', l, acc, s, f, e, r, a⟩ := w
  exact ⟨F', l, acc, s, f, e, r, k l a⟩
/-- a piece runs beside the list -/
theorem Step.beside {F H1 F' H' F2 H2 : Hp} {Dl : Addr} {acc : List V} (g : Good pt F H1) (h : H1 Dl = none) (f : F' Dl = none) (e : H' Dl = some (.lst acc)) (s : Step pt F' H' F2 H2) : F2 Dl = none ∧ H2 Dl = some (.lst acc) :=
  ⟨s.new Dl f (by rw [e]; simp), s.keep Dl _ (fun q hq => (off_pot g h q hq).1) e⟩
/-- one turn: the test, then the item -/
theorem Grow.turn {F H1 H' : Hp} {Dl : Addr} {A B : List PyData → Prop} {σ2 : L2.St} (g : Good pt F H1) (h : H1 Dl = none) (w : Grow K pt F H1 Dl A H') (hz : ∀ l, A l → l.length < 100000)
    (P : Bool → Prop) (ht : ∀ F', Ex F F' → EtG pt t σ2 F' P) (he : P true → ∀ F', Ex F F' → EvG K pt te σ2 F' R) (hy : P true → ∀ l d, A l → R d → B (l ++ [d])) (hn : P false → ∀ l, A l → B l) :
    t σ2 H' fun b H3 => if b = true then te σ2 H3 fun y H4 => ∃ acc, H4 Dl = some (.lst acc) ∧ acc.length < sizeLine ∧ Grow K pt F H1 Dl B (upd H4 Dl (.lst (acc ++ [y]))) else Grow K pt F H1 Dl B H3 := by
  obtain ⟨F', l, acc, s, f, e, r, a⟩ := w
  refine ht F' s.sub H' s.inn s.good _ fun b F2 H2 hb s2 => ?_
  obtain ⟨f2, e2⟩ := s2.beside g h f e
  cases b with
  | true =>
    show te σ2 H2 fun y H4 => ∃ acc, H4 Dl = some (.lst acc) ∧ acc.length < sizeLine ∧ Grow K pt F H1 Dl B (upd H4 Dl (.lst (acc ++ [y])))
    refine he hb F2 (s.sub.trans s2.sub) H2 s2.inn s2.good _ fun d v F3 H3 hd s3 hv => ?_
    obtain ⟨f3, e3⟩ := s3.beside g h f2 e2
    refine ⟨acc, e3, sz_lt (by rw [r.length]; exact hz l a), F3, l ++ [d], acc ++ [v], ((s.trans s2).trans s3).put g h f3, f3, upd_same, ?_, hy hb l d a hd⟩
    exact RpAll.append (RpAll.mono (s2.sub.trans s3.sub) _ _ r) (.one hv)
  | false =>
    show Grow K pt F H1 Dl B H2
    exact ⟨F2, l, acc, s.trans s2, f2, e2, RpAll.mono s2.sub _ _ r, hn hb l a⟩
/-- [e for x in .. if ..]: A tells the list made behind i turns -/
theorem g_lc {j : Nat} {vs : List Nat} {RS : List PyData → Prop} (A : List PyData → Nat → List PyData → Prop) (hw : WiG K pt wi σ F RS) (hz : ∀ ds, RS ds → ds.length ≤ 50000) (hwp : ∀ x, wipe ((wipe σ vs).set j (some x)) vs = wipe σ vs)
    (hA : ∀ ds i l, RS ds → A ds i l → l.length ≤ i) (h0 : ∀ ds, RS ds → A ds 0 [])
    (hs : ∀ ds i d, RS ds → ds[i]? = some d → ∃ (P : Bool → Prop) (Re : PD), (P true → ∀ l x, A ds i l → Re x → A ds (i + 1) (l ++ [x])) ∧ (P false → ∀ l, A ds i l → A ds (i + 1) l) ∧
      ∀ F', Ex F F' → ∀ x, Rp K F' x d → EtG pt t ((wipe σ vs).set j (some x)) F' P ∧ (P true → EvG K pt te ((wipe σ vs).set j (some x)) F' Re)) :
    EvG K pt (tLc wi (gName j) t te vs) σ F (fun x => ∃ ds l, x = .list l ∧ RS ds ∧ A ds ds.length l) := fun H0 i0 g0 Q q =>
  hw H0 i0 g0 _ fun ds J F1 H1 hds s1 Y => fun Dl hD => by
    have gi := s1.inn
    have gg := s1.good
    refine ⟨fun i m H => m = ds.length - i ∧ i ≤ ds.length ∧ Grow K pt F1 H1 Dl (A ds i) H, ⟨ds.length, by simp, Nat.zero_le _, .start gi gg hD (h0 ds hds)⟩, ?_⟩
    rintro i m H ⟨rfl, hi, w⟩
    obtain ⟨F', l, acc, s, f, e, r, a⟩ := id w
    have eH : Ex F1 H := s.sub.trans s.inn
    by_cases hlt : i < ds.length
    · refine .inr ⟨Y.go i H eH hlt, Grow K pt F1 H1 Dl (A ds (i + 1)), fun H' p' => ⟨ds.length - (i + 1), by omega, rfl, hlt, p'⟩, fun x H' y => ?_⟩
      obtain ⟨rfl, d, hd, hx⟩ := Y.yld i H x H' eH hlt y
      obtain ⟨P, Re, k1, k2, k3⟩ := hs ds i d hds hd
      refine ⟨hwp x, w.turn gg hD (fun l' a' => by have := hA ds i l' hds a'; have := hz ds hds; omega) P (fun F'' e'' => (k3 F'' (s1.sub.trans e'') x (Rp.mono e'' _ _ hx)).1) (fun hp F'' e'' => (k3 F'' (s1.sub.trans e'') x (Rp.mono e'' _ _ hx)).2 hp) (fun hp l' x' => k1 hp l' x') (fun hp l' => k2 hp l')⟩
    · have hE : i = ds.length := Nat.le_antisymm hi (Nat.le_of_not_lt hlt)
      subst hE
      refine .inl ⟨Y.stop H eH, ?_⟩
      obtain ⟨F2, l2, a2, s2, r2⟩ := w.done gg hD
      exact q _ _ F2 H ⟨ds, l2, rfl, hds, a2⟩ (s1.trans s2) r2
/-! ### promises of defs that change nothing, calls -/
def PSp {ι : Type} (K : PySem.W.Frag) (A : ι → List PyData) (P : ι → Prop) (f : ι → PyData) : Sp := fun vs H Q _ => ∃ i F, P i ∧ Ex F H ∧ RpAll K F vs (A i) ∧ ∀ v F2 H2, Step none F H F2 H2 → Rp K F2 v (f i) → Q v H2
theorem PSp.len {ι : Type} {A : ι → List PyData} {P : ι → Prop} {f : ι → PyData} {n : Nat} (h : ∀ i, (A i).length = n) : ∀ vs H Q E, PSp K A P f vs H Q E → vs.length = n := fun vs H Q E ⟨i, F, _, _, r, _⟩ => by rw [r.length, h]
theorem g_call {ι : Type} {A : ι → List PyData} {P : ι → Prop} {f : ι → PyData} {ds : List PyData} {E : XK} (i : ι) (h : EvsG K pt ts σ F (· = ds)) (ha : ds = A i) (hp : P i) : EvG K pt (tCall (PSp K A P f) [] E ts) σ F (Is (f i)) := fun H1 e g Q q =>
  h H1 e g _ fun ds' vs F2 H2 hd s hv => by
    rw [hd, ha] at hv
    refine ⟨i, F2, hp, s.inn, by rw [List.append_nil]; exact hv, fun v F3 H3 s3 hv3 => q _ v F3 H3 rfl (s.trans (s3.lift s.good)) hv3⟩
end
/-! ### statements -/
section
variable {K : PySem.W.Frag} {pt : Option Pt} {σ : L2.St} {F0 H0 F H F' : Hp} {te ta tb : TE} {ts tr : TA} {t u : TT} {R R1 S2 R3 : PD} {d e z : PyData} {wi : TI} {D : Ends} {tu tw tz : TS}
theorem t_ret (s : Step pt F0 H0 F H) (h : EvG K pt te σ F R) (q : ∀ d v F2 H2, R d → Step pt F0 H0 F2 H2 → Rp K F2 v d → D.rt v H2) : tRet te D σ H := h H s.inn s.good _ fun d v F2 H2 hd s2 hv => q d v F2 H2 hd (s.trans s2) hv
theorem t_retI (s : Step pt F0 H0 F H) (h : EvG K pt te σ F (Is d)) (q : ∀ v F2 H2, Step pt F0 H0 F2 H2 → Rp K F2 v d → D.rt v H2) : tRet te D σ H := t_ret s h fun d' v F2 H2 e s2 hv => q v F2 H2 s2 (by rw [← (show d' = d from e)]; exact hv)
theorem t_asg {i : Nat} (s : Step pt F0 H0 F H) (h : EvG K pt te σ F R) (q : ∀ d v F2 H2, R d → Step pt F0 H0 F2 H2 → Ex F F2 → Rp K F2 v d → tz D (σ.set i (some v)) H2) : tSeq (tAsg te (gName i)) tz D σ H :=
  h H s.inn s.good _ fun d v F2 H2 hd s2 hv => q d v F2 H2 hd (s.trans s2) s2.sub hv
theorem t_asgI {i : Nat} (s : Step pt F0 H0 F H) (h : EvG K pt te σ F (Is d)) (q : ∀ v F2 H2, Step pt F0 H0 F2 H2 → Ex F F2 → Rp K F2 v d → tz D (σ.set i (some v)) H2) : tSeq (tAsg te (gName i)) tz D σ H :=
  t_asg s h fun d' v F2 H2 e s2 e2 hv => q v F2 H2 s2 e2 (by rw [← (show d' = d from e)]; exact hv)
theorem t_if {b : Bool} (s : Step pt F0 H0 F H) (h : EtG pt t σ F (· = b)) (h1 : b = true → ∀ F2 H2, Step pt F0 H0 F2 H2 → Ex F F2 → tu { D with nx := tz D } σ H2) (h2 : b = false → ∀ F2 H2, Step pt F0 H0 F2 H2 → Ex F F2 → tw { D with nx := tz D } σ H2) :
    tSeq (tIfS t tu tw) tz D σ H := h H s.inn s.good _ fun c F2 H2 hc s2 => by
  subst hc
  cases c with
  | true => exact h1 rfl F2 H2 (s.trans s2) s2.sub
  | false => exact h2 rfl F2 H2 (s.trans s2) s2.sub
theorem t_when {b : Bool} (s : Step pt F0 H0 F H) (h : EtG pt t σ F (· = b)) (h1 : b = true → ∀ F2 H2, Step pt F0 H0 F2 H2 → Ex F F2 → tu { D with nx := tz D } σ H2) (h2 : b = false → ∀ F2 H2, Step pt F0 H0 F2 H2 → Ex F F2 → tz D σ H2) :
    tSeq (tIfS t tu tNext) tz D σ H := t_if s h h1 h2
theorem t_if1 {b : Bool} (s : Step pt F0 H0 F H) (h : EtG pt t σ F (· = b)) (h1 : b = true → ∀ F2 H2, Step pt F0 H0 F2 H2 → Ex F F2 → tu D σ H2) (h2 : b = false → ∀ F2 H2, Step pt F0 H0 F2 H2 → Ex F F2 → tw D σ H2) :
    tIfS t tu tw D σ H := h H s.inn s.good _ fun c F2 H2 hc s2 => by
  subst hc
  cases c with
  | true => exact h1 rfl F2 H2 (s.trans s2) s2.sub
  | false => exact h2 rfl F2 H2 (s.trans s2) s2.sub
theorem t_drop (s : Step pt F0 H0 F H) (h : EvG K pt te σ F R) (q : ∀ F2 H2, Step pt F0 H0 F2 H2 → Ex F F2 → tz D σ H2) : tSeq (tDrop te) tz D σ H := h H s.inn s.good _ fun d v F2 H2 _ s2 _ => q F2 H2 (s.trans s2) s2.sub
/-- for x in ..: I tells the slots behind i turns -/
theorem t_for {j : Nat} {ds : List PyData} (s : Step pt F0 H0 F H) (hw : WiG K pt wi σ F (· = ds)) (I : Nat → L2.St → Hp → Prop) (h0 : ∀ F2, Ex F F2 → I 0 σ F2)
    (hs : ∀ i d, ds[i]? = some d → ∀ σ' F' H' x, I i σ' F' → Step pt F0 H0 F' H' → Ex F F' → Rp K F' x d →
      ∀ N : L2.St → Hp → Prop, (∀ σ2 F2 H2, I (i + 1) σ2 F2 → Step pt F0 H0 F2 H2 → Ex F' F2 → N σ2 H2) → tu { D with nx := N, ct := N, bk := tz D } (σ'.set j (some x)) H')
    (hd : ∀ σ' F' H', I ds.length σ' F' → Step pt F0 H0 F' H' → Ex F F' → tz D σ' H') : tSeq (tFor wi (gName j) tu) tz D σ H :=
  hw H s.inn s.good _ fun ds' J F1 H1 e s1 Y => by
    subst e
    refine ⟨fun i m σ' H' => m = ds'.length - i ∧ i ≤ ds'.length ∧ ∃ F', Step pt F0 H0 F' H' ∧ Ex F1 F' ∧ I i σ' F', ⟨ds'.length, by simp, Nat.zero_le _, F1, s.trans s1, Ex.refl _, h0 F1 s1.sub⟩, ?_⟩
    rintro i m σ' H' ⟨rfl, hi, F', s', e', p⟩
    have eH : Ex F1 H' := e'.trans s'.inn
    by_cases hlt : i < ds'.length
    · refine .inr ⟨Y.go i H' eH hlt, fun σ2 H2 => ∃ F2, Step pt F0 H0 F2 H2 ∧ Ex F1 F2 ∧ I (i + 1) σ2 F2, fun σ2 H2 ⟨F2, a, b, c⟩ => ⟨ds'.length - (i + 1), by omega, rfl, hlt, F2, a, b, c⟩, fun x H2 y => ?_⟩
      obtain ⟨rfl, d, hdd, hx⟩ := Y.yld i H' x H2 eH hlt y
      exact hs i d hdd σ' F' _ x p s' (s1.sub.trans e') (Rp.mono e' _ _ hx) _ fun σ2 F2 H2 a b c => ⟨F2, b, e'.trans c, a⟩
    · have hE : i = ds'.length := Nat.le_antisymm hi (Nat.le_of_not_lt hlt)
      subst hE
      exact .inl ⟨Y.stop H' eH, hd σ' F' H' p s' (s1.sub.trans e')⟩
end
end Fv
namespace Fv
open PySem L2 Evl
/-! ### == of data -/
/-- a tuple of whole numbers, a list and a tuple of such -/
abbrev dT (ns : List Int) : PyData := .tuple (ns.map PyData.int)
theorem shaped_of {d : PyData} (h1 : d.canLay0 = true) (h2 : d.depth ≤ 64) : SeqAt.shaped d = true := by unfold SeqAt.shaped; simp [h1, h2]
section
variable {K : PySem.W.Frag} {pt : Option Pt} {σ : L2.St} {F F' H : Hp} {te ta tb : TE} {ts tr : TA} {t u : TT} {R R1 S2 R3 : PD} {d e z : PyData} {r : L2.R2} {wi wi1 : TI}
/-! ### operations -/
theorem rv_add {i j : Int} : RvG K (rI0 fun i j => .int (i + j)) (.int i) (.int j) (Is (.int (i + j))) := rv_I0 (f := fun i j => .int (i + j)) fun F => .int _
theorem rv_sub {i j : Int} : RvG K (rI0 fun i j => .int (i - j)) (.int i) (.int j) (Is (.int (i - j))) := rv_I0 (f := fun i j => .int (i - j)) fun F => .int _
theorem rv_bl {g : Int → Int → Bool} {i j : Int} : RvG K (rI0 fun i j => .bl (g i j)) (.int i) (.int j) (Is (.bool (g i j))) := rv_I0 (f := fun i j => .bool (g i j)) fun F => .bl _
def isNone : PyData → Bool
  | .none => true
  | _ => false
theorem rp_isN {v : V} (r : Rp K F v d) : decide (v = .non) = isNone d := by
  cases r <;> simp [isNone]
theorem rv_isN {d : PyData} : RvG K (fun x y H Q => y = .non ∧ Q (.bl (decide (x = .non))) H) d .none (Is (.bool (isNone d))) := rv_val fun F H x y _ hx hy => ⟨_, fun Q q => ⟨rp_none hy, q⟩, by rw [rp_isN hx]; exact .bl _⟩
theorem rv_notN {d : PyData} : RvG K (fun x y H Q => y = .non ∧ Q (.bl (!decide (x = .non))) H) d .none (Is (.bool (!isNone d))) := rv_val fun F H x y _ hx hy => ⟨_, fun Q q => ⟨rp_none hy, q⟩, by rw [rp_isN hx]; exact .bl _⟩
theorem inV_ints (i : Int) (ns : List Int) : inV (.int i) (ns.map V.int) = decide (i ∈ ns) := by
  unfold inV
  rw [List.any_map]
  induction ns with
  | nil => simp
  | cons n ns ih =>
    rw [List.any_cons, ih]
    by_cases h : n = i
    · subst h; simp [eqV]
    · by_cases k : i ∈ ns <;> simp [eqV, h, k, Ne.symm h]
theorem flat_ints (ns : List Int) : (ns.map V.int).all flatV = true := by induction ns <;> simp_all [flatV]
theorem atI_rp {ds : List PyData} {xs : List V} {i : Int} (h : RpAll K F xs ds) (e : atI ds i = some d) : ∃ v, atI xs i = some v ∧ Rp K F v d := by
  unfold atI at e ⊢
  rw [h.length]
  cases q : ixN ds.length i with
  | none => rw [q] at e; cases e
  | some j =>
    rw [q] at e
    exact h.getD e
theorem rv_ixT {ds : List PyData} {i : Int} (h : atI ds i = some d) : RvG K (rIxT K) (.tuple ds) (.int i) (Is d) := rv_val fun F H x y e hx hy => by
  obtain ⟨a, xs, rfl, hl, ha⟩ := rp_tup hx
  obtain ⟨v, e1, r1⟩ := atI_rp ha h
  exact ⟨v, fun Q q => ⟨a, xs, i, v, rfl, rp_int hy, tx e hl, e1, q⟩, r1⟩
theorem rv_ixL {ds : List PyData} {i : Int} (h : atI ds i = some d) : RvG K (rIxL K) (.list ds) (.int i) (Is d) := rv_val fun F H x y e hx hy => by
  obtain ⟨a, xs, rfl, hl, ha⟩ := rp_lst hx
  obtain ⟨v, e1, r1⟩ := atI_rp ha h
  exact ⟨v, fun Q q => ⟨a, xs, i, v, rfl, rp_int hy, sq_of (e _ _ hl), e1, q⟩, r1⟩
/-! ### calls of built-ins -/
theorem rc_tupL {ds : List PyData} : RcG K (fun xs H Q => ∃ p ys, xs = [.ref p] ∧ ((SqL K H p ys ∧ ∀ l, H l = none → Q (.ref l) (upd H l (.tup ys))) ∨ (SqT K H p ys ∧ Q (.ref p) H))) [.list ds] (Is (.tuple ds)) := fun F H vs e h Q q => by
  cases h with
  | cons h1 h2 =>
    cases h2
    obtain ⟨a, xs, rfl, hl, ha⟩ := rp_lst h1
    refine ⟨a, xs, rfl, .inl ⟨sq_of (e _ _ hl), fun p hp => ?_⟩⟩
    have s : Step none F H (upd F p (.tup xs)) (upd H p (.tup xs)) := .laid e .nil hp
    exact q _ _ _ _ rfl s (.tup upd_same (RpAll.mono s.sub _ _ ha))
theorem rc_lenL {ds : List PyData} : RcG K (fun xs H Q => ∃ p ys, xs = [.ref p] ∧ (SqL K H p ys ∨ SqT K H p ys) ∧ Q (.int ys.length) H) [.list ds] (Is (.int ds.length)) := rc_val fun F H vs e h => by
  cases h with
  | cons h1 h2 =>
    cases h2
    obtain ⟨a, xs, rfl, hl, ha⟩ := rp_lst h1
    exact ⟨_, fun Q q => ⟨a, xs, rfl, .inl (sq_of (e _ _ hl)), q⟩, by rw [← ha.length]; exact .int _⟩
theorem rc_lenT {ds : List PyData} : RcG K (fun xs H Q => ∃ p ys, xs = [.ref p] ∧ (SqL K H p ys ∨ SqT K H p ys) ∧ Q (.int ys.length) H) [.tuple ds] (Is (.int ds.length)) := rc_val fun F H vs e h => by
  cases h with
  | cons h1 h2 =>
    cases h2
    obtain ⟨a, xs, rfl, hl, ha⟩ := rp_tup h1
    exact ⟨_, fun Q q => ⟨a, xs, rfl, .inr (tx e hl), q⟩, by rw [← ha.length]; exact .int _⟩
/-- the built-in class of data -/
def tyD : PyData → String
  | .none => "NoneType" | .bool _ => "bool" | .int _ => "int" | .str _ => "str" | .list _ => "list" | .tuple _ => "tuple" | .dict _ => "dict"
theorem rp_ty {v : V} (r : Rp K F v d) : TyX K F v (.type (tyD d)) := by
  cases r with
  | non => exact .base .non
  | bl b => exact .base (.bl b)
  | int i => exact .base (.int i)
  | str x => exact .base (.str x)
  | lst h _ => exact .base (.lst h)
  | tup h _ =>
    exact .base (.tup h)
/-- isinstance(x, T), T a built-in class -/
theorem g_isi {T : String} {b : Bool} (h : EvG K pt te σ F (Is d)) (hk : kitB (tyD d) T = some b) : EvG K pt (tCB (rIsi K) (tCons te (tCons (tC (.ty T)) tNil))) σ F (Is (.bool b)) := fun H1 i g Q q =>
  h H1 i g _ fun d' v F2 H2 hd s hv => by
    subst hd
    exact ⟨v, .ty T, _, _, b, rfl, .ty T, rp_ty (Rp.mono s.inn _ _ hv), kit_ty hk, q _ _ F2 H2 rfl s (.bl b)⟩
/-- the truth of a list, a tuple -/
theorem et_truL {ds : List PyData} (h : EvG K pt te σ F (Is (.list ds))) : EtG pt (fun σ H Q => te σ H fun x H' => ∃ k, TruV K x H' k ∧ Q k H') σ F (· = !ds.isEmpty) := fun H1 i g Q q =>
  h H1 i g _ fun d' v F2 H2 hd s hv => by
    subst hd
    obtain ⟨a, xs, rfl, hl, ha⟩ := rp_lst hv
    have e : xs.isEmpty = ds.isEmpty := by have := ha.length; cases xs <;> cases ds <;> simp_all
    exact ⟨!ds.isEmpty, .inl ⟨xs, sq_of (s.inn _ _ hl), by rw [e]⟩, q _ F2 H2 rfl s⟩
end
end Fv
/-! the rules with K told, so that they stand within comprehensions -/
namespace Fv
open PySem PySem.Spec PyProof.Rows L2 Evl StX
section
variable {X : Cx} {K : PySem.W.Frag} {tg : Expr}
abbrev rLen (K : PySem.W.Frag) : List V → Hp → VK → Prop := fun xs H Q => ∃ p ys, xs = [.ref p] ∧ (SqL K H p ys ∨ SqT K H p ys) ∧ Q (.int ys.length) H
abbrev rTup (K : PySem.W.Frag) : List V → Hp → VK → Prop := fun xs H Q => ∃ p ys, xs = [.ref p] ∧ ((SqL K H p ys ∧ ∀ l, H l = none → Q (.ref l) (upd H l (.tup ys))) ∨ (SqT K H p ys ∧ Q (.ref p) H))
theorem o_notIn (h : X.K = K := by rfl) : OpR X (compareOp .NotIn) (rIn K true) := h ▸ op_notIn_seq
theorem o_notInD (hu : X.A.units + 65 < cLine) (h : X.K = K := by rfl) : OpR X (compareOp .NotIn) (rNotInD K) := h ▸ op_notInD hu
theorem o_eqD (hu : X.A.units + 64 < cLine) (h : X.K = K := by rfl) : OpR X (compareOp .Eq) (rEqD K) := h ▸ op_eqD hu
theorem o_neD (hu : X.A.units + 64 < cLine) (h : X.K = K := by rfl) : OpR X (compareOp .NotEq) (rNeD K) := h ▸ op_neD hu
theorem o_ixT (h : X.K = K := by rfl) : IxR X (rIxT K) := h ▸ ix_tup
theorem o_ixL (h : X.K = K := by rfl) : IxR X (rIxL K) := h ▸ ix_list
theorem c_len (h : X.K = K := by rfl) : CallR X (.builtin "len") (rLen K) := h ▸ call_len_seq
theorem c_tup (h : X.K = K := by rfl) : CallR X (.type "tuple") (rTup K) := h ▸ call_tuple_of
theorem c_isi (h : X.K = K := by rfl) : CallR X (.builtin "isinstance") (rIsi K) := h ▸ call_isi
theorem s_list (h : X.K = K := by rfl) : SlR X (rSlL K) := h ▸ sl_list
theorem s_tup (h : X.K = K := by rfl) : SlR X (rSlA K) := h ▸ sl_tupA
theorem i_list {l : Expr} {tl : TE} (hl : PE X l tl) (h : X.K = K := by rfl) : PI X tg l (iList K tl) := h ▸ pi_list hl
theorem e_fld {e : Expr} {ta : TE} {f : Str} {pos : Pos} (he : PE X e ta) (hb : attributeBase e f X.env (eval e X.env) = eval e X.env) (h : X.K = K := by rfl) : PE X (.Attribute e f pos) (tFld K ta f) := h ▸ pe_fld he hb
theorem e_truth {a : Expr} {ta : TE} (ha : PE X a ta) (he : ∀ whole, isTrue a X.env whole = (do let v ← whole; standAt a.pos; holding [v] (truthy v)) := by intro _; rfl) (h : X.K = K := by rfl) :
    PT X a (fun σ H Q => ta σ H fun x H' => ∃ k, TruV K x H' k ∧ Q k H') := h ▸ pt_truth ha he
theorem a_star {e : Expr} {te : TE} {es : List Expr} {t : TA} {p : Pos} (he : PE X e te) (hr : PA X es t) (hs : starEach (.Starred e p :: es) X.env = (true, eval e X.env) :: starEach es X.env := by rfl) (h : X.K = K := by rfl) : PA X (.Starred e p :: es) (tStar K te t) := h ▸ pa_star he hr hs
end
section
variable {K : PySem.W.Frag} {pt : Option Pt} {σ : L2.St} {F F' H : Hp} {te ta tb : TE} {ts tr : TA} {t u : TT} {R R1 S2 R3 : PD} {d e z : PyData} {r : L2.R2}
/-- *xs in a display -/
theorem gs_star {ds es : List PyData} {src : PyData} (hs : src = .list ds ∨ src = .tuple ds) (h : EvG K pt te σ F (Is src)) (hr : EvsG K pt tr σ F (· = es)) : EvsG K pt (tStar K te tr) σ F (· = ds ++ es) := fun H1 i g Q q =>
  h H1 i g _ fun d v F2 H2 hd s hv => by
    subst hd
    have go : ∀ a xs, v = .ref a → (F2 a = some (.tup xs) ∨ F2 a = some (.lst xs)) → RpAll K F2 xs ds → ∃ p xs, v = V.ref p ∧ (SqT K H2 p xs ∨ SqL K H2 p xs) ∧ tr σ H2 fun ys H3 => Q (xs ++ ys) H3 := fun a xs ev hl ha => by
      refine ⟨a, xs, ev, ?_, hr.mono s.sub H2 s.inn s.good _ fun es' ys F3 H3 he s3 hy => ?_⟩
      · rcases hl with hl | hl
        · exact .inl (tx s.inn hl)
        · exact .inr (sq_of (s.inn _ _ hl))
      · subst he
        exact q _ _ F3 H3 rfl (s.trans s3) (RpAll.append (RpAll.mono s3.sub _ _ ha) hy)
    rcases hs with rfl | rfl
    · obtain ⟨a, xs, rfl, hl, ha⟩ := rp_lst hv
      exact go a xs rfl (.inr hl) ha
    · obtain ⟨a, xs, rfl, hl, ha⟩ := rp_tup hv
      exact go a xs rfl (.inl hl) ha
end
end Fv
namespace Fv
open PySem PySem.Spec PyProof.Rows L2 Evl StX
/-! ### set(t), sorted of it -/
/-- an object that is laid beside -/
theorem Step.litter {pt : Option Pt} {F H : Hp} {p : Addr} {o : HO} (e : Ex F H) (g : Good pt F H) (hp : H p = none) : Step pt F H F (upd H p o) :=
  ⟨Ex.refl F, e.trans (Ex.new hp), Keep.of (Ex.new hp), fun q hq => ⟨(g q hq).1, (g q hq).2.mono (Ex.new hp)⟩, New.refl F H⟩
end Fv
namespace Fv
open PySem PySem.Spec PyProof.Rows L2 Evl StX
theorem hu65 {k : Nat} {A : Around} (hr : Room k A) : A.units + 65 < cLine := by have := hr.un; omega
theorem o_catA {X : Cx} {K : PySem.W.Frag} (h : X.K = K := by rfl) : OpR X (binaryOp .Add) (rCatA K) := h ▸ op_catA
section
variable {K : PySem.W.Frag} {w : World} {pt : Option Pt} {σ : L2.St} {F F' H : Hp} {te ta tb : TE} {ts tr : TA} {t u : TT} {R R1 S2 R3 : PD} {d e z : PyData} {r : L2.R2} {wi wi1 : TI}
theorem rv_catA {ds es : List PyData} (hz : ds.length + es.length ≤ 100000) : RvG K (rCatA K) (.tuple ds) (.tuple es) (Is (.tuple (ds ++ es))) := fun F H x y e hx hy Q q => by
  obtain ⟨a, xs, rfl, hl, ha⟩ := rp_tup hx
  obtain ⟨b, ys, rfl, hm, hb⟩ := rp_tup hy
  refine ⟨a, b, xs, ys, rfl, rfl, tx e hl, tx e hm, by rw [ha.length, hb.length]; exact sz_of hz, ?_, ?_, fun _ _ p hp => ?_⟩
  · rintro rfl
    cases ha
    exact q _ _ F H rfl (.refl e .nil) (.tup hm hb)
  · rintro _ rfl
    cases hb
    exact q _ _ F H rfl (.refl e .nil) (.tup hl (by rw [List.append_nil]; exact ha))
  · have s : Step none F H (upd F p (.tup (xs ++ ys))) (upd H p (.tup (xs ++ ys))) := .laid e .nil hp
    exact q _ _ _ _ rfl s (.tup upd_same (RpAll.mono s.sub _ _ (ha.append hb)))
theorem get_map {α : Type} {enc : α → PyData} {xs : List α} {i : Nat} {d : PyData} (h : (xs.map enc)[i]? = some d) : ∃ x, xs[i]? = some x ∧ d = enc x := by
  rw [List.getElem?_map] at h
  cases e : xs[i]? with
  | none => rw [e] at h; cases h
  | some x => rw [e] at h; exact ⟨x, rfl, (Option.some.inj h).symm⟩
theorem take_succA {α : Type} {ds : List α} {i : Nat} {d : α} (h : ds[i]? = some d) : ds.take (i + 1) = ds.take i ++ [d] := by
  rw [List.take_add_one, h]; rfl
theorem g_lcE {α : Type} {j : Nat} {vs : List Nat} (enc : α → PyData) (xs : List α) (p : α → Bool) (g : α → PyData) (hw : WiG K pt wi σ F (· = xs.map enc)) (hz : xs.length ≤ 50000) (hwp : ∀ x, wipe ((wipe σ vs).set j (some x)) vs = wipe σ vs)
    (ht : ∀ x ∈ xs, ∀ F', Ex F F' → ∀ v, Rp K F' v (enc x) → EtG pt t ((wipe σ vs).set j (some v)) F' (· = p x))
    (he : ∀ x ∈ xs, p x = true → ∀ F', Ex F F' → ∀ v, Rp K F' v (enc x) → EvG K pt te ((wipe σ vs).set j (some v)) F' (Is (g x))) :
    EvG K pt (tLc wi (gName j) t te vs) σ F (Is (.list ((xs.filter p).map g))) := by
  refine (g_lc (RS := (· = xs.map enc)) (fun _ i l => l = ((xs.take i).filter p).map g) hw (fun _ e => by rw [e, List.length_map]; exact hz) hwp (fun ds i l _ a => ?_) (fun _ _ => by simp) (fun ds' i d e hd => ?_)).imp fun x hx => ?_
  · rw [a, List.length_map]
    exact Nat.le_trans (List.length_filter_le _ _) (by rw [List.length_take]; exact Nat.min_le_left _ _)
  · subst e
    obtain ⟨x, hx, rfl⟩ := get_map hd
    have hm : x ∈ xs := List.mem_of_getElem? hx
    refine ⟨(· = p x), Is (g x), fun hp l y a ex => ?_, fun hp l a => ?_, fun F' e v hv => ⟨ht x hm F' e v hv, fun hp => he x hm hp.symm F' e v hv⟩⟩
    · rw [take_succA hx, List.filter_append, List.map_append, a, ex]
      simp [hp.symm]
    · rw [take_succA hx, List.filter_append, List.map_append, a]
      simp [hp.symm]
  · obtain ⟨ds', l, e1, e2, e3⟩ := hx
    subst e2
    rw [List.length_map, List.take_length] at e3
    show x = _
    rw [e1, e3]
theorem g_lcEM {α : Type} {j : Nat} {vs : List Nat} (enc : α → PyData) (xs : List α) (g : α → PyData) (hw : WiG K pt wi σ F (· = xs.map enc)) (hz : xs.length ≤ 50000) (hwp : ∀ x, wipe ((wipe σ vs).set j (some x)) vs = wipe σ vs)
    (he : ∀ x ∈ xs, ∀ F', Ex F F' → ∀ v, Rp K F' v (enc x) → EvG K pt te ((wipe σ vs).set j (some v)) F' (Is (g x))) :
    EvG K pt (tLc wi (gName j) tYes te vs) σ F (Is (.list (xs.map g))) :=
  (g_lcE enc xs (fun _ => true) g hw hz hwp (fun _ _ _ _ _ _ => et_yes) (fun d hd _ => he d hd)).is (congrArg (fun l => PyData.list (List.map g l)) (show xs.filter (fun _ => true) = xs from List.filter_eq_self.mpr (fun _ _ => rfl)))
theorem yes_of {σ : L2.St} {H : Hp} {Q : Bool → Hp → Prop} (h : Q true H) : tYes σ H Q := h
theorem ite_t {p q : Prop} (h : p) : (if true = true then p else q) := by rw [if_pos rfl]; exact h
theorem g_cbI {r : List V → Hp → VK → Prop} {ds : List PyData} (h : EvsG K pt ts σ F (· = ds)) (hr : RcG K r ds R) : EvG K pt (tCB r ts) σ F R := g_cb h fun _ e => e ▸ hr
theorem g_consR (h : EvG K pt te σ F R) : EvsG K pt (tCons te tNil) σ F (fun l => ∃ d, l = [d] ∧ R d) := fun H1 i g Q q => gs_cons h gs_nil H1 i g Q fun l vs F2 H2 hl s hv => by
  obtain ⟨d, ds, e, h1, h2⟩ := hl
  exact q l vs F2 H2 ⟨d, by rw [e, h2], h1⟩ s hv
/-- one argument -/
theorem gs_one (h : EvG K pt te σ F (Is d)) : EvsG K pt (tCons te tNil) σ F (· = [d]) := gs_consI h gs_nil
theorem gs_two (h : EvG K pt ta σ F (Is d)) (h2 : EvG K pt tb σ F (Is e)) : EvsG K pt (tCons ta (tCons tb tNil)) σ F (· = [d, e]) := gs_consI h (gs_one h2)
theorem gs_three {tc : TE} (h : EvG K pt ta σ F (Is d)) (h2 : EvG K pt tb σ F (Is e)) (h3 : EvG K pt tc σ F (Is z)) : EvsG K pt (tCons ta (tCons tb (tCons tc tNil))) σ F (· = [d, e, z]) := gs_consI h (gs_two h2 h3)
theorem g_un1 {i : Int} (h : EvG K pt te σ F (Is (.int i))) : EvG K pt (tUn (rU fun i => .int (-i)) te) σ F (Is (.int (-i))) := fun H1 i' g Q q => h H1 i' g _ fun d v F2 H2 hd s hv => by
  subst hd
  exact ⟨i, rp_int hv, q _ _ F2 H2 rfl s (.int _)⟩
theorem g_opI (ha : EvG K pt ta σ F (Is d)) (hb : EvG K pt tb σ F (Is e)) (hr : RvG K r d e R) : EvG K pt (tOp r ta tb) σ F R := g_op ha hb fun _ _ h1 h2 => h1 ▸ h2 ▸ hr
end
section
variable {K : PySem.W.Frag} {pt : Option Pt} {σ : L2.St} {F0 H0 F H F' : Hp} {te ta tb : TE} {t u : TT} {R : PD} {d e z : PyData} {D : Ends} {tu tw tz : TS}
theorem t_for1 {wi : TI} {j : Nat} {ds : List PyData} (s : Step pt F0 H0 F H) (hw : WiG K pt wi σ F (· = ds)) (I : Nat → L2.St → Hp → Prop) (h0 : ∀ F2, Ex F F2 → I 0 σ F2)
    (hs : ∀ i d, ds[i]? = some d → ∀ σ' F' H' x, I i σ' F' → Step pt F0 H0 F' H' → Ex F F' → Rp K F' x d →
      ∀ N : L2.St → Hp → Prop, (∀ σ2 F2 H2, I (i + 1) σ2 F2 → Step pt F0 H0 F2 H2 → Ex F' F2 → N σ2 H2) → tu { D with nx := N, ct := N, bk := D.nx } (σ'.set j (some x)) H')
    (hd : ∀ σ' F' H', I ds.length σ' F' → Step pt F0 H0 F' H' → Ex F F' → D.nx σ' H') : tFor wi (gName j) tu D σ H :=
  t_for (D := { D with nx := D.nx }) (tz := fun D' σ H => D.nx σ H) s hw I h0 hs hd
/-- a test that fails: the suite is skipped -/
theorem t_skip (s : Step pt F0 H0 F H) (h : EtG pt t σ F (· = false)) (q : ∀ F2 H2, Step pt F0 H0 F2 H2 → Ex F F2 → tz D σ H2) : tSeq (tIfS t tu tNext) tz D σ H := t_when s h (fun z => by cases z) fun _ => q
end
end Fv
namespace Fv
open PySem PySem.Spec PyProof.Rows L2 Evl StX
section
variable {K : PySem.W.Frag} {w : World} {pt : Option Pt} {σ : L2.St} {F F' H : Hp} {te ta tb : TE} {ts tr : TA} {t u : TT} {R R1 S2 R3 : PD} {d e z : PyData} {r : L2.R2} {wi wi1 : TI}
theorem rv_eqI {i j : Int} : RvG K rEq (.int i) (.int j) (Is (.bool (decide (i = j)))) := rv_val fun F H x y _ hx hy => by
  rw [rp_int hx, rp_int hy]
  refine ⟨.bl (decide (V.int i = V.int j)), fun Q q => ⟨rfl, q⟩, ?_⟩
  have : decide (V.int i = V.int j) = decide (i = j) := by by_cases h : i = j <;> simp [h]
  rw [this]; exact .bl _
theorem rc_lenS {ds : List PyData} {src : PyData} (hs : src = .list ds ∨ src = .tuple ds) : RcG K (rLen K) [src] (Is (.int ds.length)) := by
  rcases hs with rfl | rfl
  · exact rc_lenL
  · exact rc_lenT
end
/-! ### a list that grows -/
/-- at l a list of ls beside the part that stays; it was made behind H0 -/
structure Gst (K : PySem.W.Frag) (pt : Option Pt) (F0 H0 : Hp) (l : Addr) (F H : Hp) (ls : List PyData) : Prop where
  step : Step pt F0 H0 F H
  off : F l = none
  ex : ∃ acc, H l = some (.lst acc) ∧ RpAll K F acc ls
section
variable {K : PySem.W.Frag} {pt : Option Pt} {σ : L2.St} {F0 H0 F H F' F2 H2 : Hp} {te ta tb : TE} {ts tr : TA} {t u : TT} {R R1 S2 R3 : PD} {d e z : PyData} {wi : TI} {D : Ends} {tu tw tz : TS} {l : Addr} {ls : List PyData}
theorem Gst.run (g0 : Good pt F0 H0) (h0 : H0 l = none) (g : Gst K pt F0 H0 l F H ls) (s : Step pt F H F2 H2) : Gst K pt F0 H0 l F2 H2 ls := by
  obtain ⟨acc, e, r⟩ := g.ex
  obtain ⟨f2, e2⟩ := s.beside g0 h0 g.off e
  -- the pot is off l
  exact ⟨g.step.trans s, f2, acc, e2, RpAll.mono s.sub _ _ r⟩
theorem Gst.put (g0 : Good pt F0 H0) (h0 : H0 l = none) (g : Gst K pt F0 H0 l F H ls) {v : V} (hv : Rp K F v d) : ∃ acc, H l = some (.lst acc) ∧ acc.length = ls.length ∧ Gst K pt F0 H0 l F (upd H l (.lst (acc ++ [v]))) (ls ++ [d]) := by
  obtain ⟨acc, e, r⟩ := g.ex
  exact ⟨acc, e, r.length, g.step.put g0 h0 g.off, g.off, _, upd_same, r.append (.one hv)⟩
theorem Gst.done (g0 : Good pt F0 H0) (h0 : H0 l = none) (g : Gst K pt F0 H0 l F H ls) : ∃ F2, Step pt F0 H0 F2 H ∧ Ex F F2 ∧ Rp K F2 (.ref l) (.list ls) := by
  obtain ⟨acc, e, r⟩ := g.ex
  have e1 : Ex F (upd F l (.lst acc)) := Ex.new g.off
  refine ⟨upd F l (.lst acc), ⟨g.step.sub.trans e1, fun b u hb => ?_, g.step.keep, fun q hq => ⟨?_, (g.step.good q hq).2⟩, fun b h1 h2 => ?_⟩, e1, .lst upd_same (RpAll.mono e1 _ _ r)⟩
  · by_cases z : b = l
    · rw [z, upd_same] at hb; rw [z, e]; exact hb
    · rw [upd_ne z] at hb; exact g.step.inn b u hb
  · rw [upd_ne (off_pot g0 h0 q hq).1.symm]; exact (g.step.good q hq).1
  · have z : b ≠ l := loose_ne h2 h0
    rw [upd_ne z]; exact g.step.new b h1 h2
end
end Fv
namespace Fv
open PySem L2 Evl
theorem Step.back {pt : Option Pt} {F0 H0 F H : Hp} (s : Step pt F0 H0 F H) (l : Addr) (h : H l = none) : H0 l = none := by
  cases e : H0 l with
  | none => rfl
  | some o => exact absurd h (s.keep.there (F := F) s.good (by rw [e]; simp))
end Fv
/-! a dict comprehension whose keys are tuples -/
namespace Fv
open PySem PySem.Spec PyProof.Rows L2 Evl StX
end Fv
/-! sorted of a list of rows of whole numbers -/
namespace Fv
open PySem PySem.Spec PyProof.Rows L2 Evl StX
end Fv
/-! dicts with rows as keys; objects -/
namespace Fv
open PySem PySem.Spec PyProof.Rows L2 Evl StX
abbrev key (l : List Int) : List Key := l.map Sum.inl
theorem key_kV (l : List Int) : (key l).map kV = l.map V.int := by simp [key, Function.comp_def, kV]
theorem key_inj {a b : List Int} (h : key a = key b) : a = b := by
  have := congrArg (List.map kV) h
  rw [key_kV, key_kV] at this
  exact (List.map_inj_right (fun x y h => by injection h)).mp this
/-- a value that is no data: told by what stands in the part that stays -/
def EvX (pt : Option Pt) (te : TE) (σ : L2.St) (F : Hp) (Φ : V → Hp → Prop) : Prop :=
  ∀ H1, Ex F H1 → Good pt F H1 → ∀ Q : VK, (∀ v F2 H2, Φ v F2 → Step pt F H1 F2 H2 → Q v H2) → te σ H1 Q
/-- H without a -/
def del (H : Hp) (a : Addr) : Hp := fun b => if b = a then none else H b
theorem del_same {H : Hp} {a : Addr} : del H a a = none := by unfold del; rw [if_pos rfl]
theorem del_ne {H : Hp} {a b : Addr} (h : b ≠ a) : del H a b = H b := by unfold del; rw [if_neg h]
theorem del_ex {H : Hp} {a : Addr} : Ex (del H a) H := fun b o h => by
  by_cases z : b = a
  · rw [z, del_same] at h; cases h
  · rw [del_ne z] at h; exact h
/-- what stands for itself within a body: the object at x is the body's own -/
theorem Step.own {F H : Hp} (e : Ex F H) (x dx : Addr) : Step none F (del (del H x) dx) F H := ⟨Ex.refl F, e, Keep.of fun a o h => del_ex _ _ (del_ex _ _ h), .nil, New.refl F _⟩
end Fv
namespace Fv
open PySem L2 Evl
theorem Step.less {F B B' F2 H2 : Hp} (s : Step none F B F2 H2) (e : Ex B' B) : Step none F B' F2 H2 :=
  ⟨s.sub, s.inn, Keep.of fun a o h => s.keep.ex a o (e a o h), .nil, fun a h1 ⟨o, h2, n⟩ => s.new a h1 ⟨o, e a o h2, n⟩⟩
end Fv
/-! ranges as rows, slices, fields, keys, static methods -/
namespace Fv
open PySem PySem.Spec PyProof.Rows L2 Evl StX
section
variable {K : PySem.W.Frag} {w : World} {pt : Option Pt} {σ : L2.St} {F F' H : Hp} {te ta tb tv : TE} {t : TT} {wi : TI} {d : PyData} {R : PD}
theorem rgV_rng (a b : Int) (F : Hp) : RpAll K F (rgV a b) (rng a (b - a).toNat) := by
  unfold rgV rng
  have : ∀ (l : List Nat), RpAll K F (l.map fun i => V.int (a + (i : Nat))) (l.map fun (k : Nat) => PyData.int (a + (k : Int))) := by
    intro l
    induction l with
    | nil => exact .nil
    | cons x r ih => exact .cons (.int _) ih
  exact this _
/-- t[i:] -/
theorem g_slA {ds : List PyData} {i : Nat} (h : EvG K pt te σ F (Is (.tuple ds))) (hi : EvG K pt ta σ F (Is (.int (i : Int)))) : EvG K pt (tSl (rSlA K) te (tPart ta) tNoPart) σ F (Is (.tuple (ds.drop i))) := fun H1 i' g Q q =>
  h H1 i' g _ fun d v F2 H2 hd s hv => hi.mono s.sub H2 s.inn s.good _ fun e u F3 H3 he s2 hu => by
    subst hd; subst he
    obtain ⟨a, xs, rfl, hl, ha⟩ := rp_tup hv
    refine ⟨(i : Int), rp_int hu, a, xs, rfl, tx s2.inn (s2.sub _ _ hl), fun hw => ?_, fun hw p hp => ?_⟩
    · rw [HT.sIx_nat] at hw
      have : ds.drop i = ds := by
        have hl := ha.length
        by_cases z : xs.length = 0
        · have : ds = [] := List.eq_nil_of_length_eq_zero (by omega)
          rw [this]; simp
        · have : i = 0 := by have := hw.1; omega
          rw [this]; rfl
      refine q _ _ F3 H3 rfl (s.trans s2) ?_
      rw [this]
      exact .tup (s2.sub _ _ hl) (RpAll.mono s2.sub _ _ ha)
    · have e1 : cutV xs (some (i : Int)) none = xs.drop i := by
        unfold cutV
        rw [HT.sIx_nat, HT.sIx_none]
        by_cases z : i ≤ xs.length
        · rw [Nat.min_eq_left z]
          exact List.take_of_length_le (by rw [List.length_drop]; omega)
        · rw [Nat.min_eq_right (by omega), Nat.sub_self, List.take_zero, List.drop_eq_nil_of_le (by omega)]
      rw [e1]
      have s3 : Step pt F3 H3 (upd F3 p (.tup (xs.drop i))) (upd H3 p (.tup (xs.drop i))) := .laid s2.inn s2.good hp
      refine q _ _ _ _ rfl ((s.trans s2).trans s3) (.tup upd_same (RpAll.mono (s2.sub.trans s3.sub) _ _ ?_))
      have : ∀ (n : Nat) {xs : List V} {ds : List PyData}, RpAll K F2 xs ds → RpAll K F2 (xs.drop n) (ds.drop n) := by
        intro n
        induction n with
        | zero => intro _ _ h; exact h
        | succ n ih =>
          intro xs ds h
          cases h with
          | nil => exact .nil
          | cons h1 h2 => exact ih h2
      exact this i ha
/-- o.f, o's fields told in the part that stays -/
theorem x_fld {Φ : V → Hp → Prop} {i : Nat} {x C dx : Addr} {fs : List (Str × V)} {f : Str} {v : V} (hi : σ[i]? = some (some (.ref x))) (ho : F x = some (.ins C dx fs)) (cl : Cls K C) (na : NoAttr K C f) (hl : fs.lookup f = some v) (hv : ∀ F', Ex F F' → Φ v F') : EvX pt (tFld K (tVar i) f) σ F Φ := fun H1 i' g Q q =>
  ⟨.ref x, hi, x, C, dx, fs, v, rfl, i' _ _ ho, cl, na, hl, q v F H1 (hv F (Ex.refl F)) (.refl i' g)⟩
theorem g_fld {i : Nat} {x C dx : Addr} {fs : List (Str × V)} {f : Str} {v : V} (hi : σ[i]? = some (some (.ref x))) (ho : F x = some (.ins C dx fs)) (cl : Cls K C) (na : NoAttr K C f) (hl : fs.lookup f = some v) (hv : Rp K F v d) : EvG K pt (tFld K (tVar i) f) σ F (Is d) := fun H1 i' g Q q =>
  ⟨.ref x, hi, x, C, dx, fs, v, rfl, i' _ _ ho, cl, na, hl, q d v F H1 rfl (.refl i' g) hv⟩
theorem EvX.mono {Φ : V → Hp → Prop} (hm : ∀ v F1 F2, Ex F1 F2 → Φ v F1 → Φ v F2) (h : EvX pt te σ F Φ) (e : Ex F F') : EvX pt te σ F' Φ := fun H1 i g Q q =>
  h H1 (e.trans i) (g.less e) Q fun v F2 H2 hv s => q v _ H2 (hm v _ _ join_l hv) (s.wide e i g)
end
/-! ### C.m(..), m a static method -/
end Fv
/-! the pot: expressions that lay nothing -/
namespace Fv
open PySem PySem.Spec PyProof.Rows L2 Evl StX
def EvC (te : TE) (σ : L2.St) (H : Hp) (v : V) : Prop := ∀ Q : VK, Q v H → te σ H Q
def EtC (t : TT) (σ : L2.St) (H : Hp) (b : Bool) : Prop := ∀ Q : Bool → Hp → Prop, Q b H → t σ H Q
section
variable {K : PySem.W.Frag} {σ : L2.St} {H : Hp} {te ta tb : TE} {t u : TT} {x y z : V} {r : L2.R2}
theorem ec_var {i : Nat} (h : σ[i]? = some (some x)) : EvC (tVar i) σ H x := fun Q q => ⟨x, h, q⟩
theorem ec_int {i : Int} : EvC (tC (.int i)) σ H (.int i) := fun Q q => q
theorem ec_op (ha : EvC ta σ H x) (hb : EvC tb σ H y) (hr : ∀ Q : VK, Q z H → r x y H Q) : EvC (tOp r ta tb) σ H z := fun Q q => ha _ (hb _ (hr Q q))
theorem ec_I0 {g : Int → Int → V} {i j : Int} (ha : EvC ta σ H (.int i)) (hb : EvC tb σ H (.int j)) : EvC (tOp (rI0 g) ta tb) σ H (g i j) := ec_op ha hb fun Q q => ⟨i, j, rfl, rfl, q⟩
theorem ec_I {C : Int → Int → Prop} {g : Int → Int → V} {i j : Int} (ha : EvC ta σ H (.int i)) (hb : EvC tb σ H (.int j)) (hc : C i j) : EvC (tOp (rI C g) ta tb) σ H (g i j) := ec_op ha hb fun Q q => ⟨i, j, rfl, rfl, hc, q⟩
theorem ec_eq {i j : Int} (ha : EvC ta σ H (.int i)) (hb : EvC tb σ H (.int j)) : EvC (tOp rEq ta tb) σ H (.bl (decide (i = j))) := ec_op ha hb fun Q q => by
  have : decide (V.int i = V.int j) = decide (i = j) := by by_cases h : i = j <;> simp [h]
  exact ⟨rfl, by rw [this]; exact q⟩
theorem ec_ixL {p : Addr} {xs : List V} {i : Int} {v : V} (ha : EvC ta σ H (.ref p)) (hb : EvC tb σ H (.int i)) (hp : H p = some (.lst xs)) (hi : atI xs i = some v) : EvC (tOp (rIxL K) ta tb) σ H v := ec_op ha hb fun Q q => ⟨p, xs, i, v, rfl, rfl, SqL.of hp, hi, q⟩
theorem ec_int1 {i : Int} (h : EvC te σ H (.int i)) : EvC (tCB (fun xs H Q => (∃ i, xs = [.int i] ∧ Q (.int i) H) ∨ ∃ k, xs = [.bl k] ∧ Q (.int (if k then 1 else 0)) H) (tCons te tNil)) σ H (.int i) := fun Q q => h _ (.inl ⟨i, rfl, q⟩)
theorem ec_len {p : Addr} {xs : List V} (h : EvC te σ H (.ref p)) (hp : H p = some (.lst xs)) : EvC (tCB (rLen K) (tCons te tNil)) σ H (.int xs.length) := fun Q q => h _ ⟨p, xs, rfl, .inl (SqL.of hp), q⟩
theorem etc_of {b : Bool} (h : EvC te σ H (.bl b)) : EtC (tTest te) σ H b := fun Q q => h _ ⟨b, rfl, q⟩
theorem etc_and {a b : Bool} (h1 : EtC t σ H a) (h2 : a = true → EtC u σ H b) : EtC (tAnd t u) σ H (a && b) := fun Q q => h1 _ (by
  cases a with
  | true => exact h2 rfl Q q
  | false => exact q)
/-- the pot as it stands -/
structure Pot (H : Hp) (q : Pt) (a b c : Int) : Prop where
  at_ : H q.p = some (.lst [.int a, .int b, .int c, .ref q.l])
  ls : H q.l = some (.lst (q.ns.map V.int))
  ne : q.l ≠ q.p
  few : q.ns.length ≤ 60
  a0 : 0 ≤ a
  b0 : 0 ≤ b
  b1 : b < 2147483647
  c0 : 0 ≤ c
  c1 : c ≤ q.ns.length
theorem Pot.of {q : Pt} (h : PotAt H q) : ∃ a b c, Pot H q a b c := by
  obtain ⟨a, b, c, h1, h2, h3, h4, h5, h6⟩ := h.ex
  exact ⟨a, b, c, h1, h.ls, h.ne, h.few, h2, h3, h4, h5, h6⟩
theorem Pot.pot {q : Pt} {a b c : Int} (h : Pot H q a b c) : PotAt H q := ⟨h.ne, h.ls, h.few, a, b, c, h.at_, h.a0, h.b0, h.b1, h.c0, h.c1⟩
theorem Pot.put {q : Pt} {a b c a' b' c' : Int} (h : Pot H q a b c) (h1 : 0 ≤ a') (h2 : 0 ≤ b') (h3 : b' < 2147483647) (h4 : 0 ≤ c') (h5 : c' ≤ q.ns.length) : Pot (upd H q.p (.lst [.int a', .int b', .int c', .ref q.l])) q a' b' c' :=
  ⟨upd_same, by rw [upd_ne h.ne]; exact h.ls, h.ne, h.few, h1, h2, h3, h4, h5⟩
theorem Step.pot {F : Hp} {q : Pt} {o : HO} (e : Ex F H) (g : Good (some q) F H) (h : PotAt (upd H q.p o) q) : Step (some q) F H F (upd H q.p o) := by
  have fp := (g q rfl).1
  refine ⟨Ex.refl F, fun a u h => ?_, fun a u hq h => ?_, fun q' hq => ?_, New.refl F H⟩
  · rw [upd_ne (fun z => by rw [z, fp] at h; cases h)]; exact e _ _ h
  · rw [upd_ne (hq q rfl)]; exact h
  · obtain rfl := Option.some.inj hq
    exact ⟨fp, h⟩
/-- pot[i] = e -/
theorem ts_put {q : Pt} {D : Ends} {tz : TS} {i : Int} {j : Nat} {v : V} {xs : List V} (h : EvC te σ H v) (h0 : σ[0]? = some (some (.ref q.p))) (hp : H q.p = some (.lst xs)) (hj : ixN xs.length i = some j) (k : tz D σ (upd H q.p (.lst (xs.set j v)))) :
    tSeq (tAsg te (gSub (tVar 0) (tC (.int i)) rSetL)) tz D σ H := h _ ⟨_, h0, ⟨q.p, xs, i, j, rfl, rfl, hp, hj, k⟩⟩
theorem ts_put1 {q : Pt} {D : Ends} {i : Int} {j : Nat} {v : V} {xs : List V} (h : EvC te σ H v) (h0 : σ[0]? = some (some (.ref q.p))) (hp : H q.p = some (.lst xs)) (hj : ixN xs.length i = some j) (k : D.nx σ (upd H q.p (.lst (xs.set j v)))) :
    tAsg te (gSub (tVar 0) (tC (.int i)) rSetL) D σ H := h _ ⟨_, h0, ⟨q.p, xs, i, j, rfl, rfl, hp, hj, k⟩⟩
theorem ts_asg {D : Ends} {tz : TS} {i : Nat} {v : V} (h : EvC te σ H v) (k : tz D (σ.set i (some v)) H) : tSeq (tAsg te (gName i)) tz D σ H := h _ k
theorem ts_ret {D : Ends} {v : V} (h : EvC te σ H v) (k : D.rt v H) : tRet te D σ H := h _ k
theorem ts_if {D : Ends} {tu tw tz : TS} {b : Bool} (h : EtC t σ H b) (k1 : b = true → tu { D with nx := tz D } σ H) (k2 : b = false → tw { D with nx := tz D } σ H) : tSeq (tIfS t tu tw) tz D σ H := h _ (by
  cases b with
  | true => exact k1 rfl
  | false => exact k2 rfl)
theorem ts_if1 {D : Ends} {tu tw : TS} {b : Bool} (h : EtC t σ H b) (k1 : b = true → tu D σ H) (k2 : b = false → tw D σ H) : tIfS t tu tw D σ H := h _ (by
  cases b with
  | true => exact k1 rfl
  | false => exact k2 rfl)
end
end Fv
namespace Fv
open PySem PySem.Spec PyProof.Rows L2 Evl StX
section
variable {σ : L2.St} {H : Hp} {t : TT}
theorem ts_when {D : Ends} {tu tz : TS} {b : Bool} (J : L2.St → Hp → Prop) (h : EtC t σ H b) (k1 : b = true → ∀ N : L2.St → Hp → Prop, (∀ σ' H', J σ' H' → N σ' H') → tu { D with nx := N } σ H) (k2 : b = false → J σ H) (k : ∀ σ' H', J σ' H' → tz D σ' H') :
    tSeq (tIfS t tu tNext) tz D σ H := ts_if h (fun e => k1 e _ fun σ' H' j => k σ' H' j) fun e => k σ H (k2 e)
end
theorem fm0 (i : Int) {j : Int} (h : 0 < j) : 0 ≤ i.fmod j ∧ i.fmod j < j := ⟨Int.fmod_nonneg_of_pos i h, Int.fmod_lt_of_pos i h⟩
end Fv
namespace Fv
open PySem PySem.Spec PyProof.Rows L2 Evl StX
/-- a promise of a def that takes the pot and a number -/
def spP (K : PySem.W.Frag) (P : Int → Prop) (R : Int → PD) : Sp := fun vs H Q _ => ∃ (q : Pt) (m : Int) (F : Hp), vs = [.ref q.p, .int m] ∧ P m ∧ Ex F H ∧ Good (some q) F H ∧ ∀ d v F2 H2, R m d → Step (some q) F H F2 H2 → Rp K F2 v d → Q v H2
theorem spP.len {K : PySem.W.Frag} {P : Int → Prop} {R : Int → PD} : ∀ vs H Q E, spP K P R vs H Q E → vs.length = 2 := fun vs H Q E ⟨_, _, _, h, _⟩ => by rw [h]; rfl
section
variable {K : PySem.W.Frag} {pt : Option Pt} {σ : L2.St} {F F' H : Hp} {te ta tb : TE} {ts tr : TA} {t u : TT} {R R1 S2 R3 : PD} {d e z : PyData} {r : L2.R2}
theorem g_callP {P : Int → Prop} {R : Int → PD} {E : XK} {q : Pt} {i : Nat} {m : Int} (h0 : σ[i]? = some (some (.ref q.p))) (h : EvG K (some q) te σ F (Is (.int m))) (hp : P m) : EvG K (some q) (tCall (spP K P R) [] E (tCons (tVar i) (tCons te tNil))) σ F (R m) := fun H1 e g Q k =>
  ⟨_, h0, h H1 e g _ fun d v F2 H2 hd s hv => by
    subst hd
    obtain rfl := rp_int hv
    exact ⟨q, m, F2, rfl, hp, s.inn, s.good, fun d v F3 H3 hr s3 hv3 => k d v F3 H3 hr (s.trans s3) hv3⟩⟩
theorem rc_int1 {i : Int} : RcG K (fun xs H Q => (∃ i, xs = [.int i] ∧ Q (.int i) H) ∨ ∃ k, xs = [.bl k] ∧ Q (.int (if k then 1 else 0)) H) [.int i] (Is (.int i)) := rc_val fun F H vs e h => by
  have hv : vs = [.int i] := rpAll_ints (ns := [i]) h
  exact ⟨.int i, fun Q q => .inl ⟨i, hv, q⟩, .int i⟩
/-- script[0:60] -/
theorem g_slS {a : Addr} {ns : List Int} {i : Nat} (h0 : σ[i]? = some (some (.ref a))) (h : SqL K F a (ns.map V.int)) : EvG K pt (tSl (rSlL K) (tVar i) (tPart (tC (.int 0))) (tPart (tC (.int 60)))) σ F (Is (.list ((ns.take 60).map .int))) := fun H1 e g Q q => by
  refine ⟨_, h0, 0, rfl, 60, rfl, a, ns.map V.int, rfl, ex_l e h, fun p hp => ?_⟩
  have e1 : cutV (ns.map V.int) (some 0) (some 60) = (ns.take 60).map V.int := by
    unfold cutV
    rw [show HT.sIx (ns.map V.int).length 0 (some 0) = min 0 (ns.map V.int).length from HT.sIx_nat _ _ 0, show HT.sIx (ns.map V.int).length (ns.map V.int).length (some 60) = min 60 (ns.map V.int).length from HT.sIx_nat _ _ 60, Nat.zero_min, List.drop_zero, Nat.sub_zero, List.map_take]
    by_cases z : 60 ≤ (ns.map V.int).length
    · rw [Nat.min_eq_left z]
    · rw [Nat.min_eq_right (by omega), List.take_of_length_le (Nat.le_refl _), List.take_of_length_le (by omega)]
  rw [e1]
  have s3 : Step pt F H1 (upd F p (.lst ((ns.take 60).map V.int))) (upd H1 p (.lst ((ns.take 60).map V.int))) := .laid e g hp
  exact q _ _ _ _ rfl s3 (.lst upd_same (rpAll_of_ints _))
/-- o.m(..), o.f of an instance, by a promise about what stands -/
theorem g_methD {C x dx : Addr} {fs : List (Str × V)} {m : Str} {sp : Sp} {E : XK} {i : Nat} {ds : List PyData} {z : PyData} (h0 : σ[i]? = some (some (.ref x))) (ho : F x = some (.ins C dx fs)) (hl : fs.lookup m = none) (h : EvsG K pt ts σ F (· = ds))
    (hs : ∀ F1 H1 vs, Ex F F1 → Ex F1 H1 → RpAll K F1 vs ds → ∀ Q : VK, (∀ v F2 H2, Step none F1 H1 F2 H2 → Rp K F2 v z → Q v H2) → sp (.ref x :: vs) H1 Q E) : EvG K pt (tMeth C m sp [] E (tVar i) ts) σ F (Is z) := fun H1 e g Q q =>
  ⟨_, h0, x, dx, fs, rfl, e _ _ ho, hl, h H1 e g _ fun ds' vs F2 H2 hd s hv => by
    subst hd
    rw [List.append_nil]
    exact hs F2 H2 vs s.sub s.inn hv Q fun v F3 H3 s3 hv3 => q _ v F3 H3 rfl (s.trans (s3.lift s.good)) hv3⟩
theorem g_propD {C x dx : Addr} {fs : List (Str × V)} {sp : Sp} {E : XK} {i : Nat} {z : PyData} (h0 : σ[i]? = some (some (.ref x))) (ho : F x = some (.ins C dx fs))
    (hs : ∀ F1 H1, Ex F F1 → Ex F1 H1 → ∀ Q : VK, (∀ v F2 H2, Step none F1 H1 F2 H2 → Rp K F2 v z → Q v H2) → sp [.ref x] H1 Q E) : EvG K pt (tProp C sp [] E (tVar i)) σ F (Is z) := fun H1 e g Q q =>
  ⟨_, h0, x, dx, fs, rfl, e _ _ ho, hs F H1 (Ex.refl F) e Q fun v F3 H3 s3 hv3 => q _ v F3 H3 rfl (s3.lift g) hv3⟩
end
section
variable {K : PySem.W.Frag} {pt : Option Pt} {σ : L2.St} {F0 H0 F H : Hp} {te : TE} {D : Ends} {tz : TS} {Φ : V → Hp → Prop}
theorem t_retLst {ts : TA} {ds : List PyData} (s : Step pt F0 H0 F H) (h : EvsG K pt ts σ F (· = ds)) (k : ∀ vs F2 H2, Step pt F0 H0 F2 H2 → RpAll K F2 vs ds → vs.length ≤ sizeLine ∧ ∀ p, H2 p = none → D.rt (.ref p) (upd H2 p (.lst vs))) : tRet (tLst ts) D σ H :=
  h H s.inn s.good _ fun ds' vs F2 H2 hd s2 hv => by
    subst hd
    exact k vs F2 H2 (s.trans s2) hv
end
end Fv
namespace Fv
open PySem PySem.Spec PyProof.Rows L2 Evl StX
section
variable {K : PySem.W.Frag} {pt : Option Pt} {σ : L2.St} {F F' F0 H0 H : Hp} {te ta tb : TE} {ts tr : TA} {t u : TT} {R R1 S2 R3 : PD} {d e z : PyData} {r : L2.R2} {D : Ends} {tu tw tz : TS}
theorem g_notTL {ds : List PyData} (h : EvG K pt te σ F (Is (.list ds))) : EvG K pt (tNotT K te) σ F (Is (.bool ds.isEmpty)) := fun H1 i g Q q => h H1 i g _ fun d v F2 H2 hd s hv => by
  subst hd
  obtain ⟨a, xs, rfl, hl, ha⟩ := rp_lst hv
  have hn := ha.length
  refine ⟨!xs.isEmpty, .inl ⟨xs, SqL.of (s.inn _ _ hl), rfl⟩, ?_⟩
  have e : (!(!xs.isEmpty)) = ds.isEmpty := by
    cases xs with
    | nil =>
      cases ds with
      | nil => rfl
      | cons _ _ => simp at hn
    | cons _ _ =>
      cases ds with
      | nil => simp at hn
      | cons _ _ => rfl
  rw [e]
  exact q _ _ F2 H2 rfl s (.bl _)
end
end Fv
/-! rows with gaps: None or a whole number at each place -/
namespace Fv
open PySem PySem.Spec PyProof.Rows L2 Evl StX
def optD : Option Int → PyData
  | none => .none
  | some i => .int i
def optV : Option Int → V
  | none => .non
  | some i => .int i
abbrev dO (v : List (Option Int)) : PyData := .tuple (v.map optD)
abbrev natD (k : Nat) : PyData := .int (k : Int)
theorem rng_nat (n : Nat) : rng 0 n = (List.range n).map natD := by
  unfold rng
  refine List.map_congr_left fun k _ => ?_
  simp
section
variable {K : PySem.W.Frag} {pt : Option Pt} {σ : L2.St} {F F' H : Hp} {te ta tb : TE} {ts tr : TA} {t u : TT} {R R1 : PD} {d e z : PyData}
theorem rp_opt {v : V} {o : Option Int} (h : Rp K F v (optD o)) : v = optV o := by
  cases o with
  | none => exact rp_none h
  | some i => exact rp_int h
theorem isNone_opt (a : Option Int) : isNone (optD a) = a.isNone := by cases a <;> rfl
theorem rv_notO {a : Option Int} : RvG K (fun x y H Q => y = .non ∧ Q (.bl (!decide (x = .non))) H) (optD a) .none (Is (.bool (!a.isNone))) := isNone_opt a ▸ rv_notN
/-- v[k] of a row with gaps -/
theorem rv_ixO {v : List (Option Int)} {k : Nat} (h : k < v.length) : RvG K (rIxT K) (dO v) (natD k) (Is (optD (v.getD k none))) := rv_ixT (atI_nat (by rw [List.getElem?_map, List.getD_eq_getElem?_getD, List.getElem?_eq_getElem h]; rfl))
theorem g_ixO {v : List (Option Int)} {k : Nat} (ha : EvG K pt ta σ F (Is (dO v))) (hb : EvG K pt tb σ F (Is (natD k))) (h : k < v.length) : EvG K pt (tOp (rIxT K) ta tb) σ F (Is (optD (v.getD k none))) := g_opI ha hb (rv_ixO h)
/-- range(len(x)) -/
theorem w_len {ds : List PyData} {n : Nat} (h : EvG K pt te σ F (Is (.tuple ds))) (hn : ds.length = n) (hz : n ≤ 100000) : WiG K pt (iRng1 (tCons (tCB (rLen K) (tCons te tNil)) tNil)) σ F (· = (List.range n).map natD) := by
  have := w_rng1I (K := K) (pt := pt) (σ := σ) (F := F) (n := (n : Int)) (gs_one ((g_cbI (gs_one h) rc_lenT).is (by rw [hn]))) (by omega) (by omega)
  rw [show (n : Int).toNat = n by omega, rng_nat] at this
  exact this
theorem w_range {n : Nat} (h : EvG K pt te σ F (Is (.int (n : Int)))) (hz : n ≤ 100000) : WiG K pt (iRng1 (tCons te tNil)) σ F (· = (List.range n).map natD) := by
  have := w_rng1I (K := K) (pt := pt) (σ := σ) (F := F) (n := (n : Int)) (gs_one h) (by omega) (by omega)
  rw [show (n : Int).toNat = n by omega, rng_nat] at this
  exact this
end
end Fv
namespace Fv
open PySem PySem.Spec PyProof.Rows L2 Evl StX
/-- a promise of a def that takes the pot and data -/
def spQ {ι : Type} (K : PySem.W.Frag) (A : ι → List PyData) (P : ι → Prop) (R : ι → PD) : Sp := fun vs H Q _ => ∃ (q : Pt) (i : ι) (F : Hp) (as : List V), vs = .ref q.p :: as ∧ P i ∧ Ex F H ∧ Good (some q) F H ∧ RpAll K F as (A i) ∧ ∀ d v F2 H2, R i d → Step (some q) F H F2 H2 → Rp K F2 v d → Q v H2
theorem spQ.len {ι : Type} {K : PySem.W.Frag} {A : ι → List PyData} {P : ι → Prop} {R : ι → PD} {n : Nat} (h : ∀ i, (A i).length = n) : ∀ vs H Q E, spQ K A P R vs H Q E → vs.length = n + 1 := fun vs H Q E ⟨_, i, _, _, e, _, _, _, r, _⟩ => by rw [e, List.length_cons, r.length, h]
section
variable {K : PySem.W.Frag} {pt : Option Pt} {σ : L2.St} {F F' F0 H0 H : Hp} {te ta tb : TE} {ts tr : TA} {t u : TT} {R R1 : PD} {d e z : PyData} {D : Ends} {tz tu : TS} {wi : TI}
/-! ### two lists of one's own -/
structure Two (K : PySem.W.Frag) (pt : Option Pt) (F0 H0 : Hp) (l m : Addr) (F H : Hp) (ls ms : List PyData) : Prop where
  step : Step pt F0 H0 F H
  ne : l ≠ m
  h1 : H0 l = none
  h2 : H0 m = none
  o1 : F l = none
  o2 : F m = none
  e1 : ∃ xs, H l = some (.lst xs) ∧ RpAll K F xs ls
  e2 : ∃ xs, H m = some (.lst xs) ∧ RpAll K F xs ms
variable {l m : Addr} {ls ms : List PyData} {F2 H2 : Hp}
theorem Two.run (g0 : Good pt F0 H0) (w : Two K pt F0 H0 l m F H ls ms) (s : Step pt F H F2 H2) : Two K pt F0 H0 l m F2 H2 ls ms := by
  obtain ⟨xs, a1, a2⟩ := w.e1
  obtain ⟨ys, b1, b2⟩ := w.e2
  obtain ⟨f1, k1⟩ := s.beside g0 w.h1 w.o1 a1
  obtain ⟨f2, k2⟩ := s.beside g0 w.h2 w.o2 b1
  exact ⟨w.step.trans s, w.ne, w.h1, w.h2, f1, f2, ⟨xs, k1, RpAll.mono s.sub _ _ a2⟩, ⟨ys, k2, RpAll.mono s.sub _ _ b2⟩⟩
theorem RpAll.erase : ∀ {ds : List PyData} {vs : List V} (i : Nat), RpAll K F vs ds → RpAll K F (vs.eraseIdx i) (ds.eraseIdx i)
  | [], _, i, h => by cases h; cases i <;> exact .nil
  | d :: ds, _, 0, h => by
    cases h with
    | cons h1 h2 => exact h2
  | d :: ds, _, i + 1, h => by
    cases h with
    | cons h1 h2 => exact .cons h1 (RpAll.erase i h2)
/-- the length of one's own list -/
theorem Two.len (w : Two K pt F0 H0 l m F H ls ms) : ∃ xs, H l = some (.lst xs) ∧ xs.length = ls.length := by
  obtain ⟨xs, a1, a2⟩ := w.e1
  exact ⟨xs, a1, a2.length⟩
theorem not_in {F H : Hp} {l : Addr} (e : Ex F H) (h : H l = none) : F l = none := by
  cases z : F l with
  | none => rfl
  | some o => have := e _ _ z; rw [h] at this; cases this
end
end Fv
namespace Fv
open PySem PySem.Spec PyProof.Rows L2 Evl StX
end Fv
/-! C.__init__(self, ..) of an exception class C of the program whose __init__ is ValueError's -/
namespace Fv
open PySem PySem.Spec PyProof.Rows L2 Evl StX
section
variable {X : Cx} {e : Expr} {es : List Expr} {ta : TA} {p1 p2 pos : Pos} {x : Str} {C : Addr} {mc : Value}
theorem pe_fminit {pl : Sem Bool} (hg : Gl X x) (hm : X.mg x = some (.ref C)) (r : ClX.CRead X.K C mc) (vV : PySem.W.findCls X.K (.ref C) mc "__init__" = some (.val (.builtin "ValueError.__init__"))) (ha : PA X (e :: es) ta)
    (hdb : (x == ("__debug__" : Str)) = false := by decide)
    (hc : eval (.Call (.Attribute (.Name x p1) "__init__" p2) (e :: es) [] pos) X.env = (do
      let ov ← eval (.Name x p1) X.env
      standAt p2.atName
      let (f, first) ← holding [ov] (getMethod ov "__init__" pl)
      callWith pos f first (backTo pos (starEach (e :: es) X.env)) (backToKw pos (keywordEach [] X.env))) := by rfl)
    (he : starEach (e :: es) X.env = (false, eval e X.env) :: starEach es X.env := by rfl) (hpl : (backTo pos (starEach es X.env)).any (·.1) = false := by rfl) :
    PE X (.Call (.Attribute (.Name x p1) "__init__" p2) (e :: es) [] pos) (tVeI X.K ta) := by
  refine ⟨fun pins s σ H Q I h => ?_⟩
  refine PySem.W.methodCall_KW (pl := pl) (ld_glob I hg hm ?_ hdb) hc
  refine PySem.W.method_cls I.kIn r.ga (PySem.W.cls_value I.kIn r.rd vV (by decide +kernel) ?_)
  show wpAny _ _ (callWith pos (Value.builtin "ValueError.__init__") [] (backTo pos (starEach (e :: es) X.env)) []) _ _ _
  refine PyProof.Rows.callWith_method1 (thn (ha.run pos pins _ σ H _ (I.tok _) h) fun us s1 ⟨vs, H1, I1, r1, a, C, ws, ev, hl, T, ea, q⟩ => ?_) he hpl
  subst ev
  cases r1 with
  | @cons _ u0 _ ur ra rw' =>
    obtain rfl : u0 = Value.ref a := ra
    have hlen : ur.length ≤ sizeLine := by
      rw [← Paired.length rw', sizeLine_eq]
      omega
    exact oinit_ok T I1 ea hlen fun s' J => ⟨.non, H1, J, rfl, q⟩
end
end Fv
/-! promises of defs where no text of a list is being made around them (so that repr of one is known) -/
namespace Fv
open PySem PySem.Spec PyProof.Rows L2 Evl StX
/-- nothing is being shown -/
def Calmly (A : Around) : Prop := A.guards = some []
theorem Calmly.deeper {A : Around} (c : Calmly A) (env : Env) : Calmly (A.deeper env) := c
theorem Calmly.mark {A : Around} (c : Calmly A) (v : Option Value) : Calmly (A.mark v) := c
end Fv
/-! the law's own call: nothing is being shown around it -/
namespace Fv
open PySem PySem.Spec PyProof.Rows L2 Evl StX
end Fv
/-! repr; x in t for a tuple of data of any depth; isinstance of a caught exception with fields -/
namespace Fv
open PySem PySem.Spec PyProof.Rows L2 Evl StX
end Fv
namespace Fv
open PySem PySem.Spec PyProof.Rows L2 Evl StX
/-- isinstance says yes as soon as the kind of the thing says so -/
theorem isi_yes {K : PySem.W.Frag} {x c t : Value} {Pz : Heap → Prop} (ty : ∀ (M : Model) (h : Heap), K.In h → Pz h → PySem.W.Looks M h (typeOf x) t) (e : PySem.W.kitOne K t c = some true) : Answers (fun s => K.In s.heap ∧ Pz s.heap) x c true := by
  rintro dep tk prog w A R ⟨hp, g, d, n, os⟩ ⟨⟨kin, pz⟩, q⟩
  have L0 := ty (model prog w) hp kin pz
  unfold PySem.W.kitOne at e
  unfold Builtin.«isinstance.nested»; refine wpAny_bind (L0.at ?_)
  by_cases z : (t == c) = true
  · rw [if_pos z]
    first
      | exact wpAny_pure (q n)
      | exact wpAny_bind (wpAny_rule (q n))
      | exact wpAny_bind (wpAny_rule (wpAny_pure (q n)))
      | exact wpAny_pure (wpAny_pure (q n))
      | exact wpAny_bind (wpAny_pure (wpAny_pure (q n)))
  · rw [if_neg z] at e ⊢; obtain ⟨k1, k2, k3⟩ := PySem.W.kit_cls (M := model prog w) kin e
    have k4 : PySem.W.Looks (model prog w) hp (isInstance x c) true := L0.andThen k3
    refine wpAny_bind (k1.at ?_); rw [if_pos (by decide)]; k_delta "plainIsInstance"
    refine wpAny_bind (wpAny_bind (k2.at ?_)); simp only [Bool.not_true, Bool.false_eq_true, if_false]; refine wpAny_bind (k4.at ?_)
    first
      | exact wpAny_pure (wpAny_pure (q n))
      | (simp only [if_true]; first | exact wpAny_pure (wpAny_pure (q n)) | exact wpAny_pure (q n) | exact wpAny_bind (wpAny_pure (wpAny_pure (q n))))
section
variable {X : Cx} {a C : Addr} {oe : Obj} {cls : Value} {d : Option Addr} {pn : List (Addr × Obj)}
/-- isinstance(e, c), e the caught exception: yes -/
def rIsY (K : PySem.W.Frag) (cls : Value) (a : Addr) : List V → Hp → VK → Prop := fun xs H Q => ∃ (c : V) (cv : Value), xs = [.ref a, c] ∧ (∀ u, RelV c u → u = cv) ∧ PySem.W.kitOne K cls cv = some true ∧ Q (.bl true) H
theorem c_isY {K : PySem.W.Frag} (hz : Zc cls d oe) (h : X.K = K := by rfl) : CallR (X.suite a ((a, oe) :: pn)) (.builtin "isinstance") (rIsY K cls a) := by
  subst h
  intro pins s σ H xs us Q I r q0
  obtain ⟨c, cv, rfl, hc, e, q⟩ := q0
  obtain ⟨u0, u1, rfl, ra, rc⟩ : ∃ u0 u1, us = [u0, u1] ∧ RelV (.ref a) u0 ∧ RelV c u1 := by
    cases r with
    | cons r1 r2 =>
      cases r2 with
      | cons r3 r4 => cases r4; exact ⟨_, _, rfl, r1, r3⟩
  obtain rfl : u0 = Value.ref a := ra
  obtain rfl := hc _ rc
  have got := (I.pin (a, oe) (List.mem_append_left _ List.mem_cons_self)).1
  refine call_isinstance (S := fun _ R s => (X.K.In s.heap ∧ s.heap.get? a = some oe) ∧ ∀ tk, R (.ok (.ret (.bool true))) { s with toks := tk })
    (fun prog w A R s hs => isinstance_outer (isi_yes (Pz := fun h => h.get? a = some oe) (fun M h kin z => fun A Q E s k q => wpAny_typeOf_ref (k _ _ z) (by rw [hz.1]; exact q)) e 0 _ prog w A R s hs) (fun z => nomatch z)) ⟨⟨I.kIn, got⟩, fun tk => ⟨.bl true, H, I.tok tk, rfl, q⟩⟩
end
end Fv
/-! set(l) of a list of whole numbers, its members known -/
namespace Fv
open PySem PySem.Spec PyProof.Rows L2 Evl StX
end Fv
namespace Fv
open PySem PySem.Spec PyProof.Rows L2 Evl StX
/-! ### bool(t) of a tuple -/
end Fv
/-! loops over what is not known beforehand; l[:i] -/
namespace Fv
open PySem PySem.Spec PyProof.Rows L2 Evl StX
section
variable {K : PySem.W.Frag} {pt : Option Pt} {σ : L2.St} {F F' F0 H0 H : Hp} {te ta tb : TE} {ts tr : TA} {t u : TT} {R R1 : PD} {RS : List PyData → Prop} {d e z : PyData} {D : Ends} {tz tu : TS} {wi : TI} {l : Addr} {ls : List PyData}
theorem RpAll.take : ∀ {ds : List PyData} {vs : List V} (i : Nat), RpAll K F vs ds → RpAll K F (vs.take i) (ds.take i)
  | [], _, i, h => by cases h; simp; exact .nil
  | d :: ds, _, 0, h => by simp; exact .nil
  | d :: ds, _, i + 1, h => by
    cases h with
    | cons h1 h2 => exact .cons h1 (RpAll.take i h2)
end
end Fv
/-! a caught exception handed to a def; several clauses that name it -/
namespace Fv
open PySem PySem.Spec PyProof.Rows L2 L2H Evl StX
end Fv
namespace Fv
open PySem PySem.Spec PyProof.Rows L2 L2H Evl StX
/-! ### try: body, except c as n: .., except d as n: .. where one of the clauses names what flies -/
def wAsL (K : PySem.W.Frag) (i : Nat) (D : Ends) : List (Value × (Addr → Value → Option Addr → TS)) → WX
  | [] => fun _ _ _ _ => False
  | (c, ts) :: r => fun cls d σ H => ∃ b, PySem.W.exmOne K cls c = some b ∧
      (b = true → ∀ a, H a = none → ts a cls d { nx := fun σ2 H2 => D.nx (σ2.set i none) H2, rt := D.rt, bk := fun σ2 H2 => D.bk (σ2.set i none) H2, ct := fun σ2 H2 => D.ct (σ2.set i none) H2 } (σ.set i (some (.ref a))) H) ∧ (b = false → wAsL K i D r cls d σ H)
inductive AsL (X : Cx) (n : Str) : List ExceptHandler → List (Value × (Addr → Value → Option Addr → TS)) → Prop
  | nil : AsL X n [] []
  | cons {y : Str} {c : Value} {ts : Addr → Value → Option Addr → TS} {s0 : Stmt} {ss : List Stmt} {p1 p2 : Pos} {hds : List ExceptHandler} {l : List (Value × (Addr → Value → Option Addr → TS))} (nm : Names X y c)
      (su : ∀ (a : Addr) (oe : Obj) (cls : Value) (d : Option Addr) (pn : List (Addr × Obj)), Zc cls d oe → (∃ vs, oe.data = .fields vs) → PSs (X.suite a ((a, oe) :: pn)) (s0 :: ss) (ts a cls d)) (r : AsL X n hds l) : AsL X n (.ExceptHandler (some (.Name y p1)) (some n) (s0 :: ss) p2 :: hds) ((c, ts) :: l)
section
variable {X : Cx} {n : Str} {i : Nat} {body : List Stmt} {h0 : ExceptHandler} {hds : List ExceptHandler} {l : List (Value × (Addr → Value → Option Addr → TS))} {pos : Pos} {tb : WX → TS}
theorem ps_try_asL (stk : X.stack = X.env :: X.outer) (fr : X.env.frame = some X.env.locals) (nd : X.N.Nodup) (ni : X.N[i]? = some n) (nl : X.env.kindOf n = some .local)
    (hb : ∀ (W : WX) (pn : List (Addr × Obj)) (xe : Value → Shared → Prop), Takes (X.tr pn xe) W → PassesOwn (model X.prog X.w) X.A X.env xe → PSs (X.tr pn xe) body (tb W)) (hh : AsL X n (h0 :: hds) l) :
    PS X (.Try body (h0 :: hds) [] [] pos) (fun D σ H => tb (wAsL X.K i D l) D σ H) := by
  constructor
  intro pins s σ H D I q0
  have ok := I.ok
  have frs0 : X.A.frames = some (X.env :: X.outer) := by rw [ok.frames, stk]
  have loc0 : Loc X.env.scope n := .inl nl
  apply wpAny_Try_except
  have fall : Takes (X.tr (X.pn ++ pins) (fun e t1 => wpAny (model X.prog X.w) X.A (noteFrame e X.env) (fun _ t2 => wpAny (model X.prog X.w) X.A (setFlight e none) (fun _ t3 => wpAny (model X.prog X.w) X.A (handleBy e X.env (h0 :: hds)) (SP X pins D) X.xe t3) X.xe t2) X.xe t1)) (wAsL X.K i D l) := by
    intro u s2 fly
    obtain ⟨a, B, sI, ps2, σ2, H2, cls, d, rfl, J0, keepB, up0, sky, free, os2, bare2, wish⟩ := fly
    have J : Inv X pins σ2 H2 sI := J0.ofTry ok
    rw [show (X.tr (X.pn ++ pins) _).stack = X.stack from rfl, stk] at sky
    show wpAny (model X.prog X.w) X.A (noteFrame (.ref a) X.env) _ _ _
    refine Sky.land Zc.steady frs0 fr sky fun g fg ug => ?_
    have Jg : Inv X pins σ2 H2 { s2 with heap := g } := J.landed keepB fg.1 (up0.trans ug) os2 bare2
    obtain ⟨og, vg, eg, zg, dg⟩ := fg.there
    have off : a ∉ frs (X.env :: X.outer) := fun m => by
      obtain ⟨_, o3, e3, nf⟩ := fg.2.2.1.mem m
      rw [eg] at e3; cases e3
      exact nf _ dg
    have offL : a ≠ X.env.locals := fun z => off (List.mem_filterMap.mpr ⟨X.env, List.mem_cons_self, by rw [fr, z]⟩)
    have offF : a ∉ X.fs := fun m => by
      obtain ⟨v, hv, z⟩ := List.mem_filterMap.mp m
      exact off (List.mem_filterMap.mpr ⟨v, List.mem_cons_of_mem _ hv, z⟩)
    have Sg := Jg.suite eg dg free offL offF
    have clauses : ∀ {hs2 : List ExceptHandler} {l2 : List (Value × (Addr → Value → Option Addr → TS))}, AsL X n hs2 l2 → wAsL X.K i D l2 cls d σ2 H2 → wpAny (model X.prog X.w) X.A (handleBy (.ref a) X.env hs2) (SP X pins D) X.xe { s2 with heap := g } := by
      intro hs2 l2 hk
      induction hk with
      | nil => exact fun z => z.elim
      | @cons y c ts s0 ss p1 p2 hds3 l3 nm su r ih =>
        rintro ⟨b, eb, yes, no⟩
        refine wpAny_handleBy_cons (codeAny_handlers_test ?_) (by intro z; cases z)
        have kind : PySem.W.Looks (model X.prog X.w) g (typeOf (.ref a)) cls := fun _ _ _ _ k z => wpAny_typeOf_ref (k _ _ eg) (by rw [zg.1]; exact z)
        have named : ∀ {Q2 : Value → Shared → Prop} {E2 : Value → Shared → Prop}, Q2 c { s2 with heap := g } → wpAny (model X.prog X.w) (X.A.mark (some (.ref a))) (eval (.Name y p1) X.env) Q2 E2 { s2 with heap := g } := fun {_ _} z => by
          obtain ⟨n1, n2, n3 | ⟨n3, n4, n5⟩⟩ := nm
          · exact ld_glob (X := X.suite a ((a, og) :: (X.pn ++ pins))) Sg n1 n3 z n2
          · exact ld_blt (X := X.suite a ((a, og) :: (X.pn ++ pins))) Sg n1 n3 n4 z n5 n2
        refine named ((PySem.W.exm_one (M := model X.prog X.w) Jg.kIn kind eb).here ?_)
        cases b with
        | false => exact ih (no rfl)
        | true =>
          refine codeAny_handlers_suite_as (HandSPX.lands_againZ fg fun g2 fg2 ug2 => ?_)
          have J2 : Inv X pins σ2 H2 { s2 with heap := g2 } := J.landed keepB fg2.1 ((up0.trans ug).trans ug2) os2 bare2
          obtain ⟨o2, v2, e2, z2, d2⟩ := fg2.there
          refine store_ok (X := X.suite a ((a, o2) :: (X.pn ++ pins))) (v := .ref a) (J2.suite e2 d2 free offL offF) nd ni loc0 rfl (fun s3 S3 => ?_) (.inr nl)
          refine wpAny_mono ((su a o2 cls d (X.pn ++ pins) z2 ⟨_, d2⟩).run [] s3 _ H2 _ S3 (yes rfl a free)) (fun fl s4 z => ?_) fun _ _ z => z.elim
          have gone : ∀ {σ4 : L2.St} {H4 : Hp} {Q4 : Shared → Prop}, Inv (X.suite a ((a, o2) :: (X.pn ++ pins))) [] σ4 H4 s4 → (∀ s5, Inv X pins (σ4.set i none) H4 s5 → Q4 s5) →
              wpAny (model X.prog X.w) X.A (do bindName X.env n .none; unbindBehindTheSuite X.env n p2) (fun _ s5 => Q4 s5) X.xe s4 := fun {_ _ _} S4 k => gone_ok (S4.unsuite ok) nd ni nl k
          cases fl with
          | next => obtain ⟨σ4, H4, S4, k⟩ := z; exact gone S4 fun _ J5 => ⟨_, _, J5, k⟩
          | brk => obtain ⟨σ4, H4, S4, k⟩ := z; exact gone S4 fun _ J5 => ⟨_, _, J5, k⟩
          | cont => obtain ⟨σ4, H4, S4, k⟩ := z; exact gone S4 fun _ J5 => ⟨_, _, J5, k⟩
          | ret u => obtain ⟨v4, σ4, H4, S4, r4, k⟩ := z; exact gone S4 fun _ J5 => ⟨_, _, _, J5, r4, k⟩
    exact clauses hh wish
  refine wpAny_mono ((hb _ _ _ fall PassesOwn.looking).run [] s σ H D (I.toTry _) q0) (fun fl s2 z => ?_) fun _ _ z => z
  cases fl with
  | next => obtain ⟨σ2, H2, J2, k⟩ := z; exact wpAny_execs_nil ⟨σ2, H2, J2.ofTry ok, k⟩
  | brk => obtain ⟨σ2, H2, J2, k⟩ := z; exact ⟨σ2, H2, J2.ofTry ok, k⟩
  | cont => obtain ⟨σ2, H2, J2, k⟩ := z; exact ⟨σ2, H2, J2.ofTry ok, k⟩
  | ret u => obtain ⟨v2, σ2, H2, J2, r2, k⟩ := z; exact ⟨v2, σ2, H2, J2.ofTry ok, r2, k⟩
end
end Fv
/-! a list of one's own, written in place -/
namespace Fv
open PySem PySem.Spec PyProof.Rows L2 Evl StX
section
variable {K : PySem.W.Frag} {pt : Option Pt} {σ : L2.St} {F F' F0 H0 H : Hp} {te ti ta tb : TE} {ts tr : TA} {t u : TT} {R R1 : PD} {d e z : PyData} {D : Ends} {tz tu tw : TS} {l : Addr} {ls : List PyData}
theorem RpAll.set : ∀ {ds : List PyData} {vs : List V} (j : Nat) {v : V} {d : PyData}, RpAll K F vs ds → Rp K F v d → RpAll K F (vs.set j v) (ds.set j d)
  | [], _, j, v, d, h, _ => by cases h; cases j <;> exact .nil
  | _ :: _, _, 0, v, d, h, hv => by
    cases h with
    | cons h1 h2 => exact .cons hv h2
  | _ :: _, _, j + 1, v, d, h, hv => by
    cases h with
    | cons h1 h2 => exact .cons h1 (RpAll.set j h2 hv)
theorem Gst.set (g0 : Good pt F0 H0) (h0 : H0 l = none) (g : Gst K pt F0 H0 l F H ls) {v : V} (j : Nat) (hv : Rp K F v d) : ∃ acc, H l = some (.lst acc) ∧ acc.length = ls.length ∧ Gst K pt F0 H0 l F (upd H l (.lst (acc.set j v))) (ls.set j d) := by
  obtain ⟨acc, e, r⟩ := g.ex
  exact ⟨acc, e, r.length, g.step.put g0 h0 g.off, g.off, _, upd_same, RpAll.set j r hv⟩
end
end Fv
/-! an empty dict among data; lists of things of a kind -/
namespace Fv
open PySem PySem.Spec PyProof.Rows L2 Evl StX
end Fv
/-! tests beside a list of one's own; parts -/
namespace Fv
open PySem PySem.Spec PyProof.Rows L2 Evl StX
end Fv
/-! a list of one's own out of a comprehension; promises that may let an error out -/
namespace Fv
open PySem PySem.Spec PyProof.Rows L2 Evl StX
/-- a promise that lets nothing out is one that may -/
theorem FnOk.up {P : Program} {w : World} {K : PySem.W.Frag} {mg : Str → Option Value} {base : Heap} {CX : CXT} {j k : Nat} {f : Addr} {fd : FuncData} {ps : List Str} {sp : Sp} (h : FnOk P w K mg base CX0 j f fd ps sp) (hk : j ≤ k) : FnOk P w K mg base CX k f fd ps sp :=
  ⟨h.len, fun A out s H as us vs Q E r e0 b rv hs => codeAny_mono (h.run A out s H as us vs Q E (r.mono hk) e0 b rv hs) fun r s' hq => match r, hq with
    | .error _, hq => hq.elim
    | .ok (.ret _), hq => hq⟩
end Fv
/-! expressions that read a list of one's own, told where it stands -/
namespace Fv
open PySem PySem.Spec PyProof.Rows L2 Evl StX
end Fv
/-! an error of one's own class whose maker stores nothing -/
namespace Fv
open PySem PySem.Spec PyProof.Rows L2 Evl StX
end Fv
/-! a list of one's own, read for a while as if it were fixed -/
namespace Fv
open PySem PySem.Spec PyProof.Rows L2 Evl StX
end Fv
namespace Fv
open PySem PySem.Spec PyProof.Rows L2 Evl StX
section
variable {K : PySem.W.Frag} {pt : Option Pt} {σ : L2.St} {F F' F0 H0 H : Hp} {te : TE} {d : PyData} {D : Ends} {l : Addr} {ls : List PyData} {wi : TI} {RS RS2 : List PyData → Prop}
theorem WiG.imp (h : WiG K pt wi σ F RS) (hi : ∀ ds, RS ds → RS2 ds) : WiG K pt wi σ F RS2 := fun H1 e g RR q => h H1 e g RR fun ds J F2 H2 hr s Y => q ds J F2 H2 (hi ds hr) s Y
end
end Fv
/-! the same, where its context is told to be None -/
namespace Fv
open PySem PySem.Spec PyProof.Rows L2 Evl StX
end Fv
/-! instances made, static methods called, where an error may fly: what is wanted of it knows the slots -/
namespace Fv
open PySem PySem.Spec PyProof.Rows L2 Evl StX
section
variable {X : Cx} {CX : CXT} {k : Nat} {f C : Addr} {fd : FuncData} {ps : List Str} {sp : Sp} {E : L2.St → XK} {x : Str} {p pos : Pos} {e : Expr} {es : List Expr} {t : TA}
def tMethE (C : Addr) (m : Str) (sp : Sp) (E : L2.St → XK) (ta : TE) (t : TA) : TE := fun σ H Q => ta σ H fun x H1 => ∃ a dx fs, x = .ref a ∧ H1 a = some (.ins C dx fs) ∧ fs.lookup m = none ∧ t σ H1 fun vs H2 => sp (x :: vs) H2 Q (E σ)
theorem pe_methE {m : Str} {o : Expr} {ta : TE} {apos : Pos} {pl : Sem Bool} (he : PE X o ta) (c : Cls X.K C) (hm : Meth X.K C m f) (F : FnOk X.prog X.w X.K X.mg X.base CX k f fd ps sp) (hr : Room k X.A) (hb : Binds X.K fd ps []) (hx : ∀ σ, PassesAt CX X σ (E σ)) (ha : PA X (e :: es) t)
    (h2 : starEach (e :: es) X.env = (false, eval e X.env) :: starEach es X.env := by rfl) (h3 : (backTo pos (starEach es X.env)).any (·.1) = false := by rfl)
    (ht : eval (.Call (.Attribute o m apos) (e :: es) [] pos) X.env = (do
      let ov ← eval o X.env
      standAt apos.atName
      let (f, first) ← holding [ov] (getMethod ov m pl)
      callWith pos f first (backTo pos (starEach (e :: es) X.env)) (backToKw pos (keywordEach [] X.env))) := by rfl) :
    PE X (.Call (.Attribute o m apos) (e :: es) [] pos) (tMethE C m sp E ta t) := by
  constructor
  intro pins s σ H Q I h
  refine PySem.W.methodCall_KW (pl := pl) (thn (he.run pins s σ H _ I h) fun u s1 z => ?_) ht
  obtain ⟨x, H1, I1, rx, a, dx, fs, rfl, ea, l, q⟩ := z
  obtain rfl : u = Value.ref a := rx
  exact getmeth_ok I1 ea c hm l (PySem.W.callWith_K (first := [.ref a]) (h₀ := X.base) I.ok.mod.kin hm.kp (thn (ha.run pos pins s1 σ H1 _ I1 q) fun us s2 ⟨vs, H2, I2, r, q2⟩ => ⟨I2.kIn, run_fnS (us := .ref a :: us) (vs := .ref a :: vs) F hr hb (hx σ) I2 (.cons rfl r) q2⟩) h2 h3)
end
end Fv
/-! more of what reads one's own list where it stands; a list that is known by a property -/
namespace Fv
open PySem PySem.Spec PyProof.Rows L2 Evl StX
end Fv
/-! sets and sorts of rows; one's own instance read while it is made -/
namespace Fv
open PySem PySem.Spec PyProof.Rows L2 Evl StX
/-- ascending, each once -/
abbrev Asc (rs : List (List Int)) : Prop := rs.Pairwise fun a b => TS.code 4 a < TS.code 4 b
theorem Asc.nd {rs : List (List Int)} (h : Asc rs) : rs.Nodup := List.Pairwise.imp (fun h e => by rw [e] at h; omega) h
end Fv
/-! `in` and `not in` by a class's own __contains__ -/
namespace L2
open PySem PySem.Spec PyProof.Rows Evl
end L2
/-! sorted of a list of data -/
namespace Fv
open PySem PySem.Spec PyProof.Rows L2 Evl StX
end Fv
/-! two lists of one's own, one of them from a def that makes it anew -/
namespace Fv
open PySem PySem.Spec PyProof.Rows L2 Evl StX
end Fv
/-! sorted(xs, key=f), f a def of the text -/
namespace PySem.W
open PySem PySem.Calls PyProof.Rows
end PySem.W
namespace Fv
open PySem PySem.Spec PyProof.Rows L2 Evl StX
end Fv
/-! an error of one's own whose context is told; comprehensions and calls while an error is handled -/
namespace Fv
open PySem PySem.Spec PyProof.Rows L2 L2H Evl StX
end Fv
/-! d.setdefault(row, e) where rows are the keys; two values at once into two names -/
namespace Fv
open PySem PySem.Spec PyProof.Rows L2 Evl StX
end Fv
/-! sorted(d), d a dict of rows -/
namespace PySem.W
open PySem PySem.Calls PyProof.Rows
end PySem.W
namespace Fv
open PySem PySem.Spec PyProof.Rows L2 Evl StX
end Fv
/-! dicts whose keys are data: numbers, texts, None and tuples of such. The dict's one object is known (rawO); what it holds is told of that object (DNo); where the keys' tuples stand is told too -/
namespace Fv
open PySem PySem.Spec PyProof.Rows L2 Evl StX
abbrev NK := NestedKey
mutual
/-- data as a key -/
def nk : PyData → NK
  | .int i => .num i
  | .str x => .text x
  | .tuple ds => .tup (nkL ds)
  | _ => .none
def nkL : List PyData → List NK
  | [] => []
  | d :: ds => nk d :: nkL ds
end
mutual
/-- what may be a key -/
def kb : PyData → Bool
  | .none => true
  | .int _ => true
  | .str _ => true
  | .tuple ds => kbL ds
  | _ => false
def kbL : List PyData → Bool
  | [] => true
  | d :: ds => kb d && kbL ds
end
mutual
theorem nk_inj : ∀ {d e : PyData}, kb d = true → kb e = true → nk d = nk e → d = e
  | .none, .none, _, _, _ => rfl
  | .int a, .int b, _, _, h => by simp only [nk, NestedKey.num.injEq] at h; rw [h]
  | .str a, .str b, _, _, h => by simp only [nk, NestedKey.text.injEq] at h; rw [h]
  | .tuple a, .tuple b, ha, hb, h => by
    simp only [nk, NestedKey.tup.injEq] at h
    simp only [kb] at ha hb
    rw [nkL_inj ha hb h]
  | .none, .int _, _, _, h => by simp [nk] at h
  | .none, .str _, _, _, h => by simp [nk] at h
  | .none, .tuple _, _, _, h => by simp [nk] at h
  | .int _, .none, _, _, h => by simp [nk] at h
  | .int _, .str _, _, _, h => by simp [nk] at h
  | .int _, .tuple _, _, _, h => by simp [nk] at h
  | .str _, .none, _, _, h => by simp [nk] at h
  | .str _, .int _, _, _, h => by simp [nk] at h
  | .str _, .tuple _, _, _, h => by simp [nk] at h
  | .tuple _, .none, _, _, h => by simp [nk] at h
  | .tuple _, .int _, _, _, h => by simp [nk] at h
  | .tuple _, .str _, _, _, h => by simp [nk] at h
  | .bool _, _, h, _, _ => by simp [kb] at h
  | .list _, _, h, _, _ => by simp [kb] at h
  | .dict _, _, h, _, _ => by simp [kb] at h
  | _, .bool _, _, h, _ => by simp [kb] at h
  | _, .list _, _, h, _ => by simp [kb] at h
  | _, .dict _, _, h, _ => by simp [kb] at h
theorem nkL_inj : ∀ {a b : List PyData}, kbL a = true → kbL b = true → nkL a = nkL b → a = b
  | [], [], _, _, _ => rfl
  | [], _ :: _, _, _, h => by simp [nkL] at h
  | _ :: _, [], _, _, h => by simp [nkL] at h
  | d :: a, e :: b, ha, hb, h => by
    simp only [nkL, List.cons.injEq] at h
    simp only [kbL, Bool.and_eq_true] at ha hb
    rw [nk_inj ha.1 hb.1 h.1, nkL_inj ha.2 hb.2 h.2]
end
section
variable {X : Cx} {pins : List (Addr × Obj)} {σ : L2.St} {H : Hp} {s : Shared} {K : PySem.W.Frag}
mutual
/-- what represents such data is such a key -/
theorem rp_nested (I : Inv X pins σ H s) : ∀ (d : PyData) (v : V) (u : Value), kb d = true → Rp K H v d → RelV v u → NestedIs s.heap (nk d) u
  | .none, v, u, _, h, r => by cases h; cases r; exact .none
  | .int i, v, u, _, h, r => by cases h; obtain ⟨t, rfl⟩ := r; exact .int i t
  | .str x, v, u, _, h, r => by cases h; obtain ⟨t, rfl⟩ := r; exact .text x t
  | .tuple ds, v, u, hk, h, r => by
    obtain ⟨a, xs, rfl, ht, ha⟩ := rp_tup h
    cases (show u = Value.ref a from r)
    obtain ⟨_, its, rv, o, h1, h2, n, h3⟩ := (show ObjOk X.prog X.w H s.heap a (.tup xs) from I.hok a _ ht)
    simp only [kb] at hk
    exact .tup h1 h2 h3 (by simpa using rpL_nested I ds xs its hk ha rv)
  | .bool _, _, _, hk, _, _ => by simp [kb] at hk
  | .list _, _, _, hk, _, _ => by simp [kb] at hk
  | .dict _, _, _, hk, _, _ => by simp [kb] at hk
theorem rpL_nested (I : Inv X pins σ H s) : ∀ (ds : List PyData) (vs : List V) (us : List Value), kbL ds = true → RpAll K H vs ds → Vals vs us → NestedAll s.heap (nkL ds) us
  | [], vs, us, _, h, r => by cases h; cases r; exact .nil
  | d :: ds, vs, us, hk, h, r => by
    simp only [kbL, Bool.and_eq_true] at hk
    cases h with
    | cons h1 h2 =>
      cases r with
      | cons r1 r2 => exact .cons (rp_nested I d _ _ hk.1 h1 r1) (rpL_nested I ds _ _ hk.2 h2 r2)
end
end
/-- the one object at a -/
def rawO (a : Addr) (o : Obj) : HO := .ext fun h => h.get? a = some o
/-- an entry: the key, its tuple, the value -/
abbrev NEnt := NK × Addr × V
abbrev NPair : List NEnt → List (NK × Addr × Value) → Prop := Paired fun p q => p.1 = q.1 ∧ p.2.1 = q.2.1 ∧ RelV p.2.2 q.2.2
/-- the object o is a dict with the entries xs -/
def DNo (P : Program) (w : World) (o : Obj) (xs : List NEnt) : Prop := o.ExactDict ∧ (xs.map (·.1)).Nodup ∧ xs.length ≤ sizeLine ∧ ∃ es ep ys, o.data = .dict es ep ∧ es.toList = ys.map (entryOfKey (nestedKind P w)) ∧ NPair xs ys
def atN (xs : List NEnt) (k : NK) : Option (Addr × V) := (xs.find? fun x => decide (x.1 = k)).map (·.2)
def putAtN (k : NK) (v : V) (x : NEnt) : NEnt := if x.1 = k then (x.1, x.2.1, v) else x
def putN (xs : List NEnt) (k : NK) (a : Addr) (v : V) : List NEnt := if (atN xs k).isSome then xs.map (putAtN k v) else xs ++ [(k, a, v)]
theorem NPair.names {xs : List NEnt} {ys : List (NK × Addr × Value)} (h : NPair xs ys) : ys.map (·.1) = xs.map (·.1) := by
  induction h with
  | nil => rfl
  | cons a _ ih => rw [List.map_cons, List.map_cons, ih, a.1]
theorem NPair.at_ {xs : List NEnt} {ys : List (NK × Addr × Value)} (h : NPair xs ys) (k : NK) : match atN xs k, atKey ys k with
    | some p, some q => p.1 = q.1 ∧ RelV p.2 q.2
    | none, none => True
    | _, _ => False := by
  unfold atN atKey
  induction h with
  | nil => trivial
  | @cons p q ps qs a _ ih =>
    by_cases z : p.1 = k
    · rw [List.find?_cons_of_pos (by simpa using z), List.find?_cons_of_pos (by rw [← a.1]; simpa using z)]
      exact ⟨a.2.1, a.2.2⟩
    · rw [List.find?_cons_of_neg (by simpa using z), List.find?_cons_of_neg (by rw [← a.1]; simpa using z)]
      exact ih
theorem NPair.some_ {xs : List NEnt} {ys : List (NK × Addr × Value)} (h : NPair xs ys) {k : NK} {p : Addr × V} (e : atN xs k = some p) : ∃ q, atKey ys k = some q ∧ p.1 = q.1 ∧ RelV p.2 q.2 := by
  have := h.at_ k
  rw [e] at this
  cases w : atKey ys k with
  | none => rw [w] at this; exact this.elim
  | some q => rw [w] at this; exact ⟨q, rfl, this⟩
theorem NPair.none_ {xs : List NEnt} {ys : List (NK × Addr × Value)} (h : NPair xs ys) {k : NK} (e : atN xs k = none) : atKey ys k = none := by
  have := h.at_ k
  rw [e] at this
  cases w : atKey ys k with
  | none => rfl
  | some q => rw [w] at this; exact this.elim
theorem NPair.put {xs : List NEnt} {ys : List (NK × Addr × Value)} (h : NPair xs ys) (k : NK) (a : Addr) {v : V} {u : Value} (r : RelV v u) : NPair (putN xs k a v) (storedH ys k a u) := by
  unfold putN storedH
  cases w : atN xs k with
  | some p =>
    obtain ⟨q, hq, _⟩ := h.some_ w
    rw [hq]
    simp only [Option.isSome_some, if_true]
    clear w hq
    induction h with
    | nil => exact .nil
    | @cons p q ps qs b _ ih =>
      refine .cons ?_ ih
      unfold putAtN putAt
      by_cases z : p.1 = k
      · rw [if_pos z, if_pos (by rw [← b.1]; exact z)]; exact ⟨b.1, b.2.1, r⟩
      · rw [if_neg z, if_neg (by rw [← b.1]; exact z)]; exact b
  | none =>
    rw [h.none_ w]
    simp only [Option.isSome_none, Bool.false_eq_true, if_false]
    exact Paired.snoc h ⟨rfl, rfl, r⟩
theorem NPair.length {xs : List NEnt} {ys : List (NK × Addr × Value)} (h : NPair xs ys) : xs.length = ys.length := Paired.length h
/-- the tuple of a key -/
def KeyOk (K : PySem.W.Frag) (H : Hp) (k : NK) (b : Addr) : Prop := ∃ d, Rp K H (.ref b) d ∧ kb d = true ∧ nk d = k ∧ k.depth ≤ 8
theorem KeyOk.mono {K : PySem.W.Frag} {H H' : Hp} {k : NK} {b : Addr} (e : Ex H H') (h : KeyOk K H k b) : KeyOk K H' k b := by
  obtain ⟨d, h1, h2⟩ := h
  exact ⟨d, Rp.mono e _ _ h1, h2⟩
/-- at a stands a dict with the entries xs -/
structure ND (P : Program) (w : World) (K : PySem.W.Frag) (H : Hp) (a : Addr) (xs : List NEnt) : Prop where
  low : (a == sysModules) = false
  ex : ∃ o, H a = some (rawO a o) ∧ DNo P w o xs
  keys : ∀ x ∈ xs, KeyOk K H x.1 x.2.1
theorem ND.mono {P : Program} {w : World} {K : PySem.W.Frag} {H H' : Hp} {a : Addr} {xs : List NEnt} (e : Ex H H') (h : ND P w K H a xs) : ND P w K H' a xs := by
  obtain ⟨o, h1, h2⟩ := h.ex
  exact ⟨h.low, ⟨o, e _ _ h1, h2⟩, fun x hx => (h.keys x hx).mono e⟩
section
variable {X : Cx} {pins : List (Addr × Obj)} {σ : L2.St} {H : Hp} {s : Shared} {K : PySem.W.Frag} {P : Program} {w : World}
theorem KeyOk.is (I : Inv X pins σ H s) {k : NK} {b : Addr} (h : KeyOk K H k b) : (nestedKind P w).is s.heap k b := by
  obtain ⟨d, h1, h2, h3, h4⟩ := h
  exact ⟨h3 ▸ rp_nested I d _ _ h2 h1 rfl, h4⟩
theorem ND.dict (I : Inv X pins σ H s) {a : Addr} {xs : List NEnt} (h : ND X.prog X.w K H a xs) : ∃ ys, NPair xs ys ∧ s.heap.DictOfH (nestedKind X.prog X.w) a ys ∧ ys.length ≤ sizeLine := by
  obtain ⟨o, h1, h2, h3, h4, es, ep, ys, h5, h6, h7⟩ := h.ex
  have ho : s.heap.get? a = some o := (show ObjOk X.prog X.w H s.heap a (rawO a o) from I.hok a _ h1).1
  refine ⟨ys, h7, ⟨o, es, ep, ho, h2, h5, h6, ?_, by rw [h7.names]; exact h3⟩, by rw [← h7.length]; exact h4⟩
  have all : ∀ {l : List NEnt} {m : List (NK × Addr × Value)}, NPair l m → (∀ x ∈ l, KeyOk K H x.1 x.2.1) → ∀ y ∈ m, (nestedKind X.prog X.w).is s.heap y.1 y.2.1 := by
    intro l m q
    induction q with
    | nil => intro _ y hy; exact nomatch hy
    | @cons p q ps qs a _ ih =>
      intro hk y hy
      rcases List.mem_cons.mp hy with e | hy
      · rw [e, ← a.1, ← a.2.1]; exact (hk p (by simp)).is I
      · exact ih (fun x hx => hk x (List.mem_cons_of_mem _ hx)) y hy
  exact all h7 h.keys
end
/-! ### the rules -/
section
variable {X : Cx} {P : Program} {w : World} {K : PySem.W.Frag}
/-- the call of a method of such a dict -/
def tyN (x : V) (H : Hp) : Prop := ∃ p o, x = .ref p ∧ H p = some (rawO p o) ∧ o.ExactDict
theorem ND.ty {H : Hp} {a : Addr} {xs : List NEnt} (h : ND P w K H a xs) : tyN (.ref a) H := by
  obtain ⟨o, h1, h2, _⟩ := h.ex
  exact ⟨a, o, rfl, h1, h2⟩
end
end Fv
/-! dicts whose keys are data, as part of what stays, or one's own; dicts of rows with any values, by comprehension -/
namespace Fv
open PySem PySem.Spec PyProof.Rows L2 L2H Evl StX
/-- what one has made is taken among what stays -/
theorem Step.freeze {pt : Option Pt} {F0 H0 F H : Hp} {a : Addr} {o : HO} (s : Step pt F0 H0 F H) (g : Good pt F0 H0) (h0 : H0 a = none) (f : F a = none) (h : H a = some o) : Step pt F0 H0 (upd F a o) H := by
  refine ⟨s.sub.trans (Ex.new f), fun b u hb => ?_, s.keep, fun q hq => ⟨?_, (s.good q hq).2⟩, fun b h1 h2 => ?_⟩
  · by_cases z : b = a
    · rw [z, upd_same] at hb; rw [z, h]; exact hb
    · rw [upd_ne z] at hb; exact s.inn b u hb
  · rw [upd_ne (off_pot g h0 q hq).1.symm]; exact (s.good q hq).1
  · rw [upd_ne (loose_ne h2 h0)]; exact s.new b h1 h2
section
variable {K : PySem.W.Frag} {P : Program} {w : World} {pt : Option Pt} {σ : L2.St} {F F' F0 H0 H F2 H2 : Hp} {te ta tb td ty tv : TE} {ts : TA} {t : TT} {D : Ends} {tz : TS} {l a : Addr} {xs : List NEnt} {wi : TI}
/-! a dict that stays -/
/-! a dict of one's own -/
structure Nst (P : Program) (w : World) (K : PySem.W.Frag) (pt : Option Pt) (F0 H0 : Hp) (D : Addr) (F H : Hp) (xs : List NEnt) : Prop where
  step : Step pt F0 H0 F H
  off : F D = none
  low : (D == sysModules) = false
  ex : ∃ o, H D = some (rawO D o) ∧ DNo P w o xs
  keys : ∀ x ∈ xs, KeyOk K F x.1 x.2.1
theorem Nst.nd (g : Nst P w K pt F0 H0 l F H xs) : ND P w K H l xs := ⟨g.low, g.ex, fun x hx => (g.keys x hx).mono g.step.inn⟩
theorem Nst.run (g0 : Good pt F0 H0) (h0 : H0 l = none) (g : Nst P w K pt F0 H0 l F H xs) (s : Step pt F H F2 H2) : Nst P w K pt F0 H0 l F2 H2 xs := by
  obtain ⟨o, h1, h2⟩ := g.ex
  exact ⟨g.step.trans s, s.new l g.off ⟨_, h1, fun ys z => nomatch z⟩, g.low, ⟨o, s.keep l _ (fun q hq => (off_pot g0 h0 q hq).1) h1, h2⟩, fun x hx => (g.keys x hx).mono s.sub⟩
theorem Nst.done (g0 : Good pt F0 H0) (h0 : H0 l = none) (g : Nst P w K pt F0 H0 l F H xs) : ∃ F2, Step pt F0 H0 F2 H ∧ Ex F F2 ∧ ND P w K F2 l xs := by
  obtain ⟨o, h1, h2⟩ := g.ex
  have e1 : Ex F (upd F l (rawO l o)) := Ex.new g.off
  exact ⟨_, g.step.freeze g0 h0 g.off h1, e1, g.low, ⟨o, upd_same, h2⟩, fun x hx => (g.keys x hx).mono e1⟩
/-! dicts of rows with any values -/
abbrev DV (K : PySem.W.Frag) (F : Hp) : List (List Key × V) → List (List Int × PyData) → Prop := Paired fun kv pd => kv.1 = key pd.1 ∧ Rp K F kv.2 pd.2
theorem DV.mono {kvs : List (List Key × V)} {ps : List (List Int × PyData)} (e : Ex F F') (h : DV K F kvs ps) : DV K F' kvs ps := Paired.mapP h fun _ _ z => ⟨z.1, Rp.mono e _ _ z.2⟩
theorem DV.keys {kvs : List (List Key × V)} {ps : List (List Int × PyData)} (h : DV K F kvs ps) : kvs.map (·.1) = (ps.map (·.1)).map key := by
  induction h with
  | nil => rfl
  | cons a _ ih => rw [List.map_cons, List.map_cons, List.map_cons, ih, a.1]
theorem DV.none_ {kvs : List (List Key × V)} {ps : List (List Int × PyData)} (h : DV K F kvs ps) {r : List Int} (hr : r ∉ ps.map (·.1)) : valV kvs (key r) = none := by
  cases w : valV kvs (key r) with
  | none => rfl
  | some v =>
    have h1 := valV_any (key r) kvs
    have e1 : (kvs.any fun kv => decide (kv.1 = key r)) = ((kvs.map (·.1)).any fun k => decide (k = key r)) := by rw [List.any_map]; rfl
    rw [w, e1, h.keys, List.any_map, Option.isSome_some, List.any_eq_true] at h1
    obtain ⟨x, hx, e⟩ := h1
    have : key x = key r := by simpa using e
    rw [key_inj this] at hx
    exact absurd hx hr
theorem DV.get {kvs : List (List Key × V)} {ps : List (List Int × PyData)} (h : DV K F kvs ps) : (ps.map (·.1)).Nodup → ∀ {r : List Int} {d : PyData}, (r, d) ∈ ps → ∃ v, valV kvs (key r) = some v ∧ Rp K F v d := by
  induction h with
  | nil => intro _ r d hm; cases hm
  | @cons kv pd kvs ps a _ ih =>
    intro nd r d hm
    rw [List.map_cons, List.nodup_cons] at nd
    rcases List.mem_cons.mp hm with e | m
    · subst e
      exact ⟨kv.2, valV_pos a.1, a.2⟩
    · obtain ⟨v, h1, h2⟩ := ih nd.2 m
      refine ⟨v, ?_, h2⟩
      have ne : ¬ kv.1 = key r := by
        rw [a.1]
        intro z
        exact nd.1 (by rw [key_inj z]; exact List.mem_map.mpr ⟨_, m, rfl⟩)
      rw [valV_neg ne]; exact h1
end
end Fv
/-! dicts whose keys are data: what is popped out of them -/
namespace Fv
open PySem PySem.Spec PyProof.Rows L2 L2H Evl StX
section
variable {X : Cx} {P : Program} {w : World} {K : PySem.W.Frag} {pt : Option Pt} {σ : L2.St} {F H F0 H0 F2 H2 : Hp} {l : Addr} {xs : List NEnt} {te tm ty : TE} {D : Ends} {tz : TS}
def delN (xs : List NEnt) (k : NK) : List NEnt := xs.filter fun x => decide (x.1 ≠ k)
theorem NPair.del {xs : List NEnt} {ys : List (NK × Addr × Value)} (h : NPair xs ys) (k : NK) : NPair (delN xs k) (withoutH ys k) := by
  induction h with
  | nil => exact .nil
  | cons h1 h2 ih =>
    unfold delN withoutH
    rw [List.filter_cons, List.filter_cons, h1.1]
    split
    · exact .cons h1 ih
    · exact ih
end
end Fv
/-! walking a list or a tuple, not known which; len(set(row)) -/
namespace Fv
open PySem PySem.Spec PyProof.Rows L2 L2H Evl StX
section
variable {K : PySem.W.Frag} {w : World} {pt : Option Pt} {σ : L2.St} {F F' : Hp} {te : TE}
/-- a slice of a list or a tuple, not known which -/
def like : PyData → List PyData → PyData
  | .list _, es => .list es
  | _, es => .tuple es
def rSlU (K : PySem.W.Frag) : V → Option Int → Option Int → Hp → VK → Prop := fun x lo hi H Q => rSlL K x lo hi H Q ∨ rSlA K x lo hi H Q
theorem s_any {X : Cx} (h : X.K = K := by rfl) : SlR X (rSlU K) := SlR.or (s_list h) (s_tup h)
theorem cut_upto {xs : List V} {lo : Option Int} {i : Nat} (hlo : HT.sIx xs.length 0 lo = 0) : cutV xs lo (some (i : Int)) = xs.take i := by
  unfold cutV
  rw [hlo, show HT.sIx xs.length xs.length (some (i : Int)) = min i xs.length from HT.sIx_nat _ _ i, List.drop_zero, Nat.sub_zero]
  by_cases z : i ≤ xs.length
  · rw [Nat.min_eq_left z]
  · rw [Nat.min_eq_right (by omega), List.take_of_length_le (Nat.le_refl _), List.take_of_length_le (by omega)]
theorem slU_run {F2 H2 H1 H : Hp} {Q : VK} {src : PyData} {ds : List PyData} {lo : Option Int} {i : Nat} {v : V} (hs : src = .list ds ∨ src = .tuple ds) (hlo : ∀ n : Nat, HT.sIx n 0 lo = 0) (s : Step pt F H1 F2 H2) (hv : Rp K F2 v src)
    (q : ∀ z v F3 H3, z = like src (ds.take i) → Step pt F H1 F3 H3 → Rp K F3 v z → Q v H3) : rSlU K v lo (some (i : Int)) H2 Q := by
  rcases hs with rfl | rfl
  · obtain ⟨a, xs, rfl, hl, ha⟩ := rp_lst hv
    refine .inl ⟨a, xs, rfl, SqL.of (s.inn _ _ hl), fun p hp => ?_⟩
    rw [cut_upto (hlo _)]
    have s3 : Step pt F2 H2 (upd F2 p (.lst (xs.take i))) (upd H2 p (.lst (xs.take i))) := .laid s.inn s.good hp
    exact q _ _ _ _ rfl (s.trans s3) (.lst upd_same (RpAll.mono s3.sub _ _ (RpAll.take i ha)))
  · obtain ⟨a, xs, rfl, hl, ha⟩ := rp_tup hv
    have hln := ha.length
    refine .inr ⟨a, xs, rfl, tx s.inn hl, fun hw => ?_, fun hw p hp => ?_⟩
    · rw [show HT.sIx xs.length xs.length (some (i : Int)) = min i xs.length from HT.sIx_nat _ _ i] at hw
      refine q _ _ F2 H2 rfl s ?_
      show Rp K F2 _ (.tuple (ds.take i))
      rw [List.take_of_length_le (by omega)]
      exact .tup hl ha
    · rw [cut_upto (hlo _)]
      have s3 : Step pt F2 H2 (upd F2 p (.tup (xs.take i))) (upd H2 p (.tup (xs.take i))) := .laid s.inn s.good hp
      exact q _ _ _ _ rfl (s.trans s3) (.tup upd_same (RpAll.mono s3.sub _ _ (RpAll.take i ha)))
theorem g_slU {ti : TE} {src : PyData} {ds : List PyData} {i : Nat} (hs : src = .list ds ∨ src = .tuple ds) (h : EvG K pt te σ F (Is src)) (hi : EvG K pt ti σ F (Is (.int (i : Int)))) : EvG K pt (tSl (rSlU K) te tNoPart (tPart ti)) σ F (Is (like src (ds.take i))) := fun H1 e g Q q =>
  h H1 e g _ fun d v F2 H2 hd s hv => hi.mono s.sub H2 s.inn s.good _ fun e u F3 H3 he s2 hu => by
    subst hd; subst he
    exact ⟨(i : Int), rp_int hu, slU_run (H := H2) hs (fun _ => rfl) (s.trans s2) (Rp.mono s2.sub _ _ hv) q⟩
theorem g_slU0 {ti : TE} {src : PyData} {ds : List PyData} {i : Nat} (hs : src = .list ds ∨ src = .tuple ds) (h : EvG K pt te σ F (Is src)) (hi : EvG K pt ti σ F (Is (.int (i : Int)))) : EvG K pt (tSl (rSlU K) te (tPart (tC (.int 0))) (tPart ti)) σ F (Is (like src (ds.take i))) := fun H1 e g Q q =>
  h H1 e g _ fun d v F2 H2 hd s hv => ⟨0, rfl, hi.mono s.sub H2 s.inn s.good _ fun e u F3 H3 he s2 hu => by
    subst hd; subst he
    exact ⟨(i : Int), rp_int hu, slU_run (H := H2) hs (fun n => by rw [show (some (0 : Int)) = some ((0 : Nat) : Int) from rfl, HT.sIx_nat]; exact Nat.min_eq_left (Nat.zero_le _)) (s.trans s2) (Rp.mono s2.sub _ _ hv) q⟩⟩
end
end Fv
/-! whether a dict of views holds something -/
namespace PySem
open PySem PySem.Spec PyProof.Rows
end PySem
namespace Fv
open PySem PySem.Spec PyProof.Rows L2 L2H Evl StX
end Fv
/-! two promises of one def -/
namespace Fv
open PySem PySem.Spec PyProof.Rows L2 Evl StX
theorem FnOk.or {P : Program} {w : World} {K : PySem.W.Frag} {mg : Str → Option Value} {base : Heap} {CX : CXT} {k : Nat} {f : Addr} {fd : FuncData} {ps : List Str} {s1 s2 : Sp} (h1 : FnOk P w K mg base CX k f fd ps s1) (h2 : FnOk P w K mg base CX k f fd ps s2) : FnOk P w K mg base CX k f fd ps (fun vs H Q E => s1 vs H Q E ∨ s2 vs H Q E) :=
  ⟨fun vs H Q E h => h.elim (h1.len vs H Q E) (h2.len vs H Q E), fun A out s H as us vs Q E r e0 b rv h => h.elim (h1.run A out s H as us vs Q E r e0 b rv) (h2.run A out s H as us vs Q E r e0 b rv)⟩
end Fv
/-! sorted of a tuple of whole numbers -/
namespace Fv
open PySem PySem.Spec PyProof.Rows L2 Evl StX
end Fv
/-! == by a class's own __eq__; loops over what is known only here; picks out of a list whose items have something in common -/
namespace L2
open PySem PySem.Spec PyProof.Rows Evl
end L2
namespace Fv
open PySem PySem.Spec PyProof.Rows L2 Evl StX
section
variable {K : PySem.W.Frag} {pt : Option Pt} {σ : L2.St} {F F' F0 H0 H : Hp} {te ti ta tb : TE} {ts tr : TA} {R : PD} {D : Ends} {tz tu : TS} {wi : TI} {l : Addr}
theorem flat_one {α : Type} (d : α) : ∀ k : Nat, (List.replicate k [d]).flatten = List.replicate k d
  | 0 => rfl
  | k + 1 => by rw [List.replicate_succ, List.flatten_cons, flat_one d k, List.replicate_succ]; rfl
end
end Fv
/-! dicts whose keys are data: made by a comprehension, written down with one entry, sorted, get with another value -/
namespace Fv
open PySem PySem.Spec PyProof.Rows L2 Evl StX
end Fv
/-! dicts whose keys are data: what they hold, told as data; sorted; a comprehension over triples -/
namespace Fv
open PySem PySem.Spec PyProof.Rows L2 Evl StX
/-- the entries, told as data -/
abbrev NV (K : PySem.W.Frag) (F : Hp) : List NEnt → List (PyData × PyData) → Prop := Paired fun x p => x.1 = nk p.1 ∧ Rp K F (.ref x.2.1) p.1 ∧ Rp K F x.2.2 p.2
section
variable {P : Program} {w : World} {K : PySem.W.Frag} {F F' : Hp} {xs : List NEnt} {ps : List (PyData × PyData)}
theorem NV.mono (e : Ex F F') (h : NV K F xs ps) : NV K F' xs ps := Paired.mapP h fun _ _ z => ⟨z.1, Rp.mono e _ _ z.2.1, Rp.mono e _ _ z.2.2⟩
theorem NV.len (h : NV K F xs ps) : xs.length = ps.length := Paired.length h
theorem NV.keys (h : NV K F xs ps) : RpAll K F (xs.map fun x => V.ref x.2.1) (ps.map (·.1)) := by
  induction h with
  | nil => exact .nil
  | cons a _ ih => exact .cons a.2.1 ih
theorem NV.none_ {k : PyData} (h : NV K F xs ps) (hk : kb k = true) (hb : ∀ p ∈ ps, kb p.1 = true) (hn : k ∉ ps.map (·.1)) : atN xs (nk k) = none := by
  unfold atN
  rw [Option.map_eq_none_iff]
  induction h with
  | nil => rfl
  | @cons x p xs ps a _ ih =>
    have ne : ¬ x.1 = nk k := fun z => by
      rw [a.1] at z
      have := nk_inj (hb p (by simp)) hk z
      exact hn (by rw [← this]; simp)
    rw [List.find?_cons_of_neg (by simpa using ne)]
    exact ih (fun q hq => hb q (List.mem_cons_of_mem _ hq)) fun z => hn (List.mem_cons_of_mem _ z)
theorem NV.get (h : NV K F xs ps) (hb : ∀ p ∈ ps, kb p.1 = true) : (ps.map (·.1)).Nodup → ∀ {k d : PyData}, (k, d) ∈ ps → ∃ p, atN xs (nk k) = some p ∧ Rp K F p.2 d := by
  induction h with
  | nil => intro _ _ _ hm; cases hm
  | @cons x p xs ps a _ ih =>
    intro nd k d hm
    rw [List.map_cons, List.nodup_cons] at nd
    rcases List.mem_cons.mp hm with e | m
    · subst e
      refine ⟨x.2, ?_, a.2.2⟩
      unfold atN
      rw [List.find?_cons_of_pos (by simpa using a.1)]; rfl
    · obtain ⟨q, h1, h2⟩ := ih (fun q hq => hb q (List.mem_cons_of_mem _ hq)) nd.2 m
      refine ⟨q, ?_, h2⟩
      have ne : ¬ x.1 = nk k := fun z => by
        rw [a.1] at z
        have := nk_inj (hb p (by simp)) (hb (k, d) (List.mem_cons_of_mem _ m)) z
        exact nd.1 (by rw [this]; exact List.mem_map.mpr ⟨_, m, rfl⟩)
      unfold atN
      rw [List.find?_cons_of_neg (by simpa using ne)]
      exact h1
theorem NV.put {k d : PyData} {b : Addr} {v : V} (h : NV K F xs ps) (hk : kb k = true) (hb : ∀ p ∈ ps, kb p.1 = true) (hn : k ∉ ps.map (·.1)) (h1 : Rp K F (.ref b) k) (h2 : Rp K F v d) : NV K F (putN xs (nk k) b v) (ps ++ [(k, d)]) := by
  unfold putN
  rw [h.none_ hk hb hn]
  exact Paired.snoc h ⟨rfl, h1, h2⟩
end
end Fv
/-! rows of things that are no data: lists made by a comprehension, tuples of them, what is read of them -/
namespace Fv
open PySem PySem.Spec PyProof.Rows L2 Evl StX
section
variable {P : Program} {w : World} {K : PySem.W.Frag} {pt : Option Pt} {σ : L2.St} {F F' F0 H0 H F2 H2 : Hp} {te ti ta tv : TE} {ts : TA} {t : TT} {wi : TI} {D : Ends} {tz : TS} {l C : Addr}
/-- the tuple at v holds things of which Φ speaks -/
def TupX {α : Type} (Φ : α → V → Hp → Prop) (F : Hp) (v : V) (ys : List α) : Prop := ∃ a xs, v = .ref a ∧ F a = some (.tup xs) ∧ Paired (fun x y => Φ y x F) xs ys
theorem TupX.mono {α : Type} {Φ : α → V → Hp → Prop} {v : V} {ys : List α} (hm : ∀ y v F F', Ex F F' → Φ y v F → Φ y v F') (e : Ex F F') (h : TupX Φ F v ys) : TupX Φ F' v ys := by
  obtain ⟨a, xs, rfl, h1, h2⟩ := h
  exact ⟨a, xs, rfl, e _ _ h1, Paired.mapP h2 fun _ _ z => hm _ _ _ _ e z⟩
theorem x_var {i : Nat} {v : V} (h0 : σ[i]? = some (some v)) : EvX pt (tVar i) σ F (fun u _ => u = v) := fun H1 e g Q q => ⟨_, h0, q _ F H1 rfl (.refl e g)⟩
/-- e.m(..), e an instance -/
theorem g_methX {m : Str} {sp : Sp} {E : XK} {ds : List PyData} {z : PyData} {x dx : Addr} {fs : List (Str × V)} (hv : EvX pt te σ F (fun v _ => v = .ref x)) (ho : F x = some (.ins C dx fs)) (hl : fs.lookup m = none) (h : ∀ F', Ex F F' → EvsG K pt ts σ F' (· = ds))
    (hs : ∀ F1 H1 vs, Ex F F1 → Ex F1 H1 → RpAll K F1 vs ds → ∀ Q : VK, (∀ v F2 H2, Step none F1 H1 F2 H2 → Rp K F2 v z → Q v H2) → sp (.ref x :: vs) H1 Q E) : EvG K pt (tMeth C m sp [] E te ts) σ F (Is z) := fun H1 e g Q q =>
  hv H1 e g _ fun v F2 H2 ev s => by
    subst ev
    exact ⟨x, dx, fs, rfl, s.inn _ _ (s.sub _ _ ho), hl, h F2 s.sub H2 s.inn s.good _ fun ds' vs F3 H3 hd s3 hv3 => by
      subst hd
      rw [List.append_nil]
      exact hs F3 H3 vs (s.sub.trans s3.sub) s3.inn hv3 Q fun v F4 H4 s4 hv4 => q _ v F4 H4 rfl ((s.trans s3).trans (s4.lift s3.good)) hv4⟩
end
end Fv
namespace KH
open PySem PySem.Spec PyProof.Rows L2 L2H Fv Evl StX
def topS (i : Nat) : Stmt := PySem.Challenge.pw_firmvalues_k40_whole_collects_amid_write.main.body.getD i (.Pass ⟨0, 0, 0, 0⟩)
structure Tx (mg : Str → Option Value) : Prop where
  isinstance : mg "isinstance" = none
  list : mg "list" = none
  tuple : mg "tuple" = none
  bool : mg "bool" = none
  int : mg "int" = none
  str : mg "str" = none
  all : mg "all" = none
  any : mg "any" = none
  range : mg "range" = none
  sorted : mg "sorted" = none
  set : mg "set" = none
  max : mg "max" = none
  len : mg "len" = none
  min : mg "min" = none
  repr : mg "repr" = none
abbrev s_is_whole : Stmt := topS 7
theorem sc_is_whole : FnScope ["thing", "low", "high"] ["thing", "low", "high"] (defScope s_is_whole) := ⟨rfl, rfl, rfl, by decide +kernel, rfl, by decide +kernel, by decide +kernel⟩
/-- is_whole has two defaults -/
abbrev FunW (K : PySem.W.Frag) (f : Addr) (fd : FuncData) : Prop := L2.FunD K "is_whole" "is_whole" (defArgs s_is_whole) (defBody s_is_whole) (defScope s_is_whole) [.non, .non] [] f fd
theorem okD {P : Program} {w : World} {K : PySem.W.Frag} {mg : Str → Option Value} {base : Heap} {x qual : Str} {params : Arguments} {body : List Stmt} {scope : Scope} {dvs : List V} {kws : List (Str × V)} {f : Addr} {fd : FuncData} {N ps : List Str} {k : Nat} {sp : Sp} (F : L2.FunD K x qual params body scope dvs kws f fd) (S : FnScope N ps scope) (len : ∀ vs H Q E, sp vs H Q E → vs.length = ps.length)
    (hbody : ∀ (cdv : Value) (A : Around) (outer : List Env) (s : Shared) (H : Hp) (vs : List V) (Q : VK) (E : XK), Room k (A.deeper (envOfC qual scope s.heap.objs.size f cdv)) → sp vs H Q E →
      ∃ t, PSs (cxOf CX0 P w K mg base N qual scope f cdv A outer s H E).nox body t ∧ t { nx := fun _ H' => Q .non H', rt := Q } (start N vs) H) : FnOk P w K mg base CX0 (k + 1) f fd ps sp :=
  F.ok S len fun cdv A outer s H vs Q E hr h => by
    obtain ⟨t, h1, q⟩ := hbody cdv A outer s H vs Q E hr h
    exact ⟨t, h1.nox, q⟩
def isT : PyData → Bool
  | .tuple _ => true
  | _ => false
def isB : PyData → Bool
  | .bool _ => true
  | _ => false
def isI : PyData → Bool
  | .bool _ => true
  | .int _ => true
  | _ => false
theorem kit_tuple : ∀ d : PyData, kitB (tyD d) "tuple" = some (isT d)
  | .none => by decide +kernel
  | .bool _ => by show kitB "bool" "tuple" = some false; decide +kernel
  | .int _ => by show kitB "int" "tuple" = some false; decide +kernel
  | .str _ => by show kitB "str" "tuple" = some false; decide +kernel
  | .list _ => by show kitB "list" "tuple" = some false; decide +kernel
  | .tuple _ => by show kitB "tuple" "tuple" = some true; decide +kernel
  | .dict _ => by show kitB "dict" "tuple" = some false; decide +kernel
theorem kit_bool : ∀ d : PyData, kitB (tyD d) "bool" = some (isB d)
  | .none => by decide +kernel
  | .bool _ => by show kitB "bool" "bool" = some true; decide +kernel
  | .int _ => by show kitB "int" "bool" = some false; decide +kernel
  | .str _ => by show kitB "str" "bool" = some false; decide +kernel
  | .list _ => by show kitB "list" "bool" = some false; decide +kernel
  | .tuple _ => by show kitB "tuple" "bool" = some false; decide +kernel
  | .dict _ => by show kitB "dict" "bool" = some false; decide +kernel
theorem kit_int : ∀ d : PyData, kitB (tyD d) "int" = some (isI d)
  | .none => by decide +kernel
  | .bool _ => by show kitB "bool" "int" = some true; decide +kernel
  | .int _ => by show kitB "int" "int" = some true; decide +kernel
  | .str _ => by show kitB "str" "int" = some false; decide +kernel
  | .list _ => by show kitB "list" "int" = some false; decide +kernel
  | .tuple _ => by show kitB "tuple" "int" = some false; decide +kernel
  | .dict _ => by show kitB "dict" "int" = some false; decide +kernel
/-- None or a whole number -/
def oD : Option Int → PyData
  | none => .none
  | some i => .int i
def loOk (i : Int) : Option Int → Bool
  | none => true
  | some l => decide (l ≤ i)
def hiOk (i : Int) : Option Int → Bool
  | none => true
  | some h => decide (i ≤ h)
def isWhole (lo hi : Option Int) : PyData → Bool
  | .int i => loOk i lo && hiOk i hi
  | _ => false
section
variable {P : Program} {w : World} {K : PySem.W.Frag} {mg : Str → Option Value} {base : Heap}
theorem rpAll1 {F : Hp} {vs : List V} {d : PyData} (h : RpAll K F vs [d]) : ∃ v, vs = [v] ∧ Rp K F v d := by
  cases h with
  | cons h1 h2 => cases h2; exact ⟨_, rfl, h1⟩
theorem rpAll2 {F : Hp} {vs : List V} {d e : PyData} (h : RpAll K F vs [d, e]) : ∃ v x, vs = [v, x] ∧ Rp K F v d ∧ Rp K F x e := by
  cases h with
  | cons h1 h2 =>
    obtain ⟨x, rfl, hx⟩ := rpAll1 h2
    exact ⟨_, x, rfl, h1, hx⟩
theorem rpAll3 {F : Hp} {vs : List V} {d e g : PyData} (h : RpAll K F vs [d, e, g]) : ∃ v x y, vs = [v, x, y] ∧ Rp K F v d ∧ Rp K F x e ∧ Rp K F y g := by
  cases h with
  | cons h1 h2 =>
    obtain ⟨x, y, rfl, hx, hy⟩ := rpAll2 h2
    exact ⟨_, x, y, rfl, h1, hx, hy⟩
/-! is_sequence -/
/-! is_whole -/
abbrev spWhole (K : PySem.W.Frag) : Sp := PSp K (fun i : PyData × Option Int × Option Int => [i.1, oD i.2.1, oD i.2.2]) (fun _ => True) (fun i => .bool (isWhole i.2.1 i.2.2 i.1))
theorem ok_whole {f : Addr} {fd : FuncData} (Fn : FunW K f fd) (T : Tx mg) : FnOk P w K mg base CX0 1 f fd ["thing", "low", "high"] (spWhole K) := by
  refine okD Fn sc_is_whole (PSp.len (fun _ => rfl)) (fun cdv A outer s H vs Q E hr h => ?_)
  obtain ⟨⟨d, lo, hi⟩, F, _, e, ha, q⟩ := h
  obtain ⟨v, x, y, rfl, hv, hx, hy⟩ := rpAll3 ha
  refine ⟨_, (pss_cons (ps_if (PW.pt (pw_or (pt_val (pe_callB (c_isi (K := K)) (by rfl) T.isinstance (by decide +kernel) (pa_cons (pv 0) (pa_cons (pe_bltn (v := .ty "bool") (by rfl) T.bool (by decide +kernel) rfl) pa_nil)))) (pw_or1 (pt_not (pt_val (pe_callB (c_isi (K := K)) (by rfl) T.isinstance (by decide +kernel) (pa_cons (pv 0) (pa_cons (pe_bltn (v := .ty "int") (by rfl) T.int (by decide +kernel) rfl) pa_nil)))))))) (pss_one (ps_ret pe_bl)) pss_nil)
    (pss_one (ps_ret (pe_and (pe_or (pe_cmpR op_isN (pv 1) pe_non (nomark _)) (pe_one (pe_cmpR op_ge (pv 0) (pv 1) (nomark _)))) (pe_one (pe_or (pe_cmpR op_isN (pv 2) pe_non (nomark _)) (pe_one (pe_cmpR op_le (pv 0) (pv 2) (nomark _))))))))), ?_⟩
  refine t_when (b := isB d || !isI d) (Step.refl e .nil) (et_or (et_B (g_isi (g_var rfl hv) (kit_bool d))) fun _ => et_not (et_B (g_isi (g_var rfl hv) (kit_int d)))) (fun hb F2 H2 s2 e2 => ?_) (fun hb F2 H2 s2 e2 => ?_)
  · refine t_retI (K := K) s2 g_bl fun v F3 H3 s3 hv3 => q v F3 H3 s3 ?_
    have : isWhole lo hi d = false := by cases d <;> simp_all [isB, isI, isWhole]
    show Rp K F3 v (.bool (isWhole lo hi d))
    rw [this]; exact hv3
  · obtain ⟨i, rfl⟩ : ∃ i, d = .int i := by cases d <;> simp_all [isB, isI]
    have v1 := Rp.mono e2 _ _ hv
    have x1 := Rp.mono e2 _ _ hx
    have y1 := Rp.mono e2 _ _ hy
    refine t_retI s2 (g_andV (a := loOk i lo) (b := hiOk i hi) ?_ fun _ => ?_) q
    · refine (g_orV (a := isNone (oD lo)) (b := loOk i lo) (g_op (g_var rfl x1) g_non fun _ _ h1 h2 => h1 ▸ h2 ▸ rv_isN) fun hn => ?_).is ?_
      · cases lo with
        | none => cases hn
        | some l => exact g_op (g_var rfl v1) (g_var rfl x1) fun _ _ h1 h2 => h1 ▸ h2 ▸ rv_bl (g := fun i j => decide (j ≤ i))
      · cases lo <;> simp [oD, isNone, loOk]
    · refine (g_orV (a := isNone (oD hi)) (b := hiOk i hi) (g_op (g_var rfl y1) g_non fun _ _ h1 h2 => h1 ▸ h2 ▸ rv_isN) fun hn => ?_).is ?_
      · cases hi with
        | none => cases hn
        | some l => exact g_op (g_var rfl v1) (g_var rfl y1) fun _ _ h1 h2 => h1 ▸ h2 ▸ rv_bl (g := fun i j => decide (i ≤ j))
      · cases hi <;> simp [oD, isNone, hiOk]
/-! lot_within -/
end
end KH
namespace KH
open PySem PySem.Spec PyProof.Rows L2 Fv Evl StX
abbrev s_law_pot : Stmt := topS 12
theorem sc_law_pot : FnScope ["_law_script", "_law_salt", "_law_cell"] ["_law_script", "_law_salt"] (defScope s_law_pot) := ⟨rfl, rfl, rfl, by decide +kernel, rfl, by decide +kernel, by decide +kernel⟩
abbrev s_law_draw : Stmt := topS 13
theorem sc_law_draw : FnScope ["_law_pot_here", "_law_many", "_law_cell", "_law_digit"] ["_law_pot_here", "_law_many"] (defScope s_law_draw) := ⟨rfl, rfl, rfl, by decide +kernel, rfl, by decide +kernel, by decide +kernel⟩
section
variable {P : Program} {w : World} {K : PySem.W.Frag} {mg : Str → Option Value} {base : Heap}
abbrev spDraw (K : PySem.W.Frag) : Sp := spP K (fun m => 1 ≤ m ∧ m < 10000000000000000000000000000001) (fun m d => ∃ k : Int, d = .int k ∧ 0 ≤ k ∧ k < m)
theorem cm {i j : Int} (h0 : 0 ≤ i) (h1 : i < 2147483647) : CMul i j := .inl ⟨by omega, by omega⟩
theorem ok_draw {f : Addr} {fd : FuncData} (Fn : Fun K "_law_draw" "_law_draw" s_law_draw f fd) (T : Tx mg) : FnOk P w K mg base CX0 1 f fd ["_law_pot_here", "_law_many"] (spDraw K) := by
  refine Fn.ok sc_law_draw spP.len (fun cdv A outer s H vs Q E hr h => ?_)
  obtain ⟨q, m, F, rfl, ⟨m1, m2⟩, e, g, k0⟩ := h
  have k : ∀ k F2 H2, 0 ≤ k → k < m → Step (some q) F H F2 H2 → Q (.int k) H2 := fun k F2 H2 h1 h2 s => k0 _ _ F2 H2 ⟨k, rfl, h1, h2⟩ s (.int k)
  refine ⟨_, (pss_cons (ps_if (PW.pt (pw_and (pt_cmpR op_eq (pe_ix (o_ixL (K := K)) (pv 0) pe_int (fun _ _ => rfl)) pe_int (nomark _)) (pw_and1 (pt_cmpR op_lt (pe_ix (o_ixL (K := K)) (pv 0) pe_int (fun _ _ => rfl)) (pe_callB (c_len (K := K)) (by rfl) T.len (by decide +kernel) (pa_cons (pe_ix (o_ixL (K := K)) (pv 0) pe_int (fun _ _ => rfl)) pa_nil)) (nomark _))))) (pss_cons (ps_set (i := 2) sc_law_draw.nd rfl (by first | exact Or.inl rfl | exact Or.inr rfl) (pe_ix (o_ixL (K := K)) (pe_ix (o_ixL (K := K)) (pv 0) pe_int (fun _ _ => rfl)) (pe_ix (o_ixL (K := K)) (pv 0) pe_int (fun _ _ => rfl)) (fun _ _ => rfl)))
    (pss_cons (ps_asg (pe_op op_add (pe_ix (o_ixL (K := K)) (pv 0) pe_int (fun _ _ => rfl)) pe_int) (pg_sub (pv 0) pe_int set_list))
    (pss_one (ps_if (pt_cmpR op_ge (pv 2) pe_int (nomark _)) (pss_one (ps_asg (pv 2) (pg_sub (pv 0) pe_int set_list))) (pss_one (ps_asg (pe_op op_modN (pe_op op_add (pe_op op_add (pe_op op_mul (pe_ix (o_ixL (K := K)) (pv 0) pe_int (fun _ _ => rfl)) pe_int) (pe_op op_mul (pe_op op_modN (pe_callTy call_int1 (by rfl) T.int (by decide +kernel) (pa_cons (pv 2) pa_nil)) pe_int) pe_int)) pe_int) pe_int) (pg_sub (pv 0) pe_int set_list))))))) pss_nil)
    (pss_cons (ps_if (pt_cmpR op_gt (pe_ix (o_ixL (K := K)) (pv 0) pe_int (fun _ _ => rfl)) pe_int (nomark _)) (pss_cons (ps_set (i := 3) sc_law_draw.nd rfl (by first | exact Or.inl rfl | exact Or.inr rfl) (pe_op op_modN (pe_callTy call_int1 (by rfl) T.int (by decide +kernel) (pa_cons (pe_ix (o_ixL (K := K)) (pv 0) pe_int (fun _ _ => rfl)) pa_nil)) (pv 1)))
    (pss_cons (ps_asg (pe_op op_fdivW (pe_ix (o_ixL (K := K)) (pv 0) pe_int (fun _ _ => rfl)) (pv 1)) (pg_sub (pv 0) pe_int set_list))
    (pss_one (ps_ret (pv 3))))) pss_nil)
    (pss_cons (ps_asg (pe_op op_modN (pe_op op_add (pe_op op_mul (pe_ix (o_ixL (K := K)) (pv 0) pe_int (fun _ _ => rfl)) pe_int) pe_int) pe_int) (pg_sub (pv 0) pe_int set_list))
    (pss_one (ps_ret (pe_op op_modN (pe_op op_fdivN (pe_callTy call_int1 (by rfl) T.int (by decide +kernel) (pa_cons (pe_op op_modN (pe_op op_mul (pe_ix (o_ixL (K := K)) (pv 0) pe_int (fun _ _ => rfl)) pe_int) pe_int) pa_nil)) pe_int) (pv 1))))))), ?_⟩
  have get : ∀ {σ : L2.St} {H' : Hp} {a b c : Int}, σ[0]? = some (some (.ref q.p)) → Pot H' q a b c → ∀ {i : Int} {v : V}, atI [V.int a, .int b, .int c, .ref q.l] i = some v → EvC (tOp (rIxL K) (tVar 0) (tC (.int i))) σ H' v := fun h p _ _ hi => ec_ixL (ec_var h) ec_int p.at_ hi
  obtain ⟨a, b, c, p⟩ := Pot.of (g q rfl).2
  let J : L2.St → Hp → Prop := fun σ' H' => ∃ a b c x y, σ' = [some (.ref q.p), some (.int m), x, y] ∧ Pot H' q a b c ∧ Step (some q) F H F H'
  have mk : ∀ {H' : Hp} {a b c : Int}, Pot H' q a b c → Step (some q) F H F H' → ∀ {a' b' c' : Int}, 0 ≤ a' → 0 ≤ b' → b' < 2147483647 → 0 ≤ c' → c' ≤ q.ns.length → Pot (upd H' q.p (.lst [.int a', .int b', .int c', .ref q.l])) q a' b' c' ∧ Step (some q) F H F (upd H' q.p (.lst [.int a', .int b', .int c', .ref q.l])) := fun p s _ _ _ h1 h2 h3 h4 h5 => by
    have p' := p.put h1 h2 h3 h4 h5
    exact ⟨p', s.trans (Step.pot s.inn s.good p'.pot)⟩
  have s0 : Step (some q) F H F H := Step.refl e g
  refine ts_when J (b := decide (a = 0) && decide (c < (q.ns.map V.int).length)) (etc_and (etc_of (ec_eq (get rfl p rfl) ec_int)) fun _ => etc_of (ec_I0 (g := fun i j => .bl (decide (i < j))) (get rfl p rfl) (ec_len (get rfl p rfl) p.ls))) (fun hb N hN => ?_) (fun _ => ⟨a, b, c, none, none, rfl, p, s0⟩) (fun σ' H' hJ => ?_)
  · simp only [Bool.and_eq_true, decide_eq_true_eq, List.length_map] at hb
    obtain ⟨_, hc⟩ := hb
    have c0 := p.c0
    obtain ⟨j, rfl⟩ : ∃ j : Nat, c = (j : Int) := ⟨c.toNat, by omega⟩
    have hj : j < q.ns.length := by omega
    have hcell : atI (q.ns.map V.int) (j : Int) = some (.int q.ns[j]) := atI_nat (by rw [List.getElem?_map, List.getElem?_eq_getElem hj]; rfl)
    refine ts_asg (ec_ixL (get rfl p rfl) (get rfl p rfl) p.ls hcell) ?_
    -- pot[2] = pot[2] + 1
    obtain ⟨p1, s1⟩ := mk p s0 (a' := a) (b' := b) (c' := (j : Int) + 1) p.a0 p.b0 p.b1 (by omega) (by omega)
    refine ts_put (q := q) (j := 2) (ec_I0 (g := fun i j => .int (i + j)) (get rfl p rfl) ec_int) rfl p.at_ rfl ?_
    show tIfS _ _ _ _ _ (upd H q.p (.lst [.int a, .int b, .int ((j : Int) + 1), .ref q.l]))
    refine ts_if1 (etc_of (ec_I0 (g := fun i j => .bl (decide (j ≤ i))) (ec_var rfl) ec_int)) (fun hb2 => ?_) (fun hb2 => ?_)
    · simp only [decide_eq_true_eq] at hb2
      obtain ⟨p2, s2⟩ := mk p1 s1 (a' := q.ns[j]) (b' := b) (c' := (j : Int) + 1) (by omega) p.b0 p.b1 (by omega) (by omega)
      refine ts_put1 (q := q) (j := 0) (ec_var rfl) rfl p1.at_ rfl ?_
      exact hN _ _ ⟨_, _, _, _, _, rfl, p2, s2⟩
    · obtain ⟨z1, z2⟩ := fm0 (b * 48271 + (q.ns[j]).fmod 1000003 * 69621 + 77) (j := 2147483647) (by decide)
      obtain ⟨p2, s2⟩ := mk p1 s1 (a' := a) (c' := (j : Int) + 1) p.a0 z1 z2 (by omega) (by omega)
      have e1 : EvC _ _ _ _ := ec_I (C := CMul) (g := fun i j => .int (i * j)) (get (σ := [some (.ref q.p), some (.int m), some (.int q.ns[j]), none]) rfl p1 (i := 1) rfl) (ec_int (i := 48271)) (cm p.b0 p.b1)
      have e2 : EvC _ _ _ _ := ec_I (C := CMul) (g := fun i j => .int (i * j)) (ec_I (C := fun _ j => j ≠ 0) (g := fun i j => .int (i.fmod j)) (ec_int1 (ec_var (σ := [some (.ref q.p), some (.int m), some (.int q.ns[j]), none]) (i := 2) (H := upd H q.p (.lst [.int a, .int b, .int ((j : Int) + 1), .ref q.l])) rfl)) (ec_int (i := 1000003)) (by decide)) (ec_int (i := 69621)) (cm (fm0 _ (by decide)).1 (Int.lt_trans (fm0 _ (by decide)).2 (by decide)))
      refine ts_put1 (q := q) (j := 1) (ec_I (C := fun _ j => j ≠ 0) (g := fun i j => .int (i.fmod j)) (ec_I0 (g := fun i j => .int (i + j)) (ec_I0 (g := fun i j => .int (i + j)) e1 e2) ec_int) ec_int (show (2147483647 : Int) ≠ 0 by decide)) rfl p1.at_ rfl ?_
      exact hN _ _ ⟨_, _, _, _, _, rfl, p2, s2⟩
  · obtain ⟨a, b, c, x, y, rfl, p, s⟩ := hJ
    have m0 : m ≠ 0 := by omega
    refine ts_if (etc_of (ec_I0 (g := fun i j => .bl (decide (j < i))) (get rfl p rfl) ec_int)) (fun hb => ?_) (fun hb => ?_)
    · obtain ⟨z1, z2⟩ := fm0 a (j := m) (by omega)
      refine ts_asg (ec_I (C := fun _ j => j ≠ 0) (g := fun i j => .int (i.fmod j)) (ec_int1 (get rfl p rfl)) (ec_var rfl) m0) ?_
      obtain ⟨p1, s1⟩ := mk p s (a' := a / m) (b' := b) (c' := c) (Int.ediv_nonneg p.a0 (by omega)) p.b0 p.b1 p.c0 p.c1
      refine ts_put (q := q) (j := 0) (ec_I (C := CDivW) (g := fun i j => .int (i / j)) (get rfl p rfl) (ec_var rfl) ⟨by omega, by
        have h1 : m.natAbs < 2 ^ 110 := by
          have : (2 : Nat) ^ 110 = 1298074214633706907132624082305024 := by decide
          omega
        have := PySem.Flt.log2_lt_of (by decide) h1
        omega⟩) rfl p.at_ rfl ?_
      exact ts_ret (ec_var rfl) (k _ _ _ z1 z2 s1)
    · obtain ⟨z1, z2⟩ := fm0 (b * 48271 + 1013904223) (j := 2147483647) (by decide)
      obtain ⟨p1, s1⟩ := mk p s (a' := a) (c' := c) p.a0 z1 z2 p.c0 p.c1
      refine ts_put (q := q) (j := 1) (ec_I (C := fun _ j => j ≠ 0) (g := fun i j => .int (i.fmod j)) (ec_I0 (g := fun i j => .int (i + j)) (ec_I (C := CMul) (g := fun i j => .int (i * j)) (get rfl p rfl) ec_int (cm p.b0 p.b1)) ec_int) ec_int (show (2147483647 : Int) ≠ 0 by decide)) rfl p.at_ rfl ?_
      obtain ⟨y1, y2⟩ := fm0 ((((b * 48271 + 1013904223).fmod 2147483647 * 16807).fmod 2147483629).fdiv 5) (j := m) (by omega)
      refine ts_ret (ec_I (C := fun _ j => j ≠ 0) (g := fun i j => .int (i.fmod j)) (ec_I (C := CDivN) (g := fun i j => .int (i.fdiv j)) (ec_int1 (ec_I (C := fun _ j => j ≠ 0) (g := fun i j => .int (i.fmod j)) (ec_I (C := CMul) (g := fun i j => .int (i * j)) (get rfl p1 rfl) ec_int (cm p1.b0 p1.b1)) ec_int (show (2147483629 : Int) ≠ 0 by decide))) ec_int (show CDivN _ 5 from ⟨by decide, by decide⟩)) (ec_var rfl) m0) (k _ _ _ y1 y2 s1)
def spPot (K : PySem.W.Frag) : Sp := fun vs H Q _ => ∃ (a : Addr) (ns : List Int) (c : Int) (F : Hp), vs = [.ref a, .int c] ∧ SqL K F a (ns.map V.int) ∧ 0 ≤ c ∧ c < 2147483647 ∧ Ex F H ∧
  ∀ (q : Pt) F2 H2, Step none F H F2 H2 → Good (some q) F2 H2 → H q.p = none → Q (.ref q.p) H2
theorem ok_pot {f : Addr} {fd : FuncData} (Fn : Fun K "_law_pot" "_law_pot" s_law_pot f fd) (T : Tx mg) : FnOk P w K mg base CX0 1 f fd ["_law_script", "_law_salt"] (spPot K) := by
  refine Fn.ok sc_law_pot (fun vs H Q E ⟨_, _, _, _, h, _⟩ => by rw [h]; rfl) (fun cdv A outer s H vs Q E hr h => ?_)
  obtain ⟨a, ns, c, F, rfl, hl, c0, c1, e, k⟩ := h
  refine ⟨_, (pss_one (ps_ret (pe_lst (pa_cons pe_int (pa_cons (pv 1) (pa_cons pe_int (pa_cons (pe_lc (own := [("_law_cell", 2)]) (g := gName 2) rfl sc_law_pot.nd (i_list (K := K) (pe_slice (s_list (K := K)) (pv 0) (po_some pe_int) (po_some pe_int))) (blkOk_by (own := [("_law_cell", 2)]) (N := ["_law_script", "_law_salt", "_law_cell"]) (sc := (defScope s_law_pot)) (by decide +kernel)) (fun _ _ _ _ _ => pg_name (i := 2) sc_law_pot.nd rfl (by first | exact Or.inl rfl | exact Or.inr rfl)) (fun _ _ _ _ _ => pts_nil) (fun _ _ _ _ _ => (pe_callTy call_int1 (by rfl) T.int (by decide +kernel) (pa_cons (pv 2) pa_nil)))) pa_nil))))))), ?_⟩
  have hz : (ns.take 60).length ≤ 60 := by rw [List.length_take]; omega
  refine t_retLst (K := K) (Step.refl e .nil) (gs_consI (K := K) g_int (gs_consI (g_var (v := .int c) (d := .int c) rfl (.int c)) (gs_consI g_int (gs_one (g_lcEM PyData.int (ns.take 60) PyData.int (w_listI (g_slS (i := 0) rfl hl)) (by omega) (fun _ => rfl) fun i hi F' e' y hy => g_cbI (gs_one (g_var rfl hy)) rc_int1))))) fun vs F2 H2 s hv => ?_
  obtain ⟨v4, rfl, hv4⟩ : ∃ v4, vs = [.int 0, .int c, .int 0, v4] ∧ Rp K F2 v4 (.list ((ns.take 60).map .int)) := by
    cases hv with
    | cons a1 b1 =>
      cases b1 with
      | cons a2 b2 =>
        cases b2 with
        | cons a3 b3 =>
          cases b3 with
          | cons a4 b4 =>
            cases b4
            rw [rp_int a1, rp_int a2, rp_int a3]
            exact ⟨_, rfl, a4⟩
  obtain ⟨l, xs, rfl, hl4, hxs⟩ := rp_lst hv4
  have := rpAll_ints hxs
  subst this
  refine ⟨by show 4 ≤ _; decide, fun p hp => ?_⟩
  have hlp : l ≠ p := fun z => by rw [z] at hl4; have := s.inn _ _ hl4; rw [hp] at this; cases this
  have fp : F2 p = none := by
    cases z : F2 p with
    | none => rfl
    | some o => have := s.inn _ _ z; rw [hp] at this; cases this
  refine k ⟨p, l, ns.take 60⟩ F2 _ ?_ ?_ (s.back p hp)
  · exact ⟨s.sub, s.inn.trans (Ex.new hp), s.keep.trans (Keep.of (Ex.new hp)), .nil, s.new⟩
  · intro q hq
    obtain rfl := Option.some.inj hq
    refine ⟨fp, hlp, ?_, hz, 0, c, 0, upd_same, Int.le_refl _, c0, c1, Int.le_refl _, by omega⟩
    show upd H2 p _ l = _
    rw [upd_ne hlp]; exact s.inn _ _ hl4
end
end KH
namespace KH
open PySem PySem.Spec PyProof.Rows L2 L2H Fv Evl StX
/-- the houses 0 .. n - 1 -/
def hs (n : Nat) : List Int := (List.range n).map Int.ofNat
end KH
namespace KH
open PySem PySem.Spec PyProof.Rows L2 L2H Fv Evl StX
abbrev ORow := List (Option Int)
end KH
namespace KH
open PySem PySem.Spec PyProof.Rows L2 L2H Fv Evl StX
def isS : PyData → Bool
  | .str _ => true
  | _ => false
theorem kit_str : ∀ d : PyData, kitB (tyD d) "str" = some (isS d)
  | .none => by decide +kernel
  | .bool _ => by show kitB "bool" "str" = some false; decide +kernel
  | .int _ => by show kitB "int" "str" = some false; decide +kernel
  | .str _ => by show kitB "str" "str" = some true; decide +kernel
  | .list _ => by show kitB "list" "str" = some false; decide +kernel
  | .tuple _ => by show kitB "tuple" "str" = some false; decide +kernel
  | .dict _ => by show kitB "dict" "str" = some false; decide +kernel
def atomS : PyData → Bool
  | .none => true
  | .int _ => true
  | .str _ => true
  | _ => false
/-- atoms, or tuples of what is fine -/
def upL (p : PyData → Prop) : PyData → Prop
  | .tuple ds => ds.length ≤ 1000 ∧ ∀ d ∈ ds, p d
  | d => atomS d = true
abbrev lv0 : PyData → Prop := upL fun _ => False
abbrev lv1 : PyData → Prop := upL lv0
abbrev lv2 : PyData → Prop := upL lv1
section
variable {P : Program} {w : World} {K : PySem.W.Frag} {mg : Str → Option Value} {base : Heap}
variable {pt : Option Pt} {σ : L2.St} {F F' F0 H0 H : Hp} {te ta tb ty td : TE} {ts tr : TA} {t : TT} {D : Ends} {tz tu tw : TS} {l : Addr} {ls : List PyData}
theorem rv_eqS {x y : Str} : RvG K rEq (.str x) (.str y) (Is (.bool (decide (x = y)))) := rv_val fun F H a b _ ha hb => by
  rw [rp_str ha, rp_str hb]
  refine ⟨.bl (decide (V.str x = V.str y)), fun Q q => ⟨rfl, q⟩, ?_⟩
  have : decide (V.str x = V.str y) = decide (x = y) := by by_cases h : x = y <;> simp [h]
  rw [this]; exact .bl _
end
end KH
namespace KH
open PySem PySem.Spec PyProof.Rows L2 L2H Fv Evl StX
section
variable {P : Program} {w : World} {K : PySem.W.Frag} {mg : Str → Option Value} {base : Heap}
variable {pt : Option Pt} {σ : L2.St} {F F' F0 H0 H F2 H2 : Hp} {te ta tb ty td : TE} {ts tr : TA} {t : TT} {D : Ends} {tz tu tw : TS} {l a : Addr} {xs : List NEnt}
theorem rv_imp {r : L2.R2} {d e : PyData} {R R' : PD} (h : RvG K r d e R) (hi : ∀ z, R z → R' z) : RvG K r d e R' := fun F H x y i hx hy Q q => h F H x y i hx hy Q fun z v F2 H2 hz s hv => q z v F2 H2 (hi z hz) s hv
theorem rv_neI {K : PySem.W.Frag} {i j : Int} : RvG K rNe (.int i) (.int j) (Is (.bool (!decide (i = j)))) := rv_val fun F H x y _ hx hy => by
  rw [rp_int hx, rp_int hy]
  refine ⟨.bl (!decide (V.int i = V.int j)), fun Q q => ⟨rfl, q⟩, ?_⟩
  have : decide (V.int i = V.int j) = decide (i = j) := by by_cases h : i = j <;> simp [h]
  rw [this]; exact .bl _
/-! as_tuples of tuples and atoms -/
/-! the frame -/
/-! a row of the others' marks, a move, a place -/
/-! what is wrong with a move: nothing, if its place is new -/
end
end KH
namespace KH
open PySem PySem.Spec PyProof.Rows L2 L2H Fv Evl StX
abbrev s_law_same : Stmt := topS 11
theorem sc_law_same : FnScope ["_law_told", "_law_due", "_law_k"] ["_law_told", "_law_due"] (defScope s_law_same) := ⟨rfl, rfl, rfl, by decide +kernel, rfl, by decide +kernel, by decide +kernel⟩
section
variable {P : Program} {w : World} {K : PySem.W.Frag} {mg : Str → Option Value} {base : Heap}
variable {pt : Option Pt} {σ : L2.St} {F F' F0 H0 H : Hp} {te ta tb ty td : TE} {ts tr : TA} {t : TT} {D : Ends} {tz tu tw : TS} {l : Addr} {ls : List PyData}
abbrev spSm (K : PySem.W.Frag) (p : PyData → Prop) : Sp := PSp K (fun d : PyData => [d, d]) p (fun _ => .bool true)
theorem same_step {j : Nat} {p : PyData → Prop} {f : Addr} {fd : FuncData} (F_law_same : Fun K "_law_same" "_law_same" s_law_same f fd) (T : Tx mg) (b_law_same : Binds K fd ["_law_told", "_law_due"] []) (g_law_same : mg "_law_same" = some (.ref f))
    (G_law_same : FnOk P w K mg base CX0 j f fd ["_law_told", "_law_due"] (spSm K p)) : FnOk P w K mg base CX0 (j + 1) f fd ["_law_told", "_law_due"] (spSm K (upL p)) := by
  refine Fun.ok F_law_same sc_law_same (PSp.len (fun _ => rfl)) (fun cdv A outer s H vs Q E hr h => ?_)
  obtain ⟨d, F, hd, e, ha, q⟩ := h
  obtain ⟨x, y, rfl, hx, hy⟩ := rpAll2 ha
  refine ⟨_, (pss_cons (ps_if (pt_val (pe_callB (c_isi (K := K)) (by rfl) T.isinstance (by decide +kernel) (pa_cons (pv 1) (pa_cons (pe_bltn (v := .ty "tuple") (by rfl) T.tuple (by decide +kernel) rfl) pa_nil)))) (pss_cons (ps_if (PW.pt (pw_or (pt_not (pt_val (pe_callB (c_isi (K := K)) (by rfl) T.isinstance (by decide +kernel) (pa_cons (pv 0) (pa_cons (pe_bltn (v := .ty "tuple") (by rfl) T.tuple (by decide +kernel) rfl) pa_nil))))) (pw_or1 (pt_cmpR op_ne (pe_callB (c_len (K := K)) (by rfl) T.len (by decide +kernel) (pa_cons (pv 0) pa_nil)) (pe_callB (c_len (K := K)) (by rfl) T.len (by decide +kernel) (pa_cons (pv 1) pa_nil)) (nomark _))))) (pss_one (ps_ret pe_bl)) pss_nil)
    (pss_one (ps_ret (pe_notT (pe_lc (own := [("_law_k", 2)]) (g := gName 2) rfl sc_law_same.nd (pi_range1 (by rfl) T.range (pa_cons (pe_callB (c_len (K := K)) (by rfl) T.len (by decide +kernel) (pa_cons (pv 1) pa_nil)) pa_nil)) (blkOk_by (own := [("_law_k", 2)]) (N := ["_law_told", "_law_due", "_law_k"]) (sc := (defScope s_law_same)) (by decide +kernel)) (fun _ _ _ _ _ => pg_name (i := 2) sc_law_same.nd rfl (by first | exact Or.inl rfl | exact Or.inr rfl)) (fun _ _ _ _ _ => (pts_one (pt_not (pt_val (pe_call G_law_same (hr.mono (Nat.le_refl _)) (by rfl) g_law_same F_law_same.kp b_law_same .nil pass0 (pa_cons (pe_ix (o_ixT (K := K)) (pv 0) (pv 2) (fun _ _ => rfl)) (pa_cons (pe_ix (o_ixT (K := K)) (pv 1) (pv 2) (fun _ _ => rfl)) pa_nil))))))) (fun _ _ _ _ _ => (pv 2))))))) pss_nil)
    (pss_cons (ps_if (pt_cmpR op_isN (pv 1) pe_non (nomark _)) (pss_one (ps_ret (pe_cmpR op_isN (pv 0) pe_non (nomark _)))) pss_nil)
    (pss_cons (ps_if (pt_val (pe_callB (c_isi (K := K)) (by rfl) T.isinstance (by decide +kernel) (pa_cons (pv 1) (pa_cons (pe_bltn (v := .ty "str") (by rfl) T.str (by decide +kernel) rfl) pa_nil)))) (pss_one (ps_ret (pe_and (pe_callB (c_isi (K := K)) (by rfl) T.isinstance (by decide +kernel) (pa_cons (pv 0) (pa_cons (pe_bltn (v := .ty "str") (by rfl) T.str (by decide +kernel) rfl) pa_nil))) (pe_one (pe_cmpR op_eq (pv 0) (pv 1) (nomark _)))))) pss_nil)
    (pss_one (ps_ret (pe_and (pe_callB (c_isi (K := K)) (by rfl) T.isinstance (by decide +kernel) (pa_cons (pv 0) (pa_cons (pe_bltn (v := .ty "int") (by rfl) T.int (by decide +kernel) rfl) pa_nil))) (pe_and (pe_not (pe_callB (c_isi (K := K)) (by rfl) T.isinstance (by decide +kernel) (pa_cons (pv 0) (pa_cons (pe_bltn (v := .ty "bool") (by rfl) T.bool (by decide +kernel) rfl) pa_nil)))) (pe_one (pe_cmpR op_eq (pv 0) (pv 1) (nomark _)))))))))), ?_⟩
  refine t_when (b := isT d) (Step.refl e .nil) (et_B (g_isi (g_var rfl hy) (kit_tuple d))) (fun hb F2 H2 s2 e2 => ?_) (fun hb F2 H2 s2 e2 => ?_)
  · obtain ⟨ds, rfl⟩ : ∃ ds, d = .tuple ds := by cases d <;> simp_all [isT]
    obtain ⟨hz, hat⟩ := hd
    have hx2 := Rp.mono e2 _ _ hx
    have hy2 := Rp.mono e2 _ _ hy
    refine t_skip s2 ((et_or (a := false) (b := false) ((et_not (b := true) (et_B (g_isi (g_var rfl hx2) (kit_tuple _)))).is rfl) fun _ => (et_of (g_opI (g_cbI (gs_one (g_var rfl hx2)) rc_lenT) (g_cbI (gs_one (g_var rfl hy2)) rc_lenT) rv_neI)).is (by simp)).is rfl) fun F3 H3 s3 e3 => ?_
    have hx3 := Rp.mono e3 _ _ hx2
    have hy3 := Rp.mono e3 _ _ hy2
    refine t_retI (K := K) s3 ((g_notTL (g_lcE natD (List.range ds.length) (fun _ => false) natD (w_len (g_var (i := 1) rfl hy3) rfl (by omega)) (by simp; omega) (fun _ => rfl) (fun h hh F' e' u hu => ?_) (fun h _ hf => by cases hf))).is (by simp)) q
    have hj : h < ds.length := List.mem_range.mp hh
    have hi : atI ds (h : Int) = some ds[h] := atI_nat (List.getElem?_eq_getElem hj)
    exact (et_not (b := true) (et_B (g_call ds[h] (gs_two (g_opI (g_var rfl (Rp.mono e' _ _ hx3)) (g_var rfl hu) (rv_ixT hi)) (g_opI (g_var rfl (Rp.mono e' _ _ hy3)) (g_var rfl hu) (rv_ixT hi))) rfl (hat _ (List.getElem_mem hj))))).is rfl
  · have hd' : atomS d = true := by cases d <;> simp_all [isT, upL, atomS]
    refine t_when s2 (et_of (g_opI (g_var rfl (Rp.mono e2 _ _ hy)) g_non rv_isN)) (fun hb F3 H3 s3 e3 => ?_) (fun hb3 F3 H3 s3 e3 => ?_)
    · obtain rfl : d = .none := by cases d <;> simp_all [isNone]
      exact t_retI s3 ((g_opI (g_var rfl (Rp.mono (e2.trans e3) _ _ hx)) g_non rv_isN).is rfl) q
    have e3' := e2.trans e3
    refine t_when s3 (et_B (g_isi (g_var rfl (Rp.mono e3' _ _ hy)) (kit_str d))) (fun hb F4 H4 s4 e4 => ?_) (fun hb4 F4 H4 s4 e4 => ?_)
    · obtain ⟨t, rfl⟩ : ∃ t, d = .str t := by cases d <;> simp_all [isS]
      exact t_retI s4 ((g_andV (b := true) (g_isi (g_var rfl (Rp.mono (e3'.trans e4) _ _ hx)) (kit_str _)) fun _ => (g_opI (g_var rfl (Rp.mono (e3'.trans e4) _ _ hx)) (g_var rfl (Rp.mono (e3'.trans e4) _ _ hy)) rv_eqS).is (by simp)).is rfl) q
    · obtain ⟨i, rfl⟩ : ∃ i, d = .int i := by cases d <;> simp_all [isS, isNone, atomS]
      have e4' := e3'.trans e4
      exact t_retI s4 ((g_andV (b := true) (g_isi (g_var rfl (Rp.mono e4' _ _ hx)) (kit_int _)) fun _ => (g_andV (b := true) (g_notV (g_isi (g_var rfl (Rp.mono e4' _ _ hx)) (kit_bool _))) fun _ => (g_opI (g_var rfl (Rp.mono e4' _ _ hx)) (g_var rfl (Rp.mono e4' _ _ hy)) rv_eqI).is (by simp)).is rfl).is rfl) q
theorem ok_same {f : Addr} {fd : FuncData} (F_law_same : Fun K "_law_same" "_law_same" s_law_same f fd) (T : Tx mg) (b_law_same : Binds K fd ["_law_told", "_law_due"] []) (g_law_same : mg "_law_same" = some (.ref f)) : FnOk P w K mg base CX0 3 f fd ["_law_told", "_law_due"] (spSm K lv2) :=
  same_step F_law_same T b_law_same g_law_same (same_step F_law_same T b_law_same g_law_same (same_step F_law_same T b_law_same g_law_same
    ⟨PSp.len (fun _ => rfl), fun _ _ _ _ _ _ _ _ _ _ _ _ _ h => by obtain ⟨_, _, hf, _⟩ := h; exact hf.elim⟩))
end
end KH
namespace KH
open PySem PySem.Spec PyProof.Rows L2 L2H Fv Evl StX
theorem eqvAll_opts : ∀ a b : ORow, PyData.eqvAll (a.map optD) (b.map optD) = decide (a = b)
  | [], [] => by simp [PyData.eqvAll]
  | [], m :: ms => by simp [PyData.eqvAll]
  | n :: ns, [] => by simp [PyData.eqvAll]
  | n :: ns, m :: ms => by
    simp only [List.map_cons, PyData.eqvAll, eqvAll_opts ns ms]
    cases n <;> cases m <;> simp [optD, PyData.eqv]
    rename_i a b
    by_cases h : a = b <;> simp [h]
theorem eqv_dO (a b : ORow) : PyData.eqv (dO a) (dO b) = decide (a = b) := by
  simp only [PyData.eqv]; exact eqvAll_opts a b
theorem canLayAll_opts : ∀ ns : ORow, PyData.canLayAll0 (ns.map optD) = true
  | [] => by simp [PyData.canLayAll0]
  | none :: ns => by simp [PyData.canLayAll0, PyData.canLay0, canLayAll_opts ns, optD]
  | some n :: ns => by simp [PyData.canLayAll0, PyData.canLay0, canLayAll_opts ns, optD]
theorem depthAll_opts : ∀ ns : ORow, PyData.depthAll (ns.map optD) ≤ 1
  | [] => by simp [PyData.depthAll]
  | n :: ns => by
    have := depthAll_opts ns
    simp only [List.map_cons, PyData.depthAll]
    cases n <;> simp only [optD, PyData.depth] <;> omega
theorem shaped_dO (ns : ORow) : SeqAt.shaped (dO ns) = true := shaped_of (by simp only [PyData.canLay0]; exact canLayAll_opts ns) (by have := depthAll_opts ns; simp only [PyData.depth]; omega)
section
variable {P : Program} {w : World} {K : PySem.W.Frag} {mg : Str → Option Value} {base : Heap}
variable {pt : Option Pt} {σ : L2.St} {F F' F0 H0 H F2 H2 : Hp} {te ta tb ty td : TE} {ts tr : TA} {t : TT} {D : Ends} {tz tu tw : TS}
theorem flat_non : ∀ n : Nat, (List.replicate n [V.non]).flatten = List.replicate n V.non
  | 0 => rfl
  | n + 1 => by rw [List.replicate_succ, List.flatten_cons, flat_non n, List.replicate_succ]; rfl
theorem rp_nons {K : PySem.W.Frag} {F : Hp} : ∀ n : Nat, RpAll K F (List.replicate n V.non) (List.replicate n PyData.none)
  | 0 => .nil
  | n + 1 => by rw [List.replicate_succ, List.replicate_succ]; exact .cons .non (rp_nons n)
theorem o_repT {X : Cx} {K : PySem.W.Frag} (h : X.K = K := by rfl) : OpR X (binaryOp .Mult) (rRepT K) := h ▸ op_repT
theorem g_repT {n : Nat} (ha : EvG K pt ta σ F (Is (dO [none]))) (hb : EvG K pt tb σ F (Is (.int (n : Int)))) (h2 : 2 ≤ n) (h5 : n ≤ 1000) : EvG K pt (tOp (rRepT K) ta tb) σ F (Is (dO (List.replicate n none))) := g_opI ha hb fun F H x y e hx hy Q q => by
  obtain ⟨a, ys, rfl, hl, hv⟩ := rp_tup hx
  obtain rfl := rp_int hy
  have e1 : ys = [.non] := by
    cases hv with
    | cons h1 h2 =>
      cases h2
      rw [rp_none h1]
  subst e1
  refine ⟨a, n, [.non], rfl, rfl, tx e hl, by simp, by omega, by omega, by simp, fun p hp => ?_⟩
  rw [show (List.replicate ((n : Int)).toNat [V.non]).flatten = List.replicate n V.non by rw [show ((n : Int)).toNat = n by omega]; exact flat_non n]
  have s : Step none F H (upd F p (.tup (List.replicate n V.non))) (upd H p (.tup (List.replicate n V.non))) := .laid e .nil hp
  exact q _ _ _ _ rfl s (.tup upd_same (by rw [List.map_replicate]; exact rp_nons n))
variable {pt : Option Pt} {σ : L2.St} {F F0 H0 H : Hp} {te ta tb : TE} {ts tr : TA} {D : Ends} {tz : TS} {C : Addr}
end
end KH
/-! a list of one's own whose items are no data -/
namespace Fv
open PySem PySem.Spec PyProof.Rows L2 Evl StX
structure Xst {α : Type} (K : PySem.W.Frag) (Φ : α → V → Hp → Prop) (pt : Option Pt) (F0 H0 : Hp) (l : Addr) (F H : Hp) (ys : List α) : Prop where
  step : Step pt F0 H0 F H
  off : F l = none
  ex : ∃ acc, H l = some (.lst acc) ∧ Paired (fun x y => Φ y x F) acc ys
/-- a list, or a tuple, of such things, that stays -/
def LstX {α : Type} (Φ : α → V → Hp → Prop) (F : Hp) (v : V) (ys : List α) : Prop := ∃ a xs, v = .ref a ∧ F a = some (.lst xs) ∧ Paired (fun x y => Φ y x F) xs ys
section
variable {α : Type} {K : PySem.W.Frag} {Φ : α → V → Hp → Prop} {pt : Option Pt} {σ : L2.St} {F0 H0 F H F' F2 H2 : Hp} {te ta tb : TE} {ts tr : TA} {t u : TT} {wi : TI} {D : Ends} {tu tw tz : TS} {l : Addr} {ys : List α}
theorem LstX.mono {v : V} (hm : ∀ y v F F', Ex F F' → Φ y v F → Φ y v F') (e : Ex F F') (h : LstX Φ F v ys) : LstX Φ F' v ys := by
  obtain ⟨a, xs, rfl, h1, h2⟩ := h
  exact ⟨a, xs, rfl, e _ _ h1, Paired.mapP h2 fun _ _ z => hm _ _ _ _ e z⟩
theorem Xst.of (g : Gst K pt F0 H0 l F H []) : Xst K Φ pt F0 H0 l F H [] := ⟨g.step, g.off, by
  obtain ⟨acc, e, r⟩ := g.ex
  cases r
  exact ⟨[], e, .nil⟩⟩
theorem Xst.run (hm : ∀ y v F F', Ex F F' → Φ y v F → Φ y v F') (g0 : Good pt F0 H0) (h0 : H0 l = none) (g : Xst K Φ pt F0 H0 l F H ys) (s : Step pt F H F2 H2) : Xst K Φ pt F0 H0 l F2 H2 ys := by
  obtain ⟨acc, e, r⟩ := g.ex
  obtain ⟨f2, e2⟩ := Step.beside g0 h0 g.off e s
  exact ⟨g.step.trans s, f2, acc, e2, Paired.mapP r fun _ _ z => hm _ _ _ _ s.sub z⟩
theorem Xst.done (hm : ∀ y v F F', Ex F F' → Φ y v F → Φ y v F') (g0 : Good pt F0 H0) (h0 : H0 l = none) (g : Xst K Φ pt F0 H0 l F H ys) : ∃ F2, Step pt F0 H0 F2 H ∧ Ex F F2 ∧ LstX Φ F2 (.ref l) ys := by
  obtain ⟨acc, e, r⟩ := g.ex
  have e1 : Ex F (upd F l (.lst acc)) := Ex.new g.off
  exact ⟨_, g.step.freeze g0 h0 g.off e, e1, l, acc, rfl, upd_same, Paired.mapP r fun _ _ z => hm _ _ _ _ e1 z⟩
/-- what is read of such a list: xs[k], len(xs) -/
theorem x_ixL {i : Nat} {a : Addr} {xs : List V} {k : Nat} {x : V} {ti : TE} (h0 : σ[i]? = some (some (.ref a))) (hl : F a = some (.lst xs)) (hk : xs[k]? = some x) (h : EvG K pt ti σ F (Is (.int (k : Int)))) : EvX pt (tOp (rIxL K) (tVar i) ti) σ F (fun v _ => v = x) := fun H1 e g Q q =>
  ⟨_, h0, h H1 e g _ fun d v F2 H2 hd s hv => by
    subst hd
    exact ⟨a, xs, _, x, rfl, rp_int hv, SqL.of (s.inn _ _ (s.sub _ _ hl)), by rw [atI_nat hk], q _ F2 H2 rfl s⟩⟩
end
end Fv
/-! min of a list or a tuple of whole numbers -/
namespace Fv
open PySem PySem.Spec PyProof.Rows L2 Evl StX
end Fv
/-! t * 1 is t -/
namespace L2
open PySem PySem.Spec PyProof.Rows
end L2
namespace Fv
open PySem PySem.Spec PyProof.Rows L2 Evl StX
end Fv
/-! int(a test), max(i, j) -/
namespace Fv
open PySem PySem.Spec PyProof.Rows L2 Evl StX
end Fv
/-! a dict that is told by an expression: t[1][k] -/
namespace Fv
open PySem PySem.Spec PyProof.Rows L2 Evl StX
end Fv
/-! several objects of one's own at once; a loop over a list of no data; break; while -/
namespace Fv
open PySem PySem.Spec PyProof.Rows L2 Evl StX
abbrev Own1 := Addr × HO
def putAll : List Own1 → Hp → Hp
  | [], F => F
  | p :: L, F => upd (putAll L F) p.1 p.2
def delAll : List Own1 → Hp → Hp
  | [], F => F
  | p :: L, F => del (delAll L F) p.1
theorem putAll_off {F : Hp} {a : Addr} : ∀ {L : List Own1}, (∀ p ∈ L, p.1 ≠ a) → putAll L F a = F a
  | [], _ => rfl
  | p :: L, h => by
    rw [putAll, upd_ne (h p (by simp)).symm]
    exact putAll_off fun q hq => h q (List.mem_cons_of_mem _ hq)
theorem putAll_at {F : Hp} : ∀ {L : List Own1} {p : Own1}, (L.map (·.1)).Nodup → p ∈ L → putAll L F p.1 = some p.2
  | q :: L, p, nd, h => by
    rw [List.map_cons, List.nodup_cons] at nd
    rcases List.mem_cons.mp h with rfl | h
    · exact upd_same
    · have ne : p.1 ≠ q.1 := fun z => nd.1 (z ▸ List.mem_map_of_mem h)
      rw [putAll, upd_ne ne]
      exact putAll_at nd.2 h
theorem putAll_in {F : Hp} {a : Addr} {o : HO} : ∀ {L : List Own1}, putAll L F a = some o → (∃ p ∈ L, p.1 = a ∧ p.2 = o) ∨ F a = some o
  | [], h => .inr h
  | p :: L, h => by
    by_cases z : a = p.1
    · subst z
      rw [putAll, upd_same] at h
      exact .inl ⟨p, by simp, rfl, Option.some.inj h⟩
    · rw [putAll, upd_ne z] at h
      rcases putAll_in h with ⟨q, hq, e⟩ | h
      · exact .inl ⟨q, List.mem_cons_of_mem _ hq, e⟩
      · exact .inr h
theorem delAll_off {F : Hp} {a : Addr} : ∀ {L : List Own1}, (∀ p ∈ L, p.1 ≠ a) → delAll L F a = F a
  | [], _ => rfl
  | p :: L, h => by
    rw [delAll, del_ne (h p (by simp)).symm]
    exact delAll_off fun q hq => h q (List.mem_cons_of_mem _ hq)
theorem delAll_at {F : Hp} : ∀ {L : List Own1} {p : Own1}, p ∈ L → delAll L F p.1 = none
  | q :: L, p, h => by
    by_cases z : p.1 = q.1
    · rw [delAll, z, del_same]
    · rw [delAll, del_ne z]
      rcases List.mem_cons.mp h with e | h
      · exact absurd (by rw [e]) z
      · exact delAll_at h
theorem delAll_ex {F : Hp} : ∀ {L : List Own1}, Ex (delAll L F) F
  | [] => Ex.refl F
  | p :: L => del_ex.trans delAll_ex
theorem delAll_none {F : Hp} {L : List Own1} {a : Addr} (h : F a = none) : delAll L F a = none := by
  cases e : delAll L F a with
  | none => rfl
  | some o => rw [delAll_ex _ _ e] at h; cases h
/-! data without lists stays whatever becomes of what is no tuple -/
mutual
def nl : PyData → Bool
  | .tuple ds => nlL ds
  | .list _ => false
  | .dict _ => false
  | _ => true
def nlL : List PyData → Bool
  | [] => true
  | d :: ds => nl d && nlL ds
end
section
variable {K : PySem.W.Frag} {F F' : Hp}
mutual
theorem rp_tups (h : ∀ a ys, F a = some (.tup ys) → F' a = some (.tup ys)) : ∀ (d : PyData) (v : V), nl d = true → Rp K F v d → Rp K F' v d
  | .none, _, _, x => by cases x; exact .non
  | .bool b, _, _, x => by cases x; exact .bl b
  | .int i, _, _, x => by cases x; exact .int i
  | .str y, _, _, x => by cases x; exact .str y
  | .tuple ds, v, hn, x => by
    obtain ⟨p, ys, rfl, hl, ha⟩ := rp_tup x
    rw [nl] at hn
    exact .tup (h _ _ hl) (rpAll_tups h ds ys hn ha)
  | .list ds, v, hn, x => by rw [nl] at hn; cases hn
  | .dict _, _, _, x => by cases x
theorem rpAll_tups (h : ∀ a ys, F a = some (.tup ys) → F' a = some (.tup ys)) : ∀ (ds : List PyData) (vs : List V), nlL ds = true → RpAll K F vs ds → RpAll K F' vs ds
  | [], _, _, x => by cases x; exact .nil
  | d :: ds, _, hn, x => by
    rw [nlL, Bool.and_eq_true] at hn
    cases x with
    | cons x1 x2 => exact .cons (rp_tups h d _ hn.1 x1) (rpAll_tups h ds _ hn.2 x2)
end
end
/-- what is one's own: each stands in the heap as told, and nothing that is shared knows of it -/
structure Own (pt : Option Pt) (F0 H0 F H : Hp) (L : List Own1) : Prop where
  step : Step pt F0 H0 F H
  nd : (L.map (·.1)).Nodup
  off : ∀ p ∈ L, F p.1 = none ∧ H0 p.1 = none ∧ H p.1 = some p.2 ∧ ∀ ys, p.2 ≠ .tup ys
section
variable {K : PySem.W.Frag} {pt : Option Pt} {σ : L2.St} {F0 H0 F H F' F2 H2 : Hp} {te ta tb : TE} {t : TT} {R : PD} {D : Ends} {tz tu tw : TS} {wi : TI} {L L' : List Own1} {a : Addr} {o o' : HO} {Φ : V → Hp → Prop}
theorem Own.nil (s : Step pt F0 H0 F H) : Own pt F0 H0 F H [] := ⟨s, List.nodup_nil, fun _ h => by cases h⟩
theorem Own.run (g0 : Good pt F0 H0) (w : Own pt F0 H0 F H L) (s : Step pt F H F2 H2) : Own pt F0 H0 F2 H2 L := ⟨w.step.trans s, w.nd, fun p hp => by
  obtain ⟨f, h0, h, tn⟩ := w.off p hp
  exact ⟨s.new p.1 f ⟨p.2, h, tn⟩, h0, s.keep _ _ (fun q hq => (off_pot g0 h0 q hq).1) h, tn⟩⟩
theorem Own.new (w : Own pt F0 H0 F H L) (h : H a = none) (tn : ∀ ys, o ≠ .tup ys) : Own pt F0 H0 F (upd H a o) (L ++ [(a, o)]) := by
  have h0 : H0 a = none := w.step.back a h
  have fa : F a = none := not_in w.step.inn h
  refine ⟨w.step.trans (.litter w.step.inn w.step.good h), ?_, fun p hp => ?_⟩
  · rw [List.map_append, List.nodup_append]
    refine ⟨w.nd, by simp, fun x hx y hy => ?_⟩
    obtain ⟨p, hp, rfl⟩ := List.mem_map.mp hx
    rw [List.mem_singleton.mp hy]
    intro z
    have := (w.off p hp).2.2.1
    rw [z] at this
    dsimp only at this
    rw [h] at this; cases this
  · rcases List.mem_append.mp hp with z | z
    · obtain ⟨f, h0', h', tn'⟩ := w.off p z
      have ne : p.1 ≠ a := fun e => by rw [e, h] at h'; cases h'
      exact ⟨f, h0', by rw [upd_ne ne]; exact h', tn'⟩
    · rw [List.mem_singleton.mp z]
      exact ⟨fa, h0, upd_same, tn⟩
theorem Own.get {k : Nat} (w : Own pt F0 H0 F H L) (hk : L[k]? = some (a, o)) : F a = none ∧ H0 a = none ∧ H a = some o := by
  obtain ⟨x, y, z, _⟩ := w.off _ (List.mem_of_getElem? hk)
  exact ⟨x, y, z⟩
theorem Own.put (g0 : Good pt F0 H0) (w : Own pt F0 H0 F H L) (k : Nat) (hk : L[k]? = some (a, o)) (tn : ∀ ys, o' ≠ .tup ys) : Own pt F0 H0 F (upd H a o') (L.set k (a, o')) := by
  obtain ⟨fa, h0, ha, _⟩ := w.off _ (List.mem_of_getElem? hk)
  have e1 : (L.set k (a, o')).map (·.1) = L.map (·.1) := by
    rw [List.map_set]
    apply List.ext_getElem?
    intro i
    by_cases z : k = i
    · subst z
      have hl := (List.getElem?_eq_some_iff.mp hk).1
      rw [List.getElem?_set_self (by rw [List.length_map]; exact hl), List.getElem?_map, hk]; rfl
    · rw [List.getElem?_set_ne z]
  refine ⟨w.step.put g0 h0 fa, by rw [e1]; exact w.nd, fun p hp => ?_⟩
  obtain ⟨i, hi⟩ := List.mem_iff_getElem?.mp hp
  by_cases z : k = i
  · subst z
    have hl := (List.getElem?_eq_some_iff.mp hk).1
    rw [List.getElem?_set_self hl] at hi
    obtain rfl := Option.some.inj hi
    exact ⟨fa, h0, upd_same, tn⟩
  · rw [List.getElem?_set_ne z] at hi
    obtain ⟨f, h0', h', tn'⟩ := w.off p (List.mem_of_getElem? hi)
    have ne : p.1 ≠ a := fun e => by
      have h1 : (L.map (·.1))[i]? = some a := by rw [List.getElem?_map, hi, ← e]; rfl
      have h2 : (L.map (·.1))[k]? = some a := by rw [List.getElem?_map, hk]; rfl
      have hl1 := (List.getElem?_eq_some_iff.mp h1)
      have hl2 := (List.getElem?_eq_some_iff.mp h2)
      obtain ⟨l1, e1⟩ := hl1
      obtain ⟨l2, e2⟩ := hl2
      exact z ((List.getElem_inj (h₀ := l2) (h₁ := l1) w.nd).mp (e2.trans e1.symm))
    exact ⟨f, h0', by rw [upd_ne ne]; exact h', tn'⟩
/-- some of it seen as if it were shared; what comes of it, without those again -/
theorem Own.fixS (g0 : Good pt F0 H0) (w : Own pt F0 H0 F H L) (nd' : (L'.map (·.1)).Nodup) (sub : ∀ p ∈ L', p ∈ L) :
    Ex F (putAll L' F) ∧ Ex (putAll L' F) H ∧ Good pt (putAll L' F) H ∧ ∀ F2 H2, Step pt (putAll L' F) H F2 H2 → Own pt F0 H0 (delAll L' F2) H2 L ∧ Ex F (delAll L' F2) ∧ (∀ a ys, F2 a = some (.tup ys) → delAll L' F2 a = some (.tup ys)) ∧ ∀ p ∈ L', F2 p.1 = some p.2 := by
  have ne : ∀ {b : Addr} {u : HO}, F b = some u → ∀ p ∈ L', p.1 ≠ b := fun {b u} hb p hp e => by
    have := (w.off p (sub p hp)).1
    rw [e, hb] at this; cases this
  have e1 : Ex F (putAll L' F) := fun b u hb => by rw [putAll_off (ne hb)]; exact hb
  have e2 : Ex (putAll L' F) H := fun b u hb => by
    rcases putAll_in hb with ⟨p, hp, rfl, rfl⟩ | h
    · exact (w.off p (sub p hp)).2.2.1
    · exact w.step.inn _ _ h
  refine ⟨e1, e2, fun q hq => ?_, fun F2 H2 s => ?_⟩
  · obtain ⟨f, pa⟩ := w.step.good q hq
    exact ⟨by rw [putAll_off fun p hp => (off_pot g0 (w.off p (sub p hp)).2.1 q hq).1]; exact f, pa⟩
  · have at2 : ∀ p ∈ L', F2 p.1 = some p.2 := fun p hp => s.sub _ _ (putAll_at nd' hp)
    have e3 : Ex F (delAll L' F2) := fun b u hb => by rw [delAll_off (ne hb)]; exact s.sub _ _ (e1 _ _ hb)
    have tp : ∀ a ys, F2 a = some (.tup ys) → delAll L' F2 a = some (.tup ys) := fun b ys hb => by
      rw [delAll_off fun p hp e => ?_]; exact hb
      have h1 := at2 p hp
      rw [e, hb] at h1
      exact (w.off p (sub p hp)).2.2.2 ys (Option.some.inj h1).symm
    have off : ∀ p ∈ L, delAll L' F2 p.1 = none := fun p hp => by
      by_cases z : ∃ p' ∈ L', p'.1 = p.1
      · obtain ⟨p', hp', e⟩ := z
        rw [← e]; exact delAll_at hp'
      · have zn : ∀ p' ∈ L', p'.1 ≠ p.1 := fun p' hp' e => z ⟨p', hp', e⟩
        obtain ⟨f, h0, h, tn⟩ := w.off p hp
        exact delAll_none (s.new p.1 (by rw [putAll_off zn]; exact f) ⟨p.2, h, tn⟩)
    refine ⟨⟨⟨w.step.sub.trans e3, delAll_ex.trans s.inn, w.step.keep.trans s.keep, s.good.less delAll_ex, fun b hb hb0 => ?_⟩, w.nd, fun p hp => ?_⟩, e3, tp, at2⟩
    · have f := w.step.new b hb hb0
      have lo := w.step.keep.loose w.step.good hb0
      obtain ⟨u, hu, _⟩ := hb0
      have zn : ∀ p' ∈ L', p'.1 ≠ b := fun p' hp' e => by
        have := (w.off p' (sub p' hp')).2.1
        rw [e, hu] at this; cases this
      exact delAll_none (s.new b (by rw [putAll_off zn]; exact f) lo)
    · obtain ⟨f, h0, h, tn⟩ := w.off p hp
      exact ⟨off p hp, h0, s.keep _ _ (fun q hq => (off_pot g0 h0 q hq).1) h, tn⟩
/-- some of it is shared from now on -/
theorem Own.cut (g0 : Good pt F0 H0) {L1 L2 : List Own1} (w : Own pt F0 H0 F H L) (nd' : (L1.map (·.1) ++ L2.map (·.1)).Nodup) (s1 : ∀ p ∈ L1, p ∈ L) (s2 : ∀ p ∈ L2, p ∈ L) : Own pt F0 H0 (putAll L1 F) H L2 ∧ Ex F (putAll L1 F) := by
  have n1 := (List.nodup_append.mp nd').1
  have n2 := (List.nodup_append.mp nd').2.1
  have n3 := (List.nodup_append.mp nd').2.2
  obtain ⟨e1, e2, gd, _⟩ := w.fixS g0 n1 s1
  refine ⟨⟨⟨w.step.sub.trans e1, e2, w.step.keep, gd, fun b hb hb0 => ?_⟩, n2, fun p hp => ?_⟩, e1⟩
  · have f := w.step.new b hb hb0
    obtain ⟨u, hu, _⟩ := hb0
    rw [putAll_off fun p' hp' e => ?_]; exact f
    have := (w.off p' (s1 p' hp')).2.1
    rw [e, hu] at this; cases this
  · obtain ⟨f, h0, h, tn⟩ := w.off p (s2 p hp)
    exact ⟨by rw [putAll_off fun p' hp' e => n3 _ (List.mem_map_of_mem hp') _ (List.mem_map_of_mem hp) e]; exact f, h0, h, tn⟩
theorem Own.done (g0 : Good pt F0 H0) (w : Own pt F0 H0 F H L) : ∃ F2, Step pt F0 H0 F2 H ∧ Ex F F2 ∧ ∀ p ∈ L, F2 p.1 = some p.2 := by
  obtain ⟨c, e⟩ := w.cut (L1 := L) (L2 := []) g0 (by simpa using w.nd) (fun _ h => h) (fun _ h => by cases h)
  exact ⟨_, c.step, e, fun p hp => putAll_at w.nd hp⟩
/-! statements -/
/-- x = e, e reads nothing of one's own -/
theorem t_asgF {i : Nat} (g0 : Good pt F0 H0) (w : Own pt F0 H0 F H L) (h : EvG K pt te σ F R) (q : ∀ d v F2 H2, R d → Own pt F0 H0 F2 H2 L → Ex F F2 → Rp K F2 v d → tz D (σ.set i (some v)) H2) : tSeq (tAsg te (gName i)) tz D σ H :=
  h H w.step.inn w.step.good _ fun d v F2 H2 hd s hv => q d v F2 H2 hd (w.run g0 s) s.sub hv
/-- x = e, e reads what is one's own; its value has no list -/
theorem t_asgO {i : Nat} (g0 : Good pt F0 H0) (w : Own pt F0 H0 F H L) (h : EvG K pt te σ (putAll L F) R) (hn : ∀ d, R d → nl d = true) (q : ∀ d v F2 H2, R d → Own pt F0 H0 F2 H2 L → Ex F F2 → Rp K F2 v d → tz D (σ.set i (some v)) H2) : tSeq (tAsg te (gName i)) tz D σ H := by
  obtain ⟨e1, e2, gd, back⟩ := w.fixS g0 w.nd (fun _ h => h)
  refine h H e2 gd _ fun d v F2 H2 hd s hv => ?_
  obtain ⟨w2, e3, tp, _⟩ := back F2 H2 s
  exact q d v _ H2 hd w2 e3 (rp_tups tp d v (hn d hd) hv)
theorem t_ifO {b : Bool} (g0 : Good pt F0 H0) (w : Own pt F0 H0 F H L) (h : EtG pt t σ (putAll L F) (· = b)) (h1 : b = true → ∀ F2 H2, Own pt F0 H0 F2 H2 L → Ex F F2 → tu { D with nx := tz D } σ H2) (h2 : b = false → ∀ F2 H2, Own pt F0 H0 F2 H2 L → Ex F F2 → tw { D with nx := tz D } σ H2) : tSeq (tIfS t tu tw) tz D σ H := by
  obtain ⟨e1, e2, gd, back⟩ := w.fixS g0 w.nd (fun _ h => h)
  refine h H e2 gd _ fun c F2 H2 hc s => ?_
  obtain ⟨w2, e3, _, _⟩ := back F2 H2 s
  cases c with
  | true => rw [if_pos rfl]; exact h1 hc.symm _ _ w2 e3
  | false => rw [if_neg (by simp)]; exact h2 hc.symm _ _ w2 e3
theorem t_ifO1 {b : Bool} (g0 : Good pt F0 H0) (w : Own pt F0 H0 F H L) (h : EtG pt t σ (putAll L F) (· = b)) (h1 : b = true → ∀ F2 H2, Own pt F0 H0 F2 H2 L → Ex F F2 → tu D σ H2) (h2 : b = false → ∀ F2 H2, Own pt F0 H0 F2 H2 L → Ex F F2 → tw D σ H2) : tIfS t tu tw D σ H := by
  obtain ⟨e1, e2, gd, back⟩ := w.fixS g0 w.nd (fun _ h => h)
  refine h H e2 gd _ fun c F2 H2 hc s => ?_
  obtain ⟨w2, e3, _, _⟩ := back F2 H2 s
  cases c with
  | true => rw [if_pos rfl]; exact h1 hc.symm _ _ w2 e3
  | false => rw [if_neg (by simp)]; exact h2 hc.symm _ _ w2 e3
end
end Fv
/-! != by a class's own __eq__; sorted(set(x)), x a list or a tuple of numbers -/
namespace L2
open PySem PySem.Spec PyProof.Rows Evl
open Sem (wp)
end L2
namespace Fv
open PySem PySem.Spec PyProof.Rows L2 Evl StX
end Fv
/-! lists and dicts among what is one's own -/
namespace Fv
open PySem PySem.Spec PyProof.Rows L2 Evl StX
/-- a list of one's own holds this -/
def LstO (K : PySem.W.Frag) (F : Hp) (o : HO) (ds : List PyData) : Prop := ∃ acc, o = .lst acc ∧ RpAll K F acc ds
/-- a dict of one's own, its keys data, holds this -/
structure DctO (P : Program) (w : World) (K : PySem.W.Frag) (F : Hp) (D : Addr) (o : HO) (xs : List NEnt) : Prop where
  low : (D == sysModules) = false
  ex : ∃ ob, o = rawO D ob ∧ DNo P w ob xs
  keys : ∀ x ∈ xs, KeyOk K F x.1 x.2.1
section
variable {P : Program} {w : World} {K : PySem.W.Frag} {pt : Option Pt} {σ : L2.St} {F0 H0 F H F' F2 H2 : Hp} {te ta tb ty : TE} {ts : TA} {t : TT} {R : PD} {D : Ends} {tz tu tw : TS} {wi : TI} {L : List Own1} {a l : Addr} {o o' : HO} {xs : List NEnt} {ds : List PyData}
theorem LstO.mono (e : Ex F F') (h : LstO K F o ds) : LstO K F' o ds := by
  obtain ⟨acc, e1, r⟩ := h
  exact ⟨acc, e1, RpAll.mono e _ _ r⟩
theorem DctO.mono (e : Ex F F') (h : DctO P w K F a o xs) : DctO P w K F' a o xs := ⟨h.low, h.ex, fun x hx => (h.keys x hx).mono e⟩
theorem DctO.nd (h : DctO P w K F a o xs) (hl : F a = some o) : ND P w K F a xs := by
  obtain ⟨ob, rfl, d⟩ := h.ex
  exact ⟨h.low, ⟨ob, hl, d⟩, h.keys⟩
/-- what is one's own, put among what is seen -/
theorem Own.see {k : Nat} (w : Own pt F0 H0 F H L) (hk : L[k]? = some (a, o)) : putAll L F a = some o := putAll_at w.nd (List.mem_of_getElem? hk)
theorem Own.seeEx (g0 : Good pt F0 H0) (w : Own pt F0 H0 F H L) : Ex F (putAll L F) := (w.fixS g0 w.nd fun _ h => h).1
/-- xs.append(e) -/
theorem t_appO1 {i : Nat} (k : Nat) (g0 : Good pt F0 H0) (w : Own pt F0 H0 F H L) (hk : L[k]? = some (l, o)) (lo : LstO K F o ds) (hi : σ[i]? = some (some (.ref l))) (h : EvG K pt te σ F R) (hz : ds.length < 100000)
    (q : ∀ d o2 F2 H2, R d → Own pt F0 H0 F2 H2 (L.set k (l, o2)) → LstO K F2 o2 (ds ++ [d]) → Ex F F2 → D.nx σ H2) : tDrop (tBM K "list" rAppend (tVar i) (tCons te tNil)) D σ H := by
  obtain ⟨acc, rfl, r⟩ := lo
  refine ⟨.ref l, hi, .inl ⟨rfl, acc, sq_of (w.get hk).2.2⟩, h H w.step.inn w.step.good _ fun d v F2 H2 hd s hv => ?_⟩
  have w2 := w.run g0 s
  have r2 := RpAll.mono s.sub _ _ r
  exact ⟨l, acc, v, rfl, rfl, (w2.get hk).2.2, sz_lt (by rw [r2.length]; exact hz), q d (.lst (acc ++ [v])) F2 _ hd (w2.put g0 k hk fun ys z => by cases z) ⟨_, rfl, r2.append (.one hv)⟩ s.sub⟩
/-- a loop over a list of data that is left off where one likes; what is one's own goes with it -/
theorem t_forO {j : Nat} {RS : List PyData → Prop} (g0 : Good pt F0 H0) (w : Own pt F0 H0 F H L) (hw : WiG K pt wi σ F RS) (I : List PyData → Nat → L2.St → Hp → List Own1 → Prop) (h0 : ∀ ds, RS ds → ∀ F1, Ex F F1 → I ds 0 σ F1 L)
    (hs : ∀ ds, RS ds → ∀ i d, ds[i]? = some d → ∀ σ' F' H' L' x, I ds i σ' F' L' → Own pt F0 H0 F' H' L' → Ex F F' → Rp K F' x d →
      ∀ N : L2.St → Hp → Prop, (∀ σ2 F2 H2 L2, I ds (i + 1) σ2 F2 L2 → Own pt F0 H0 F2 H2 L2 → Ex F' F2 → N σ2 H2) → tu { D with nx := N, ct := N, bk := tz D } (σ'.set j (some x)) H')
    (hd : ∀ ds, RS ds → ∀ σ' F' H' L', I ds ds.length σ' F' L' → Own pt F0 H0 F' H' L' → Ex F F' → tz D σ' H') : tSeq (tFor wi (gName j) tu) tz D σ H :=
  hw H w.step.inn w.step.good _ fun ds' J F1 H1 e s1 Y => by
    refine ⟨fun i m σ' H' => m = ds'.length - i ∧ i ≤ ds'.length ∧ ∃ F' L', I ds' i σ' F' L' ∧ Own pt F0 H0 F' H' L' ∧ Ex F1 F', ⟨ds'.length, by simp, Nat.zero_le _, F1, L, h0 ds' e F1 s1.sub, w.run g0 s1, Ex.refl _⟩, ?_⟩
    rintro i m σ' H' ⟨rfl, hil, F', L', p, w', e'⟩
    have eH : Ex F1 H' := e'.trans w'.step.inn
    by_cases hlt : i < ds'.length
    · refine .inr ⟨Y.go i H' eH hlt, fun σ2 H2 => ∃ F2 L2, I ds' (i + 1) σ2 F2 L2 ∧ Own pt F0 H0 F2 H2 L2 ∧ Ex F1 F2, fun σ2 H2 ⟨F2, L2, a, c, b⟩ => ⟨ds'.length - (i + 1), by omega, rfl, hlt, F2, L2, a, c, b⟩, fun x H2 y => ?_⟩
      obtain ⟨rfl, d, hdd, hx⟩ := Y.yld i H' x H2 eH hlt y
      exact hs ds' e i d hdd σ' F' _ L' x p w' (s1.sub.trans e') (Rp.mono e' _ _ hx) _ fun σ2 F2 H2 L2 a c b => ⟨F2, L2, a, c, e'.trans b⟩
    · have hE : i = ds'.length := Nat.le_antisymm hil (Nat.le_of_not_lt hlt)
      subst hE
      exact .inl ⟨Y.stop H' eH, hd ds' e σ' F' H' L' p w' (s1.sub.trans e')⟩
end
end Fv
/-! isinstance of a caught error that has fields, any answer -/
namespace Fv
open PySem PySem.Spec PySem.Calls PySem.W PyProof.Rows
end Fv
namespace L2
open PySem PySem.Spec PyProof.Rows
end L2
namespace Fv
open PySem PySem.Spec PyProof.Rows L2 Evl StX
end Fv
/-! walking a list while an error is handled -/
namespace Fv
open PySem PySem.Spec PyProof.Rows L2 L2H Evl StX HotX
end Fv
/-! == by a class's own __eq__ with something of another class; a comprehension over tuples taken apart; instances whose fields are rows of whole numbers -/
namespace L2
open PySem PySem.Spec PyProof.Rows Evl
end L2
namespace Fv
open PySem PySem.Spec PyProof.Rows L2 Evl StX
section
variable {K : PySem.W.Frag} {w : World} {pt : Option Pt} {σ : L2.St} {F F' F0 H0 H F2 H2 : Hp} {te ti ta tb : TE} {ts tr : TA} {t : TT} {R : PD} {D : Ends} {tz tu : TS} {wi : TI} {l x : Addr}
/-! instances with rows -/
structure InsR (K : PySem.W.Frag) (C : Addr) (F : Hp) (x : Addr) (fs : List (Str × List Int)) : Prop where
  ex : ∃ dx vs, F x = some (.ins C dx ((fs.map (·.1)).zip vs)) ∧ F dx = some (.own x) ∧ RpAll K F vs (fs.map fun p => dT p.2)
theorem InsR.mono {C : Addr} {fs : List (Str × List Int)} (h : InsR K C F x fs) (e : Ex F F') : InsR K C F' x fs := by
  obtain ⟨dx, vs, h1, h2, h3⟩ := h.ex
  exact ⟨dx, vs, e _ _ h1, e _ _ h2, RpAll.mono e _ _ h3⟩
end
end Fv
namespace Fv
open PySem PySem.Spec PyProof.Rows L2 Evl StX
end Fv
namespace L2
open PySem PySem.Spec PyProof.Rows Evl
end L2
namespace Fv
open PySem PySem.Spec PyProof.Rows L2 Evl StX
end Fv
/-! objects that change: what is handed to a def and comes back changed; fields written; makers of such objects -/
namespace Fv
open PySem PySem.Spec PyProof.Rows L2 Evl StX
section
variable {K : PySem.W.Frag} {pt : Option Pt} {σ : L2.St} {F F' F0 H0 H F2 H2 : Hp} {te ti ta tb : TE} {ts : TA} {t : TT} {R : PD} {D : Ends} {tz tu tw : TS} {L L' L2 LR LQ : List Own1} {a x dx l : Addr} {o o' : HO} {fs : List (Str × V)} {f : Str} {C : Addr}
/-- what is handed over: it stands in the heap, out of the frozen part -/
structure OwnIn (F H : Hp) (L : List Own1) : Prop where
  inn : Ex F H
  nd : (L.map (·.1)).Nodup
  off : ∀ p ∈ L, F p.1 = none ∧ H p.1 = some p.2 ∧ ∀ ys, p.2 ≠ .tup ys
theorem OwnIn.start (w : OwnIn F H L) : Own none F (delAll L H) F H L := ⟨⟨Ex.refl F, w.inn, Keep.of delAll_ex, .nil, New.refl F _⟩, w.nd, fun p hp => by
  obtain ⟨h1, h2, h3⟩ := w.off p hp
  exact ⟨h1, delAll_at hp, h2, h3⟩⟩
theorem Own.to (w : Own pt F0 H0 F H LR) (nd : (L.map (·.1)).Nodup) (s : ∀ p ∈ L, p ∈ LR) : OwnIn F H L := ⟨w.step.inn, nd, fun p hp => by
  obtain ⟨h1, _, h2, h3⟩ := w.off p (s p hp)
  exact ⟨h1, h2, h3⟩⟩
theorem Own.less (w : Own pt F0 H0 F H LR) (nd : (L.map (·.1)).Nodup) (s : ∀ p ∈ L, p ∈ LR) : Own pt F0 H0 F H L := ⟨w.step, nd, fun p hp => w.off p (s p hp)⟩
/-- a call that was handed L of it -/
theorem Own.call (g0 : Good pt F0 H0) (w : Own pt F0 H0 F H LR) (sL : ∀ p ∈ L, p ∈ LR) (sR : ∀ p ∈ LQ, p ∈ LR) (nd : (L.map (·.1) ++ LQ.map (·.1)).Nodup) (c : Own none F (delAll L H) F2 H2 L2) : Own pt F0 H0 F2 H2 (L2 ++ LQ) ∧ Ex F F2 := by
  have nd1 := (List.nodup_append.mp nd).1
  have nd2 := (List.nodup_append.mp nd).2.1
  have nd3 := (List.nodup_append.mp nd).2.2
  -- what stood before and isn't handed over stands still
  have still : ∀ b u, (∀ p ∈ L, p.1 ≠ b) → H b = some u → H2 b = some u := fun b u hb hu => c.step.keep.ex b u (by rw [delAll_off hb]; exact hu)
  have h0L : ∀ {b : Addr} {u : HO}, H0 b = some u → ∀ p ∈ L, p.1 ≠ b := fun {b u} hb p hp e => by
    have := (w.off p (sL p hp)).2.1
    rw [e, hb] at this; cases this
  have potL : ∀ q, pt = some q → (∀ p ∈ L, p.1 ≠ q.p) ∧ ∀ p ∈ L, p.1 ≠ q.l := fun q hq => ⟨fun p hp e => (off_pot g0 (w.off p (sL p hp)).2.1 q hq).1 e, fun p hp e => (off_pot g0 (w.off p (sL p hp)).2.1 q hq).2 e⟩
  have good2 : Good pt F2 H2 := fun q hq => by
    obtain ⟨f1, pa⟩ := w.step.good q hq
    obtain ⟨q1, q2⟩ := potL q hq
    obtain ⟨i1, i2, i3, hp, hb⟩ := pa.ex
    have s1 := still _ _ q1 hp
    have s2 := still _ _ q2 pa.ls
    exact ⟨c.step.new q.p f1 ⟨_, by rw [delAll_off q1]; exact hp, fun ys z => by cases z⟩, ⟨pa.ne, s2, pa.few, i1, i2, i3, s1, hb⟩⟩
  have keep2 : Keep pt H0 H2 := fun b u nb hb => still b u (h0L hb) (w.step.keep b u nb hb)
  have new2 : New F0 H0 F2 := fun b hb hu => by
    have fb := w.step.new b hb hu
    obtain ⟨u, hu1, hu2⟩ := hu
    by_cases z : ∃ q, pt = some q ∧ b = q.p
    · obtain ⟨q, hq, rfl⟩ := z
      exact (good2 q hq).1
    · have hH := w.step.keep b u (fun q hq e => z ⟨q, hq, e⟩) hu1
      exact c.step.new b fb ⟨u, by rw [delAll_off (h0L hu1)]; exact hH, hu2⟩
  refine ⟨⟨⟨w.step.sub.trans c.step.sub, c.step.inn, keep2, good2, new2⟩, ?_, fun p hp => ?_⟩, c.step.sub⟩
  · rw [List.map_append, List.nodup_append]
    refine ⟨c.nd, nd2, fun b hb d hd e => ?_⟩
    obtain ⟨p, hp, rfl⟩ := List.mem_map.mp hb
    obtain ⟨r, hr, rfl⟩ := List.mem_map.mp hd
    have h1 := (c.off p hp).2.1
    have h2 := (w.off r (sR r hr)).2.2.1
    have h3 : ∀ p' ∈ L, p'.1 ≠ r.1 := fun p' hp' e' => nd3 _ (List.mem_map_of_mem hp') _ (List.mem_map_of_mem hr) e'
    rw [e, delAll_off h3, h2] at h1; cases h1
  · rcases List.mem_append.mp hp with z | z
    · obtain ⟨h1, h2, h3, h4⟩ := c.off p z
      refine ⟨h1, ?_, h3, h4⟩
      cases e : H0 p.1 with
      | none => rfl
      | some u =>
        by_cases y : ∃ q, pt = some q ∧ p.1 = q.p
        · obtain ⟨q, hq, e2⟩ := y
          have pa := (w.step.good q hq).2
          rw [e2, delAll_off (potL q hq).1] at h2
          exact absurd h2 pa.some
        · have hH := w.step.keep p.1 u (fun q hq e' => y ⟨q, hq, e'⟩) e
          rw [delAll_off (h0L e), hH] at h2; cases h2
    · obtain ⟨h1, h2, h3, h4⟩ := w.off p (sR p z)
      have h5 : ∀ p' ∈ L, p'.1 ≠ p.1 := fun p' hp' e' => nd3 _ (List.mem_map_of_mem hp') _ (List.mem_map_of_mem z) e'
      exact ⟨c.step.new p.1 h1 ⟨p.2, by rw [delAll_off h5]; exact h3, h4⟩, h2, still _ _ h5 h3, h4⟩
/-- x.f = e, x one's own; e may read what is one's own -/
theorem t_fldO1 {i : Nat} (k : Nat) (g0 : Good pt F0 H0) (w : Own pt F0 H0 F H L) (hk : L[k]? = some (x, .ins C dx fs)) (hi : σ[i]? = some (some (.ref x))) (cl : Cls K C) (na : NoAttr K C f) (hz : fs.length < 1000) (h : EvG K pt te σ (putAll L F) R) (hn : ∀ d, R d → nl d = true)
    (q : ∀ d v F2 H2, R d → Own pt F0 H0 F2 H2 (L.set k (x, .ins C dx (putF f v fs))) → Ex F F2 → Rp K F2 v d → D.nx σ H2) : sFld K (tVar i) te f D σ H := by
  obtain ⟨e1, e2, gd, back⟩ := w.fixS g0 w.nd (fun _ h => h)
  refine h H e2 gd _ fun d v F2 H2 hd s hv => ?_
  obtain ⟨w2, e3, tp, _⟩ := back F2 H2 s
  exact ⟨.ref x, hi, x, C, dx, fs, rfl, (w2.get hk).2.2, cl, na, hz, q d v _ _ hd (w2.put g0 k hk fun ys z => by cases z) e3 (rp_tups tp d v (hn d hd) hv)⟩
theorem t_fldO {i : Nat} (k : Nat) (g0 : Good pt F0 H0) (w : Own pt F0 H0 F H L) (hk : L[k]? = some (x, .ins C dx fs)) (hi : σ[i]? = some (some (.ref x))) (cl : Cls K C) (na : NoAttr K C f) (hz : fs.length < 1000) (h : EvG K pt te σ (putAll L F) R) (hn : ∀ d, R d → nl d = true)
    (q : ∀ d v F2 H2, R d → Own pt F0 H0 F2 H2 (L.set k (x, .ins C dx (putF f v fs))) → Ex F F2 → Rp K F2 v d → tz D σ H2) : tSeq (sFld K (tVar i) te f) tz D σ H :=
  t_fldO1 (D := { D with nx := tz D }) k g0 w hk hi cl na hz h hn q
/-- x.f = [None] * n, the list one's own too -/
theorem t_fldRepO1 {i n : Nat} (k : Nat) (g0 : Good pt F0 H0) (w : Own pt F0 H0 F H L) (hk : L[k]? = some (x, .ins C dx fs)) (hi : σ[i]? = some (some (.ref x))) (cl : Cls K C) (na : NoAttr K C f) (hz : fs.length < 1000) (h : EvG K pt te σ F (Is (.int (n : Int)))) (hn : n ≤ 1000)
    (q : ∀ l F2 H2, Own pt F0 H0 F2 H2 (L.set k (x, .ins C dx (putF f (.ref l) fs)) ++ [(l, .lst (List.replicate n V.non))]) → Ex F F2 → D.nx σ H2) : sFld K (tVar i) (tOp rRep (tLst (tCons (tC .non) tNil)) te) f D σ H := by
  refine ⟨by show 1 ≤ _; decide, fun p hp => ?_⟩
  have w1 := w.new hp (o := .lst [V.non]) fun ys z => by cases z
  refine h _ w1.step.inn w1.step.good _ fun d v F2 H2 hd s hv => ?_
  subst hd
  obtain rfl := rp_int hv
  have w2 := w1.run g0 s
  have hpl : (L ++ [(p, HO.lst [V.non])])[L.length]? = some (p, .lst [V.non]) := by simp
  refine ⟨p, n, [V.non], rfl, rfl, (w2.get hpl).2.2, by omega, by omega, by rw [show ((n : Int)).toNat = n by omega]; exact Nat.le_trans (by simp; exact hn) (show 1000 ≤ sizeLine by decide), fun l hl => ?_⟩
  have e1 : (List.replicate ((n : Int)).toNat [V.non]).flatten = List.replicate n V.non := by
    rw [show ((n : Int)).toNat = n by omega]
    exact flat_one V.non n
  rw [e1]
  have w3 := (w2.less (L := L) w.nd fun p hp => List.mem_append_left _ hp).new hl (o := .lst (List.replicate n V.non)) fun ys z => by cases z
  have hk3 : (L ++ [(l, HO.lst (List.replicate n V.non))])[k]? = some (x, .ins C dx fs) := by
    rw [List.getElem?_append_left (List.getElem?_eq_some_iff.mp hk).1]; exact hk
  have w4 := w3.put g0 k hk3 (o' := .ins C dx (putF f (.ref l) fs)) fun ys z => by cases z
  refine ⟨.ref x, hi, x, C, dx, fs, rfl, (w3.get hk3).2.2, cl, na, hz, q l F2 _ ?_ s.sub⟩
  have e2 : (L ++ [(l, HO.lst (List.replicate n V.non))]).set k (x, .ins C dx (putF f (.ref l) fs)) = L.set k (x, .ins C dx (putF f (.ref l) fs)) ++ [(l, .lst (List.replicate n V.non))] := List.set_append_left _ _ (List.getElem?_eq_some_iff.mp hk).1
  rw [e2] at w4; exact w4
end
end Fv
namespace Fv
open PySem PySem.Spec PyProof.Rows L2 Evl StX
section
variable {K : PySem.W.Frag} {pt : Option Pt} {σ : L2.St} {F F' F0 H0 H F2 H2 : Hp} {te ti ta tb : TE} {ts : TA} {t : TT} {R : PD} {D : Ends} {tz tu tw : TS} {L L' L2 LR LQ : List Own1} {a x dx l : Addr} {o o' : HO} {fs : List (Str × V)} {f : Str} {C : Addr}
/-- an expression that may read what is one's own, its value not kept -/
theorem t_dropO (g0 : Good pt F0 H0) (w : Own pt F0 H0 F H L) (h : EvG K pt te σ (putAll L F) R) (q : ∀ F2 H2, Own pt F0 H0 F2 H2 L → Ex F F2 → tz D σ H2) : tSeq (tDrop te) tz D σ H := by
  obtain ⟨e1, e2, gd, back⟩ := w.fixS g0 w.nd (fun _ h => h)
  refine h H e2 gd _ fun d v F2 H2 hd s hv => ?_
  obtain ⟨w2, e3, _, _⟩ := back F2 H2 s
  exact q _ H2 w2 e3
/-- return e, e may read what is one's own; the value has no list -/
theorem t_retO (g0 : Good pt F0 H0) (w : Own pt F0 H0 F H L) (h : EvG K pt te σ (putAll L F) R) (hn : ∀ d, R d → nl d = true) (q : ∀ d v F2 H2, R d → Own pt F0 H0 F2 H2 L → Ex F F2 → Rp K F2 v d → D.rt v H2) : tRet te D σ H := by
  obtain ⟨e1, e2, gd, back⟩ := w.fixS g0 w.nd (fun _ h => h)
  refine h H e2 gd _ fun d v F2 H2 hd s hv => ?_
  obtain ⟨w2, e3, tp, _⟩ := back F2 H2 s
  exact q d v _ H2 hd w2 e3 (rp_tups tp d v (hn d hd) hv)
/-- x.f[i] = e, the list at x.f one's own -/
theorem t_setFldO1 {i j : Nat} {vs : List V} (kx kl : Nat) (g0 : Good pt F0 H0) (w : Own pt F0 H0 F H L) (hkx : L[kx]? = some (x, .ins C dx fs)) (hkl : L[kl]? = some (l, .lst vs)) (hi : σ[i]? = some (some (.ref x))) (cl : Cls K C) (na : NoAttr K C f) (hf : fs.lookup f = some (.ref l))
    (h : EvG K pt te σ (putAll L F) R) (hn : ∀ d, R d → nl d = true) (hj : EvG K pt ti σ F (Is (.int (j : Int)))) (lt : j < vs.length)
    (q : ∀ d v F2 H2, R d → Own pt F0 H0 F2 H2 (L.set kl (l, .lst (vs.set j v))) → Ex F F2 → Rp K F2 v d → D.nx σ H2) : tAsg te (gSub (tFld K (tVar i) f) ti rSetL) D σ H := by
  obtain ⟨e1, e2, gd, back⟩ := w.fixS g0 w.nd (fun _ h => h)
  refine h H e2 gd _ fun d v F2 H2 hd s hv => ?_
  obtain ⟨w2, e3, tp, _⟩ := back F2 H2 s
  have hv2 := rp_tups tp d v (hn d hd) hv
  refine ⟨.ref x, hi, x, C, dx, fs, _, rfl, (w2.get hkx).2.2, cl, na, hf, ?_⟩
  refine hj.mono e3 H2 w2.step.inn w2.step.good _ fun d2 v2 F3 H3 hd2 s3 hv3 => ?_
  subst hd2
  obtain rfl := rp_int hv3
  have w3 := w2.run g0 s3
  exact ⟨l, vs, (j : Int), j, rfl, rfl, (w3.get hkl).2.2, ixN_nat lt, q d v _ _ hd (w3.put g0 kl hkl fun ys z => by cases z) (e3.trans s3.sub) (Rp.mono s3.sub _ _ hv2)⟩
/-- x[i] = e, x a list of one's own -/
theorem t_setLO1 {i j : Nat} {vs : List V} (k : Nat) (g0 : Good pt F0 H0) (w : Own pt F0 H0 F H L) (hk : L[k]? = some (l, .lst vs)) (hi : σ[i]? = some (some (.ref l)))
    (h : EvG K pt te σ (putAll L F) R) (hn : ∀ d, R d → nl d = true) (hj : EvG K pt ti σ F (Is (.int (j : Int)))) (lt : j < vs.length)
    (q : ∀ d v F2 H2, R d → Own pt F0 H0 F2 H2 (L.set k (l, .lst (vs.set j v))) → Ex F F2 → Rp K F2 v d → D.nx σ H2) : tAsg te (gSub (tVar i) ti rSetL) D σ H := by
  obtain ⟨e1, e2, gd, back⟩ := w.fixS g0 w.nd (fun _ h => h)
  refine h H e2 gd _ fun d v F2 H2 hd s hv => ?_
  obtain ⟨w2, e3, tp, _⟩ := back F2 H2 s
  have hv2 := rp_tups tp d v (hn d hd) hv
  refine ⟨.ref l, hi, hj.mono e3 H2 w2.step.inn w2.step.good _ fun d2 v2 F3 H3 hd2 s3 hv3 => ?_⟩
  subst hd2
  obtain rfl := rp_int hv3
  have w3 := w2.run g0 s3
  exact ⟨l, vs, (j : Int), j, rfl, rfl, (w3.get hk).2.2, ixN_nat lt, q d v _ _ hd (w3.put g0 k hk fun ys z => by cases z) (e3.trans s3.sub) (Rp.mono s3.sub _ _ hv2)⟩
theorem t_setLO {i j : Nat} {vs : List V} (k : Nat) (g0 : Good pt F0 H0) (w : Own pt F0 H0 F H L) (hk : L[k]? = some (l, .lst vs)) (hi : σ[i]? = some (some (.ref l)))
    (h : EvG K pt te σ (putAll L F) R) (hn : ∀ d, R d → nl d = true) (hj : EvG K pt ti σ F (Is (.int (j : Int)))) (lt : j < vs.length)
    (q : ∀ d v F2 H2, R d → Own pt F0 H0 F2 H2 (L.set k (l, .lst (vs.set j v))) → Ex F F2 → Rp K F2 v d → tz D σ H2) : tSeq (tAsg te (gSub (tVar i) ti rSetL)) tz D σ H :=
  t_setLO1 (D := { D with nx := tz D }) k g0 w hk hi h hn hj lt q
/-- what comes back in place: at the places of us the new things stand -/
structure Upd1 where
  k : Nat
  a : Addr
  old : HO
  new : HO
def setUs : List Own1 → List Upd1 → List Own1
  | L, [] => L
  | L, u :: us => setUs (L.set u.k (u.a, u.new)) us
theorem setUs_map : ∀ {us : List Upd1} {L : List Own1}, (∀ u ∈ us, L[u.k]? = some (u.a, u.old)) → (us.map (·.k)).Nodup → (setUs L us).map (·.1) = L.map (·.1) ∧ ∀ k p, (setUs L us)[k]? = some p → (∃ u ∈ us, u.k = k ∧ p = (u.a, u.new)) ∨ (L[k]? = some p ∧ ∀ u ∈ us, u.k ≠ k)
  | [], L, _, _ => ⟨rfl, fun k p h => .inr ⟨h, fun u hu => by cases hu⟩⟩
  | u :: us, L, h, nd => by
    rw [List.map_cons, List.nodup_cons] at nd
    have hu := h u (by simp)
    have hl := (List.getElem?_eq_some_iff.mp hu).1
    have h2 : ∀ v ∈ us, (L.set u.k (u.a, u.new))[v.k]? = some (v.a, v.old) := fun v hv => by
      have ne : u.k ≠ v.k := fun e => nd.1 (e ▸ List.mem_map_of_mem hv)
      rw [List.getElem?_set_ne ne]
      exact h v (List.mem_cons_of_mem _ hv)
    obtain ⟨m1, m2⟩ := setUs_map (L := L.set u.k (u.a, u.new)) h2 nd.2
    refine ⟨?_, fun k p hp => ?_⟩
    · rw [setUs, m1, List.map_set]
      apply List.ext_getElem?
      intro i
      by_cases z : u.k = i
      · subst z
        rw [List.getElem?_set_self (by rw [List.length_map]; exact hl), List.getElem?_map, hu]; rfl
      · rw [List.getElem?_set_ne z]
    · rcases m2 k p hp with ⟨v, hv, e1, e2⟩ | ⟨e1, e2⟩
      · exact .inl ⟨v, List.mem_cons_of_mem _ hv, e1, e2⟩
      · by_cases z : u.k = k
        · subst z
          rw [List.getElem?_set_self hl] at e1
          exact .inl ⟨u, by simp, rfl, (Option.some.inj e1).symm⟩
        · rw [List.getElem?_set_ne z] at e1
          refine .inr ⟨e1, fun v hv => ?_⟩
          rcases List.mem_cons.mp hv with rfl | hv
          · exact z
          · exact e2 v hv
theorem Own.callAt (g0 : Good pt F0 H0) (w : Own pt F0 H0 F H LR) (us : List Upd1) (hu : ∀ u ∈ us, LR[u.k]? = some (u.a, u.old)) (nd : (us.map (·.k)).Nodup) (c : Own none F (delAll (us.map fun u => (u.a, u.old)) H) F2 H2 L2) (h2 : ∀ u ∈ us, (u.a, u.new) ∈ L2) : Own pt F0 H0 F2 H2 (setUs LR us) ∧ Ex F F2 := by
  have apart : ∀ {i j : Nat} {p q : Own1}, LR[i]? = some p → LR[j]? = some q → i ≠ j → p.1 ≠ q.1 := fun {i j p q} hi hj ne e => by
    have h1 : (LR.map (·.1))[i]? = some p.1 := by rw [List.getElem?_map, hi]; rfl
    have h2 : (LR.map (·.1))[j]? = some p.1 := by rw [List.getElem?_map, hj, e]; rfl
    obtain ⟨l1, e1⟩ := List.getElem?_eq_some_iff.mp h1
    obtain ⟨l2, e2⟩ := List.getElem?_eq_some_iff.mp h2
    exact ne ((List.getElem_inj (h₀ := l1) (h₁ := l2) w.nd).mp (e1.trans e2.symm))
  have sL : ∀ p ∈ us.map (fun u => (u.a, u.old)), p ∈ LR := fun p hp => by
    obtain ⟨u, hu1, rfl⟩ := List.mem_map.mp hp
    exact List.mem_of_getElem? (hu u hu1)
  have inj : ∀ u ∈ us, ∀ v ∈ us, u.a = v.a → u.k = v.k := fun u hu1 v hv1 e => Classical.byContradiction fun ne => apart (hu u hu1) (hu v hv1) ne e
  have ndL : ((us.map fun u => (u.a, u.old)).map (·.1)).Nodup := by
    rw [List.map_map]
    unfold List.Nodup at nd ⊢
    rw [List.pairwise_map] at nd ⊢
    exact List.Pairwise.imp_of_mem (fun {u v} hu1 hv1 h e => h (inj u hu1 v hv1 e)) nd
  let LQ := LR.filter fun p => !((us.map (·.a)).contains p.1)
  have sR : ∀ p ∈ LQ, p ∈ LR := fun p hp => (List.mem_filter.mp hp).1
  have ndA : ((us.map fun u => (u.a, u.old)).map (·.1) ++ LQ.map (·.1)).Nodup := by
    rw [List.nodup_append]
    refine ⟨ndL, w.nd.sublist (List.Sublist.map _ List.filter_sublist), fun b hb d hd e => ?_⟩
    obtain ⟨p, hp, rfl⟩ := List.mem_map.mp hd
    have h3 := (List.mem_filter.mp hp).2
    rw [List.map_map] at hb
    obtain ⟨u, hu1, rfl⟩ := List.mem_map.mp hb
    have : (us.map (·.a)).contains p.1 = true := by
      rw [List.contains_iff_mem]
      exact List.mem_map.mpr ⟨u, hu1, e⟩
    rw [this] at h3; cases h3
  obtain ⟨w2, e2⟩ := Own.call g0 w sL sR ndA c
  obtain ⟨m1, m2⟩ := setUs_map hu nd
  refine ⟨w2.less (by rw [m1]; exact w.nd) fun p hp => ?_, e2⟩
  obtain ⟨k, hk⟩ := List.mem_iff_getElem?.mp hp
  rcases m2 k p hk with ⟨u, hu1, _, rfl⟩ | ⟨h3, h4⟩
  · exact List.mem_append_left _ (h2 u hu1)
  · refine List.mem_append_right _ (List.mem_filter.mpr ⟨List.mem_of_getElem? h3, ?_⟩)
    rw [Bool.not_eq_true', ← Bool.not_eq_true, List.contains_iff_mem]
    rintro hc
    obtain ⟨u, hu1, e⟩ := List.mem_map.mp hc
    exact apart (hu u hu1) h3 (h4 u hu1) e
end
end Fv
namespace KH
open PySem PySem.Spec PyProof.Rows L2 L2H Fv Evl StX
/-- FirmError, at CF -/
structure FirmC (K : PySem.W.Frag) (mg : Str → Option Value) (CF : Addr) (mc : Value) : Prop where
  g : mg "FirmError" = some (.ref CF)
  r : ClX.CRead K CF mc
  v : PySem.W.findCls K (.ref CF) mc "__init__" = some (.val (.builtin "ValueError.__init__"))
/-- an error class nm of the text, at C, its maker at fI, with the fields fl -/
structure ErrC (K : PySem.W.Frag) (mg : Str → Option Value) (CF C fI : Addr) (nm : Str) (fl : List Str) : Prop where
  T : OexC K C
  iC : PySem.W.findIn K (.ref C) "__init__" = some (some (.ref fI))
  tI : PySem.W.typeIn K (.ref fI) = some (.type "function")
  no : ∀ f ∈ fl, PySem.W.findIn K (.ref C) f = some none
  g : mg nm = some (.ref C)
  xf : XfC K C
  self : PySem.W.exmOne K (.ref C) (.ref C) = some true
  up : PySem.W.kitOne K (.ref C) (.ref CF) = some true
  kv : PySem.W.kitOne K (.ref C) (.type "ValueError") = some true
section
variable {P : Program} {w : World} {K : PySem.W.Frag} {mg : Str → Option Value} {base : Heap} {CF C fI : Addr} {mc : Value}
variable {pt : Option Pt} {σ : L2.St} {F F' F0 H0 H : Hp} {te ta tb ty td : TE} {ts tr : TA} {D : Ends} {tz : TS}
def spIk (C : Addr) (f1 : Str) : Sp := fun vs H Q _ => ∃ (a : Addr) (k : Int), vs = [.ref a, .int k] ∧ k.natAbs ≤ 1000 ∧ H a = some (exo a C none) ∧
  ∀ dx, H dx = none → dx ≠ a → Q .non (upd (upd H dx (exd dx [(f1, .int k)])) a (exo a C (some dx)))
theorem r_mkk {f1 : Str} {k : Int} (hk : k.natAbs ≤ 1000) {Q : XK} (e : Ex F H) (h : EvsG K none ts σ F (· = [.int k])) (q : ∀ F2 H2 dx, Step none F H F2 H2 → (∃ v, F2 dx = some (.xd [(f1, v)]) ∧ Rp K F2 v (.int k)) → Q (.ref C) (some dx) H2) :
    tMkO C (spIk C f1) [] ts σ H Q := h H e .nil _ fun ds vs F2 H2 hd st hv => by
  subst hd
  obtain ⟨v1, rfl, hd1⟩ := rpAll1 hv
  obtain rfl := rp_int hd1
  refine ⟨by simp, fun a ha => ⟨a, k, rfl, hk, upd_same, fun dx h1 h2 => ⟨rfl, dx, [(f1, .int k)], upd_same, ?_, ?_, ?_⟩⟩⟩
  · rw [upd_ne h2]; exact upd_same
  · rw [upd_ne h2] at h1; exact h1
  · rw [upd_ne h2] at h1
    have eh : ∀ (y z : HO) (fs : List (Str × V)), upd (L2.del (upd (upd (upd H2 a y) dx z) a (exo a C (some dx))) a) dx (.xd fs) = upd H2 dx (.xd fs) := fun y z fs => by
      funext b
      by_cases zz : b = dx
      · rw [zz, upd_same, upd_same]
      · rw [upd_ne zz, upd_ne zz]
        by_cases yy : b = a
        · rw [yy, L2.del_same, ha]
        · rw [L2.del_ne yy, upd_ne yy, upd_ne zz, upd_ne yy]
    rw [eh]
    have s3 : Step none F2 H2 (upd F2 dx (.xd [(f1, .int k)])) (upd H2 dx (.xd [(f1, .int k)])) := .laid st.inn .nil h1
    exact q _ _ dx (st.trans s3) ⟨_, upd_same, Rp.mono s3.sub _ _ hd1⟩
theorem small_log {i : Int} (h : i.natAbs ≤ 1000) : i.natAbs.log2 < 1920 := by
  have : i.natAbs.log2 ≤ (2 ^ 10).log2 := by
    rcases Nat.eq_zero_or_pos i.natAbs with z | z
    · rw [z]; decide
    · exact (Nat.le_log2 (by decide)).mpr (Nat.le_trans (Nat.log2_self_le (by omega)) (by omega))
  have e : (2 ^ 10).log2 = 10 := by decide
  omega
end
end KH
namespace KH
open PySem PySem.Spec PyProof.Rows L2 L2H Fv Evl StX
abbrev s_NoHouse___init__ : Stmt := inClass (topS 4) 0
theorem sc_NoHouse___init__ : FnScope ["self", "house"] ["self", "house"] (defScope s_NoHouse___init__) := ⟨rfl, rfl, rfl, by decide +kernel, rfl, by decide +kernel, by decide +kernel⟩
abbrev s_Twice___init__ : Stmt := inClass (topS 5) 0
theorem sc_Twice___init__ : FnScope ["self", "house"] ["self", "house"] (defScope s_Twice___init__) := ⟨rfl, rfl, rfl, by decide +kernel, rfl, by decide +kernel, by decide +kernel⟩
abbrev s_Cells___init__ : Stmt := inClass (topS 9) 0
theorem sc_Cells___init__ : FnScope ["self", "houses"] ["self", "houses"] (defScope s_Cells___init__) := ⟨rfl, rfl, rfl, by decide +kernel, rfl, by decide +kernel, by decide +kernel⟩
abbrev s_Cells_shown : Stmt := inClass (topS 9) 1
theorem sc_Cells_shown : FnScope ["self"] ["self"] (defScope s_Cells_shown) := ⟨rfl, rfl, rfl, by decide +kernel, rfl, by decide +kernel, by decide +kernel⟩
abbrev s_Cells_write : Stmt := inClass (topS 9) 2
theorem sc_Cells_write : FnScope ["self", "house", "value"] ["self", "house", "value"] (defScope s_Cells_write) := ⟨rfl, rfl, rfl, by decide +kernel, rfl, by decide +kernel, by decide +kernel⟩
abbrev s_Cells_read : Stmt := inClass (topS 9) 3
theorem sc_Cells_read : FnScope ["self", "house"] ["self", "house"] (defScope s_Cells_read) := ⟨rfl, rfl, rfl, by decide +kernel, rfl, by decide +kernel, by decide +kernel⟩
abbrev s_Cells__check_house : Stmt := inClass (topS 9) 4
theorem sc_Cells__check_house : FnScope ["self", "house"] ["self", "house"] (defScope s_Cells__check_house) := ⟨rfl, rfl, rfl, by decide +kernel, rfl, by decide +kernel, by decide +kernel⟩
structure CelC (K : PySem.W.Frag) (C : Addr) : Prop where
  cl : Cls K C
  nN : NoAttr K C "n"
  nH : NoAttr K C "_held"
abbrev celF (n : Nat) (l : Addr) : List (Str × V) := [("n", .int n), ("_held", .ref l)]
/-- the objects that make cells -/
abbrev celL (C x dx l : Addr) (n : Nat) (us : List V) : List Own1 := [(x, .ins C dx (celF n l)), (dx, .own x), (l, .lst us)]
/-- cells, looked at -/
structure CelAt (K : PySem.W.Frag) (C : Addr) (F : Hp) (x : Addr) (n : Nat) (held : ORow) : Prop where
  ex : ∃ dx l us, F x = some (.ins C dx (celF n l)) ∧ F l = some (.lst us) ∧ RpAll K F us (held.map optD)
  len : held.length = n
  few : 2 ≤ n ∧ n ≤ 1000
/-- the caught error tells this of the house -/
def ErrD (K : PySem.W.Frag) (F : Hp) (dd : Addr) (d : PyData) : Prop := ∃ y, F dd = some (.xd [("house", y)]) ∧ Rp K F y d
section
variable {P : Program} {w : World} {K : PySem.W.Frag} {mg : Str → Option Value} {base : Heap} {CC0 CF CN CT C fI : Addr} {mc : Value}
variable {pt : Option Pt} {σ : L2.St} {F F' F0 H0 H F2 H2 : Hp} {te ta tb ty td : TE} {ts tr : TA} {D : Ends} {tz : TS} {L : List Own1} {x dx l : Addr} {n : Nat} {held : ORow} {us : List V}
theorem CelAt.mono (e : Ex F F') (h : CelAt K C F x n held) : CelAt K C F' x n held := by
  obtain ⟨dx, l, us, h1, h2, h3⟩ := h.ex
  exact ⟨⟨dx, l, us, e _ _ h1, e _ _ h2, RpAll.mono e _ _ h3⟩, h.len, h.few⟩
theorem CelAt.own {F0 H0 : Hp} (g0 : Good pt F0 H0) (w : Own pt F0 H0 F H L) {k1 k2 : Nat} (h1 : L[k1]? = some (x, .ins C dx (celF n l))) (h2 : L[k2]? = some (l, .lst us)) (hu : RpAll K F us (held.map optD)) (hl : held.length = n) (hn : 2 ≤ n ∧ n ≤ 1000) : CelAt K C (putAll L F) x n held :=
  ⟨⟨dx, l, us, w.see h1, w.see h2, RpAll.mono (w.seeEx g0) _ _ hu⟩, hl, hn⟩
theorem nl_opt : ∀ o : Option Int, nl (optD o) = true
  | none => rfl
  | some _ => rfl
theorem atI_opt {k : Nat} (h : k < held.length) : atI (held.map optD) (k : Int) = some (optD held[k]) := atI_nat (by rw [List.getElem?_map, List.getElem?_eq_getElem h]; rfl)
/-! the errors -/
def spIv (C : Addr) (f1 : Str) : Sp := fun vs H Q _ => ∃ (a : Addr) (v : V), vs = [.ref a, v] ∧ H a = some (exo a C none) ∧
  ∀ dx, H dx = none → dx ≠ a → Q .non (upd (upd H dx (exd dx [(f1, v)])) a (exo a C (some dx)))
/-- raise C(e) -/
theorem r_mkv {f1 : Str} {R : PD} {Q : XK} (e : Ex F H) (h : EvG K none te σ F R) (q : ∀ F2 H2 dx d, R d → Step none F H F2 H2 → (∃ v, F2 dx = some (.xd [(f1, v)]) ∧ Rp K F2 v d) → Q (.ref C) (some dx) H2) :
    tMkO C (spIv C f1) [] (tCons te tNil) σ H Q := h H e .nil _ fun d v1 F2 H2 hd st hd1 => by
  refine ⟨by simp, fun a ha => ⟨a, v1, rfl, upd_same, fun dx h1 h2 => ⟨rfl, dx, [(f1, v1)], upd_same, ?_, ?_, ?_⟩⟩⟩
  · rw [upd_ne h2]; exact upd_same
  · rw [upd_ne h2] at h1; exact h1
  · rw [upd_ne h2] at h1
    have eh : ∀ (y z : HO) (fs : List (Str × V)), upd (L2.del (upd (upd (upd H2 a y) dx z) a (exo a C (some dx))) a) dx (.xd fs) = upd H2 dx (.xd fs) := fun y z fs => by
      funext b
      by_cases zz : b = dx
      · rw [zz, upd_same, upd_same]
      · rw [upd_ne zz, upd_ne zz]
        by_cases yy : b = a
        · rw [yy, L2.del_same, ha]
        · rw [L2.del_ne yy, upd_ne yy, upd_ne zz, upd_ne yy]
    rw [eh]
    have s3 : Step none F2 H2 (upd F2 dx (.xd [(f1, v1)])) (upd H2 dx (.xd [(f1, v1)])) := .laid st.inn .nil h1
    exact q _ _ dx d hd (st.trans s3) ⟨_, upd_same, Rp.mono s3.sub _ _ hd1⟩
theorem ok_noHouse {fd : FuncData} (Fn : Fun K "__init__" "NoHouse.__init__" s_NoHouse___init__ fI fd) (FC : FirmC K mg CF mc) (EC : ErrC K mg CF C fI "NoHouse" ["house"]) : FnOk P w K mg base CX0 1 fI fd ["self", "house"] (spIv C "house") := by
  refine Fn.ok sc_NoHouse___init__ (fun vs H Q E ⟨_, _, h, _⟩ => by rw [h]; rfl) (fun cdv A outer s H vs Q E hr h => ?_)
  obtain ⟨a, v, rfl, ho, q⟩ := h
  refine ⟨_, (pss_cons (ps_expr (pe_fminit (by rfl) FC.g FC.r FC.v (pa_cons (pv 0) (pa_cons pe_str pa_nil)))) (pss_one (ps_ost (pv 0) (pv 1)))), ?_⟩
  exact ⟨_, rfl, a, C, _, rfl, by simp, EC.T, ho, _, rfl, _, rfl, a, C, rfl, EC.T, EC.no _ (by simp), .inl ⟨ho, fun dx h1 h2 => q dx h1 h2⟩⟩
theorem joined3 {σ : L2.St} {H : Hp} {i : Nat} {a b : Str} {n : Int} {Q : Str → Hp → Prop} (hn : n.natAbs ≤ 1000) (h1 : σ[i]? = some (some (.int n))) (ha : a.length ≤ 100) (hb : b.length ≤ 100) (q : ∀ out, Q out H) :
    tJs [tC (.str a), tFmt (tVar i), tC (.str b)] Str.empty σ H Q := by
  have e1 : (100000 : Nat) ≤ sizeLine := by decide
  have hl : (Str.ofString (toString n)).length ≤ 20 := by
    rw [PySem.ofString_length]
    exact Nat.le_trans (PySem.int_text_length_le10 (k := 4) (by decide) (by omega)) (by decide)
  have z : Str.empty.length = 0 := rfl
  refine ⟨a, rfl, ?_, _, h1, .inr ⟨n, rfl, small_log hn, _, rfl, ?_, b, rfl, ?_, q _⟩⟩
  all_goals simp only [Str.length_append, z]
  all_goals omega
theorem ok_twiceE {fd : FuncData} (Fn : Fun K "__init__" "Twice.__init__" s_Twice___init__ fI fd) (FC : FirmC K mg CF mc) (EC : ErrC K mg CF C fI "Twice" ["house"]) : FnOk P w K mg base CX0 1 fI fd ["self", "house"] (spIk C "house") := by
  refine Fn.ok sc_Twice___init__ (fun vs H Q E ⟨_, _, h, _⟩ => by rw [h]; rfl) (fun cdv A outer s H vs Q E hr h => ?_)
  obtain ⟨a, k, rfl, hk, ho, q⟩ := h
  refine ⟨_, (pss_cons (ps_expr (pe_fminit (by rfl) FC.g FC.r FC.v (pa_cons (pv 0) (pa_cons (pe_joined (PJ.cons pe_str (PJ.cons (pe_fmt (pv 1)) (PJ.cons pe_str PJ.nil)))) pa_nil)))) (pss_one (ps_ost (pv 0) (pv 1)))), ?_⟩
  refine ⟨_, rfl, ?_⟩
  show tJs _ _ _ _ _
  refine joined3 (i := 1) hk rfl (by decide) (by decide) fun out => ?_
  exact ⟨a, C, _, rfl, by simp, EC.T, ho, _, rfl, _, rfl, a, C, rfl, EC.T, EC.no _ (by simp), .inl ⟨ho, fun dx h1 h2 => q dx h1 h2⟩⟩
/-! Cells made -/
def spCelI (K : PySem.W.Frag) (C : Addr) : Sp := fun vs H Q _ => ∃ (x dx : Addr) (n : Nat) (F : Hp), vs = [.ref x, .int n] ∧ n ≤ 1000 ∧ OwnIn F H [(x, .ins C dx []), (dx, .own x)] ∧
  ∀ l F2 H2, Own none F (delAll [(x, .ins C dx []), (dx, .own x)] H) F2 H2 (celL C x dx l n (List.replicate n .non)) → Q .non H2
theorem ok_celI {f : Addr} {fd : FuncData} (Fn : Fun K "__init__" "Cells.__init__" s_Cells___init__ f fd) (CC : CelC K CC0) : FnOk P w K mg base CX0 2 f fd ["self", "houses"] (spCelI K CC0) := by
  refine Fn.ok sc_Cells___init__ (fun vs H Q E ⟨_, _, _, _, h, _⟩ => by rw [h]; rfl) (fun cdv A outer s H vs Q E hr h => ?_)
  obtain ⟨x, dx, n, F, rfl, hn, wi, q⟩ := h
  refine ⟨_, (pss_cons (ps_fld (pv 0) (pv 1) rfl)
    (pss_one (ps_fld (pv 0) (pe_op op_rep (pe_lst (pa_cons pe_non pa_nil)) (pv 1)) rfl))), ?_⟩
  have w := wi.start
  refine t_fldO (K := K) 0 .nil w rfl rfl CC.cl CC.nN (by decide) (R := Is (.int (n : Int))) (g_var (v := .int n) rfl (.int _)) (fun d hd => by rw [show d = _ from hd]; rfl) fun d v F2 H2 hd w2 e2 hv => ?_
  subst hd
  obtain rfl := rp_int hv
  refine t_fldRepO1 (K := K) (n := n) 0 .nil w2 rfl rfl CC.cl CC.nH (by show 1 < 1000; decide) (g_var (v := .int n) rfl (.int _)) hn fun l F3 H3 w3 e3 => ?_
  exact q l F3 H3 w3
/-! a house is checked -/
def spChk (K : PySem.W.Frag) (C : Addr) : Sp := fun vs H Q _ => ∃ (x : Addr) (n k : Nat) (held : ORow) (F : Hp), vs = [.ref x, .int k] ∧ CelAt K C F x n held ∧ k < n ∧ Ex F H ∧ ∀ v F2 H2, Step none F H F2 H2 → Rp K F2 v .none → Q v H2
theorem ok_chk {f fW : Addr} {fd fdW : FuncData} (Fn : Fun K "_check_house" "Cells._check_house" s_Cells__check_house f fd) (T : Tx mg) (CC : CelC K CC0)
    (F_is_whole : FunW K fW fdW) (b_is_whole : Binds K fdW ["thing", "low", "high"] []) (g_is_whole : mg "is_whole" = some (.ref fW)) : FnOk P w K mg base CX0 2 f fd ["self", "house"] (spChk K CC0) := by
  have G_is_whole : FnOk P w K mg base CX0 1 fW fdW ["thing", "low", "high"] (spWhole K) := ok_whole F_is_whole T
  refine Fn.ok sc_Cells__check_house (fun vs H Q E ⟨_, _, _, _, _, h, _⟩ => by rw [h]; rfl) (fun cdv A outer s H vs Q E hr h => ?_)
  obtain ⟨x, n, k, held, F, rfl, ca, hk, e, q⟩ := h
  obtain ⟨dx, l, us, h1, h2, h3⟩ := ca.ex
  refine ⟨_, (pss_one (ps_if (pt_not (pt_val (pe_call G_is_whole (hr.mono (by decide)) (by rfl) g_is_whole F_is_whole.kp b_is_whole .nil pass0 (pa_cons (pv 1) (pa_cons pe_int (pa_cons (pe_op op_sub (e_fld (K := K) (pv 0) rfl) pe_int) pa_nil)))))) (pss_one ps_never) pss_nil)), ?_⟩
  refine t_if1 (b := false) (Step.refl e .nil) (EtG.is (et_not (et_B (g_call (PyData.int k, some 0, some ((n : Int) - 1)) (gs_three (g_var (v := .int k) rfl (.int _)) g_int (g_opI (g_fld (K := K) (i := 0) rfl h1 CC.cl CC.nN rfl (.int _)) g_int rv_sub)) rfl trivial))) ?_) (fun z => by cases z) fun _ F2 H2 s2 e2 => q .non F2 H2 s2 .non
  simp [isWhole, loOk, hiOk]; omega
def spChkB (K : PySem.W.Frag) (C CN : Addr) : Sp := fun vs H _ E => ∃ (x : Addr) (n : Nat) (held : ORow) (d : PyData) (v : V) (F : Hp), vs = [.ref x, v] ∧ CelAt K C F x n held ∧ isWhole (some 0) (some ((n : Int) - 1)) d = false ∧ Rp K F v d ∧ Ex F H ∧ ∀ F2 H2 dd, Step none F H F2 H2 → ErrD K F2 dd d → E (.ref CN) (some dd) H2
theorem ok_chkB {f fW : Addr} {fd fdW fdE : FuncData} (Fn : Fun K "_check_house" "Cells._check_house" s_Cells__check_house f fd) (T : Tx mg) (CC : CelC K CC0) (FM : FirmC K mg CF mc) (E_NoHouse : ErrC K mg CF CN fI "NoHouse" ["house"]) (FI : Fun K "__init__" "NoHouse.__init__" s_NoHouse___init__ fI fdE) (bI_NoHouse : Binds K fdE ["self", "house"] [])
    (F_is_whole : FunW K fW fdW) (b_is_whole : Binds K fdW ["thing", "low", "high"] []) (g_is_whole : mg "is_whole" = some (.ref fW)) : FnOk P w K mg base (L2.CX P w) 3 f fd ["self", "house"] (spChkB K CC0 CN) := by
  have GI_NoHouse : FnOk P w K mg base CX0 1 fI fdE ["self", "house"] (spIv CN "house") := ok_noHouse FI FM E_NoHouse
  have G_is_whole : FnOk P w K mg base CX0 1 fW fdW ["thing", "low", "high"] (spWhole K) := ok_whole F_is_whole T
  refine Fn.okX sc_Cells__check_house (fun vs H Q E ⟨_, _, _, _, _, _, h, _⟩ => by rw [h]; rfl) (fun cdv A outer s H vs Q E hr h => ?_)
  obtain ⟨x, n, held, d, v, F, rfl, ca, hk, hv, e, q⟩ := h
  obtain ⟨dx, l, us, h1, h2, h3⟩ := ca.ex
  refine ⟨_, (pss_one (ps_if (pt_not (pt_val (pe_call G_is_whole (hr.mono (by decide)) (by rfl) g_is_whole F_is_whole.kp b_is_whole .nil pass0 (pa_cons (pv 1) (pa_cons pe_int (pa_cons (pe_op op_sub (e_fld (K := K) (pv 0) rfl) pe_int) pa_nil)))))) (pss_one (ps_raise rfl (takes_of rfl rfl rfl rfl) (pmk_oex E_NoHouse.T E_NoHouse.iC E_NoHouse.tI GI_NoHouse (hr.mono (by decide)) bI_NoHouse .nil pass0 (by rfl) E_NoHouse.g (pa_cons (pv 1) pa_nil)))) pss_nil)), ?_⟩
  refine t_if1 (b := true) (Step.refl e .nil) (EtG.is (et_not (et_B (g_call (d, some 0, some ((n : Int) - 1)) (gs_three (g_var rfl hv) g_int (g_opI (g_fld (K := K) (i := 0) rfl h1 CC.cl CC.nN rfl (.int _)) g_int rv_sub)) rfl trivial))) (by show (!isWhole (some 0) (some ((n : Int) - 1)) d) = true; rw [hk]; rfl)) (fun _ F2 H2 s2 e2 => ?_) fun z => by cases z
  exact r_mkv (K := K) (R := Is d) s2.inn (g_var (i := 1) rfl (Rp.mono e2 _ _ hv)) fun F4 H4 dd d' hd s4 h4 => q F4 H4 dd (s2.trans s4) (by obtain rfl : d' = d := hd; exact h4)
/-! a cell is read -/
def spRd (K : PySem.W.Frag) (C : Addr) : Sp := fun vs H Q _ => ∃ (x : Addr) (n k : Nat) (held : ORow) (F : Hp), vs = [.ref x, .int k] ∧ CelAt K C F x n held ∧ k < n ∧ Ex F H ∧ ∀ v F2 H2, Step none F H F2 H2 → Rp K F2 v (optD (held.getD k none)) → Q v H2
theorem ok_rd {f fK : Addr} {fd fdK : FuncData} (Fn : Fun K "read" "Cells.read" s_Cells_read f fd) (T : Tx mg) (CC : CelC K CC0)
    (m_check_house : Meth K CC0 "_check_house" fK) (b_check_house : Binds K fdK ["self", "house"] []) (G_check_house : FnOk P w K mg base CX0 2 fK fdK ["self", "house"] (spChk K CC0)) : FnOk P w K mg base CX0 3 f fd ["self", "house"] (spRd K CC0) := by
  refine Fn.ok sc_Cells_read (fun vs H Q E ⟨_, _, _, _, _, h, _⟩ => by rw [h]; rfl) (fun cdv A outer s H vs Q E hr h => ?_)
  obtain ⟨x, n, k, held, F, rfl, ca, hk, e, q⟩ := h
  obtain ⟨dx, l, us, h1, h2, h3⟩ := ca.ex
  refine ⟨_, (pss_cons (ps_expr (pe_meth (pv 0) CC.cl m_check_house G_check_house (hr.mono (by decide)) b_check_house .nil pass0 (pa_cons (pv 1) pa_nil)))
    (pss_one (ps_ret (pe_ix (o_ixL (K := K)) (e_fld (K := K) (pv 0) rfl) (pv 1) (fun _ _ => rfl))))), ?_⟩
  refine t_drop (K := K) (Step.refl e .nil) (g_methD (z := .none) (ds := [.int (k : Int)]) (i := 0) (x := x) rfl h1 rfl (gs_one (g_var (v := .int k) rfl (.int _))) fun F1 H1 vs e1 i1 hv Q' q' => ?_) fun F2 H2 s2 e2 => ?_
  · obtain ⟨v1, rfl, hv1⟩ := rpAll1 hv
    obtain rfl := rp_int hv1
    exact ⟨x, n, k, held, F1, rfl, ca.mono e1, hk, i1, q'⟩
  · refine t_retI (K := K) s2 ((g_opI (g_fld (K := K) (i := 0) rfl (e2 _ _ h1) CC.cl CC.nH rfl (.lst (e2 _ _ h2) (RpAll.mono e2 _ _ h3))) (g_var (v := .int k) (i := 1) rfl (.int _)) (rv_ixL (atI_opt (by rw [ca.len]; exact hk)))).is ?_) q
    rw [List.getD_eq_getElem?_getD, List.getElem?_eq_getElem (by rw [ca.len]; exact hk)]; rfl
def spRdB (K : PySem.W.Frag) (C CN : Addr) : Sp := spChkB K C CN
theorem ok_rdB {f fK : Addr} {fd fdK : FuncData} (Fn : Fun K "read" "Cells.read" s_Cells_read f fd) (CC : CelC K CC0)
    (m_check_house : Meth K CC0 "_check_house" fK) (b_check_house : Binds K fdK ["self", "house"] []) (GX_check_house : FnOk P w K mg base (L2.CX P w) 3 fK fdK ["self", "house"] (spChkB K CC0 CN)) : FnOk P w K mg base (L2.CX P w) 4 f fd ["self", "house"] (spRdB K CC0 CN) := by
  refine Fn.okX sc_Cells_read (fun vs H Q E ⟨_, _, _, _, _, _, h, _⟩ => by rw [h]; rfl) (fun cdv A outer s H vs Q E hr h => ?_)
  obtain ⟨x, n, held, d, v, F, rfl, ca, hk, hv, e, q⟩ := h
  obtain ⟨dx, l, us, h1, h2, h3⟩ := ca.ex
  refine ⟨_, (pss_cons (ps_expr (pe_meth (pv 0) CC.cl m_check_house GX_check_house (hr.mono (by decide)) b_check_house .nil (passes_call (takes_of rfl rfl rfl rfl) fun _ _ _ _ h => h) (pa_cons (pv 1) pa_nil)))
    (pss_one (ps_ret (pe_ix (o_ixL (K := K)) (e_fld (K := K) (pv 0) rfl) (pv 1) (fun _ _ => rfl))))), ?_⟩
  exact ⟨_, rfl, x, dx, _, rfl, e _ _ h1, rfl, _, rfl, x, n, held, d, v, F, rfl, ca, hk, hv, e, q⟩
/-! all cells are shown -/
def spShw (K : PySem.W.Frag) (C : Addr) : Sp := fun vs H Q _ => ∃ (x : Addr) (n : Nat) (held : ORow) (F : Hp), vs = [.ref x] ∧ CelAt K C F x n held ∧ Ex F H ∧ ∀ v F2 H2, Step none F H F2 H2 → Rp K F2 v (dO held) → Q v H2
theorem ok_shw {f : Addr} {fd : FuncData} (Fn : Fun K "shown" "Cells.shown" s_Cells_shown f fd) (T : Tx mg) (CC : CelC K CC0) : FnOk P w K mg base CX0 1 f fd ["self"] (spShw K CC0) := by
  refine Fn.ok sc_Cells_shown (fun vs H Q E ⟨_, _, _, _, h, _⟩ => by rw [h]; rfl) (fun cdv A outer s H vs Q E hr h => ?_)
  obtain ⟨x, n, held, F, rfl, ca, e, q⟩ := h
  obtain ⟨dx, l, us, h1, h2, h3⟩ := ca.ex
  refine ⟨_, (pss_one (ps_ret (pe_callTy (c_tup (K := K)) (by rfl) T.tuple (by decide +kernel) (pa_cons (e_fld (K := K) (pv 0) rfl) pa_nil)))), ?_⟩
  exact t_retI (K := K) (Step.refl e .nil) (g_cbI (gs_one (g_fld (K := K) (i := 0) rfl h1 CC.cl CC.nH rfl (.lst h2 h3))) rc_tupL) q
/-! a cell is written -/
def spWr (K : PySem.W.Frag) (C : Addr) : Sp := fun vs H Q _ => ∃ (x dx l : Addr) (n k : Nat) (held : ORow) (v : Int) (us : List V) (F : Hp), vs = [.ref x, .int k, .int v] ∧ (k < n ∧ held.length = n ∧ held[k]? = some none ∧ 2 ≤ n ∧ n ≤ 1000) ∧ RpAll K F us (held.map optD) ∧ OwnIn F H (celL C x dx l n us) ∧
  ∀ F2 H2, Own none F (delAll (celL C x dx l n us) H) F2 H2 (celL C x dx l n (us.set k (.int v))) → Q .non H2
theorem ok_wr {f fK : Addr} {fd fdK : FuncData} (Fn : Fun K "write" "Cells.write" s_Cells_write f fd) (CC : CelC K CC0)
    (m_check_house : Meth K CC0 "_check_house" fK) (b_check_house : Binds K fdK ["self", "house"] []) (G_check_house : FnOk P w K mg base CX0 2 fK fdK ["self", "house"] (spChk K CC0)) : FnOk P w K mg base CX0 3 f fd ["self", "house", "value"] (spWr K CC0) := by
  refine Fn.ok sc_Cells_write (fun vs H Q E ⟨_, _, _, _, _, _, _, _, _, h, _⟩ => by rw [h]; rfl) (fun cdv A outer s H vs Q E hr h => ?_)
  obtain ⟨x, dx, l, n, k, held, v, us, F, rfl, ⟨hk, hl, hh, hn⟩, hu, wi, q⟩ := h
  refine ⟨_, (pss_cons (ps_expr (pe_meth (pv 0) CC.cl m_check_house G_check_house (hr.mono (by decide)) b_check_house .nil pass0 (pa_cons (pv 1) pa_nil)))
    (pss_cons (ps_if (pt_cmpR op_notN (pe_ix (o_ixL (K := K)) (e_fld (K := K) (pv 0) rfl) (pv 1) (fun _ _ => rfl)) pe_non (nomark _)) (pss_one ps_never) pss_nil)
    (pss_one (ps_asg (pv 2) (pg_sub (e_fld (K := K) (pv 0) rfl) (pv 1) set_list))))), ?_⟩
  have w := wi.start
  have ca : CelAt K CC0 (putAll (celL CC0 x dx l n us) F) x n held := .own .nil w (k1 := 0) (k2 := 2) rfl rfl hu hl hn
  obtain ⟨gk1, gk2⟩ := List.getElem?_eq_some_iff.mp hh
  refine t_dropO (K := K) .nil w (g_methD (z := .none) (ds := [.int (k : Int)]) (i := 0) (x := x) rfl (w.see (k := 0) rfl) rfl (gs_one (g_var (v := .int k) rfl (.int _))) fun F1 H1 vs e1 i1 hv Q' q' => ?_) fun F2 H2 w2 e2 => ?_
  · obtain ⟨v1, rfl, hv1⟩ := rpAll1 hv
    obtain rfl := rp_int hv1
    exact ⟨x, n, k, held, F1, rfl, ca.mono e1, hk, i1, q'⟩
  have hu2 := RpAll.mono e2 _ _ hu
  refine t_ifO (b := false) .nil w2 (EtG.is (et_of (K := K) (g_opI (g_opI (g_fld (K := K) (i := 0) rfl (w2.see (k := 0) rfl) CC.cl CC.nH rfl (.lst (w2.see (k := 2) rfl) (RpAll.mono (w2.seeEx .nil) _ _ hu2))) (g_var (v := .int k) (i := 1) rfl (.int _)) (rv_ixL (atI_opt gk1))) g_non rv_notO)) (by rw [gk2]; rfl)) (fun z => by cases z) fun _ F3 H3 w3 e3 => ?_
  refine t_setFldO1 (K := K) (j := k) (R := Is (.int v)) 0 2 .nil w3 rfl rfl rfl CC.cl CC.nH rfl (g_var (v := .int v) (i := 2) rfl (.int _)) (fun d hd => by rw [show d = _ from hd]; rfl) (g_var (v := .int k) (i := 1) rfl (.int _)) (by rw [hu.length, List.length_map]; omega) fun d u F4 H4 hd w4 e4 hu4 => ?_
  subst hd
  obtain rfl := rp_int hu4
  exact q F4 H4 w4
def spWrT (K : PySem.W.Frag) (C CT : Addr) : Sp := fun vs H _ E => ∃ (x : Addr) (n k : Nat) (held : ORow) (z : V) (F : Hp), vs = [.ref x, .int k, z] ∧ CelAt K C F x n held ∧ (k < n ∧ ∃ i, held[k]? = some (some i)) ∧ Ex F H ∧ ∀ F2 H2 dd, Step none F H F2 H2 → ErrD K F2 dd (.int k) → E (.ref CT) (some dd) H2
theorem ok_wrT {f fK : Addr} {fd fdK fdE : FuncData} (Fn : Fun K "write" "Cells.write" s_Cells_write f fd) (CC : CelC K CC0) (FM : FirmC K mg CF mc) (E_Twice : ErrC K mg CF CT fI "Twice" ["house"]) (FI : Fun K "__init__" "Twice.__init__" s_Twice___init__ fI fdE) (bI_Twice : Binds K fdE ["self", "house"] [])
    (m_check_house : Meth K CC0 "_check_house" fK) (b_check_house : Binds K fdK ["self", "house"] []) (G_check_house : FnOk P w K mg base CX0 2 fK fdK ["self", "house"] (spChk K CC0)) : FnOk P w K mg base (L2.CX P w) 4 f fd ["self", "house", "value"] (spWrT K CC0 CT) := by
  have GI_Twice : FnOk P w K mg base CX0 1 fI fdE ["self", "house"] (spIk CT "house") := ok_twiceE FI FM E_Twice
  refine Fn.okX sc_Cells_write (fun vs H Q E ⟨_, _, _, _, _, _, h, _⟩ => by rw [h]; rfl) (fun cdv A outer s H vs Q E hr h => ?_)
  obtain ⟨x, n, k, held, z, F, rfl, ca, ⟨hk, i, hh⟩, e, q⟩ := h
  obtain ⟨dx, l, us, h1, h2, h3⟩ := ca.ex
  obtain ⟨gk1, gk2⟩ := List.getElem?_eq_some_iff.mp hh
  have few := ca.few
  refine ⟨_, (pss_cons (ps_expr (pe_meth (pv 0) CC.cl m_check_house G_check_house (hr.mono (by decide)) b_check_house .nil pass0 (pa_cons (pv 1) pa_nil)))
    (pss_cons (ps_if (pt_cmpR op_notN (pe_ix (o_ixL (K := K)) (e_fld (K := K) (pv 0) rfl) (pv 1) (fun _ _ => rfl)) pe_non (nomark _)) (pss_one (ps_raise rfl (takes_of rfl rfl rfl rfl) (pmk_oex E_Twice.T E_Twice.iC E_Twice.tI GI_Twice (hr.mono (by decide)) bI_Twice .nil pass0 (by rfl) E_Twice.g (pa_cons (pv 1) pa_nil)))) pss_nil)
    (pss_one (ps_asg (pv 2) (pg_sub (e_fld (K := K) (pv 0) rfl) (pv 1) set_list))))), ?_⟩
  refine t_drop (K := K) (Step.refl e .nil) (g_methD (z := .none) (ds := [.int (k : Int)]) (i := 0) (x := x) rfl h1 rfl (gs_one (g_var (v := .int k) rfl (.int _))) fun F1 H1 vs e1 i1 hv Q' q' => ?_) fun F2 H2 s2 e2 => ?_
  · obtain ⟨v1, rfl, hv1⟩ := rpAll1 hv
    obtain rfl := rp_int hv1
    exact ⟨x, n, k, held, F1, rfl, ca.mono e1, hk, i1, q'⟩
  refine t_when (b := true) s2 (EtG.is (et_of (K := K) (g_opI (g_opI (g_fld (K := K) (i := 0) rfl (e2 _ _ h1) CC.cl CC.nH rfl (.lst (e2 _ _ h2) (RpAll.mono e2 _ _ h3))) (g_var (v := .int k) (i := 1) rfl (.int _)) (rv_ixL (atI_opt gk1))) g_non rv_notO)) (by rw [gk2]; rfl)) (fun _ F3 H3 s3 e3 => ?_) fun z => by cases z
  exact r_mkk (K := K) (k := (k : Int)) (by omega) s3.inn (gs_one (g_var (v := .int k) (i := 1) rfl (.int _))) fun F4 H4 dd s4 h4 => q F4 H4 dd (s3.trans s4) h4
def spWrN (K : PySem.W.Frag) (C CN : Addr) : Sp := fun vs H _ E => ∃ (x : Addr) (n : Nat) (held : ORow) (d : PyData) (v z : V) (F : Hp), vs = [.ref x, v, z] ∧ CelAt K C F x n held ∧ isWhole (some 0) (some ((n : Int) - 1)) d = false ∧ Rp K F v d ∧ Ex F H ∧ ∀ F2 H2 dd, Step none F H F2 H2 → ErrD K F2 dd d → E (.ref CN) (some dd) H2
theorem ok_wrN {f fK : Addr} {fd fdK : FuncData} (Fn : Fun K "write" "Cells.write" s_Cells_write f fd) (CC : CelC K CC0)
    (m_check_house : Meth K CC0 "_check_house" fK) (b_check_house : Binds K fdK ["self", "house"] []) (GX_check_house : FnOk P w K mg base (L2.CX P w) 3 fK fdK ["self", "house"] (spChkB K CC0 CN)) : FnOk P w K mg base (L2.CX P w) 4 f fd ["self", "house", "value"] (spWrN K CC0 CN) := by
  refine Fn.okX sc_Cells_write (fun vs H Q E ⟨_, _, _, _, _, _, _, h, _⟩ => by rw [h]; rfl) (fun cdv A outer s H vs Q E hr h => ?_)
  obtain ⟨x, n, held, d, v, z, F, rfl, ca, hk, hv, e, q⟩ := h
  obtain ⟨dx, l, us, h1, h2, h3⟩ := ca.ex
  refine ⟨_, (pss_cons (ps_expr (pe_meth (pv 0) CC.cl m_check_house GX_check_house (hr.mono (by decide)) b_check_house .nil (passes_call (takes_of rfl rfl rfl rfl) fun _ _ _ _ h => h) (pa_cons (pv 1) pa_nil)))
    (pss_cons (ps_if (pt_cmpR op_notN (pe_ix (o_ixL (K := K)) (e_fld (K := K) (pv 0) rfl) (pv 1) (fun _ _ => rfl)) pe_non (nomark _)) (pss_one ps_never) pss_nil)
    (pss_one (ps_asg (pv 2) (pg_sub (e_fld (K := K) (pv 0) rfl) (pv 1) set_list))))), ?_⟩
  exact ⟨_, rfl, x, dx, _, rfl, e _ _ h1, rfl, _, rfl, x, n, held, d, v, F, rfl, ca, hk, hv, e, q⟩
end
end KH
/-! the place of a number in a tuple of numbers -/
namespace L2
open PySem PySem.Spec PyProof.Rows
theorem flat_intsL (ys : List Int) : (ys.map V.int).all flatV = true := by
  rw [List.all_map]
  exact List.all_eq_true.mpr fun _ _ => rfl
theorem eqV_ints (i j : Int) : eqV (.int i) (.int j) = decide (i = j) := by
  by_cases h : i = j
  · subst h; simp [eqV]
  · simp [eqV, h]
section
variable {X : Cx}
def rTIx (K : PySem.W.Frag) : V → List V → Hp → VK → Prop := fun x xs H Q => ∃ p, ∃ ys : List Int, ∃ z j, x = .ref p ∧ xs = [.int z] ∧ SqT K H p (ys.map V.int) ∧ ys[j]? = some z ∧ (∀ m, m < j → ys[m]? ≠ some z) ∧ Q (.int (j : Nat)) H
theorem mt_tup_indexI : MtR X "tuple.index" (rTIx X.K) := by
  intro pins s σ H x xs v us Q I rx rs h
  obtain ⟨p, ys, z, j, rfl, rfl, hq, hy, hno, q⟩ := h
  cases rx
  cases rs with
  | cons ry rt =>
    rename_i uy ut
    cases rt
    obtain ⟨its, r, pl, hz⟩ := I.tuple hq
    obtain ⟨⟨cls, dd, dt, sl⟩, ho, hc, n, hd⟩ := pl
    simp only at hc hd
    subst hc
    subst hd
    have hl : its.toArray.size = ys.length := by rw [List.size_toArray, ← r.length, List.length_map]
    have hj : j < its.toArray.size := by rw [hl]; exact (List.getElem?_eq_some_iff.mp hy).1
    have at' : ∀ (m : Nat) (hm : m < its.toArray.size), ∃ y, ys[m]? = some y ∧ RelV (.int y) its.toArray[m] := fun m hm => by
      have hm' : m < ys.length := by rw [← hl]; exact hm
      obtain ⟨w, hw, hr⟩ := r.get (i := m) (x := .int ys[m]) (by simp [hm'])
      refine ⟨ys[m], List.getElem?_eq_getElem hm', ?_⟩
      have e := (List.getElem?_eq_some_iff.mp hw).2
      have e2 : its.toArray[m] = w := by simpa using e
      rw [e2]; exact hr
    refine call_meets PySem.F.slot_tuple_index ⟨_, ho, rfl⟩ PySem.F.entry_tuple_index (PySem.F.args_tuple_index_2 _ _) (TI.tuple_indexAt p its.toArray n dd sl uy (eqU (.int z)) j hj ?_ ?_)
      ⟨ho, fun w hw => mem_eqAt (x := .int z) ry rfl r (flat_intsL ys) w (by simpa using hw), ⟨.int (j : Nat), H, I.tok _, ⟨_, rfl⟩, q⟩⟩
    · obtain ⟨y, h1, h2⟩ := at' j hj
      rw [hy] at h1
      cases h1
      rw [eqU_of h2 rfl, eqV_ints]; simp
    · intro m hm hmj
      obtain ⟨y, h1, h2⟩ := at' m hm
      rw [eqU_of h2 rfl, eqV_ints]
      exact decide_eq_false fun e => hno m hmj (e ▸ h1)
/-- tuple(xs), xs a list; the tuple seen as it was made -/
theorem call_tuple_frz : CallR X (.type "tuple") (fun xs H Q => ∃ p ys, xs = [.ref p] ∧ SqL X.K H p ys ∧ ∀ l o, H l = none → o.cls = .type "tuple" → o.dict = none → Q (.ref l) (upd H l (.frz o (.tup ys)))) := by
  intro pins s σ H xs us Q I r h
  obtain ⟨p, ys, rfl, hq, q⟩ := h
  obtain ⟨u, rfl, rx⟩ := vals1 r
  cases rx
  obtain ⟨its, r', pl, hz⟩ := I.list hq
  have hlen := r'.length
  refine PySem.call_tuple_list pl.isList (fun h' kp => ?_) (by simp only [List.size_toArray] <;> omega)
  have I1 : Inv X pins σ H { s with heap := h' } := I.kept (t' := s.toks) kp
  have I2 : Inv X pins σ (upd H h'.objs.size (.frz { cls := .type "tuple", data := .seq its.toArray } (.tup ys))) { s with heap := h'.push { cls := .type "tuple", data := .seq its.toArray } } :=
    I1.laid (t' := s.toks) (fun b o e => Heap.get?_push_of_some _ e) (Nat.le_refl _) (show ObjOk X.prog X.w _ _ _ (.frz _ (.tup ys)) from ⟨Heap.get?_push_size _ rfl, hz, its, r', IsTup.new _ _⟩)
  exact ⟨.ref h'.objs.size, _, I2, rfl, q _ _ (I1.hok.fresh (Nat.le_refl _)) rfl rfl⟩
/-- such a tuple's method -/
def tBMF (r : V → List V → Hp → VK → Prop) (to : TE) (t : TA) : TE := fun σ H Q => to σ H fun x H1 => (∃ p o xs, x = .ref p ∧ H1 p = some (.frz o (.tup xs)) ∧ o.cls = .type "tuple" ∧ o.dict = none) ∧ t σ H1 fun xs H2 => r x xs H2 Q
theorem pe_bmF {o e : Expr} {es : List Expr} {to : TE} {t : TA} {name : Str} {apos cpos : Pos} {id : String} {r : V → List V → Hp → VK → Prop} (pa : PlainAttrs "tuple") (slot : Slot "tuple" name id) (hty : typeOf (.builtin id) = pure (.type "method_descriptor")) (hm : MtR X id r) (ho : PE X o to) (ha : PA X (e :: es) t)
    (hbase : attributeBase o name X.env (eval o X.env) = eval o X.env := by rfl)
    (hfew : ((backTo cpos (starEach (e :: es) X.env)).all (fun x => !x.1) && (backToKw cpos (keywordEach [] X.env)).all (fun x => x.1.isSome)
      && decide ((e :: es).length + ([] : List Keyword).length + (if ([] : List Keyword).isEmpty then 0 else 1) < 30)) = true := by rfl)
    (hline : (apos.endLine == cpos.line) = true := by rfl) (hs : starEach (e :: es) X.env = (false, eval e X.env) :: starEach es X.env := by rfl) (hplain : (backTo cpos (starEach es X.env)).any (·.1) = false := by rfl) :
    PE X (.Call (.Attribute o name apos) (e :: es) [] cpos) (tBMF r to t) := by
  refine ⟨fun pins s σ H Q I h => ?_⟩
  refine wpAny_Call_method_late hbase hfew hline rfl (thn (ho.run pins s σ H _ I h) fun v s1 ⟨x, H1, I1, r1, ty, q1⟩ => ?_)
  obtain ⟨p, ob, xs, rfl, hp, hc, hd⟩ := ty
  obtain ⟨hg, _⟩ := (show ObjOk X.prog X.w H1 s1.heap p (.frz ob (.tup xs)) from I1.hok p _ hp)
  have r1' := r1
  cases r1'
  refine ⟨"tuple", id, pa, slot, hty, ⟨ob, hg, hc⟩, fun a e => ?_, ?_⟩
  · cases e
    exact ⟨ob, hg, hd⟩
  have hA := ha.run cpos pins s1 σ H1 _ I1 q1
  rw [hs] at hA ⊢
  refine Calls.callWith_builtin (by show (false || (backTo cpos (starEach es X.env)).any (·.1)) = false; rw [hplain] <;> rfl) (Calls.evalArgs_plain ?_)
  exact thn hA fun us s2 ⟨vs, H2, I2, r2, q2⟩ => hm pins s2 σ H2 _ vs _ us Q I2 r1 r2 q2
end
end L2
namespace Fv
open PySem PySem.Spec PyProof.Rows L2 Evl StX
/-- a tuple of whole numbers seen as it was made -/
def TupF (F : Hp) (v : V) (ys : List Int) : Prop := ∃ p o, v = .ref p ∧ F p = some (.frz o (.tup (ys.map .int))) ∧ o.cls = .type "tuple" ∧ o.dict = none
def rTupF (K : PySem.W.Frag) : List V → Hp → VK → Prop := fun xs H Q => ∃ p ys, xs = [.ref p] ∧ SqL K H p ys ∧ ∀ l o, H l = none → o.cls = .type "tuple" → o.dict = none → Q (.ref l) (upd H l (.frz o (.tup ys)))
section
variable {K : PySem.W.Frag} {pt : Option Pt} {σ : L2.St} {F F' F0 H0 H : Hp} {te ta tb ti : TE} {ts : TA} {x C dx : Addr} {ys : List Int} {v : V} {D : Ends} {tz : TS} {L : List Own1} {fs : List (Str × V)} {f : Str}
theorem TupF.mono (e : Ex F F') (h : TupF F v ys) : TupF F' v ys := by
  obtain ⟨p, o, h1, h2, h3⟩ := h
  exact ⟨p, o, h1, e _ _ h2, h3⟩
theorem c_tupF {X : Cx} (h : X.K = K := by rfl) : CallR X (.type "tuple") (rTupF K) := h ▸ call_tuple_frz
theorem x_tupF (h : EvsG K pt ts σ F (· = [.list (ys.map .int)])) : EvX pt (tCB (rTupF K) ts) σ F (fun v F2 => TupF F2 v ys) := fun H1 e g Q q =>
  h H1 e g _ fun ds vs F2 H2 hd s hv => by
    subst hd
    cases hv with
    | cons h1 h2 =>
      cases h2
      obtain ⟨a, xs, rfl, hl, hx⟩ := rp_lst h1
      obtain rfl : xs = ys.map V.int := rpAll_ints hx
      refine ⟨a, _, rfl, SqL.of (s.inn _ _ hl), fun l o hn h3 h4 => ?_⟩
      have s3 : Step pt F2 H2 (upd F2 l (.frz o (.tup (ys.map .int)))) (upd H2 l (.frz o (.tup (ys.map .int)))) := .laid s.inn s.good hn
      exact q _ _ _ ⟨l, o, rfl, upd_same, h3, h4⟩ (s.trans s3)
theorem g_ixTF {y : Int} {k : Int} (ha : EvX pt ta σ F (fun v F2 => TupF F2 v ys)) (h : EvG K pt ti σ F (Is (.int k))) (hk : atI ys k = some y) : EvG K pt (tOp (rIxT K) ta ti) σ F (Is (.int y)) := fun H1 e g Q q =>
  ha H1 e g _ fun u F2 H2 ⟨p, o, hu, hp, _, _⟩ s => h.mono s.sub H2 s.inn s.good _ fun d w F3 H3 hd s2 hw => by
    subst hd; subst hu
    obtain rfl := rp_int hw
    have hp3 := s2.inn _ _ (s2.sub _ _ hp)
    refine ⟨p, ys.map .int, k, .int y, rfl, rfl, .inl (.inr ⟨o, hp3⟩), ?_, q _ _ F3 H3 rfl (s.trans s2) (.int _)⟩
    show atI (ys.map V.int) k = some (.int y)
    unfold atI at hk ⊢
    rw [List.length_map]
    obtain ⟨j, h1, h2⟩ := Option.bind_eq_some_iff.mp hk
    rw [h1]
    show (ys.map V.int)[j]? = some (.int y)
    rw [List.getElem?_map, h2]; rfl
theorem g_tindexF {z : Int} {j : Nat} (ha : EvX pt ta σ F (fun v F2 => TupF F2 v ys)) (h : EvG K pt te σ F (Is (.int z))) (hj : ys[j]? = some z) (hn : ∀ m < j, ys[m]? ≠ some z) : EvG K pt (tBMF (rTIx K) ta (tCons te tNil)) σ F (Is (.int (j : Int))) := fun H1 e g Q q =>
  ha H1 e g _ fun u F2 H2 ⟨p, o, hu, hp, hc, hd⟩ s => by
    subst hu
    refine ⟨⟨p, o, _, rfl, s.inn _ _ hp, hc, hd⟩, h.mono s.sub H2 s.inn s.good _ fun d2 u2 F3 H3 hd2 s2 hu2 => ?_⟩
    subst hd2
    obtain rfl := rp_int hu2
    exact ⟨p, ys, z, j, rfl, rfl, .inl (.inr ⟨o, s2.inn _ _ (s2.sub _ _ hp)⟩), hj, hn, q _ _ F3 H3 rfl (s.trans s2) (.int _)⟩
/-- x.f = e, x one's own; e no data -/
theorem t_fldXO {i : Nat} {Φ : V → Hp → Prop} (k : Nat) (g0 : Good pt F0 H0) (w : Own pt F0 H0 F H L) (hk : L[k]? = some (x, .ins C dx fs)) (hi : σ[i]? = some (some (.ref x))) (cl : Cls K C) (na : NoAttr K C f) (hz : fs.length < 1000) (h : EvX pt te σ F Φ)
    (q : ∀ v F2 H2, Φ v F2 → Own pt F0 H0 F2 H2 (L.set k (x, .ins C dx (putF f v fs))) → Ex F F2 → tz D σ H2) : tSeq (sFld K (tVar i) te f) tz D σ H := by
  refine h H w.step.inn w.step.good _ fun v F2 H2 hv s => ?_
  have w2 := w.run g0 s
  exact ⟨.ref x, hi, x, C, dx, fs, rfl, (w2.get hk).2.2, cl, na, hz, q v F2 _ hv (w2.put g0 k hk fun ys z => by cases z) s.sub⟩
theorem t_fldXO1 {i : Nat} {Φ : V → Hp → Prop} (k : Nat) (g0 : Good pt F0 H0) (w : Own pt F0 H0 F H L) (hk : L[k]? = some (x, .ins C dx fs)) (hi : σ[i]? = some (some (.ref x))) (cl : Cls K C) (na : NoAttr K C f) (hz : fs.length < 1000) (h : EvX pt te σ F Φ)
    (q : ∀ v F2 H2, Φ v F2 → Own pt F0 H0 F2 H2 (L.set k (x, .ins C dx (putF f v fs))) → Ex F F2 → D.nx σ H2) : sFld K (tVar i) te f D σ H :=
  t_fldXO (D := D) (tz := fun D => D.nx) k g0 w hk hi cl na hz h q
end
end Fv
namespace KH
open PySem PySem.Spec PyProof.Rows L2 L2H Fv Evl StX
abbrev s_Collector___init__ : Stmt := inClass (topS 1) 0
theorem sc_Collector___init__ : FnScope ["self", "houses", "own", "house"] ["self", "houses", "own"] (defScope s_Collector___init__) := ⟨rfl, rfl, rfl, by decide +kernel, rfl, by decide +kernel, by decide +kernel⟩
abbrev s_Collector_forget : Stmt := inClass (topS 1) 1
theorem sc_Collector_forget : FnScope ["self"] ["self"] (defScope s_Collector_forget) := ⟨rfl, rfl, rfl, by decide +kernel, rfl, by decide +kernel, by decide +kernel⟩
abbrev s_Collector_read_from : Stmt := inClass (topS 1) 2
theorem sc_Collector_read_from : FnScope ["self", "cells", "house", "view"] ["self", "cells"] (defScope s_Collector_read_from) := ⟨rfl, rfl, rfl, by decide +kernel, rfl, by decide +kernel, by decide +kernel⟩
abbrev s_Collector_stable_view : Stmt := inClass (topS 1) 3
theorem sc_Collector_stable_view : FnScope ["self"] ["self"] (defScope s_Collector_stable_view) := ⟨rfl, rfl, rfl, by decide +kernel, rfl, by decide +kernel, by decide +kernel⟩
structure ColC (K : PySem.W.Frag) (C : Addr) : Prop where
  cl : Cls K C
  nN : NoAttr K C "n"
  nO : NoAttr K C "own"
  nT : NoAttr K C "_turns"
  nU : NoAttr K C "turn"
  nS : NoAttr K C "so_far"
  nF : NoAttr K C "full"
/-- a collector: the house left out, the place of its turns, what it read, the full collects, what was held when they ended -/
structure Co where
  own : Option Int
  at_ : Nat
  row : ORow
  full : List ORow
  mom : List ORow
def turnsO (n : Nat) (o : Option Int) : List Int := ((List.range n).map fun k : Nat => (k : Int)).filter fun k => !decide (o = some k)
def nones (n : Nat) : ORow := List.replicate n none
def startC (n : Nat) (o : Option Int) : Co := ⟨o, 0, nones n, [], []⟩
def houseC (n : Nat) (c : Co) : Nat := ((turnsO n c.own).getD c.at_ 0).toNat
/-- one read -/
def stepC (n : Nat) (held : ORow) (c : Co) : Co :=
  if c.at_ + 1 = (turnsO n c.own).length then ⟨c.own, 0, nones n, c.full ++ [c.row.set (houseC n c) (held.getD (houseC n c) none)], c.mom ++ [held]⟩
  else ⟨c.own, c.at_ + 1, c.row.set (houseC n c) (held.getD (houseC n c) none), c.full, c.mom⟩
def stabC (c : Co) : Option ORow := if c.full.length < 2 then none else if c.full.getD (c.full.length - 1) [] = c.full.getD (c.full.length - 2) [] then some (c.full.getD (c.full.length - 1) []) else none
def stabD : Option ORow → PyData
  | none => .none
  | some r => dO r
/-- what holds for it throughout -/
structure CoOk (n : Nat) (c : Co) : Prop where
  few : 2 ≤ n ∧ n ≤ 1000
  own : ∀ k, c.own = some k → 0 ≤ k ∧ k < (n : Int)
  at_ : c.at_ < (turnsO n c.own).length
  row : c.row.length = n
  rows : ∀ r ∈ c.full, r.length = n
  mom : c.mom.length = c.full.length
theorem turns_mem {n : Nat} {o : Option Int} {k : Int} : k ∈ turnsO n o ↔ (0 ≤ k ∧ k < (n : Int)) ∧ o ≠ some k := by
  unfold turnsO
  rw [List.mem_filter, List.mem_map]
  constructor
  · rintro ⟨⟨j, hj, rfl⟩, h⟩
    have := List.mem_range.mp hj
    exact ⟨by omega, by simpa using h⟩
  · rintro ⟨h, h2⟩
    exact ⟨⟨k.toNat, List.mem_range.mpr (by omega), by omega⟩, by simpa using h2⟩
theorem turns_asc (n : Nat) (o : Option Int) : (turnsO n o).Pairwise (· < ·) := by
  unfold turnsO
  refine List.Pairwise.filter _ ?_
  rw [List.pairwise_map]
  exact List.Pairwise.imp (fun {a b} h => by omega) List.pairwise_lt_range
theorem turns_pos {n : Nat} {o : Option Int} (h : 2 ≤ n) : 0 < (turnsO n o).length := by
  by_cases z : o = some 0
  · exact List.length_pos_of_mem (a := (1 : Int)) (turns_mem.mpr ⟨by omega, by rw [z]; simp⟩)
  · exact List.length_pos_of_mem (a := (0 : Int)) (turns_mem.mpr ⟨by omega, z⟩)
theorem houseC_at {n : Nat} {c : Co} (ok : CoOk n c) : (turnsO n c.own)[c.at_]? = some ((houseC n c : Nat) : Int) ∧ houseC n c < n := by
  have hat := ok.at_
  have h := List.getElem?_eq_getElem hat
  have m := (turns_mem.mp (List.getElem_mem hat)).1
  unfold houseC
  rw [List.getD_eq_getElem?_getD, h]
  refine ⟨congrArg some ?_, ?_⟩
  · show (turnsO n c.own)[c.at_] = (((turnsO n c.own)[c.at_]).toNat : Int)
    omega
  · show ((turnsO n c.own)[c.at_]).toNat < n
    omega
theorem startC_ok {n : Nat} {o : Option Int} (h : 2 ≤ n ∧ n ≤ 1000) (ho : ∀ k, o = some k → 0 ≤ k ∧ k < (n : Int)) : CoOk n (startC n o) := ⟨h, ho, turns_pos h.1, by simp [startC, nones], fun r hr => (by cases hr), rfl⟩
theorem stepC_ok {n : Nat} {c : Co} {held : ORow} (ok : CoOk n c) : CoOk n (stepC n held c) := by
  unfold stepC
  split
  · refine ⟨ok.few, ok.own, turns_pos ok.few.1, by simp [nones], fun r hr => ?_, by simp [ok.mom]⟩
    rcases List.mem_append.mp hr with h | h
    · exact ok.rows r h
    · rw [List.mem_singleton.mp h, List.length_set]; exact ok.row
  · have := ok.at_
    exact ⟨ok.few, ok.own, by show c.at_ + 1 < (turnsO n c.own).length; omega, by show (c.row.set _ _).length = n; rw [List.length_set]; exact ok.row, ok.rows, ok.mom⟩
abbrev colF (n : Nat) (ov tv : V) (t : Int) (sv fv : V) : List (Str × V) := [("n", .int n), ("own", ov), ("_turns", tv), ("turn", .int t), ("so_far", sv), ("full", fv)]
/-- a collector's fields -/
structure ColF (K : PySem.W.Frag) (F : Hp) (fs : List (Str × V)) (n : Nat) (c : Co) : Prop where
  ex : ∃ ov tv sv fv, fs = colF n ov tv (houseC n c) sv fv ∧ Rp K F ov (optD c.own) ∧ TupF F tv (turnsO n c.own) ∧ Rp K F sv (dO c.row) ∧ Rp K F fv (.tuple (c.full.map dO))
  ok : CoOk n c
abbrev colL (C x dx : Addr) (fs : List (Str × V)) : List Own1 := [(x, .ins C dx fs), (dx, .own x)]
section
variable {P : Program} {w : World} {K : PySem.W.Frag} {mg : Str → Option Value} {base : Heap} {CC0 CO C : Addr}
variable {pt : Option Pt} {σ : L2.St} {F F' F0 H0 H F2 H2 : Hp} {te ta tb ty td : TE} {ts tr : TA} {D : Ends} {tz : TS} {L : List Own1} {x dx l : Addr} {n : Nat} {held : ORow} {us : List V} {fs : List (Str × V)} {c : Co}
theorem ColF.mono (e : Ex F F') (h : ColF K F fs n c) : ColF K F' fs n c := by
  obtain ⟨ov, tv, sv, fv, h1, h2, h3, h4, h5⟩ := h.ex
  exact ⟨⟨ov, tv, sv, fv, h1, Rp.mono e _ _ h2, h3.mono e, Rp.mono e _ _ h4, Rp.mono e _ _ h5⟩, h.ok⟩
theorem nl_optAll : ∀ r : ORow, nlL (r.map optD) = true
  | [] => rfl
  | o :: r => by
    have h1 := nl_opt o
    have h2 := nl_optAll r
    simp only [List.map_cons, nlL, h1, h2, Bool.and_self]
theorem nl_dO (r : ORow) : nl (dO r) = true := by
  show nlL (r.map optD) = true
  exact nl_optAll r
theorem nl_rows : ∀ rs : List ORow, nlL (rs.map dO) = true
  | [] => rfl
  | r :: rs => by
    have h1 := nl_dO r
    have h2 := nl_rows rs
    simp only [List.map_cons, nlL, h1, h2, Bool.and_self]
/-! forget -/
def fgtF (fs : List (Str × V)) (t : Int) (sv fv : V) : List (Str × V) := putF "full" fv (putF "so_far" sv (putF "turn" (.int t) fs))
def spFgt (K : PySem.W.Frag) (C : Addr) : Sp := fun vs H Q _ => ∃ (x dx : Addr) (fs : List (Str × V)) (n : Nat) (t : Int) (ts : List Int) (tv : V) (F : Hp), vs = [.ref x] ∧ (2 ≤ n ∧ n ≤ 1000) ∧ fs.length < 900 ∧ fs.lookup ("_turns" : Str) = some tv ∧ fs.lookup ("n" : Str) = some (V.int n) ∧ TupF F tv (t :: ts) ∧ OwnIn F H (colL C x dx fs) ∧
  ∀ sv fv F2 H2, Rp K F2 sv (dO (nones n)) → Rp K F2 fv (.tuple []) → Own none F (delAll (colL C x dx fs) H) F2 H2 (colL C x dx (fgtF fs t sv fv)) → Q .non H2
theorem look_ne {f g : Str} {v : V} (h : (g == f) = false) : (putF f v fs).lookup g = fs.lookup g := by
  rw [lookup_putF, if_neg (by simpa using h)]
theorem ok_fgt {f : Addr} {fd : FuncData} (Fn : Fun K "forget" "Collector.forget" s_Collector_forget f fd) (OC : ColC K CO) : FnOk P w K mg base CX0 2 f fd ["self"] (spFgt K CO) := by
  refine Fn.ok sc_Collector_forget (fun vs H Q E ⟨_, _, _, _, _, _, _, _, h, _⟩ => by rw [h]; rfl) (fun cdv A outer s H vs Q E hr h => ?_)
  obtain ⟨x, dx, fs, n, t, ts, tv, F, rfl, hn, hfl, ht, hnn, htv, wi, q⟩ := h
  refine ⟨_, (pss_cons (ps_fld (pv 0) (pe_ix (o_ixT (K := K)) (e_fld (K := K) (pv 0) rfl) pe_int (fun _ _ => rfl)) rfl)
    (pss_cons (ps_fld (pv 0) (pe_op (o_repT (K := K)) (pe_tup (pa_cons pe_non pa_nil)) (e_fld (K := K) (pv 0) rfl)) rfl)
    (pss_one (ps_fld (pv 0) (pe_tup pa_nil) rfl)))), ?_⟩
  have w := wi.start
  have l1 := length_putF ("turn" : Str) (.int t) fs
  refine t_fldO (K := K) 0 .nil w rfl rfl OC.cl OC.nU (by omega) (R := Is (.int t)) (g_ixTF (x_fld (K := K) (i := 0) rfl (w.see (k := 0) rfl) OC.cl OC.nT ht fun F' e' => (htv.mono (w.seeEx .nil)).mono e') g_int (by simp [atI, ixN])) (fun d hd => by rw [show d = _ from hd]; rfl) fun d v F2 H2 hd w2 e2 hv => ?_
  subst hd
  obtain rfl := rp_int hv
  refine t_fldO (K := K) 0 .nil w2 rfl rfl OC.cl OC.nS (by omega) (R := Is (dO (nones n))) (g_repT (g_tupI (gs_one g_non) (by show 1 ≤ 100000; decide)) (g_fld (K := K) (i := 0) rfl (w2.see (k := 0) rfl) OC.cl OC.nN (by rw [look_ne (by decide)]; exact hnn) (.int _)) hn.1 hn.2) (fun d hd => by rw [show d = _ from hd]; exact nl_dO _) fun d v F3 H3 hd w3 e3 hv3 => ?_
  subst hd
  have l2 := length_putF ("so_far" : Str) v (putF "turn" (.int t) fs)
  refine t_fldO1 (K := K) 0 .nil w3 rfl rfl OC.cl OC.nF (by omega) (R := Is (.tuple [])) (g_tupI gs_nil (by show 0 ≤ 100000; decide)) (fun d hd => by rw [show d = _ from hd]; rfl) fun d u F4 H4 hd w4 e4 hv4 => ?_
  subst hd
  exact q v u F4 H4 (Rp.mono e4 _ _ hv3) hv4 w4
/-! a collector made -/
def optV : Option Int → V
  | none => .non
  | some k => .int k
theorem rp_opt (o : Option Int) : Rp K F (optV o) (optD o) := by cases o <;> constructor
theorem eqv_opt (k : Int) (o : Option Int) : PyData.eqv (.int k) (optD o) = decide (o = some k) := by
  cases o with
  | none => rfl
  | some j =>
    show decide (k = j) = decide (some j = some k)
    by_cases h : k = j
    · subst h; simp
    · have : ¬ j = k := fun e => h e.symm
      simp [h, this]
theorem shaped_opt (o : Option Int) : SeqAt.shaped (optD o) = true := by cases o <;> rfl
def spColI (K : PySem.W.Frag) (C : Addr) : Sp := fun vs H Q _ => ∃ (x dx : Addr) (n : Nat) (o : Option Int) (F : Hp), vs = [.ref x, .int n, optV o] ∧ (2 ≤ n ∧ n ≤ 1000) ∧ (∀ k, o = some k → 0 ≤ k ∧ k < (n : Int)) ∧ OwnIn F H (colL C x dx []) ∧
  ∀ fs F2 H2, ColF K F2 fs n (startC n o) → Own none F (delAll (colL C x dx []) H) F2 H2 (colL C x dx fs) → Q .non H2
theorem ok_colI {f fG : Addr} {fd fdG : FuncData} {kws : List (Str × V)} (Fn : L2.FunD K "__init__" "Collector.__init__" (defArgs s_Collector___init__) (defBody s_Collector___init__) (defScope s_Collector___init__) [] kws f fd) (T : Tx mg) (OC : ColC K CO)
    (m_forget : Meth K CO "forget" fG) (b_forget : Binds K fdG ["self"] []) (G_forget : FnOk P w K mg base CX0 2 fG fdG ["self"] (spFgt K CO)) : FnOk P w K mg base CX0 3 f fd ["self", "houses", "own"] (spColI K CO) := by
  refine okD Fn sc_Collector___init__ (fun vs H Q E ⟨_, _, _, _, _, h, _⟩ => by rw [h]; rfl) (fun cdv A outer s H vs Q E hr h => ?_)
  obtain ⟨x, dx, n, o, F, rfl, hn, ho, wi, q⟩ := h
  refine ⟨_, (pss_cons (ps_fld (pv 0) (pv 1) rfl)
    (pss_cons (ps_fld (pv 0) (pv 2) rfl)
    (pss_cons (ps_fld (pv 0) (pe_callTy (c_tupF (K := K)) (by rfl) T.tuple (by decide +kernel) (pa_cons (pe_lc (own := [("house", 3)]) (g := gName 3) rfl sc_Collector___init__.nd (pi_range1 (by rfl) T.range (pa_cons (pv 1) pa_nil)) (blkOk_by (own := [("house", 3)]) (N := ["self", "houses", "own", "house"]) (sc := (defScope s_Collector___init__)) (by decide +kernel)) (fun _ _ _ _ _ => pg_name (i := 3) sc_Collector___init__.nd rfl (by first | exact Or.inl rfl | exact Or.inr rfl)) (fun _ _ _ _ _ => (pts_one (pt_cmpR (o_neD (K := K) hr.units) (pv 3) (pv 2) (nomark _)))) (fun _ _ _ _ _ => (pv 3))) pa_nil)) rfl)
    (pss_one (ps_expr (pe_meth0 (pv 0) OC.cl m_forget G_forget (hr.mono (by decide)) b_forget .nil pass0)))))), ?_⟩
  have w := wi.start
  refine t_fldO (K := K) 0 .nil w rfl rfl OC.cl OC.nN (by decide) (R := Is (.int (n : Int))) (g_var (v := .int n) (i := 1) rfl (.int _)) (fun d hd => by rw [show d = _ from hd]; rfl) fun d v F2 H2 hd w2 e2 hv => ?_
  subst hd
  obtain rfl := rp_int hv
  refine t_fldXO (K := K) (Φ := fun v _ => v = optV o) 0 .nil w2 rfl rfl OC.cl OC.nO (by show 1 < 1000; decide) (x_var (i := 2) rfl) fun v F3 H3 hv3 w3 e3 => ?_
  subst hv3
  refine t_fldXO (K := K) (Φ := fun v F2 => TupF F2 v (turnsO n o)) 0 .nil w3 rfl rfl OC.cl OC.nT (by show 2 < 1000; decide) (x_tupF (gs_one ((g_lcE (fun k : Nat => PyData.int k) (List.range n) (fun k => !decide (o = some (k : Int))) (fun k => .int k) (w_range (g_var (v := .int n) (i := 1) rfl (.int _)) (by omega)) (by simp; omega) (fun _ => rfl) (fun k hk F' e' y hy => (et_of (K := K) (g_opI (g_var (i := 3) rfl hy) (g_var (v := optV o) (i := 2) rfl (rp_opt o)) (rv_neD rfl (shaped_opt o)))).is (by rw [eqv_opt])) fun k hk _ F' e' y hy => g_var (i := 3) rfl hy).is ?_))) fun v F4 H4 hv4 w4 e4 => ?_
  · unfold turnsO
    rw [List.filter_map, List.map_map]; rfl
  obtain ⟨t, ts, hts⟩ : ∃ t ts, turnsO n o = t :: ts := by
    have := turns_pos (o := o) hn.1
    match h : turnsO n o with
    | [] => rw [h] at this; cases this
    | t :: ts => exact ⟨t, ts, rfl⟩
  refine ⟨_, rfl, x, dx, _, rfl, (w4.get (k := 0) rfl).2.2, rfl, x, dx, _, n, t, ts, v, F4, rfl, hn, by show 3 < 900; decide, rfl, rfl, hts ▸ hv4, w4.to w4.nd fun _ h => h, fun sv fv F5 H5 h1 h2 c5 => ?_⟩
  obtain ⟨w5, e5⟩ := Own.callAt .nil w4 [⟨0, x, .ins CO dx [("n", .int n), ("own", optV o), ("_turns", v)], .ins CO dx (fgtF [("n", .int n), ("own", optV o), ("_turns", v)] t sv fv)⟩, ⟨1, dx, .own x, .own x⟩] (fun u hu => by
    simp only [List.mem_cons, List.not_mem_nil, or_false] at hu
    rcases hu with rfl | rfl <;> rfl) (by simp) c5 (fun u hu => by
    simp only [List.mem_cons, List.not_mem_nil, or_false] at hu
    rcases hu with rfl | rfl
    · exact List.mem_cons_self ..
    · exact List.mem_cons_of_mem _ (List.mem_cons_self ..))
  refine q _ F5 H5 ⟨⟨optV o, v, sv, fv, ?_, rp_opt o, hv4.mono e5, h1, h2⟩, startC_ok hn ho⟩ w5
  have : ((houseC n (startC n o) : Nat) : Int) = t := by
    have h0 := (houseC_at (startC_ok hn ho)).1
    rw [show (startC n o).at_ = 0 from rfl, show (startC n o).own = o from rfl, hts] at h0
    exact (Option.some.inj h0).symm
  rw [this]; rfl
/-! one read -/
theorem atI_last {ys : List Int} (h : 0 < ys.length) : atI ys (-1) = ys[ys.length - 1]? := by
  have : ixN ys.length (-1) = some (ys.length - 1) := by
    unfold ixN
    rw [if_neg (by omega), if_pos (by omega)]
    congr 1; omega
  unfold atI
  rw [this]; rfl
def spRdf (K : PySem.W.Frag) (CC0 C : Addr) : Sp := fun vs H Q _ => ∃ (x dx y dy l : Addr) (fs : List (Str × V)) (n : Nat) (held : ORow) (us : List V) (c : Co) (F : Hp), vs = [.ref x, .ref y] ∧ ColF K F fs n c ∧ c.full.length ≤ 1000 ∧ RpAll K F us (held.map optD) ∧ held.length = n ∧ OwnIn F H (colL C x dx fs ++ celL CC0 y dy l n us) ∧
  ∀ fs2 F2 H2, ColF K F2 fs2 n (stepC n held c) → Own none F (delAll (colL C x dx fs ++ celL CC0 y dy l n us) H) F2 H2 (colL C x dx fs2 ++ celL CC0 y dy l n us) → Q .non H2
theorem take_set_drop {α : Type} {r : List α} {k : Nat} {a : α} (h : k < r.length) : r.take k ++ [a] ++ r.drop (k + 1) = r.set k a := by
  rw [List.append_assoc]
  rw [List.set_eq_take_append_cons_drop, if_pos h]; rfl
theorem ok_rdf {f fR : Addr} {fd fdR : FuncData} (Fn : Fun K "read_from" "Collector.read_from" s_Collector_read_from f fd) (CC : CelC K CC0) (OC : ColC K CO)
    (m_read : Meth K CC0 "read" fR) (b_read : Binds K fdR ["self", "house"] []) (G_read : FnOk P w K mg base CX0 3 fR fdR ["self", "house"] (spRd K CC0)) : FnOk P w K mg base CX0 4 f fd ["self", "cells"] (spRdf K CC0 CO) := by
  refine Fn.ok sc_Collector_read_from (fun vs H Q E ⟨_, _, _, _, _, _, _, _, _, _, _, h, _⟩ => by rw [h]; rfl) (fun cdv A outer s H vs Q E hr h => ?_)
  obtain ⟨x, dx, y, dy, l, fs, n, held, us, c, F, rfl, cf, hfl, hu, hl, wi, q⟩ := h
  obtain ⟨ov, tv, sv, fv, rfl, hov, htv, hsv, hfv⟩ := cf.ex
  have ok := cf.ok
  have hn := ok.few
  obtain ⟨hh, hlt⟩ := houseC_at ok
  generalize hk : houseC n c = k at hh hlt hfl
  refine ⟨_, (pss_cons (ps_set (i := 2) sc_Collector_read_from.nd rfl (by first | exact Or.inl rfl | exact Or.inr rfl) (e_fld (K := K) (pv 0) rfl))
    (pss_cons (ps_set (i := 3) sc_Collector_read_from.nd rfl (by first | exact Or.inl rfl | exact Or.inr rfl) (pe_op (o_catA (K := K)) (pe_op (o_catA (K := K)) (pe_slice (s_any (K := K)) (e_fld (K := K) (pv 0) rfl) po_none (po_some (pv 2))) (pe_tup (pa_cons (pe_meth (pv 1) CC.cl m_read G_read (hr.mono (by decide)) b_read .nil pass0 (pa_cons (pv 2) pa_nil)) pa_nil))) (pe_slice (s_tup (K := K)) (e_fld (K := K) (pv 0) rfl) (po_some (pe_op op_add (pv 2) pe_int)) po_none)))
    (pss_one (ps_if (pt_cmpR op_eq (pv 2) (pe_ix (o_ixT (K := K)) (e_fld (K := K) (pv 0) rfl) (pe_un un_neg pe_int) (fun _ _ => rfl)) (nomark _)) (pss_cons (ps_fld (pv 0) (pe_ix (o_ixT (K := K)) (e_fld (K := K) (pv 0) rfl) pe_int (fun _ _ => rfl)) rfl)
    (pss_cons (ps_fld (pv 0) (pe_op (o_repT (K := K)) (pe_tup (pa_cons pe_non pa_nil)) (e_fld (K := K) (pv 0) rfl)) rfl)
    (pss_one (ps_fld (pv 0) (pe_tup (a_star (K := K) (e_fld (K := K) (pv 0) rfl) (pa_cons (pv 3) pa_nil))) rfl)))) (pss_cons (ps_fld (pv 0) (pe_ix (o_ixT (K := K)) (e_fld (K := K) (pv 0) rfl) (pe_op op_add (pe_bmF PySem.F.plainAttrs_tuple PySem.F.slot_tuple_index PySem.F.type_tuple_index mt_tup_indexI (e_fld (K := K) (pv 0) rfl) (pa_cons (pv 2) pa_nil)) pe_int) (fun _ _ => rfl)) rfl)
    (pss_one (ps_fld (pv 0) (pv 3) rfl))))))), ?_⟩
  have w := wi.start
  rw [hk] at w
  refine t_asgO (K := K) .nil w (R := Is (.int (k : Int))) (g_fld (K := K) (i := 0) rfl (w.see (k := 0) rfl) OC.cl OC.nU rfl (.int _)) (fun d hd => by rw [show d = _ from hd]; rfl) fun d v F1 H1 hd w1 e1 hv => ?_
  subst hd
  obtain rfl := rp_int hv
  have see1 := w1.seeEx .nil
  have ca : CelAt K CC0 (putAll _ F1) y n held := .own .nil w1 (k1 := 2) (k2 := 4) rfl rfl (RpAll.mono e1 _ _ hu) hl hn
  have gk : ∀ {σ' : L2.St} {F' : Hp}, σ'[2]? = some (some (.int (k : Int))) → EvG K none (tVar 2) σ' F' (Is (.int (k : Int))) := fun h => g_var (v := .int k) h (.int _)
  have gs : ∀ {σ' : L2.St} {F' : Hp}, σ'[0]? = some (some (.ref x)) → Ex (putAll (colL CO x dx (colF n ov tv k sv fv) ++ celL CC0 y dy l n us) F1) F' → EvG K none (tFld K (tVar 0) "so_far") σ' F' (Is (dO c.row)) := fun h e' => g_fld (K := K) h (e' _ _ (w1.see (k := 0) rfl)) OC.cl OC.nS rfl (Rp.mono ((e1.trans see1).trans e') _ _ hsv)
  refine t_asgO (K := K) .nil w1 (R := Is (dO (c.row.set k (held.getD k none)))) (EvG.is (g_opI (g_opI (g_slU (.inr rfl) (gs rfl (Ex.refl _)) (gk rfl)) (g_tupI (gs_one (g_methD (z := optD (held.getD k none)) (ds := [.int (k : Int)]) (i := 1) (x := y) rfl (w1.see (k := 2) rfl) rfl (gs_one (gk rfl)) fun F2 H2 vs e2 i2 hv2 Q' q' => ?_)) (by show 1 ≤ 100000; decide)) (rv_catA ?_)) (g_slA (gs rfl (Ex.refl _)) (i := k + 1) (g_opI (gk rfl) g_int rv_add)) (rv_catA ?_)) ?_) (fun d hd => by rw [show d = _ from hd]; exact nl_dO _) fun d v F2 H2 hd w2 e2 hv2 => ?_
  · obtain ⟨v1, rfl, hv1⟩ := rpAll1 hv2
    obtain rfl := rp_int hv1
    exact ⟨y, n, k, held, F2, rfl, ca.mono e2, hlt, i2, q'⟩
  · have := ok.row
    simp; omega
  · have := ok.row
    simp; omega
  · show PyData.tuple (((c.row.map optD).take k ++ [optD (held.getD k none)]) ++ (c.row.map optD).drop (k + 1)) = PyData.tuple ((c.row.set k (held.getD k none)).map optD)
    rw [take_set_drop (by rw [List.length_map, ok.row]; exact hlt), List.map_set]
  subst hd
  have htv2 := htv.mono (e1.trans e2)
  have hfv2 := Rp.mono (e1.trans e2) _ _ hfv
  have hsv2 := Rp.mono (e1.trans e2) _ _ hsv
  have hov2 := Rp.mono (e1.trans e2) _ _ hov
  have hu2 := RpAll.mono (e1.trans e2) _ _ hu
  have tlen := turns_pos (o := c.own) hn.1
  have hat := ok.at_
  have lastv : (turnsO n c.own)[(turnsO n c.own).length - 1]? = some (turnsO n c.own)[(turnsO n c.own).length - 1] := List.getElem?_eq_getElem (by omega)
  have iff : decide ((k : Int) = (turnsO n c.own)[(turnsO n c.own).length - 1]) = decide (c.at_ + 1 = (turnsO n c.own).length) := by
    have e3 : (turnsO n c.own)[c.at_] = (k : Int) := by
      rw [List.getElem?_eq_getElem hat] at hh; exact Option.some.inj hh
    rw [decide_eq_decide, ← e3]
    constructor
    · intro e
      apply Classical.byContradiction
      intro ne
      have := List.pairwise_iff_getElem.mp (turns_asc n c.own) c.at_ ((turnsO n c.own).length - 1) hat (by omega) (by omega)
      omega
    · intro e
      congr 1; omega
  refine t_ifO1 .nil w2 (b := decide (c.at_ + 1 = (turnsO n c.own).length)) (EtG.is (et_of (K := K) (g_opI (gk rfl) (g_ixTF (x_fld (K := K) (i := 0) rfl (w2.see (k := 0) rfl) OC.cl OC.nT rfl fun F' e' => (htv2.mono (w2.seeEx .nil)).mono e') (g_un1 g_int) (by rw [atI_last tlen]; exact lastv)) rv_eqI)) iff) (fun hb F3 H3 w3 e3 => ?_) fun hb F3 H3 w3 e3 => ?_
  · have hb' : c.at_ + 1 = (turnsO n c.own).length := of_decide_eq_true hb
    have h0 := List.getElem?_eq_getElem tlen
    refine t_fldO (K := K) 0 .nil w3 rfl rfl OC.cl OC.nU (by show 6 < 1000; decide) (R := Is (.int (turnsO n c.own)[0])) (g_ixTF (x_fld (K := K) (i := 0) rfl (w3.see (k := 0) rfl) OC.cl OC.nT rfl fun F' e' => ((htv2.mono e3).mono (w3.seeEx .nil)).mono e') g_int (atI_nat (j := 0) h0)) (fun d hd => by rw [show d = _ from hd]; rfl) fun d v4 F4 H4 hd w4 e4 hv4 => ?_
    subst hd
    obtain rfl := rp_int hv4
    refine t_fldO (K := K) 0 .nil w4 rfl rfl OC.cl OC.nS (by show 6 < 1000; decide) (R := Is (dO (nones n))) (g_repT (g_tupI (gs_one g_non) (by show 1 ≤ 100000; decide)) (g_fld (K := K) (i := 0) rfl (w4.see (k := 0) rfl) OC.cl OC.nN rfl (.int _)) hn.1 hn.2) (fun d hd => by rw [show d = _ from hd]; exact nl_dO _) fun d v5 F5 H5 hd w5 e5 hv5 => ?_
    subst hd
    refine t_fldO1 (K := K) 0 .nil w5 rfl rfl OC.cl OC.nF (by show 6 < 1000; decide) (R := Is (.tuple ((c.full ++ [c.row.set k (held.getD k none)]).map dO))) (EvG.is (g_tupI (gs_star (.inr rfl) (g_fld (K := K) (i := 0) rfl (w5.see (k := 0) rfl) OC.cl OC.nF rfl (Rp.mono (((e3.trans e4).trans e5).trans (w5.seeEx .nil)) _ _ hfv2)) (gs_one (g_var (i := 3) rfl (Rp.mono (((e3.trans e4).trans e5).trans (w5.seeEx .nil)) _ _ hv2)))) (by simp; omega)) (by simp)) (fun d hd => by rw [show d = _ from hd]; exact nl_rows _) fun d v6 F6 H6 hd w6 e6 hv6 => ?_
    subst hd
    have e36 := ((e3.trans e4).trans e5).trans e6
    have sc : stepC n held c = ⟨c.own, 0, nones n, c.full ++ [c.row.set k (held.getD k none)], c.mom ++ [held]⟩ := by
      unfold stepC
      rw [if_pos hb', hk]
    refine q _ F6 H6 ⟨⟨ov, tv, v5, v6, ?_, by rw [sc]; exact Rp.mono e36 _ _ hov2, by rw [sc]; exact htv2.mono e36, by rw [sc]; exact Rp.mono e6 _ _ hv5, by rw [sc]; exact hv6⟩, stepC_ok ok⟩ w6
    have := (houseC_at (stepC_ok (held := held) ok)).1
    rw [sc] at this
    rw [sc, ← Option.some.inj (h0.symm.trans this)]; rfl
  · have hb' : c.at_ + 1 ≠ (turnsO n c.own).length := of_decide_eq_false hb
    have h1 := List.getElem?_eq_getElem (l := turnsO n c.own) (i := c.at_ + 1) (by omega)
    have nodup : ∀ m < c.at_, (turnsO n c.own)[m]? ≠ some (k : Int) := fun m hm e => by
      obtain ⟨m1, m2⟩ := List.getElem?_eq_some_iff.mp e
      obtain ⟨m3, m4⟩ := List.getElem?_eq_some_iff.mp hh
      have := List.pairwise_iff_getElem.mp (turns_asc n c.own) m c.at_ m1 m3 hm
      omega
    refine t_fldO (K := K) 0 .nil w3 rfl rfl OC.cl OC.nU (by show 6 < 1000; decide) (R := Is (.int ((turnsO n c.own)[c.at_ + 1]'(by omega)))) (g_ixTF (k := ((c.at_ + 1 : Nat) : Int)) (x_fld (K := K) (i := 0) rfl (w3.see (k := 0) rfl) OC.cl OC.nT rfl fun F' e' => ((htv2.mono e3).mono (w3.seeEx .nil)).mono e') (g_opI (g_tindexF (x_fld (K := K) (i := 0) rfl (w3.see (k := 0) rfl) OC.cl OC.nT rfl fun F' e' => ((htv2.mono e3).mono (w3.seeEx .nil)).mono e') (gk rfl) hh nodup) g_int rv_add) (atI_nat h1)) (fun d hd => by rw [show d = _ from hd]; rfl) fun d v4 F4 H4 hd w4 e4 hv4 => ?_
    subst hd
    obtain rfl := rp_int hv4
    refine t_fldXO1 (K := K) (Φ := fun v F2 => v = _) 0 .nil w4 rfl rfl OC.cl OC.nS (by show 6 < 1000; decide) (x_var (i := 3) rfl) fun v5 F5 H5 hv5 w5 e5 => ?_
    subst hv5
    have e35 := (e3.trans e4).trans e5
    have sc : stepC n held c = ⟨c.own, c.at_ + 1, c.row.set k (held.getD k none), c.full, c.mom⟩ := by
      unfold stepC
      rw [if_neg hb', hk]
    refine q _ F5 H5 ⟨⟨ov, tv, _, fv, ?_, by rw [sc]; exact Rp.mono e35 _ _ hov2, by rw [sc]; exact htv2.mono e35, by rw [sc]; exact Rp.mono e35 _ _ hv2, by rw [sc]; exact Rp.mono e35 _ _ hfv2⟩, stepC_ok ok⟩ w5
    have := (houseC_at (stepC_ok (held := held) ok)).1
    rw [sc] at this
    rw [sc, ← Option.some.inj (h1.symm.trans this)]; rfl
/-! the view read twice -/
def spStb (K : PySem.W.Frag) (C : Addr) : Sp := fun vs H Q _ => ∃ (x dx : Addr) (fs : List (Str × V)) (n : Nat) (c : Co) (F : Hp), vs = [.ref x] ∧ F x = some (.ins C dx fs) ∧ ColF K F fs n c ∧ Ex F H ∧ ∀ v F2 H2, Step none F H F2 H2 → Rp K F2 v (stabD (stabC c)) → Q v H2
theorem atD_neg {α : Type} {ys : List α} {k : Nat} (h1 : 1 ≤ k) (h2 : k ≤ ys.length) : atI ys (-(k : Int)) = ys[ys.length - k]? := by
  have : ixN ys.length (-(k : Int)) = some (ys.length - k) := by
    unfold ixN
    rw [if_neg (by omega), if_pos (by omega)]
    congr 1; omega
  unfold atI
  rw [this]; rfl
theorem ok_stb {f : Addr} {fd : FuncData} (Fn : Fun K "stable_view" "Collector.stable_view" s_Collector_stable_view f fd) (T : Tx mg) (OC : ColC K CO) : FnOk P w K mg base CX0 1 f fd ["self"] (spStb K CO) := by
  refine Fn.ok sc_Collector_stable_view (fun vs H Q E ⟨_, _, _, _, _, _, h, _⟩ => by rw [h]; rfl) (fun cdv A outer s H vs Q E hr h => ?_)
  obtain ⟨x, dx, fs, n, c, F, rfl, hx, cf, e, q⟩ := h
  obtain ⟨ov, tv, sv, fv, rfl, hov, htv, hsv, hfv⟩ := cf.ex
  refine ⟨_, (pss_cons (ps_if (PW.pt (pw_or (pt_cmpR op_lt (pe_callB (c_len (K := K)) (by rfl) T.len (by decide +kernel) (pa_cons (e_fld (K := K) (pv 0) rfl) pa_nil)) pe_int (nomark _)) (pw_or1 (pt_cmpR (o_neD (K := K) hr.units) (pe_ix (o_ixT (K := K)) (e_fld (K := K) (pv 0) rfl) (pe_un un_neg pe_int) (fun _ _ => rfl)) (pe_ix (o_ixT (K := K)) (e_fld (K := K) (pv 0) rfl) (pe_un un_neg pe_int) (fun _ _ => rfl)) (nomark _))))) (pss_one (ps_ret pe_non)) pss_nil)
    (pss_one (ps_ret (pe_ix (o_ixT (K := K)) (e_fld (K := K) (pv 0) rfl) (pe_un un_neg pe_int) (fun _ _ => rfl))))), ?_⟩
  have gf : ∀ {σ' : L2.St} {F' : Hp}, σ'[0]? = some (some (.ref x)) → Ex F F' → EvG K none (tFld K (tVar 0) "full") σ' F' (Is (.tuple (c.full.map dO))) := fun h e' => g_fld (K := K) h (e' _ _ hx) OC.cl OC.nF rfl (Rp.mono e' _ _ hfv)
  have gd : ∀ {k : Nat}, 1 ≤ k → k ≤ c.full.length → atI (c.full.map dO) (-(k : Int)) = some (dO (c.full.getD (c.full.length - k) [])) := fun {k} h1 h2 => by
    rw [atD_neg h1 (by rw [List.length_map]; exact h2), List.length_map, List.getElem?_map, List.getD_eq_getElem?_getD, List.getElem?_eq_getElem (by omega)]; rfl
  have none_ : ∀ {b : Bool}, (decide (c.full.length < 2) || !decide (c.full.getD (c.full.length - 1) [] = c.full.getD (c.full.length - 2) [])) = b → b = true → stabD (stabC c) = .none := fun h hb => by
    rw [hb] at h
    unfold stabC
    by_cases z : c.full.length < 2
    · rw [if_pos z]; rfl
    · rw [if_neg z, if_neg (by simpa [z] using h)]; rfl
  refine t_when (b := decide (c.full.length < 2) || !decide (c.full.getD (c.full.length - 1) [] = c.full.getD (c.full.length - 2) [])) (Step.refl e .nil) (et_or (et_of (K := K) (g_opI (g_cbI (gs_one (gf rfl (Ex.refl _))) (rc_lenS (.inr rfl))) g_int (rv_bl (g := fun i j => decide (i < j)))) |>.is (by rw [List.length_map]; exact decide_eq_decide.mpr (by omega))) fun hz => ?_) (fun hb F2 H2 s2 e2 => ?_) fun hb F2 H2 s2 e2 => ?_
  · have hz' : ¬ c.full.length < 2 := by simpa using hz
    exact (et_of (K := K) (g_opI (g_opI (gf rfl (Ex.refl _)) (g_un1 (i := 1) g_int) (rv_ixT (gd (k := 1) (by omega) (by omega)))) (g_opI (gf rfl (Ex.refl _)) (g_un1 (i := 2) g_int) (rv_ixT (gd (k := 2) (by omega) (by omega)))) (rv_neD (shaped_dO _) (shaped_dO _)))).is (by rw [eqv_dO])
  · exact t_retI (K := K) s2 (g_non.is (none_ rfl hb).symm) q
  · simp only [Bool.or_eq_false_iff, decide_eq_false_iff_not, Bool.not_eq_false', decide_eq_true_eq] at hb
    refine t_retI (K := K) s2 (EvG.is (g_opI (gf rfl e2) (g_un1 (i := 1) g_int) (rv_ixT (gd (k := 1) (by omega) (by omega)))) ?_) q
    unfold stabC
    rw [if_neg hb.1, if_pos hb.2]; rfl
end
end KH
namespace KH
open PySem PySem.Spec PyProof.Rows L2 L2H Fv Evl StX
abbrev s_law_refused : Stmt := topS 14
theorem sc_law_refused : FnScope ["_law_cells", "_law_house", "_law_value", "raised"] ["_law_cells", "_law_house", "_law_value"] (defScope s_law_refused) := ⟨rfl, rfl, rfl, by decide +kernel, rfl, by decide +kernel, by decide +kernel⟩
abbrev s_law_no_cell : Stmt := topS 15
theorem sc_law_no_cell : FnScope ["_law_cells", "_law_house", "raised"] ["_law_cells", "_law_house"] (defScope s_law_no_cell) := ⟨rfl, rfl, rfl, by decide +kernel, rfl, by decide +kernel, by decide +kernel⟩
abbrev s_law_houses_of : Stmt := topS 16
theorem sc_law_houses_of : FnScope ["_law_n", "_law_skipped", "_law_house"] ["_law_n", "_law_skipped"] (defScope s_law_houses_of) := ⟨rfl, rfl, rfl, by decide +kernel, rfl, by decide +kernel, by decide +kernel⟩
abbrev s_law_start : Stmt := topS 17
theorem sc_law_start : FnScope ["_law_n", "_law_skipped"] ["_law_n", "_law_skipped"] (defScope s_law_start) := ⟨rfl, rfl, rfl, by decide +kernel, rfl, by decide +kernel, by decide +kernel⟩
section
variable {P : Program} {w : World} {K : PySem.W.Frag} {mg : Str → Option Value} {base : Heap} {CC0 CO CF CN CT C : Addr} {mc cls : Value}
variable {pt : Option Pt} {σ : L2.St} {F F' F0 H0 H F2 H2 : Hp} {te ta tb ty td : TE} {ts tr : TA} {D : Ends} {tz : TS} {L : List Own1} {x dx l a dd : Addr} {n : Nat} {held : ORow} {us : List V} {fs : List (Str × V)} {c : Co} {d : PyData}
theorem g_isY {i : Nat} {c : V} {cv : Value} (h0 : σ[i]? = some (some (.ref a))) (hc : ∀ u, RelV c u → u = cv) (hk : PySem.W.kitOne K cls cv = some true) : EvG K pt (tCB (rIsY K cls a) (tCons (tVar i) (tCons (tC c) tNil))) σ F (Is (.bool true)) := fun H1 e g Q q =>
  ⟨_, h0, c, cv, rfl, hc, hk, q _ _ F H1 rfl (.refl e g) (.bl true)⟩
theorem g_xf {i : Nat} {n : Str} {fs : List (Str × V)} {v : V} (h0 : σ[i]? = some (some (.ref a))) (hd : F dd = some (.xd fs)) (hl : fs.lookup n = some v) (hv : Rp K F v d) : EvG K pt (tXf a (.ref C) (some dd) C n (tVar i)) σ F (Is d) := fun H1 e g Q q =>
  ⟨_, h0, rfl, rfl, dd, fs, v, rfl, e _ _ hd, hl, q _ v F H1 rfl (.refl e g) hv⟩
/-! a write that is refused -/
def spWrU (K : PySem.W.Frag) (C CN CT : Addr) : Sp := fun vs H Q E => spWrT K C CT vs H Q E ∨ spWrN K C CN vs H Q E
/-- the word and the house that are told -/
def refD (n : Nat) (held : ORow) (d : PyData) (wd : Str) : Prop := (wd = "none" ∧ isWhole (some 0) (some ((n : Int) - 1)) d = false) ∨ (wd = "twice" ∧ ∃ k : Nat, d = .int k ∧ k < n ∧ ∃ i, held[k]? = some (some i))
def spRef (K : PySem.W.Frag) (C : Addr) : Sp := fun vs H Q _ => ∃ (x : Addr) (n : Nat) (held : ORow) (d : PyData) (wd : Str) (v z : V) (F : Hp), vs = [.ref x, v, z] ∧ CelAt K C F x n held ∧ refD n held d wd ∧ Rp K F v d ∧ Ex F H ∧ ∀ u F2 H2, Step none F H F2 H2 → Rp K F2 u (.tuple [.str wd, d, .bool true]) → Q u H2
theorem ok_ref {f fX iN iT : Addr} {fd fdX : FuncData} (Fn : Fun K "_law_refused" "_law_refused" s_law_refused f fd) (T : Tx mg) (CC : CelC K CC0) (FM : FirmC K mg CF mc) (E_NoHouse : ErrC K mg CF CN iN "NoHouse" ["house"]) (E_Twice : ErrC K mg CF CT iT "Twice" ["house"]) (apart : PySem.W.exmOne K (.ref CN) (.ref CT) = some false)
    (m_write : Meth K CC0 "write" fX) (b_write : Binds K fdX ["self", "house", "value"] []) (GX_write : FnOk P w K mg base (L2.CX P w) 4 fX fdX ["self", "house", "value"] (spWrU K CC0 CN CT)) : FnOk P w K mg base CX0 5 f fd ["_law_cells", "_law_house", "_law_value"] (spRef K CC0) := by
  refine Fn.ok sc_law_refused (fun vs H Q E ⟨_, _, _, _, _, _, _, _, h, _⟩ => by rw [h]; rfl) (fun cdv A outer s H vs Q E hr h => ?_)
  obtain ⟨x, n, held, d, wd, v, z, F, rfl, ca, hr2, hv, e, q⟩ := h
  obtain ⟨dx, l, us, h1, h2, h3⟩ := ca.ex
  refine ⟨_, (pss_cons (ps_try_asL (i := 3) rfl rfl sc_law_refused.nd rfl rfl (fun W pn xe tkW po => (pss_one (ps_expr (pe_methE (pv 0) CC.cl m_write GX_write (hr.mono (by decide)) b_write (fun σ => passAt tkW σ) (pa_cons (pv 1) (pa_cons (pv 2) pa_nil)))))) (.cons ⟨by rfl, by decide, .inl E_Twice.g⟩ (fun a oe cls d pn hz hf => (pss_one (ps_ret (pe_tup (pa_cons pe_str (pa_cons (pe_xf E_Twice.xf (E_Twice.no "house" (by simp)) hz hf (pv 3)) (pa_cons (pe_callB (c_isY (K := K) hz) (by rfl) T.isinstance (by decide +kernel) (pa_cons (pv 3) (pa_cons (pe_glob (v := .ref CF) (by rfl) FM.g rfl) pa_nil))) pa_nil))))))) (.cons ⟨by rfl, by decide, .inl E_NoHouse.g⟩ (fun a oe cls d pn hz hf => (pss_one (ps_ret (pe_tup (pa_cons pe_str (pa_cons (pe_xf E_NoHouse.xf (E_NoHouse.no "house" (by simp)) hz hf (pv 3)) (pa_cons (pe_callB (c_isY (K := K) hz) (by rfl) T.isinstance (by decide +kernel) (pa_cons (pv 3) (pa_cons (pe_glob (v := .ref CF) (by rfl) FM.g rfl) pa_nil))) pa_nil))))))) .nil)))
    (pss_one (ps_ret pe_non))), ?_⟩
  refine ⟨_, rfl, x, dx, _, rfl, e _ _ h1, rfl, _, rfl, _, rfl, ?_⟩
  rcases hr2 with ⟨rfl, hw⟩ | ⟨rfl, k, rfl, hk, hh⟩
  · refine .inr ⟨x, n, held, d, v, z, F, rfl, ca, hw, hv, e, fun F2 H2 dd s2 hdd => ⟨false, apart, (fun z => by cases z), fun _ => ⟨true, E_NoHouse.self, fun _ a ha => ?_, fun z => by cases z⟩⟩⟩
    obtain ⟨y, hdd, hy⟩ := hdd
    exact t_retI (K := K) s2 (g_tupI (gs_three g_str (g_xf (i := 3) rfl hdd rfl hy) (g_isY (i := 3) rfl (fun u h => by cases h; rfl) E_NoHouse.up)) (by show 3 ≤ 100000; decide)) q
  · obtain rfl := rp_int hv
    refine .inl ⟨x, n, k, held, z, F, rfl, ca, ⟨hk, hh⟩, e, fun F2 H2 dd s2 hdd => ⟨true, E_Twice.self, fun _ a ha => ?_, fun z => by cases z⟩⟩
    obtain ⟨y, hdd, hy⟩ := hdd
    exact t_retI (K := K) s2 (g_tupI (gs_three g_str (g_xf (i := 3) rfl hdd rfl hy) (g_isY (i := 3) rfl (fun u h => by cases h; rfl) E_Twice.up)) (by show 3 ≤ 100000; decide)) q
/-! no cell -/
def spNoC (K : PySem.W.Frag) (C : Addr) : Sp := fun vs H Q _ => ∃ (x : Addr) (n : Nat) (held : ORow) (d : PyData) (v : V) (F : Hp), vs = [.ref x, v] ∧ CelAt K C F x n held ∧ (isWhole (some 0) (some ((n : Int) - 1)) d = false ∧ SeqAt.shaped d = true ∧ PyData.eqv d d = true) ∧ Rp K F v d ∧ Ex F H ∧ ∀ u F2 H2, Step none F H F2 H2 → Rp K F2 u (.bool true) → Q u H2
theorem ok_noC {f fX iN : Addr} {fd fdX : FuncData} (Fn : Fun K "_law_no_cell" "_law_no_cell" s_law_no_cell f fd) (T : Tx mg) (CC : CelC K CC0) (FM : FirmC K mg CF mc) (E_NoHouse : ErrC K mg CF CN iN "NoHouse" ["house"])
    (m_read : Meth K CC0 "read" fX) (b_read : Binds K fdX ["self", "house"] []) (GX_read : FnOk P w K mg base (L2.CX P w) 4 fX fdX ["self", "house"] (spRdB K CC0 CN)) : FnOk P w K mg base CX0 5 f fd ["_law_cells", "_law_house"] (spNoC K CC0) := by
  refine Fn.ok sc_law_no_cell (fun vs H Q E ⟨_, _, _, _, _, _, h, _⟩ => by rw [h]; rfl) (fun cdv A outer s H vs Q E hr h => ?_)
  obtain ⟨x, n, held, d, v, F, rfl, ca, ⟨hw, hs, hee⟩, hv, e, q⟩ := h
  obtain ⟨dx, l, us, h1, h2, h3⟩ := ca.ex
  refine ⟨_, (pss_cons (ps_try_asL (i := 2) rfl rfl sc_law_no_cell.nd rfl rfl (fun W pn xe tkW po => (pss_one (ps_expr (pe_methE (pv 0) CC.cl m_read GX_read (hr.mono (by decide)) b_read (fun σ => passAt tkW σ) (pa_cons (pv 1) pa_nil))))) (.cons ⟨by rfl, by decide, .inl E_NoHouse.g⟩ (fun a oe cls d pn hz hf => (pss_one (ps_ret (pe_cmpR (o_eqD (K := K) hr.units) (pe_xf E_NoHouse.xf (E_NoHouse.no "house" (by simp)) hz hf (pv 2)) (pv 1) (nomark _))))) .nil))
    (pss_one (ps_ret pe_bl))), ?_⟩
  refine ⟨_, rfl, x, dx, _, rfl, e _ _ h1, rfl, _, rfl, x, n, held, d, v, F, rfl, ca, hw, hv, e, fun F2 H2 dd s2 hdd => ⟨true, E_NoHouse.self, fun _ a ha => ?_, fun z => by cases z⟩⟩
  obtain ⟨y, hdd, hy⟩ := hdd
  exact t_retI (K := K) s2 ((g_opI (g_xf (i := 2) rfl hdd rfl hy) (g_var (i := 1) rfl (Rp.mono s2.sub _ _ hv)) (rv_eqD hs hs)).is (by rw [hee])) q
/-! turns, as the law has them -/
abbrev spHof (K : PySem.W.Frag) : Sp := PSp K (fun i : Nat × Option Int => [.int i.1, optD i.2]) (fun i => i.1 ≤ 1000) (fun i => .list ((turnsO i.1 i.2).map .int))
theorem ok_hof {f : Addr} {fd : FuncData} (Fn : Fun K "_law_houses_of" "_law_houses_of" s_law_houses_of f fd) (T : Tx mg) : FnOk P w K mg base CX0 1 f fd ["_law_n", "_law_skipped"] (spHof K) := by
  refine Fn.ok sc_law_houses_of (PSp.len (fun _ => rfl)) (fun cdv A outer s H vs Q E hr h => ?_)
  obtain ⟨⟨n, o⟩, F, hn, e, ha, q⟩ := h
  simp only at hn
  obtain ⟨v1, v2, rfl, h1, h2⟩ := rpAll2 ha
  obtain rfl := rp_int h1
  refine ⟨_, (pss_one (ps_ret (pe_lc (own := [("_law_house", 2)]) (g := gName 2) rfl sc_law_houses_of.nd (pi_range1 (by rfl) T.range (pa_cons (pv 0) pa_nil)) (blkOk_by (own := [("_law_house", 2)]) (N := ["_law_n", "_law_skipped", "_law_house"]) (sc := (defScope s_law_houses_of)) (by decide +kernel)) (fun _ _ _ _ _ => pg_name (i := 2) sc_law_houses_of.nd rfl (by first | exact Or.inl rfl | exact Or.inr rfl)) (fun _ _ _ _ _ => (pts_one (pt_cmpR (o_neD (K := K) hr.units) (pv 2) (pv 1) (nomark _)))) (fun _ _ _ _ _ => (pv 2))))), ?_⟩
  refine t_retI (K := K) (Step.refl e .nil) (EvG.is (g_lcE (fun k : Nat => PyData.int k) (List.range n) (fun k => !decide (o = some (k : Int))) (fun k => .int k) (w_range (g_var (v := .int n) (i := 0) rfl (.int _)) (by omega)) (by simp; omega) (fun _ => rfl) (fun k hk F' e' y hy => (et_of (K := K) (g_opI (g_var (i := 2) rfl hy) (g_var (i := 1) rfl (Rp.mono e' _ _ h2)) (rv_neD rfl (shaped_opt o)))).is (by rw [eqv_opt])) fun k hk _ F' e' y hy => g_var (i := 2) rfl hy) ?_) q
  show _ = PyData.list ((turnsO n o).map .int)
  unfold turnsO
  rw [List.filter_map, List.map_map]; rfl
/-- what the law keeps of a collector -/
def coDs (c : Co) : List PyData := [optD c.own, .int c.at_, dO c.row, .list (c.full.map dO), .list (c.mom.map dO)]
def spLst (K : PySem.W.Frag) : Sp := fun vs H Q _ => ∃ (n : Nat) (o : Option Int) (F : Hp) (v : V), vs = [.int n, v] ∧ (2 ≤ n ∧ n ≤ 1000) ∧ Ex F H ∧ Rp K F v (optD o) ∧ ∀ l ws F2 H2, Own none F H F2 H2 [(l, .lst ws)] → RpAll K F2 ws (coDs (startC n o)) → Q (.ref l) H2
theorem ok_lst {f : Addr} {fd : FuncData} (Fn : Fun K "_law_start" "_law_start" s_law_start f fd) : FnOk P w K mg base CX0 1 f fd ["_law_n", "_law_skipped"] (spLst K) := by
  refine Fn.ok sc_law_start (fun vs H Q E ⟨_, _, _, _, h, _⟩ => by rw [h]; rfl) (fun cdv A outer s H vs Q E hr h => ?_)
  obtain ⟨n, o, F, v2, rfl, hn, e, h2, q⟩ := h
  refine ⟨_, (pss_one (ps_ret (pe_lst (pa_cons (pv 1) (pa_cons pe_int (pa_cons (pe_op (o_repT (K := K)) (pe_tup (pa_cons pe_non pa_nil)) (pv 0)) (pa_cons (pe_lst pa_nil) (pa_cons (pe_lst pa_nil) pa_nil)))))))), ?_⟩
  refine t_retLst (K := K) (ds := coDs (startC n o)) (Step.refl e .nil) (gs_consI (g_var (i := 1) rfl h2) (gs_consI g_int (gs_three (g_repT (g_tupI (gs_one g_non) (by show 1 ≤ 100000; decide)) (g_var (v := .int n) (i := 0) rfl (.int _)) hn.1 hn.2) (g_lstI gs_nil (by show 0 ≤ 100000; decide)) (g_lstI gs_nil (by show 0 ≤ 100000; decide))))) fun vs F2 H2 s2 hv => ⟨by rw [hv.length]; exact sz_of (by show 5 ≤ 100000; decide), fun p hp => ?_⟩
  exact q p vs F2 _ ((Own.nil s2).new hp (o := .lst vs) fun ys z => by cases z) hv
end
end KH
/-! objects that change, further: made in a display or a comprehension, lists joined, popped from; calls that read them -/
namespace Fv
open PySem PySem.Spec PyProof.Rows L2 Evl StX
section
variable {K : PySem.W.Frag} {pt : Option Pt} {σ : L2.St} {F F' F0 H0 H F2 H2 : Hp} {te ti ta tb : TE} {ts tk : TA} {t : TT} {R : PD} {D : Ends} {tz tu tw : TS} {wi : TI} {L L' L2 LR LQ : List Own1} {a x dx l C : Addr} {o o' : HO} {fs : List (Str × V)} {f : Str} {E : XK}
theorem RpAll.tups (w : ∀ a ys, F a = some (.tup ys) → F' a = some (.tup ys)) : ∀ {ds : List PyData} {vs : List V}, nlL ds = true → RpAll K F vs ds → RpAll K F' vs ds
  | [], _, _, x => by cases x; exact .nil
  | d :: ds, _, hn, x => by
    simp only [nlL, Bool.and_eq_true] at hn
    cases x with
    | cons x1 x2 => exact .cons (rp_tups w d _ hn.1 x1) (RpAll.tups w hn.2 x2)
/-- x = f(..), the arguments may read what is one's own -/
theorem t_asgCO {ι : Type} {A : ι → List PyData} {Pi : ι → Prop} {r : ι → PyData} {ds : List PyData} {i : Nat} (y : ι) (g0 : Good pt F0 H0) (w : Own pt F0 H0 F H L) (h : EvsG K pt ts σ (putAll L F) (· = ds)) (hn : nlL ds = true) (ha : ds = A y) (hp : Pi y)
    (q : ∀ v F2 H2, Own pt F0 H0 F2 H2 L → Ex F F2 → Rp K F2 v (r y) → tz D (σ.set i (some v)) H2) : tSeq (tAsg (tCall (PSp K A Pi r) [] E ts) (gName i)) tz D σ H := by
  obtain ⟨e1, e2, gd, back⟩ := w.fixS g0 w.nd (fun _ h => h)
  refine h H e2 gd _ fun ds' vs F2 H2 hd s hv => ?_
  subst hd
  obtain ⟨w2, e3, tp, _⟩ := back F2 H2 s
  have hv2 := RpAll.tups tp hn hv
  rw [ha] at hv2
  rw [List.append_nil]
  exact ⟨y, delAll L F2, hp, w2.step.inn, hv2, fun v F3 H3 s3 hv3 => q v F3 H3 (w2.run g0 (s3.lift w2.step.good)) (e3.trans s3.sub) hv3⟩
/-- x[i] = a + b, lists that may be read from one's own -/
theorem t_setCatO1 {i j : Nat} {vs : List V} {ds es : List PyData} (k : Nat) (g0 : Good pt F0 H0) (w : Own pt F0 H0 F H L) (hk : L[k]? = some (l, .lst vs)) (hi : σ[i]? = some (some (.ref l)))
    (ha : EvG K pt ta σ (putAll L F) (Is (.list ds))) (hb : EvG K pt tb σ (putAll L F) (Is (.list es))) (nd : nlL ds = true) (ne : nlL es = true) (hz : ds.length + es.length ≤ 100000) (hj : EvG K pt ti σ F (Is (.int (j : Int)))) (lt : j < vs.length)
    (q : ∀ v F2 H2, Own pt F0 H0 F2 H2 (L.set k (l, .lst (vs.set j v))) → Ex F F2 → Rp K F2 v (.list (ds ++ es)) → D.nx σ H2) : tAsg (tOp rCat ta tb) (gSub (tVar i) ti rSetL) D σ H := by
  obtain ⟨e1, e2, gd, back⟩ := w.fixS g0 w.nd (fun _ h => h)
  refine ha H e2 gd _ fun d v F1 H1 hd s hv => hb.mono s.sub H1 s.inn s.good _ fun d' v' F2 H2 hd' s2 hv' => ?_
  subst hd; subst hd'
  obtain ⟨a1, xs, rfl, hl1, hx⟩ := rp_lst hv
  obtain ⟨a2, ys, rfl, hl2, hy⟩ := rp_lst hv'
  obtain ⟨w2, e3, tp, _⟩ := back F2 H2 (s.trans s2)
  have hx2 := RpAll.tups tp nd (RpAll.mono s2.sub _ _ hx)
  have hy2 := RpAll.tups tp ne hy
  refine ⟨a1, a2, xs, ys, rfl, rfl, s2.inn _ _ (s2.sub _ _ hl1), s2.inn _ _ hl2, by rw [hx2.length, hy2.length]; exact sz_of hz, fun p hp => ?_⟩
  have s3 : Step pt (delAll L F2) H2 (upd (delAll L F2) p (.lst (xs ++ ys))) (upd H2 p (.lst (xs ++ ys))) := .laid w2.step.inn w2.step.good hp
  have w3 := w2.run g0 s3
  have hv3 : Rp K (upd (delAll L F2) p (.lst (xs ++ ys))) (.ref p) (.list (ds ++ es)) := .lst upd_same ((RpAll.mono s3.sub _ _ hx2).append (RpAll.mono s3.sub _ _ hy2))
  refine ⟨.ref l, hi, hj.mono (e3.trans s3.sub) _ w3.step.inn w3.step.good _ fun d2 v2 F3 H3 hd2 s4 hv2 => ?_⟩
  subst hd2
  obtain rfl := rp_int hv2
  have w4 := w3.run g0 s4
  exact ⟨l, vs, (j : Int), j, rfl, rfl, (w4.get hk).2.2, ixN_nat lt, q _ _ _ (w4.put g0 k hk fun ys z => by cases z) ((e3.trans s3.sub).trans s4.sub) (Rp.mono s4.sub _ _ hv3)⟩
theorem t_setCatO {i j : Nat} {vs : List V} {ds es : List PyData} (k : Nat) (g0 : Good pt F0 H0) (w : Own pt F0 H0 F H L) (hk : L[k]? = some (l, .lst vs)) (hi : σ[i]? = some (some (.ref l)))
    (ha : EvG K pt ta σ (putAll L F) (Is (.list ds))) (hb : EvG K pt tb σ (putAll L F) (Is (.list es))) (nd : nlL ds = true) (ne : nlL es = true) (hz : ds.length + es.length ≤ 100000) (hj : EvG K pt ti σ F (Is (.int (j : Int)))) (lt : j < vs.length)
    (q : ∀ v F2 H2, Own pt F0 H0 F2 H2 (L.set k (l, .lst (vs.set j v))) → Ex F F2 → Rp K F2 v (.list (ds ++ es)) → tz D σ H2) : tSeq (tAsg (tOp rCat ta tb) (gSub (tVar i) ti rSetL)) tz D σ H :=
  t_setCatO1 (D := { D with nx := tz D }) k g0 w hk hi ha hb nd ne hz hj lt q
/-- what is made, as a value: C(..) whose promise sp tells what it leaves -/
theorem e_making {sp : Sp} {ws : List V} (g0 : Good pt F0 H0) (w : Own pt F0 H0 F H L) (Φ : Addr → Hp → List Own1 → Prop)
    (hs : ∀ H1 x dx, OwnIn F H1 [(x, .ins C dx []), (dx, .own x)] → ∀ Q : VK, (∀ F2 H2 L2, Own none F (delAll [(x, .ins C dx []), (dx, .own x)] H1) F2 H2 L2 → Φ x F2 L2 → Q .non H2) → sp (.ref x :: ws) H1 Q E)
    (x dx : Addr) (hx : H x = none) (hdx : H dx = none) (hne : dx ≠ x) {PP : VK} (q : ∀ F2 H2 L2, Own pt F0 H0 F2 H2 (L ++ L2) → Ex F F2 → Φ x F2 L2 → PP .non H2) : sp (.ref x :: ws) (upd (upd H dx (.own x)) x (.ins C dx [])) PP E := by
  have w1 := w.new hdx (o := .own x) fun ys z => by cases z
  have hx1 : (upd H dx (.own x)) x = none := by rw [upd_ne hne.symm]; exact hx
  have w2 := w1.new hx1 (o := .ins C dx []) fun ys z => by cases z
  have nd2 : ([(x, HO.ins C dx []), (dx, HO.own x)].map (·.1)).Nodup := by simp; exact hne.symm
  have sL : ∀ p ∈ [(x, HO.ins C dx []), (dx, HO.own x)], p ∈ L ++ [(dx, HO.own x)] ++ [(x, HO.ins C dx [])] := fun p hp => by
    simp only [List.mem_cons, List.not_mem_nil, or_false] at hp
    rcases hp with rfl | rfl <;> simp
  have ndA : ([(x, HO.ins C dx []), (dx, HO.own x)].map (·.1) ++ L.map (·.1)).Nodup := by
    rw [List.nodup_append]
    refine ⟨nd2, w.nd, fun b hb c hc e => ?_⟩
    obtain ⟨r, hr, rfl⟩ := List.mem_map.mp hc
    have hr2 := (w.off r hr).2.2.1
    simp only [List.map_cons, List.map_nil, List.mem_cons, List.not_mem_nil, or_false] at hb
    rcases hb with rfl | rfl
    · rw [← e, hx] at hr2; cases hr2
    · rw [← e, hdx] at hr2; cases hr2
  refine hs _ x dx (w2.to nd2 sL) _ fun F2 H2 L2 c ph => ?_
  obtain ⟨w3, e3⟩ := Own.call g0 w2 sL (LQ := L) (fun p hp => by simp [hp]) ndA c
  refine q F2 H2 L2 (w3.less ?_ fun p hp => ?_) e3 ph
  · have := w3.nd
    rw [List.map_append] at this ⊢
    exact (List.perm_append_comm.nodup_iff).mp this
  · rcases List.mem_append.mp hp with z | z
    · exact List.mem_append_right _ z
    · exact List.mem_append_left _ z
/-- a comprehension each of whose items is a list of one's own -/
theorem e_lcOwn {α : Type} {j : Nat} {vs : List Nat} {Q : VK} (enc : α → PyData) (ys : List α) (Ψ : α → HO → Hp → Prop) (hm : ∀ y o F F', Ex F F' → Ψ y o F → Ψ y o F') (g0 : Good pt F0 H0) (w : Own pt F0 H0 F H L) (hw : WiG K pt wi σ F (· = ys.map enc)) (hz : ys.length ≤ 20000) (hwp : ∀ x, wipe ((wipe σ vs).set j (some x)) vs = wipe σ vs)
    (he : ∀ y ∈ ys, ∀ F' H' L' v, Own pt F0 H0 F' H' L' → Ex F F' → Rp K F' v (enc y) → ∀ Q : VK, (∀ l o F2 H2, Own pt F0 H0 F2 H2 (L' ++ [(l, o)]) → Ex F' F2 → Ψ y o F2 → Q (.ref l) H2) → te ((wipe σ vs).set j (some v)) H' Q)
    (q : ∀ Dd bs F2 H2, Own pt F0 H0 F2 H2 (L ++ (Dd, .lst (bs.map fun b => V.ref b.1)) :: bs) → Ex F F2 → Paired (fun (b : Own1) y => Ψ y b.2 F2) bs ys → Q (.ref Dd) H2) : tLc wi (gName j) tYes te vs σ H Q :=
  hw H w.step.inn w.step.good _ fun ds J F1 H1 hds s1 Y => fun Dd hD => by
    subst hds
    have w1 := w.run g0 s1
    have hlen : (ys.map enc).length = ys.length := by simp
    refine ⟨fun i m H => m = ys.length - i ∧ i ≤ ys.length ∧ ∃ F' bs, Own pt F0 H0 F' H (L ++ (Dd, .lst (bs.map fun b => V.ref b.1)) :: bs) ∧ Ex F1 F' ∧ Paired (fun (b : Own1) y => Ψ y b.2 F') bs (ys.take i), ⟨ys.length, by simp, Nat.zero_le _, F1, [], w1.new hD (fun ys z => by cases z), Ex.refl _, .nil⟩, ?_⟩
    rintro i m H ⟨rfl, hi, F', bs, wb, ef, pr⟩
    have eH : Ex F1 H := ef.trans wb.step.inn
    by_cases hlt : i < ys.length
    · refine .inr ⟨Y.go i H eH (by rw [hlen]; exact hlt), fun H => ∃ F' bs, Own pt F0 H0 F' H (L ++ (Dd, .lst (bs.map fun b => V.ref b.1)) :: bs) ∧ Ex F1 F' ∧ Paired (fun (b : Own1) y => Ψ y b.2 F') bs (ys.take (i + 1)), fun H' p' => ⟨ys.length - (i + 1), by omega, rfl, hlt, p'⟩, fun v H' y => ?_⟩
      obtain ⟨rfl, d, hd, hx⟩ := Y.yld i H v H' eH (by rw [hlen]; exact hlt) y
      obtain ⟨y0, hy0, rfl⟩ := get_map hd
      have hm0 : y0 ∈ ys := List.mem_of_getElem? hy0
      refine ⟨hwp v, yes_of (ite_t ?_)⟩
      refine he y0 hm0 F' _ _ v wb (s1.sub.trans ef) (Rp.mono ef _ _ hx) _ fun l o F2 H2 w2 e2 hu => ?_
      have hk : (L ++ (Dd, HO.lst (bs.map fun b => V.ref b.1)) :: bs ++ [(l, o)])[L.length]? = some (Dd, .lst (bs.map fun b => V.ref b.1)) := by
        rw [List.append_assoc, List.getElem?_append_right (Nat.le_refl _), Nat.sub_self]; rfl
      have hl : bs.length = i := by have := Paired.length pr; rw [List.length_take] at this; omega
      have w3 := w2.put g0 L.length hk (o' := .lst (bs.map (fun b => V.ref b.1) ++ [.ref l])) fun ys z => by cases z
      have e3 : (L ++ (Dd, HO.lst (bs.map fun b => V.ref b.1)) :: bs ++ [(l, o)]).set L.length (Dd, .lst (bs.map (fun b => V.ref b.1) ++ [.ref l])) = L ++ (Dd, .lst ((bs ++ [(l, o)]).map fun b => V.ref b.1)) :: (bs ++ [(l, o)]) := by
        rw [List.append_assoc, List.set_append_right _ _ (Nat.le_refl _), Nat.sub_self, List.map_append]; rfl
      rw [e3] at w3
      refine ⟨_, (w2.get hk).2.2, by rw [List.length_map, hl]; exact Nat.lt_of_le_of_lt (by omega) (show 20000 < sizeLine by decide), F2, bs ++ [(l, o)], w3, ef.trans e2, ?_⟩
      rw [take_succA hy0]
      exact Paired.snoc (Paired.mapP pr fun _ _ z => hm _ _ _ _ e2 z) hu
    · have hE : i = ys.length := Nat.le_antisymm hi (Nat.le_of_not_lt hlt)
      subst hE
      rw [List.take_length] at pr
      exact .inl ⟨by have := Y.stop H eH; rw [hlen] at this; exact this, q Dd bs F' _ wb (s1.sub.trans ef) pr⟩
end
end Fv
namespace KH
open PySem PySem.Spec PyProof.Rows L2 L2H Fv Evl StX
abbrev s_law_turn : Stmt := topS 18
theorem sc_law_turn : FnScope ["_law_real", "_law_mine", "_law_cells", "_law_held", "_law_n", "_law_turns", "_law_house"] ["_law_real", "_law_mine", "_law_cells", "_law_held", "_law_n"] (defScope s_law_turn) := ⟨rfl, rfl, rfl, by decide +kernel, rfl, by decide +kernel, by decide +kernel⟩
section
variable {P : Program} {w : World} {K : PySem.W.Frag} {mg : Str → Option Value} {base : Heap} {CC0 CO CF CN CT C : Addr} {mc cls : Value}
variable {pt : Option Pt} {σ : L2.St} {F F' F0 H0 H F2 H2 : Hp} {te ti ta tb ty td : TE} {ts tr : TA} {D : Ends} {tz : TS} {L : List Own1} {x dx l a dd : Addr} {n : Nat} {held : ORow} {us ws : List V} {fs : List (Str × V)} {c : Co} {d : PyData} {ds : List PyData}
theorem g_ixO {i k j : Nat} (g0 : Good pt F0 H0) (w : Own pt F0 H0 F H L) (hk : L[k]? = some (l, .lst ws)) (hi : σ[i]? = some (some (.ref l))) (hw : RpAll K F ws ds) (h : EvG K pt ti σ (putAll L F) (Is (.int (j : Int)))) (hj : ds[j]? = some d) : EvG K pt (tOp (rIxL K) (tVar i) ti) σ (putAll L F) (Is d) :=
  g_opI (g_var hi (.lst (w.see hk) (RpAll.mono (w.seeEx g0) _ _ hw))) h (rv_ixL (atI_nat hj))
theorem rp_optV : ∀ r : ORow, RpAll K F (r.map optV) (r.map optD)
  | [] => .nil
  | o :: r => .cons (rp_opt o) (rp_optV r)
theorem look_col {F : Hp} (cf : ColF K F fs n c) {m : Str} (h : (colF 0 .non .non 0 .non .non).lookup m = none) : fs.lookup m = none := by
  obtain ⟨ov, tv, sv, fv, rfl, _⟩ := cf.ex
  simp only [colF, List.lookup_cons] at h ⊢
  split at h
  · cases h
  · split at h
    · cases h
    · split at h
      · cases h
      · split at h
        · cases h
        · split at h
          · cases h
          · split at h
            · cases h
            · simp_all
/-! one turn, in both -/
def spTrn (K : PySem.W.Frag) (CC0 C : Addr) : Sp := fun vs H Q _ => ∃ (x dx m y dy l h : Addr) (fs : List (Str × V)) (ws : List V) (n : Nat) (held : ORow) (c : Co) (F : Hp), vs = [.ref x, .ref m, .ref y, .ref h, .int n] ∧ ColF K F fs n c ∧ RpAll K F ws (coDs c) ∧ held.length = n ∧ c.full.length ≤ 900 ∧
  OwnIn F H (colL C x dx fs ++ celL CC0 y dy l n (held.map optV) ++ [(m, .lst ws), (h, .lst (held.map optV))]) ∧
  ∀ fs2 ws2 F2 H2, ColF K F2 fs2 n (stepC n held c) → RpAll K F2 ws2 (coDs (stepC n held c)) → Own none F (delAll (colL C x dx fs ++ celL CC0 y dy l n (held.map optV) ++ [(m, .lst ws), (h, .lst (held.map optV))]) H) F2 H2 (colL C x dx fs2 ++ celL CC0 y dy l n (held.map optV) ++ [(m, .lst ws2), (h, .lst (held.map optV))]) → Q .non H2
theorem ok_trn {f fR fH : Addr} {fd fdR fdH : FuncData} (Fn : Fun K "_law_turn" "_law_turn" s_law_turn f fd) (T : Tx mg) (CC : CelC K CC0) (OC : ColC K CO)
    (F_law_houses_of : Fun K "_law_houses_of" "_law_houses_of" s_law_houses_of fH fdH) (b_law_houses_of : Binds K fdH ["_law_n", "_law_skipped"] []) (g_law_houses_of : mg "_law_houses_of" = some (.ref fH))
    (m_read_from : Meth K CO "read_from" fR) (b_read_from : Binds K fdR ["self", "cells"] []) (G_read_from : FnOk P w K mg base CX0 4 fR fdR ["self", "cells"] (spRdf K CC0 CO)) : FnOk P w K mg base CX0 5 f fd ["_law_real", "_law_mine", "_law_cells", "_law_held", "_law_n"] (spTrn K CC0 CO) := by
  have G_law_houses_of : FnOk P w K mg base CX0 1 fH fdH ["_law_n", "_law_skipped"] (spHof K) := ok_hof F_law_houses_of T
  refine Fn.ok sc_law_turn (fun vs H Q E ⟨_, _, _, _, _, _, _, _, _, _, _, _, _, h, _⟩ => by rw [h]; rfl) (fun cdv A outer s H vs Q E hr h => ?_)
  obtain ⟨x, dx, m, y, dy, l, h, fs, ws, n, held, c, F, rfl, cf, hws, hl, hfl, wi, q⟩ := h
  have ok := cf.ok
  have hn := ok.few
  obtain ⟨hh, hlt⟩ := houseC_at ok
  generalize hk : houseC n c = k at hh hlt
  refine ⟨_, (pss_cons (ps_set (i := 5) sc_law_turn.nd rfl (by first | exact Or.inl rfl | exact Or.inr rfl) (pe_call G_law_houses_of (hr.mono (by decide)) (by rfl) g_law_houses_of F_law_houses_of.kp b_law_houses_of .nil pass0 (pa_cons (pv 4) (pa_cons (pe_ix (o_ixL (K := K)) (pv 1) pe_int (fun _ _ => rfl)) pa_nil))))
    (pss_cons (ps_set (i := 6) sc_law_turn.nd rfl (by first | exact Or.inl rfl | exact Or.inr rfl) (pe_ix (o_ixL (K := K)) (pv 5) (pe_ix (o_ixL (K := K)) (pv 1) pe_int (fun _ _ => rfl)) (fun _ _ => rfl)))
    (pss_cons (ps_expr (pe_meth (pv 0) OC.cl m_read_from G_read_from (hr.mono (by decide)) b_read_from .nil pass0 (pa_cons (pv 2) pa_nil)))
    (pss_cons (ps_asg (pe_op (o_catA (K := K)) (pe_op (o_catA (K := K)) (pe_slice (s_any (K := K)) (pe_ix (o_ixL (K := K)) (pv 1) pe_int (fun _ _ => rfl)) (po_some pe_int) (po_some (pv 6))) (pe_tup (pa_cons (pe_ix (o_ixL (K := K)) (pv 3) (pv 6) (fun _ _ => rfl)) pa_nil))) (pe_slice (s_tup (K := K)) (pe_ix (o_ixL (K := K)) (pv 1) pe_int (fun _ _ => rfl)) (po_some (pe_op op_add (pv 6) pe_int)) po_none)) (pg_sub (pv 1) pe_int set_list))
    (pss_cons (ps_asg (pe_op op_add (pe_ix (o_ixL (K := K)) (pv 1) pe_int (fun _ _ => rfl)) pe_int) (pg_sub (pv 1) pe_int set_list))
    (pss_one (ps_if (pt_cmpR op_eq (pe_ix (o_ixL (K := K)) (pv 1) pe_int (fun _ _ => rfl)) (pe_callB (c_len (K := K)) (by rfl) T.len (by decide +kernel) (pa_cons (pv 5) pa_nil)) (nomark _)) (pss_cons (ps_asg (pe_op op_cat (pe_ix (o_ixL (K := K)) (pv 1) pe_int (fun _ _ => rfl)) (pe_lst (pa_cons (pe_ix (o_ixL (K := K)) (pv 1) pe_int (fun _ _ => rfl)) pa_nil))) (pg_sub (pv 1) pe_int set_list))
    (pss_cons (ps_asg (pe_op op_cat (pe_ix (o_ixL (K := K)) (pv 1) pe_int (fun _ _ => rfl)) (pe_lst (pa_cons (pe_callTy (c_tup (K := K)) (by rfl) T.tuple (by decide +kernel) (pa_cons (pv 3) pa_nil)) pa_nil))) (pg_sub (pv 1) pe_int set_list))
    (pss_cons (ps_asg pe_int (pg_sub (pv 1) pe_int set_list))
    (pss_one (ps_asg (pe_op (o_repT (K := K)) (pe_tup (pa_cons pe_non pa_nil)) (pv 4)) (pg_sub (pv 1) pe_int set_list)))))) pss_nil))))))), ?_⟩
  have w := wi.start
  have hfs : fs.lookup ("read_from" : Str) = none := look_col cf rfl
  refine t_asgCO (n, c.own) .nil w (gs_two (g_var (v := .int n) (i := 4) rfl (.int _)) (g_ixO (k := 5) (j := 0) .nil w rfl rfl hws g_int rfl)) (by simp [nlL, nl, nl_opt]) rfl hn.2 fun v1 F1 H1 w1 e1 hv1 => ?_
  replace hv1 : Rp K F1 v1 (.list ((turnsO n c.own).map .int)) := hv1
  refine t_asgO (K := K) .nil w1 (R := Is (.int (k : Int))) (g_opI (g_var (i := 5) rfl (Rp.mono (w1.seeEx .nil) _ _ hv1)) (g_ixO (k := 5) (j := 1) .nil w1 rfl rfl (RpAll.mono e1 _ _ hws) g_int rfl) (rv_ixL (atI_nat (by rw [List.getElem?_map, hh]; rfl)))) (fun d hd => by rw [show d = _ from hd]; rfl) fun d v2 F2 H2 hd w2 e2 hv2 => ?_
  subst hd
  obtain rfl := rp_int hv2
  have cf2 := cf.mono (e1.trans e2)
  have hws2 := RpAll.mono (e1.trans e2) _ _ hws
  refine ⟨_, rfl, x, dx, _, rfl, (w2.get (k := 0) rfl).2.2, hfs, _, rfl, x, dx, y, dy, l, fs, n, held, _, c, F2, rfl, cf2, by omega, rp_optV held, hl, w2.to (w2.nd.sublist (List.take_sublist 5 [x, dx, y, dy, l, m, h])) fun p hp => List.mem_append_left _ hp, fun fs3 F3 H3 cf3 c3 => ?_⟩
  obtain ⟨w3, e3⟩ := Own.callAt .nil w2 [⟨0, x, .ins CO dx fs, .ins CO dx fs3⟩, ⟨1, dx, .own x, .own x⟩, ⟨2, y, .ins CC0 dy (celF n l), .ins CC0 dy (celF n l)⟩, ⟨3, dy, .own y, .own y⟩, ⟨4, l, .lst (held.map optV), .lst (held.map optV)⟩] (fun u hu => by
    simp only [List.mem_cons, List.not_mem_nil, or_false] at hu
    rcases hu with rfl | rfl | rfl | rfl | rfl <;> rfl) (by simp) c3 (fun u hu => by
    simp only [List.mem_cons, List.not_mem_nil, or_false] at hu
    rcases hu with rfl | rfl | rfl | rfl | rfl <;> simp)
  replace w3 : Own none F _ F3 H3 (colL CO x dx fs3 ++ celL CC0 y dy l n (held.map optV) ++ [(m, .lst ws), (h, .lst (held.map optV))]) := w3
  have hws3 := RpAll.mono e3 _ _ hws2
  obtain ⟨a0, a1, a2, a3, a4, rfl, r0, r1, r2, r3, r4⟩ : ∃ a0 a1 a2 a3 a4, ws = [a0, a1, a2, a3, a4] ∧ Rp K F3 a0 (optD c.own) ∧ Rp K F3 a1 (.int c.at_) ∧ Rp K F3 a2 (dO c.row) ∧ Rp K F3 a3 (.list (c.full.map dO)) ∧ Rp K F3 a4 (.list (c.mom.map dO)) := by
    unfold coDs at hws3
    cases hws3 with
    | cons h0 h1 => cases h1 with
      | cons h1 h2 =>
        obtain ⟨b2, b3, b4, rfl, z2, z3, z4⟩ := rpAll3 h2
        exact ⟨_, _, b2, b3, b4, rfl, h0, h1, z2, z3, z4⟩
  obtain rfl := rp_int r1
  have gk : ∀ {σ' : L2.St} {F' : Hp}, σ'[6]? = some (some (.int (k : Int))) → EvG K none (tVar 6) σ' F' (Is (.int (k : Int))) := fun h => g_var (v := .int k) h (.int _)
  have hheld : ∀ {F' : Hp}, (held.map optD)[k]? = some (optD (held.getD k none)) := by
    intro _
    rw [List.getElem?_map, List.getD_eq_getElem?_getD, List.getElem?_eq_getElem (by omega)]; rfl
  refine t_setLO (K := K) (j := 2) (R := Is (dO (c.row.set k (held.getD k none)))) 5 .nil w3 rfl rfl (EvG.is (g_opI (g_opI (g_slU0 (.inr rfl) (g_ixO (k := 5) (j := 2) .nil w3 rfl rfl hws3 g_int rfl) (gk rfl)) (g_tupI (gs_one (g_ixO (k := 6) (j := k) .nil w3 rfl rfl (rp_optV held) (gk rfl) (hheld (F' := F)))) (by show 1 ≤ 100000; decide)) (rv_catA ?_)) (g_slA (g_ixO (k := 5) (j := 2) .nil w3 rfl rfl hws3 g_int rfl) (i := k + 1) (g_opI (gk rfl) g_int rv_add)) (rv_catA ?_)) ?_) (fun d hd => by rw [show d = _ from hd]; exact nl_dO _) g_int (by show 2 < 5; decide) fun d v4 F4 H4 hd w4 e4 hv4 => ?_
  · have := ok.row
    simp; omega
  · have := ok.row
    simp; omega
  · show PyData.tuple (((c.row.map optD).take k ++ [optD (held.getD k none)]) ++ (c.row.map optD).drop (k + 1)) = PyData.tuple ((c.row.set k (held.getD k none)).map optD)
    rw [take_set_drop (by rw [List.length_map, ok.row]; exact hlt), List.map_set]
  subst hd
  have h4 : RpAll K F4 [a0, .int c.at_, v4, a3, a4] [optD c.own, .int c.at_, dO (c.row.set k (held.getD k none)), .list (c.full.map dO), .list (c.mom.map dO)] := .cons (Rp.mono e4 _ _ r0) (.cons (.int _) (.cons hv4 (.cons (Rp.mono e4 _ _ r3) (.cons (Rp.mono e4 _ _ r4) .nil))))
  replace w4 : Own none F _ F4 H4 (colL CO x dx fs3 ++ celL CC0 y dy l n (held.map optV) ++ [(m, .lst [a0, .int c.at_, v4, a3, a4]), (h, .lst (held.map optV))]) := w4
  refine t_setLO (K := K) (j := 1) (R := Is (.int (c.at_ + 1 : Nat))) 5 .nil w4 rfl rfl (g_opI (g_ixO (k := 5) (j := 1) .nil w4 rfl rfl h4 g_int rfl) g_int rv_add) (fun d hd => by rw [show d = _ from hd]; rfl) g_int (by show 1 < 5; decide) fun d v5 F5 H5 hd w5 e5 hv5 => ?_
  subst hd
  obtain rfl := rp_int hv5
  have h5 : RpAll K F5 [a0, .int (c.at_ + 1 : Nat), v4, a3, a4] [optD c.own, .int (c.at_ + 1 : Nat), dO (c.row.set k (held.getD k none)), .list (c.full.map dO), .list (c.mom.map dO)] := .cons (Rp.mono (e4.trans e5) _ _ r0) (.cons (.int _) (.cons (Rp.mono e5 _ _ hv4) (.cons (Rp.mono (e4.trans e5) _ _ r3) (.cons (Rp.mono (e4.trans e5) _ _ r4) .nil))))
  replace w5 : Own none F _ F5 H5 (colL CO x dx fs3 ++ celL CC0 y dy l n (held.map optV) ++ [(m, .lst [a0, .int (c.at_ + 1 : Nat), v4, a3, a4]), (h, .lst (held.map optV))]) := w5
  have e25 := (e3.trans e4).trans e5
  have hat := ok.at_
  have hmom := ok.mom
  refine t_ifO1 .nil w5 (b := decide (c.at_ + 1 = (turnsO n c.own).length)) (EtG.is (et_of (K := K) (g_opI (g_ixO (k := 5) (j := 1) .nil w5 rfl rfl h5 g_int rfl) (g_cbI (gs_one (g_var (i := 5) rfl (Rp.mono ((e2.trans e25).trans (w5.seeEx .nil)) _ _ hv1))) (rc_lenS (.inl rfl))) rv_eqI)) (by rw [List.length_map]; exact decide_eq_decide.mpr (by omega))) (fun hb F6 H6 w6 e6 => ?_) fun hb F6 H6 w6 e6 => ?_
  · have hb' : c.at_ + 1 = (turnsO n c.own).length := of_decide_eq_true hb
    have sc : stepC n held c = ⟨c.own, 0, nones n, c.full ++ [c.row.set k (held.getD k none)], c.mom ++ [held]⟩ := by
      unfold stepC
      rw [if_pos hb', hk]
    have h6 := RpAll.mono e6 _ _ h5
    refine t_setCatO (K := K) (j := 3) (ds := c.full.map dO) (es := [dO (c.row.set k (held.getD k none))]) 5 .nil w6 rfl rfl (g_ixO (k := 5) (j := 3) .nil w6 rfl rfl h6 g_int rfl) (g_lstI (gs_one (g_ixO (k := 5) (j := 2) .nil w6 rfl rfl h6 g_int rfl)) (by show 1 ≤ 100000; decide)) (nl_rows _) (nl_rows [c.row.set k (held.getD k none)]) (by simp; omega) g_int (by show 3 < 5; decide) fun v7 F7 H7 w7 e7 hv7 => ?_
    replace w7 : Own none F _ F7 H7 (colL CO x dx fs3 ++ celL CC0 y dy l n (held.map optV) ++ [(m, .lst [a0, .int (c.at_ + 1 : Nat), v4, v7, a4]), (h, .lst (held.map optV))]) := w7
    have r07 := Rp.mono (((e4.trans e5).trans e6).trans e7) _ _ r0
    have r47 := Rp.mono (((e4.trans e5).trans e6).trans e7) _ _ r4
    have h7 : RpAll K F7 [a0, .int (c.at_ + 1 : Nat), v4, v7, a4] [optD c.own, .int (c.at_ + 1 : Nat), dO (c.row.set k (held.getD k none)), .list (c.full.map dO ++ [dO (c.row.set k (held.getD k none))]), .list (c.mom.map dO)] := .cons r07 (.cons (.int _) (.cons (Rp.mono ((e5.trans e6).trans e7) _ _ hv4) (.cons hv7 (.cons r47 .nil))))
    refine t_setCatO (K := K) (j := 4) (ds := c.mom.map dO) (es := [dO held]) 5 .nil w7 rfl rfl (g_ixO (k := 5) (j := 4) .nil w7 rfl rfl h7 g_int rfl) (g_lstI (gs_one (g_cbI (gs_one (g_var (i := 3) rfl (.lst (w7.see (k := 6) rfl) (rp_optV held)))) rc_tupL)) (by show 1 ≤ 100000; decide)) (nl_rows _) (nl_rows [held]) (by simp; omega) g_int (by show 4 < 5; decide) fun v8 F8 H8 w8 e8 hv8 => ?_
    replace w8 : Own none F _ F8 H8 (colL CO x dx fs3 ++ celL CC0 y dy l n (held.map optV) ++ [(m, .lst [a0, .int (c.at_ + 1 : Nat), v4, v7, v8]), (h, .lst (held.map optV))]) := w8
    refine t_setLO (K := K) (j := 1) (R := Is (.int 0)) 5 .nil w8 rfl rfl g_int (fun d hd => by rw [show d = _ from hd]; rfl) g_int (by show 1 < 5; decide) fun d v9 F9 H9 hd w9 e9 hv9 => ?_
    subst hd
    obtain rfl := rp_int hv9
    replace w9 : Own none F _ F9 H9 (colL CO x dx fs3 ++ celL CC0 y dy l n (held.map optV) ++ [(m, .lst [a0, .int 0, v4, v7, v8]), (h, .lst (held.map optV))]) := w9
    refine t_setLO1 (K := K) (j := 2) (R := Is (dO (nones n))) 5 .nil w9 rfl rfl (g_repT (g_tupI (gs_one g_non) (by show 1 ≤ 100000; decide)) (g_var (v := .int n) (i := 4) rfl (.int _)) hn.1 hn.2) (fun d hd => by rw [show d = _ from hd]; exact nl_dO _) g_int (by show 2 < 5; decide) fun d va Fa Ha hd wa ea hva => ?_
    subst hd
    have e7a := (e8.trans e9).trans ea
    refine q fs3 [a0, .int 0, va, v7, v8] Fa Ha (cf3.mono ((((e4.trans e5).trans e6).trans e7).trans e7a)) ?_ wa
    rw [sc]
    have t7 := Rp.mono e7a _ _ hv7
    have t8 := Rp.mono (e9.trans ea) _ _ hv8
    exact .cons (Rp.mono e7a _ _ r07) (.cons (.int _) (.cons hva (.cons (by simpa using t7) (.cons (by simpa using t8) .nil))))
  · have hb' : c.at_ + 1 ≠ (turnsO n c.own).length := of_decide_eq_false hb
    have sc : stepC n held c = ⟨c.own, c.at_ + 1, c.row.set k (held.getD k none), c.full, c.mom⟩ := by
      unfold stepC
      rw [if_neg hb', hk]
    refine q fs3 _ F6 H6 (cf3.mono ((e4.trans e5).trans e6)) ?_ w6
    rw [sc]
    exact RpAll.mono e6 _ _ h5
end
end KH
namespace KH
open PySem PySem.Spec PyProof.Rows L2 L2H Fv Evl StX
abbrev s_law_like : Stmt := topS 19
theorem sc_law_like : FnScope ["_law_real", "_law_mine", "_law_n", "_law_full", "_law_stable"] ["_law_real", "_law_mine", "_law_n"] (defScope s_law_like) := ⟨rfl, rfl, rfl, by decide +kernel, rfl, by decide +kernel, by decide +kernel⟩
abbrev s_law_moment : Stmt := topS 20
theorem sc_law_moment : FnScope ["_law_mine", "_law_stable", "_law_held", "_law_k"] ["_law_mine", "_law_stable"] (defScope s_law_moment) := ⟨rfl, rfl, rfl, by decide +kernel, rfl, by decide +kernel, by decide +kernel⟩
abbrev s_law_chained : Stmt := topS 21
theorem sc_law_chained : FnScope ["_law_views", "_law_one", "_law_other", "_law_up", "_law_k", "_law_down"] ["_law_views"] (defScope s_law_chained) := ⟨rfl, rfl, rfl, by decide +kernel, rfl, by decide +kernel, by decide +kernel⟩
/-- without the own cell -/
def cutO (own : Option Int) (r : ORow) : ORow := (List.range r.length).map fun k : Nat => if own = some (k : Int) then none else r.getD k none
/-- all that is there is there too -/
def Sub (a b : ORow) : Prop := a.length = b.length ∧ ∀ (k : Nat) (v : Int), a.getD k none = some v → b.getD k none = some v
section
variable {P : Program} {w : World} {K : PySem.W.Frag} {mg : Str → Option Value} {base : Heap} {CC0 CO CF CN CT C : Addr} {mc cls : Value}
variable {pt : Option Pt} {σ : L2.St} {F F' F0 H0 H F2 H2 : Hp} {te ti ta tb ty td : TE} {ts tr : TA} {D : Ends} {tz : TS} {L : List Own1} {x dx l a dd : Addr} {n : Nat} {held : ORow} {us ws : List V} {fs : List (Str × V)} {c : Co} {d : PyData} {ds : List PyData}
/-! like, what the program and the law keep -/
theorem lv2_opt (o : Option Int) : lv2 (optD o) := by cases o <;> rfl
theorem lv1_dO {r : ORow} (h : r.length ≤ 1000) : lv1 (dO r) := ⟨by rw [List.length_map]; exact h, fun d hd => by
  obtain ⟨o, _, rfl⟩ := List.mem_map.mp hd
  cases o <;> rfl⟩
theorem lv2_dO {r : ORow} (h : r.length ≤ 1000) : lv2 (dO r) := ⟨by rw [List.length_map]; exact h, fun d hd => by
  obtain ⟨o, _, rfl⟩ := List.mem_map.mp hd
  cases o <;> rfl⟩
theorem lv2_rows {rs : List ORow} (h : rs.length ≤ 1000) (hr : ∀ r ∈ rs, r.length ≤ 1000) : lv2 (.tuple (rs.map dO)) := ⟨by rw [List.length_map]; exact h, fun d hd => by
  obtain ⟨r, hm, rfl⟩ := List.mem_map.mp hd
  exact lv1_dO (hr r hm)⟩
def spLik (K : PySem.W.Frag) (C : Addr) : Sp := fun vs H Q _ => ∃ (x dx : Addr) (fs : List (Str × V)) (n : Nat) (c : Co) (v : V) (F : Hp), vs = [.ref x, v, .int n] ∧ F x = some (.ins C dx fs) ∧ ColF K F fs n c ∧ c.full.length ≤ 900 ∧ Rp K F v (.list (coDs c)) ∧ Ex F H ∧ ∀ u F2 H2, Step none F H F2 H2 → Rp K F2 u (.bool true) → Q u H2
theorem ok_lik {f fS fH fB : Addr} {fd fdS fdH fdB : FuncData} (Fn : Fun K "_law_like" "_law_like" s_law_like f fd) (T : Tx mg) (OC : ColC K CO)
    (F_law_same : Fun K "_law_same" "_law_same" s_law_same fS fdS) (b_law_same : Binds K fdS ["_law_told", "_law_due"] []) (g_law_same : mg "_law_same" = some (.ref fS))
    (F_law_houses_of : Fun K "_law_houses_of" "_law_houses_of" s_law_houses_of fH fdH) (b_law_houses_of : Binds K fdH ["_law_n", "_law_skipped"] []) (g_law_houses_of : mg "_law_houses_of" = some (.ref fH))
    (m_stable_view : Meth K CO "stable_view" fB) (b_stable_view : Binds K fdB ["self"] []) (G_stable_view : FnOk P w K mg base CX0 1 fB fdB ["self"] (spStb K CO)) : FnOk P w K mg base CX0 4 f fd ["_law_real", "_law_mine", "_law_n"] (spLik K CO) := by
  have G_law_same : FnOk P w K mg base CX0 3 fS fdS ["_law_told", "_law_due"] (spSm K lv2) := ok_same F_law_same T b_law_same g_law_same
  have G_law_houses_of : FnOk P w K mg base CX0 1 fH fdH ["_law_n", "_law_skipped"] (spHof K) := ok_hof F_law_houses_of T
  refine Fn.ok sc_law_like (fun vs H Q E ⟨_, _, _, _, _, _, _, h, _⟩ => by rw [h]; rfl) (fun cdv A outer s H vs Q E hr h => ?_)
  obtain ⟨x, dx, fs, n, c, v, F, rfl, hx, cf, hfl, hv, e, q⟩ := h
  have hst : fs.lookup ("stable_view" : Str) = none := look_col cf rfl
  have cf0 := cf
  obtain ⟨ov, tv, sv, fv, rfl, hov, htv, hsv, hfv⟩ := cf.ex
  have ok := cf.ok
  have hn := ok.few
  obtain ⟨hh, hlt⟩ := houseC_at ok
  generalize hk : houseC n c = k at hh hlt
  refine ⟨_, (pss_cons (ps_set (i := 3) sc_law_like.nd rfl (by first | exact Or.inl rfl | exact Or.inr rfl) (pe_ix (o_ixL (K := K)) (pv 1) pe_int (fun _ _ => rfl)))
    (pss_cons (ps_set (i := 4) sc_law_like.nd rfl (by first | exact Or.inl rfl | exact Or.inr rfl) (pe_ifExp (PW.pt (pw_and (pt_cmpR op_gt (pe_callB (c_len (K := K)) (by rfl) T.len (by decide +kernel) (pa_cons (pv 3) pa_nil)) pe_int (nomark _)) (pw_and1 (pt_cmpR (o_eqD (K := K) hr.units) (pe_ix (o_ixL (K := K)) (pv 3) (pe_un un_neg pe_int) (fun _ _ => rfl)) (pe_ix (o_ixL (K := K)) (pv 3) (pe_un un_neg pe_int) (fun _ _ => rfl)) (nomark _))))) (pe_ix (o_ixL (K := K)) (pv 3) (pe_un un_neg pe_int) (fun _ _ => rfl)) pe_non))
    (pss_cons (ps_if (PW.pt (pw_or (pt_not (pt_val (pe_call G_law_same (hr.mono (by decide)) (by rfl) g_law_same F_law_same.kp b_law_same .nil pass0 (pa_cons (e_fld (K := K) (pv 0) rfl) (pa_cons (pe_ix (o_ixL (K := K)) (pe_call G_law_houses_of (hr.mono (by decide)) (by rfl) g_law_houses_of F_law_houses_of.kp b_law_houses_of .nil pass0 (pa_cons (pv 2) (pa_cons (pe_ix (o_ixL (K := K)) (pv 1) pe_int (fun _ _ => rfl)) pa_nil))) (pe_ix (o_ixL (K := K)) (pv 1) pe_int (fun _ _ => rfl)) (fun _ _ => rfl)) pa_nil))))) (pw_or1 (pt_not (pt_val (pe_call G_law_same (hr.mono (by decide)) (by rfl) g_law_same F_law_same.kp b_law_same .nil pass0 (pa_cons (e_fld (K := K) (pv 0) rfl) (pa_cons (pe_ix (o_ixL (K := K)) (pv 1) pe_int (fun _ _ => rfl)) pa_nil)))))))) (pss_one (ps_ret pe_bl)) pss_nil)
    (pss_cons (ps_if (PW.pt (pw_or (pt_not (pt_val (pe_call G_law_same (hr.mono (by decide)) (by rfl) g_law_same F_law_same.kp b_law_same .nil pass0 (pa_cons (e_fld (K := K) (pv 0) rfl) (pa_cons (pe_callTy (c_tup (K := K)) (by rfl) T.tuple (by decide +kernel) (pa_cons (pv 3) pa_nil)) pa_nil))))) (pw_or1 (pt_not (pt_val (pe_call G_law_same (hr.mono (by decide)) (by rfl) g_law_same F_law_same.kp b_law_same .nil pass0 (pa_cons (pe_meth0 (pv 0) OC.cl m_stable_view G_stable_view (hr.mono (by decide)) b_stable_view .nil pass0) (pa_cons (pv 4) pa_nil)))))))) (pss_one (ps_ret pe_bl)) pss_nil)
    (pss_one (ps_ret (pe_and (pe_call G_law_same (hr.mono (by decide)) (by rfl) g_law_same F_law_same.kp b_law_same .nil pass0 (pa_cons (e_fld (K := K) (pv 0) rfl) (pa_cons (pe_ix (o_ixL (K := K)) (pv 1) pe_int (fun _ _ => rfl)) pa_nil))) (pe_one (pe_call G_law_same (hr.mono (by decide)) (by rfl) g_law_same F_law_same.kp b_law_same .nil pass0 (pa_cons (e_fld (K := K) (pv 0) rfl) (pa_cons (pv 2) pa_nil))))))))))), ?_⟩
  have gm : ∀ {σ' : L2.St} {F' : Hp} {j : Nat} {d : PyData}, σ'[1]? = some (some v) → Ex F F' → (coDs c)[j]? = some d → EvG K none (tOp (rIxL K) (tVar 1) (tC (.int (j : Int)))) σ' F' (Is d) := fun h e' hj => g_opI (g_var h (Rp.mono e' _ _ hv)) g_int (rv_ixL (atI_nat hj))
  have gfl : ∀ {σ' : L2.St} {F' : Hp} {f : Str} {u : V} {d : PyData}, σ'[0]? = some (some (.ref x)) → Ex F F' → NoAttr K CO f → (colF n ov tv (houseC n c) sv fv).lookup f = some u → Rp K F u d → EvG K none (tFld K (tVar 0) f) σ' F' (Is d) := fun h e' na hl hd => g_fld (K := K) h (e' _ _ hx) OC.cl na hl (Rp.mono e' _ _ hd)
  refine t_asgI (K := K) (d := .list (c.full.map dO)) (Step.refl e .nil) (gm (j := 3) rfl (Ex.refl _) rfl) fun v3 F2 H2 s2 e2 hv3 => ?_
  have gd : ∀ {k : Nat}, 1 ≤ k → k ≤ c.full.length → atI (c.full.map dO) (-(k : Int)) = some (dO (c.full.getD (c.full.length - k) [])) := fun {k} h1 h2 => by
    rw [atD_neg h1 (by rw [List.length_map]; exact h2), List.length_map, List.getElem?_map, List.getD_eq_getElem?_getD, List.getElem?_eq_getElem (by omega)]; rfl
  refine t_asgI (K := K) (d := stabD (stabC c)) s2 (g_if (b := decide (1 < c.full.length) && decide (c.full.getD (c.full.length - 1) [] = c.full.getD (c.full.length - 2) [])) (et_and ((et_of (K := K) (g_opI (g_cbI (gs_one (g_var (i := 3) rfl hv3)) (rc_lenS (.inl rfl))) g_int (rv_bl (g := fun i j => decide (j < i))))).is (by rw [List.length_map]; exact decide_eq_decide.mpr (by omega))) fun hz => ?_) (fun hb => ?_) fun hb => ?_) fun v4 F3 H3 s3 e3 hv4 => ?_
  · have hz' : 1 < c.full.length := by simpa using hz
    exact (et_of (K := K) (g_opI (g_opI (g_var (i := 3) rfl hv3) (g_un1 (i := 1) g_int) (rv_ixL (gd (k := 1) (by omega) (by omega)))) (g_opI (g_var (i := 3) rfl hv3) (g_un1 (i := 2) g_int) (rv_ixL (gd (k := 2) (by omega) (by omega)))) (rv_eqD (shaped_dO _) (shaped_dO _)))).is (by rw [eqv_dO])
  · simp only [Bool.and_eq_true, decide_eq_true_eq] at hb
    refine EvG.is (g_opI (g_var (i := 3) rfl hv3) (g_un1 (i := 1) g_int) (rv_ixL (gd (k := 1) (by omega) (by omega)))) ?_
    unfold stabC
    rw [if_neg (by omega), if_pos hb.2]; rfl
  · refine EvG.is g_non ?_
    unfold stabC
    by_cases z : c.full.length < 2
    · rw [if_pos z]; rfl
    · have z' : 1 < c.full.length := by omega
      rw [if_neg z, if_neg (by simpa [z'] using hb)]; rfl
  have e3' := e2.trans e3
  have lr : c.row.length ≤ 1000 := by rw [ok.row]; exact hn.2
  refine t_skip s3 (EtG.is (et_or (a := false) (b := false) (EtG.is (et_not (b := true) (et_B (K := K) (g_call (PyData.int k) (gs_two (gfl rfl e3' OC.nU rfl (by rw [hk]; exact .int _)) (g_opI (g_call (n, c.own) (gs_two (g_var (v := .int n) (i := 2) rfl (.int _)) (gm (j := 0) rfl e3' rfl)) rfl hn.2) (gm (j := 1) rfl e3' rfl) (rv_ixL (atI_nat (by rw [List.getElem?_map, hh]; rfl))))) rfl (show lv2 (PyData.int k) from rfl)))) rfl) fun _ => EtG.is (et_not (b := true) (et_B (K := K) (g_call (dO c.row) (gs_two (gfl rfl e3' OC.nS rfl hsv) (gm (j := 2) rfl e3' rfl)) rfl (lv2_dO lr)))) rfl) rfl) fun F4 H4 s4 e4 => ?_
  have e4' := e3'.trans e4
  have ls : lv2 (stabD (stabC c)) := by
    unfold stabC
    split
    · rfl
    · split
      · refine lv2_dO ?_
        rw [List.getD_eq_getElem?_getD, List.getElem?_eq_getElem (by omega)]
        show (c.full[c.full.length - 1]).length ≤ 1000
        rw [ok.rows _ (List.getElem_mem _)]; exact hn.2
      · rfl
  refine t_skip s4 (EtG.is (et_or (a := false) (b := false) (EtG.is (et_not (b := true) (et_B (K := K) (g_call (PyData.tuple (c.full.map dO)) (gs_two (gfl rfl e4' OC.nF rfl hfv) (g_cbI (gs_one (g_var (i := 3) rfl (Rp.mono (e3.trans e4) _ _ hv3))) rc_tupL)) rfl (lv2_rows (by omega) fun r hr => by rw [ok.rows r hr]; exact hn.2)))) rfl) fun _ => EtG.is (et_not (b := true) (et_B (K := K) (g_call (stabD (stabC c)) (gs_two (g_methD (z := stabD (stabC c)) (ds := []) (i := 0) (x := x) rfl (e4' _ _ hx) hst gs_nil fun F5 H5 vs e5 i5 hvs Q' q' => ?_) (g_var (i := 4) rfl (Rp.mono e4 _ _ hv4))) rfl ls))) rfl) rfl) fun F5 H5 s5 e5 => ?_
  · cases hvs
    exact ⟨x, dx, _, n, c, F5, rfl, e5 _ _ (e4' _ _ hx), cf0.mono (e4'.trans e5), i5, q'⟩
  have e5' := e4'.trans e5
  refine t_retI (K := K) s5 ((g_andV (a := true) (b := true) (g_call (optD c.own) (gs_two (gfl rfl e5' OC.nO rfl hov) (gm (j := 0) rfl e5' rfl)) rfl (lv2_opt _)) fun _ => (g_call (PyData.int n) (gs_two (gfl rfl e5' OC.nN rfl (.int _)) (g_var (v := .int n) (i := 2) rfl (.int _))) rfl (show lv2 (PyData.int n) from rfl))).is rfl) q
/-! what was held when the first of the two was full -/
theorem len_cut (own : Option Int) (r : ORow) : (cutO own r).length = r.length := by simp [cutO]
def spMom (K : PySem.W.Frag) : Sp := fun vs H Q _ => ∃ (c : Co) (m r : ORow) (v u : V) (F : Hp), vs = [v, u] ∧ (2 ≤ c.mom.length ∧ c.mom.getD (c.mom.length - 2) [] = m ∧ m.length ≤ 1000) ∧ Rp K F v (.list (coDs c)) ∧ Rp K F u (dO r) ∧ Ex F H ∧ ∀ z F2 H2, Step none F H F2 H2 → Rp K F2 z (.bool (decide (cutO c.own m = r))) → Q z H2
theorem ok_mom {f : Addr} {fd : FuncData} (Fn : Fun K "_law_moment" "_law_moment" s_law_moment f fd) (T : Tx mg) : FnOk P w K mg base CX0 1 f fd ["_law_mine", "_law_stable"] (spMom K) := by
  refine Fn.ok sc_law_moment (fun vs H Q E ⟨_, _, _, _, _, _, h, _⟩ => by rw [h]; rfl) (fun cdv A outer s H vs Q E hr h => ?_)
  obtain ⟨c, m, r, v, u, F, rfl, ⟨h2, hm, hml⟩, hv, hu, e, q⟩ := h
  refine ⟨_, (pss_cons (ps_set (i := 2) sc_law_moment.nd rfl (by first | exact Or.inl rfl | exact Or.inr rfl) (pe_ix (o_ixL (K := K)) (pe_ix (o_ixL (K := K)) (pv 0) pe_int (fun _ _ => rfl)) (pe_un un_neg pe_int) (fun _ _ => rfl)))
    (pss_one (ps_ret (pe_cmpR (o_eqD (K := K) hr.units) (pe_callTy (c_tup (K := K)) (by rfl) T.tuple (by decide +kernel) (pa_cons (pe_lc (own := [("_law_k", 3)]) (g := gName 3) rfl sc_law_moment.nd (pi_range1 (by rfl) T.range (pa_cons (pe_callB (c_len (K := K)) (by rfl) T.len (by decide +kernel) (pa_cons (pv 2) pa_nil)) pa_nil)) (blkOk_by (own := [("_law_k", 3)]) (N := ["_law_mine", "_law_stable", "_law_held", "_law_k"]) (sc := (defScope s_law_moment)) (by decide +kernel)) (fun _ _ _ _ _ => pg_name (i := 3) sc_law_moment.nd rfl (by first | exact Or.inl rfl | exact Or.inr rfl)) (fun _ _ _ _ _ => pts_nil) (fun _ _ _ _ _ => (pe_ifExp (pt_cmpR (o_neD (K := K) hr.units) (pv 3) (pe_ix (o_ixL (K := K)) (pv 0) pe_int (fun _ _ => rfl)) (nomark _)) (pe_ix (o_ixT (K := K)) (pv 2) (pv 3) (fun _ _ => rfl)) pe_non))) pa_nil)) (pv 1) (nomark _))))), ?_⟩
  have gm : ∀ {σ' : L2.St} {F' : Hp} {j : Nat} {d : PyData}, σ'[0]? = some (some v) → Ex F F' → (coDs c)[j]? = some d → EvG K none (tOp (rIxL K) (tVar 0) (tC (.int (j : Int)))) σ' F' (Is d) := fun h e' hj => g_opI (g_var h (Rp.mono e' _ _ hv)) g_int (rv_ixL (atI_nat hj))
  refine t_asgI (K := K) (d := dO m) (Step.refl e .nil) (g_opI (gm (j := 4) rfl (Ex.refl _) rfl) (g_un1 (i := 2) g_int) (rv_ixL (by
    show atI (c.mom.map dO) (-((2 : Nat) : Int)) = some (dO m)
    rw [atD_neg (by omega) (by rw [List.length_map]; exact h2), List.length_map, List.getElem?_map, ← hm, List.getD_eq_getElem?_getD, List.getElem?_eq_getElem (by omega)]; rfl))) fun v2 F2 H2 s2 e2 hv2 => ?_
  refine t_retI (K := K) s2 ((g_opI (EvG.is (g_cbI (gs_one (g_lcEM natD (List.range m.length) (fun k => optD (if c.own = some (k : Int) then none else m.getD k none)) (w_len (g_var (i := 2) rfl hv2) (by simp [dO]) (by omega)) (by simp; omega) (fun _ => rfl) fun k hk F' e' y hy => ?_)) rc_tupL) (show _ = dO (cutO c.own m) by
    show _ = PyData.tuple ((cutO c.own m).map optD)
    unfold cutO; rw [List.map_map]; rfl)) (g_var (i := 1) rfl (Rp.mono e2 _ _ hu)) (rv_eqD (d := dO (cutO c.own m)) (shaped_dO _) (shaped_dO _))).is (by rw [eqv_dO])) q
  have hk' := List.mem_range.mp hk
  refine g_if (b := !decide (c.own = some (k : Int))) ((et_of (K := K) (g_opI (g_var (i := 3) rfl hy) (gm (j := 0) rfl (e2.trans e') rfl) (rv_neD rfl (shaped_opt _)))).is (by rw [eqv_opt])) (fun hb => ?_) fun hb => ?_
  · rw [if_neg (by simpa using hb)]
    refine (g_opI (g_var (i := 2) rfl (Rp.mono e' _ _ hv2)) (g_var (i := 3) rfl hy) (rv_ixT (atI_opt hk'))).is ?_
    rw [List.getD_eq_getElem?_getD, List.getElem?_eq_getElem hk']; rfl
  · rw [if_pos (by simpa using hb)]
    exact g_non.is rfl
/-! views within one another -/
def spChn (K : PySem.W.Frag) : Sp := fun vs H Q _ => ∃ (n : Nat) (rs : List ORow) (v : V) (F : Hp), vs = [v] ∧ (n ≤ 1000 ∧ rs.length ≤ 1000 ∧ (∀ r ∈ rs, r.length = n) ∧ ∀ a ∈ rs, ∀ b ∈ rs, Sub a b ∨ Sub b a) ∧ Rp K F v (.list (rs.map dO)) ∧ Ex F H ∧ ∀ z F2 H2, Step none F H F2 H2 → Rp K F2 z (.bool true) → Q z H2
theorem eqv_optD (a b : Option Int) : PyData.eqv (optD a) (optD b) = decide (a = b) := by
  cases a <;> cases b <;> simp [optD, PyData.eqv]
  rename_i a b
  by_cases h : a = b <;> simp [h]
theorem ok_chn {f : Addr} {fd : FuncData} (Fn : Fun K "_law_chained" "_law_chained" s_law_chained f fd) (T : Tx mg) : FnOk P w K mg base CX0 1 f fd ["_law_views"] (spChn K) := by
  refine Fn.ok sc_law_chained (fun vs H Q E ⟨_, _, _, _, h, _⟩ => by rw [h]; rfl) (fun cdv A outer s H vs Q E hr h => ?_)
  obtain ⟨n, rs, v, F, rfl, ⟨hn, hrl, hlen, hch⟩, hv, e, q⟩ := h
  refine ⟨_, (pss_cons (ps_for PassesOwn.never rfl (i_list (K := K) (pv 0)) (pg_name (i := 1) sc_law_chained.nd rfl (by first | exact Or.inl rfl | exact Or.inr rfl)) (pss_one (ps_for PassesOwn.never rfl (i_list (K := K) (pv 0)) (pg_name (i := 2) sc_law_chained.nd rfl (by first | exact Or.inl rfl | exact Or.inr rfl)) (pss_cons (ps_setLc (i := 3) (own := [("_law_k", 4)]) (g := gName 4) rfl sc_law_chained.nd rfl rfl (sw_true rfl rfl rfl (by decide +kernel)) (pi_range1 (by rfl) T.range (pa_cons (pe_callB (c_len (K := K)) (by rfl) T.len (by decide +kernel) (pa_cons (pv 1) pa_nil)) pa_nil)) (blkOk_by (own := [("_law_k", 4)]) (N := ["_law_views", "_law_one", "_law_other", "_law_up", "_law_k", "_law_down"]) (sc := (defScope s_law_chained)) (by decide +kernel)) (fun _ _ _ _ _ => pg_name (i := 4) sc_law_chained.nd rfl (by first | exact Or.inl rfl | exact Or.inr rfl)) (fun _ _ _ _ _ => (pts_one (PW.pt (pw_and (pt_cmpR op_notN (pe_ix (o_ixT (K := K)) (pv 1) (pv 4) (fun _ _ => rfl)) pe_non (nomark _)) (pw_and1 (pt_cmpR (o_neD (K := K) hr.units) (pe_ix (o_ixT (K := K)) (pv 1) (pv 4) (fun _ _ => rfl)) (pe_ix (o_ixT (K := K)) (pv 2) (pv 4) (fun _ _ => rfl)) (nomark _))))))) (fun _ _ _ _ _ => (pv 4)))
    (pss_cons (ps_setLc (i := 5) (own := [("_law_k", 4)]) (g := gName 4) rfl sc_law_chained.nd rfl rfl (sw_true rfl rfl rfl (by decide +kernel)) (pi_range1 (by rfl) T.range (pa_cons (pe_callB (c_len (K := K)) (by rfl) T.len (by decide +kernel) (pa_cons (pv 1) pa_nil)) pa_nil)) (blkOk_by (own := [("_law_k", 4)]) (N := ["_law_views", "_law_one", "_law_other", "_law_up", "_law_k", "_law_down"]) (sc := (defScope s_law_chained)) (by decide +kernel)) (fun _ _ _ _ _ => pg_name (i := 4) sc_law_chained.nd rfl (by first | exact Or.inl rfl | exact Or.inr rfl)) (fun _ _ _ _ _ => (pts_one (PW.pt (pw_and (pt_cmpR op_notN (pe_ix (o_ixT (K := K)) (pv 2) (pv 4) (fun _ _ => rfl)) pe_non (nomark _)) (pw_and1 (pt_cmpR (o_neD (K := K) hr.units) (pe_ix (o_ixT (K := K)) (pv 1) (pv 4) (fun _ _ => rfl)) (pe_ix (o_ixT (K := K)) (pv 2) (pv 4) (fun _ _ => rfl)) (nomark _))))))) (fun _ _ _ _ _ => (pv 4)))
    (pss_one (ps_if (PW.pt (pw_and (e_truth (K := K) (pv 3)) (pw_and1 (e_truth (K := K) (pv 5))))) (pss_one (ps_ret pe_bl)) pss_nil)))))))
    (pss_one (ps_ret pe_bl))), ?_⟩
  refine t_for (K := K) (ds := rs.map dO) (Step.refl e .nil) (w_listI (g_var (i := 0) rfl hv)) (fun k σ' F' => ∃ z1 z2 z3 z4 z5, σ' = [some v, z1, z2, z3, z4, z5]) (fun F2 e2 => ⟨none, none, none, none, none, rfl⟩) (fun k d hd σ' F' H' u hI s' e' hu N hN => ?_) (fun σ' F' H' hI s' e' => ?_)
  · obtain ⟨z1, z2, z3, z4, z5, rfl⟩ := hI
    obtain ⟨a, ha, rfl⟩ := get_map hd
    have ma := List.mem_of_getElem? ha
    refine t_for1 (K := K) (ds := rs.map dO) s' (w_listI (g_var (i := 0) rfl (Rp.mono e' _ _ hv))) (fun k σ2 F2 => ∃ z2 z3 z4 z5, σ2 = [some v, some u, z2, z3, z4, z5]) (fun F2 e2 => ⟨_, _, _, _, rfl⟩) (fun k2 d2 hd2 σ2 F2 H2 u2 hI2 s2 e2 hu2 N2 hN2 => ?_) (fun σ2 F2 H2 hI2 s2 e2 => ?_)
    · obtain ⟨z2, z3, z4, z5, rfl⟩ := hI2
      obtain ⟨b, hb, rfl⟩ := get_map hd2
      have mb := List.mem_of_getElem? hb
      have hu' := Rp.mono e2 _ _ hu
      have la := hlen a ma
      have lb := hlen b mb
      have gi : ∀ {σ3 : L2.St} {F3 : Hp} {i : Nat} {w : V} {r : ORow} {k : Nat} {y : V}, Ex F2 F3 → σ3[i]? = some (some w) → Rp K F2 w (dO r) → σ3[4]? = some (some y) → Rp K F3 y (.int k) → k < r.length → EvG K none (tOp (rIxT K) (tVar i) (tVar 4)) σ3 F3 (Is (optD (r.getD k none))) := fun e3 h hw hy hky hk => (g_opI (g_var h (Rp.mono e3 _ _ hw)) (g_var hy hky) (rv_ixT (atI_opt hk))).is (by rw [List.getD_eq_getElem?_getD, List.getElem?_eq_getElem hk]; rfl)
      refine t_asgI (K := K) (d := .list (((List.range n).filter fun k => !(a.getD k none).isNone && !decide (a.getD k none = b.getD k none)).map natD)) s2 (g_lcE natD (List.range n) (fun k => !(a.getD k none).isNone && !decide (a.getD k none = b.getD k none)) natD (w_len (g_var (i := 1) rfl hu') (by simp [dO, la]) (by omega)) (by simp; omega) (fun _ => rfl) (fun k hk F' e' y hy => ?_) (fun k hk _ F' e' y hy => g_var (i := 4) rfl hy)) fun v3 F3 H3 s3 e3 hv3 => ?_
      · have hk' := List.mem_range.mp hk
        exact et_and (et_of (K := K) (g_opI (gi e' rfl hu' rfl hy (by omega)) g_non rv_notO)) fun _ => (et_of (K := K) (g_opI (gi e' rfl hu' rfl hy (by omega)) (gi e' rfl hu2 rfl hy (by omega)) (rv_neD (shaped_opt _) (shaped_opt _)))).is (by rw [eqv_optD])
      refine t_asgI (K := K) (d := .list (((List.range n).filter fun k => !(b.getD k none).isNone && !decide (a.getD k none = b.getD k none)).map natD)) s3 (g_lcE natD (List.range n) (fun k => !(b.getD k none).isNone && !decide (a.getD k none = b.getD k none)) natD (w_len (g_var (i := 1) rfl (Rp.mono e3 _ _ hu')) (by simp [dO, la]) (by omega)) (by simp; omega) (fun _ => rfl) (fun k hk F' e' y hy => ?_) (fun k hk _ F' e' y hy => g_var (i := 4) rfl hy)) fun v5 F4 H4 s4 e4 hv5 => ?_
      · have hk' := List.mem_range.mp hk
        exact et_and (et_of (K := K) (g_opI (gi (e3.trans e') rfl hu2 rfl hy (by omega)) g_non rv_notO)) fun _ => (et_of (K := K) (g_opI (gi (e3.trans e') rfl hu' rfl hy (by omega)) (gi (e3.trans e') rfl hu2 rfl hy (by omega)) (rv_neD (shaped_opt _) (shaped_opt _)))).is (by rw [eqv_optD])
      refine t_if1 (b := false) s4 (EtG.is (et_and (et_truL (K := K) (g_var (i := 3) rfl (Rp.mono e4 _ _ hv3))) fun _ => et_truL (K := K) (g_var (i := 5) rfl hv5)) ?_) (fun z => by cases z) fun _ F5 H5 s5 e5 => hN2 _ F5 H5 ⟨_, _, _, _, rfl⟩ s5 ((e3.trans e4).trans e5)
      rw [Bool.and_eq_false_iff]
      rcases hch a ma b mb with h | h
      · left
        have : ((List.range n).filter fun k => !(a.getD k none).isNone && !decide (a.getD k none = b.getD k none)) = [] := List.filter_eq_nil_iff.mpr fun k _ => by
          cases z : a.getD k none with
          | none => simp
          | some i => rw [h.2 k i z]; simp
        rw [this]; rfl
      · right
        have : ((List.range n).filter fun k => !(b.getD k none).isNone && !decide (a.getD k none = b.getD k none)) = [] := List.filter_eq_nil_iff.mpr fun k _ => by
          cases z : b.getD k none with
          | none => simp
          | some i => rw [h.2 k i z]; simp
        rw [this]; rfl
    · obtain ⟨z2, z3, z4, z5, rfl⟩ := hI2
      exact hN _ F2 H2 ⟨_, _, _, _, _, rfl⟩ s2 e2
  · obtain ⟨z1, z2, z3, z4, z5, rfl⟩ := hI
    exact t_retI (K := K) s' g_bl q
end
end KH
namespace KH
open PySem PySem.Spec PyProof.Rows L2 L2H Fv Evl StX
theorem getD_set {r : ORow} {h k : Nat} {o : Option Int} (hl : h < r.length) : (r.set h o).getD k none = if k = h then o else r.getD k none := by
  rw [List.getD_eq_getElem?_getD, List.getD_eq_getElem?_getD]
  by_cases z : k = h
  · subst z
    rw [List.getElem?_set_self hl, if_pos rfl]; rfl
  · rw [List.getElem?_set_ne (fun e => z e.symm), if_neg z]
theorem cut_get (own : Option Int) (r : ORow) (k : Nat) : (cutO own r).getD k none = if own = some (k : Int) then none else r.getD k none := by
  rw [List.getD_eq_getElem?_getD]
  unfold cutO
  rw [List.getElem?_map]
  by_cases h : k < r.length
  · rw [List.getElem?_range h]; rfl
  · rw [List.getElem?_eq_none (by rw [List.length_range]; omega)]
    have : r.getD k none = none := by rw [List.getD_eq_getElem?_getD, List.getElem?_eq_none (by omega)]; rfl
    rw [this]; simp
theorem nones_get (n k : Nat) : (nones n).getD k none = none := by
  rw [List.getD_eq_getElem?_getD]
  unfold nones
  rw [List.getElem?_replicate]
  split <;> rfl
theorem Sub.refl (a : ORow) : Sub a a := ⟨rfl, fun _ _ h => h⟩
theorem Sub.trans {a b c : ORow} (h : Sub a b) (h2 : Sub b c) : Sub a c := ⟨h.1.trans h2.1, fun k v z => h2.2 k v (h.2 k v z)⟩
theorem Sub.anti {a b : ORow} (h : Sub a b) (h2 : Sub b a) : a = b := by
  apply List.ext_getElem h.1
  intro k h1 h3
  have e1 : a.getD k none = a[k] := by rw [List.getD_eq_getElem?_getD, List.getElem?_eq_getElem h1]; rfl
  have e2 : b.getD k none = b[k] := by rw [List.getD_eq_getElem?_getD, List.getElem?_eq_getElem h3]; rfl
  have u1 := h.2 k
  have u2 := h2.2 k
  rw [e1, e2] at u1 u2
  cases ha : a[k] with
  | none => cases hb : b[k] with
    | none => rfl
    | some v => rw [u2 v hb] at ha; cases ha
  | some v => rw [u1 v ha]
theorem cut_none (r : ORow) : cutO none r = r := by
  refine Sub.anti ⟨len_cut _ _, fun k v h => ?_⟩ ⟨(len_cut _ _).symm, fun k v h => ?_⟩
  · rw [cut_get] at h
    simpa using h
  · rw [cut_get]; simpa using h
theorem cut_sub {own : Option Int} {a b : ORow} (h : Sub a b) : Sub (cutO own a) (cutO own b) := ⟨by rw [len_cut, len_cut]; exact h.1, fun k v z => by
  rw [cut_get] at z ⊢
  by_cases e : own = some (k : Int)
  · rw [if_pos e] at z; cases z
  · rw [if_neg e] at z ⊢
    exact h.2 k v z⟩
theorem last_snoc {l : List ORow} {m : ORow} : (l ++ [m]).getD ((l ++ [m]).length - 1) [] = m := by
  rw [List.getD_eq_getElem?_getD, List.length_append, List.getElem?_append_right (by simp)]
  simp
theorem get_snoc {l : List ORow} {m : ORow} {j : Nat} (h : j < l.length) : (l ++ [m]).getD j [] = l.getD j [] := by
  rw [List.getD_eq_getElem?_getD, List.getD_eq_getElem?_getD, List.getElem?_append_left h]
/-- what a collector read, against what was held -/
structure MomOk (n : Nat) (held : ORow) (hist : List ORow) (c : Co) : Prop where
  ins : ∀ m ∈ c.mom, m ∈ hist
  up : ∀ j < c.full.length, Sub (c.full.getD j []) (cutO c.own (c.mom.getD j []))
  down : ∀ j, j + 1 < c.full.length → Sub (cutO c.own (c.mom.getD j [])) (c.full.getD (j + 1) [])
  row : Sub c.row (cutO c.own held)
  read : 0 < c.mom.length → ∀ i < c.at_, ∀ k : Nat, (turnsO n c.own)[i]? = some (k : Int) → ∀ v, (c.mom.getD (c.mom.length - 1) []).getD k none = some v → c.row.getD k none = some v
/-- the moments of the cells: each within the next -/
structure HistOk (n : Nat) (held : ORow) (hist : List ORow) : Prop where
  now : held ∈ hist
  le : ∀ a ∈ hist, Sub a held
  chain : ∀ a ∈ hist, ∀ b ∈ hist, Sub a b ∨ Sub b a
  len : held.length = n
theorem start_mom {n : Nat} {held : ORow} {hist : List ORow} {o : Option Int} (hl : held.length = n) : MomOk n held hist (startC n o) := by
  refine ⟨fun m hm => (by cases hm), fun j hj => absurd hj (Nat.not_lt_zero _), fun j hj => absurd hj (Nat.not_lt_zero _), ⟨?_, fun k v h => ?_⟩, fun h => absurd h (Nat.lt_irrefl _)⟩
  · rw [len_cut, hl]; show (nones n).length = n; simp [nones]
  · rw [show (startC n o).row = nones n from rfl, nones_get] at h; cases h
theorem write_mom {n h : Nat} {held : ORow} {hist : List ORow} {c : Co} {v : Int} (m : MomOk n held hist c) (hh : held.getD h none = none) (hl : h < held.length) : MomOk n (held.set h (some v)) (held.set h (some v) :: hist) c :=
  ⟨fun r hr => List.mem_cons_of_mem _ (m.ins r hr), m.up, m.down, m.row.trans (cut_sub ⟨by rw [List.length_set], fun k u e => by
    rw [getD_set hl]
    by_cases z : k = h
    · subst z; rw [hh] at e; cases e
    · rw [if_neg z]; exact e⟩), m.read⟩
theorem write_hist {n h : Nat} {held : ORow} {hist : List ORow} {v : Int} (ho : HistOk n held hist) (hh : held.getD h none = none) (hl : h < held.length) : HistOk n (held.set h (some v)) (held.set h (some v) :: hist) := by
  have up : Sub held (held.set h (some v)) := ⟨by rw [List.length_set], fun k u e => by
    rw [getD_set hl]
    by_cases z : k = h
    · subst z; rw [hh] at e; cases e
    · rw [if_neg z]; exact e⟩
  have le : ∀ a ∈ held.set h (some v) :: hist, Sub a (held.set h (some v)) := fun a ha => by
    rcases List.mem_cons.mp ha with rfl | ha
    · exact Sub.refl _
    · exact (ho.le a ha).trans up
  refine ⟨List.mem_cons_self .., le, fun a ha b hb => ?_, by rw [List.length_set]; exact ho.len⟩
  rcases List.mem_cons.mp ha with rfl | ha'
  · exact .inr (le b hb)
  · rcases List.mem_cons.mp hb with rfl | hb'
    · exact .inl (le a ha)
    · exact ho.chain a ha' b hb'
theorem step_mom {n : Nat} {held : ORow} {hist : List ORow} {c : Co} (ok : CoOk n c) (m : MomOk n held hist c) (ho : HistOk n held hist) : MomOk n held hist (stepC n held c) := by
  obtain ⟨hh, hlt⟩ := houseC_at ok
  generalize hk : houseC n c = k at hh hlt
  have nown : c.own ≠ some (k : Int) := (turns_mem.mp (List.mem_of_getElem? hh)).2
  have kl : k < c.row.length := by rw [ok.row]; exact hlt
  have hmf := ok.mom
  have row' : Sub (c.row.set k (held.getD k none)) (cutO c.own held) := ⟨by rw [List.length_set]; exact m.row.1, fun j v e => by
    rw [getD_set kl] at e
    by_cases z : j = k
    · subst z
      rw [if_pos rfl] at e
      rw [cut_get, if_neg nown]; exact e
    · rw [if_neg z] at e
      exact m.row.2 j v e⟩
  have read' : 0 < c.mom.length → ∀ i < c.at_ + 1, ∀ j : Nat, (turnsO n c.own)[i]? = some (j : Int) → ∀ v, (c.mom.getD (c.mom.length - 1) []).getD j none = some v → (c.row.set k (held.getD k none)).getD j none = some v := fun h0 i hi j hj v hv => by
    have lm : c.mom.getD (c.mom.length - 1) [] ∈ c.mom := by
      rw [List.getD_eq_getElem?_getD, List.getElem?_eq_getElem (by omega)]
      exact List.getElem_mem _
    rw [getD_set kl]
    by_cases z : j = k
    · subst z
      rw [if_pos rfl]
      exact (ho.le _ (m.ins _ lm)).2 j v hv
    · rw [if_neg z]
      have : i ≠ c.at_ := fun e => by
        subst e
        rw [hh] at hj
        have := Option.some.inj hj
        omega
      exact m.read h0 i (by omega) j hj v hv
  unfold stepC
  rw [hk]
  split
  · rename_i hend
    refine ⟨fun r hr => ?_, fun j hj => ?_, fun j hj => ?_, ⟨?_, fun j v e => ?_⟩, fun _ i hi => absurd hi (Nat.not_lt_zero _)⟩
    · rcases List.mem_append.mp hr with h | h
      · exact m.ins r h
      · rw [List.mem_singleton.mp h]; exact ho.now
    · show Sub ((c.full ++ [_]).getD j []) (cutO c.own ((c.mom ++ [held]).getD j []))
      have hj' : j < c.full.length + 1 := by simpa using hj
      by_cases z : j < c.full.length
      · rw [get_snoc z, get_snoc (by rw [hmf]; exact z)]
        exact m.up j z
      · obtain rfl : j = c.full.length := by omega
        have e1 : (c.full ++ [c.row.set k (held.getD k none)]).getD c.full.length [] = c.row.set k (held.getD k none) := by
          have := last_snoc (l := c.full) (m := c.row.set k (held.getD k none))
          simpa using this
        have e2 : (c.mom ++ [held]).getD c.full.length [] = held := by
          have := last_snoc (l := c.mom) (m := held)
          rw [← hmf]; simpa using this
        rw [e1, e2]; exact row'
    · show Sub (cutO c.own ((c.mom ++ [held]).getD j [])) ((c.full ++ [_]).getD (j + 1) [])
      have hj' : j + 1 < c.full.length + 1 := by simpa using hj
      rw [get_snoc (by rw [hmf]; omega)]
      by_cases z : j + 1 < c.full.length
      · rw [get_snoc z]
        exact m.down j z
      · have hj2 : j + 1 = c.full.length := by omega
        have e1 : (c.full ++ [c.row.set k (held.getD k none)]).getD (j + 1) [] = c.row.set k (held.getD k none) := by
          have := last_snoc (l := c.full) (m := c.row.set k (held.getD k none))
          rw [hj2]; simpa using this
        rw [e1]
        have h0 : 0 < c.mom.length := by omega
        have hjm : j = c.mom.length - 1 := by omega
        have lm : c.mom.getD (c.mom.length - 1) [] ∈ c.mom := by
          rw [List.getD_eq_getElem?_getD, List.getElem?_eq_getElem (by omega)]
          exact List.getElem_mem _
        have ll := (ho.le _ (m.ins _ lm)).1
        refine ⟨?_, fun i v e => ?_⟩
        · rw [len_cut, List.length_set, ok.row, hjm, ll, ho.len]
        · rw [cut_get] at e
          by_cases zo : c.own = some (i : Int)
          · rw [if_pos zo] at e; cases e
          rw [if_neg zo, hjm] at e
          have hi : i < n := by
            apply Classical.byContradiction
            intro zn
            rw [List.getD_eq_getElem?_getD, List.getElem?_eq_none (by rw [ll, ho.len]; omega)] at e
            cases e
          obtain ⟨t, ht1, ht2⟩ := List.mem_iff_getElem.mp (turns_mem.mpr ⟨⟨Int.natCast_nonneg i, by omega⟩, zo⟩ : (i : Int) ∈ turnsO n c.own)
          exact read' h0 t (by omega) i (by rw [List.getElem?_eq_getElem ht1, ht2]) v e
    · rw [len_cut, ho.len]; show (nones n).length = n; simp [nones]
    · rw [nones_get] at e; cases e
  · exact ⟨m.ins, m.up, m.down, row', read'⟩
/-- a view read twice is what the cells held at one moment between -/
theorem stab_cut {n : Nat} {held : ORow} {hist : List ORow} {c : Co} {r : ORow} (ok : CoOk n c) (m : MomOk n held hist c) (h : stabC c = some r) : 2 ≤ c.mom.length ∧ cutO c.own (c.mom.getD (c.mom.length - 2) []) = r ∧ c.mom.getD (c.mom.length - 2) [] ∈ hist := by
  have hmf := ok.mom
  unfold stabC at h
  split at h
  · cases h
  rename_i h2
  split at h
  · rename_i he
    obtain rfl := Option.some.inj h
    refine ⟨by omega, ?_, ?_⟩
    · have u := m.up (c.full.length - 2) (by omega)
      have d := m.down (c.full.length - 2) (by omega)
      rw [show c.full.length - 2 + 1 = c.full.length - 1 by omega] at d
      rw [hmf, he]
      rw [he] at d
      exact Sub.anti d u
    · refine m.ins _ ?_
      rw [List.getD_eq_getElem?_getD, List.getElem?_eq_getElem (by omega)]
      exact List.getElem_mem _
  · cases h
theorem len_sub : ∀ {l m : List Int}, l.Nodup → (∀ x ∈ l, x ∈ m) → l.length ≤ m.length
  | [], m, _, _ => Nat.zero_le _
  | a :: l, m, hn, hs => by
    rw [List.nodup_cons] at hn
    have ha := hs a (List.mem_cons_self ..)
    have h1 := len_sub (l := l) (m := m.erase a) hn.2 fun x hx => by
      have ne : x ≠ a := fun e => hn.1 (e ▸ hx)
      exact (List.mem_erase_of_ne ne).mpr (hs x (List.mem_cons_of_mem _ hx))
    rw [List.length_erase_of_mem ha] at h1
    have := List.length_pos_of_mem ha
    rw [List.length_cons]; omega
theorem mem_cut {A B : List Int} {x : Int} (h : (A ++ x :: B).Nodup) (k : Int) : k ∈ A ++ B ↔ k ∈ A ++ x :: B ∧ k ≠ x := by
  obtain ⟨h1, h2, h3⟩ := List.nodup_append.mp h
  rw [List.nodup_cons] at h2
  rw [List.mem_append, List.mem_append, List.mem_cons]
  constructor
  · rintro (z | z)
    · exact ⟨.inl z, h3 k z x (List.mem_cons_self ..)⟩
    · exact ⟨.inr (.inr z), fun e => h2.1 (e ▸ z)⟩
  · rintro ⟨z | z | z, ne⟩
    · exact .inl z
    · exact absurd z ne
    · exact .inr z
theorem mem_eraseIx {l : List Int} (h : l.Nodup) {j : Nat} (hj : j < l.length) (k : Int) : k ∈ l.eraseIdx j ↔ k ∈ l ∧ k ≠ l[j] := by
  have e : l.take j ++ l[j] :: l.drop (j + 1) = l := by
    rw [← List.drop_eq_getElem_cons hj, List.take_append_drop]
  rw [List.eraseIdx_eq_take_drop_succ]
  have := mem_cut (A := l.take j) (B := l.drop (j + 1)) (x := l[j]) (by rw [e]; exact h) k
  rw [e] at this
  exact this
/-- the houses whose cells are empty -/
structure LeftOk (n : Nat) (held : ORow) (left : List Int) : Prop where
  nd : left.Nodup
  mem : ∀ k : Int, k ∈ left ↔ (0 ≤ k ∧ k < (n : Int)) ∧ held.getD k.toNat none = none
theorem left_len {n : Nat} {held : ORow} {left : List Int} (h : LeftOk n held left) : left.length ≤ n := by
  have hs : left ⊆ (List.range n).map fun k : Nat => (k : Int) := fun k hk => by
    have := ((h.mem k).mp hk).1
    exact List.mem_map.mpr ⟨k.toNat, List.mem_range.mpr (by omega), by omega⟩
  have := len_sub h.nd hs
  simpa using this
/-- some house's cell is full where fewer are empty -/
theorem full_some {n : Nat} {held : ORow} {left : List Int} (h : LeftOk n held left) (hlt : left.length < n) : ∃ k : Nat, k < n ∧ (k : Int) ∉ left := by
  apply Classical.byContradiction
  intro z
  have hs : ((List.range n).map fun k : Nat => (k : Int)) ⊆ left := fun k hk => by
    obtain ⟨j, hj, rfl⟩ := List.mem_map.mp hk
    apply Classical.byContradiction
    intro zz
    exact z ⟨j, List.mem_range.mp hj, zz⟩
  have nd : ((List.range n).map fun k : Nat => (k : Int)).Nodup := by
    unfold List.Nodup
    rw [List.pairwise_map]
    exact List.Pairwise.imp (fun {a b} h e => by omega) List.pairwise_lt_range
  have := len_sub nd hs
  simp at this
  omega
theorem full_held {n : Nat} {held : ORow} {left : List Int} (h : LeftOk n held left) (hl : held.length = n) {k : Nat} (hk : k < n) (hm : (k : Int) ∉ left) : ∃ i, held[k]? = some (some i) := by
  have : held.getD k none ≠ none := fun e => hm ((h.mem k).mpr ⟨by omega, by simpa using e⟩)
  rw [List.getD_eq_getElem?_getD, List.getElem?_eq_getElem (by omega)] at this
  rw [List.getElem?_eq_getElem (by omega)]
  cases z : held[k] with
  | none => rw [z] at this; exact absurd rfl this
  | some i => exact ⟨i, rfl⟩
theorem left_erase {n j : Nat} {held : ORow} {left : List Int} {v : Int} (h : LeftOk n held left) (hl : held.length = n) (hj : j < left.length) : LeftOk n (held.set (left[j]).toNat (some v)) (left.eraseIdx j) := by
  have m0 := ((h.mem left[j]).mp (List.getElem_mem hj)).1
  refine ⟨h.nd.sublist (List.eraseIdx_sublist _ _), fun k => ?_⟩
  have e1 : ∀ k, k ∈ left.eraseIdx j ↔ k ∈ left ∧ k ≠ left[j] := mem_eraseIx h.nd hj
  rw [e1, h.mem k]
  constructor
  · rintro ⟨⟨h1, h2⟩, h3⟩
    refine ⟨h1, ?_⟩
    rw [getD_set (by omega), if_neg (by omega)]; exact h2
  · rintro ⟨h1, h2⟩
    rw [getD_set (by omega)] at h2
    by_cases z : k.toNat = (left[j]).toNat
    · rw [if_pos z] at h2; cases h2
    · rw [if_neg z] at h2
      exact ⟨⟨h1, h2⟩, fun e => z (by rw [e])⟩
theorem left_start (n : Nat) : LeftOk n (nones n) ((List.range n).map fun k : Nat => (k : Int)) := by
  refine ⟨?_, fun k => ?_⟩
  · unfold List.Nodup
    rw [List.pairwise_map]
    exact List.Pairwise.imp (fun {a b} h e => by omega) List.pairwise_lt_range
  · rw [List.mem_map]
    constructor
    · rintro ⟨j, hj, rfl⟩
      have := List.mem_range.mp hj
      exact ⟨by omega, nones_get _ _⟩
    · rintro ⟨h, _⟩
      exact ⟨k.toNat, List.mem_range.mpr (by omega), by omega⟩
end KH
/-! objects that change: tests whose branches change them, one put in another's place, pop -/
namespace Fv
open PySem PySem.Spec PyProof.Rows L2 Evl StX
section
variable {K : PySem.W.Frag} {pt : Option Pt} {σ : L2.St} {F F' F0 H0 H F2 H2 : Hp} {te ti ta tb : TE} {ts tk : TA} {t : TT} {R : PD} {D : Ends} {tz tu tw : TS} {wi : TI} {L L' L2 LR LQ : List Own1} {a x dx l C : Addr} {o o' : HO} {fs : List (Str × V)} {f : Str} {E : XK} {Rb : Bool → Prop}
/-- a test that ends in J either way -/
theorem t_ifJO (J : _root_.L2.St → Hp → List Own1 → Prop) (g0 : Good pt F0 H0) (w : Own pt F0 H0 F H L) (h : EtG pt t σ (putAll L F) Rb)
    (h1 : Rb true → ∀ F2 H2, Own pt F0 H0 F2 H2 L → Ex F F2 → ∀ N : _root_.L2.St → Hp → Prop, (∀ σ3 F3 H3 L3, J σ3 F3 L3 → Own pt F0 H0 F3 H3 L3 → N σ3 H3) → tu { D with nx := N } σ H2)
    (h2 : Rb false → ∀ F2 H2, Own pt F0 H0 F2 H2 L → Ex F F2 → ∀ N : _root_.L2.St → Hp → Prop, (∀ σ3 F3 H3 L3, J σ3 F3 L3 → Own pt F0 H0 F3 H3 L3 → N σ3 H3) → tw { D with nx := N } σ H2)
    (q : ∀ σ3 F3 H3 L3, J σ3 F3 L3 → Own pt F0 H0 F3 H3 L3 → tz D σ3 H3) : tSeq (tIfS t tu tw) tz D σ H := by
  obtain ⟨e1, e2, gd, back⟩ := w.fixS g0 w.nd (fun _ h => h)
  refine h H e2 gd _ fun c F2 H2 hc s => ?_
  obtain ⟨w2, e3, _, _⟩ := back F2 H2 s
  cases c with
  | true => rw [if_pos rfl]; exact h1 hc _ _ w2 e3 (tz D) q
  | false => rw [if_neg (by simp)]; exact h2 hc _ _ w2 e3 (tz D) q
theorem t_ifR1 (g0 : Good pt F0 H0) (w : Own pt F0 H0 F H L) (h : EtG pt t σ (putAll L F) Rb) (h1 : Rb true → ∀ F2 H2, Own pt F0 H0 F2 H2 L → Ex F F2 → tu D σ H2) (h2 : Rb false → ∀ F2 H2, Own pt F0 H0 F2 H2 L → Ex F F2 → tw D σ H2) : tIfS t tu tw D σ H := by
  obtain ⟨e1, e2, gd, back⟩ := w.fixS g0 w.nd (fun _ h => h)
  refine h H e2 gd _ fun c F2 H2 hc s => ?_
  obtain ⟨w2, e3, _, _⟩ := back F2 H2 s
  cases c with
  | true => rw [if_pos rfl]; exact h1 hc _ _ w2 e3
  | false => rw [if_neg (by simp)]; exact h2 hc _ _ w2 e3
/-- what a call made anew -/
theorem Own.callNew (g0 : Good pt F0 H0) (w : Own pt F0 H0 F H L) (c : Own none F H F2 H2 L2) : Own pt F0 H0 F2 H2 (L ++ L2) ∧ Ex F F2 := by
  obtain ⟨w2, e⟩ := Own.call g0 w (L := []) (LQ := L) (fun p hp => by cases hp) (fun p hp => hp) (by simpa using w.nd) c
  refine ⟨w2.less ?_ fun p hp => ?_, e⟩
  · have := w2.nd
    rw [List.map_append] at this ⊢
    exact (List.perm_append_comm.nodup_iff).mp this
  · rcases List.mem_append.mp hp with z | z
    · exact List.mem_append_right _ z
    · exact List.mem_append_left _ z
/-- the last one in another's place -/
theorem Own.swap {q : Own1} (w : Own pt F0 H0 F H (L ++ [q])) {j : Nat} (hj : j < L.length) : Own pt F0 H0 F H (L.set j q) := by
  refine w.less ?_ fun p hp => ?_
  · have nd := w.nd
    rw [List.map_append] at nd
    obtain ⟨h1, _, h3⟩ := List.nodup_append.mp nd
    rw [List.map_set]
    have e : L.map (·.1) = (L.map (·.1)).take j ++ (L.map (·.1))[j]'(by rw [List.length_map]; exact hj) :: (L.map (·.1)).drop (j + 1) := by
      rw [← List.drop_eq_getElem_cons, List.take_append_drop]
    rw [List.set_eq_take_append_cons_drop, if_pos (by rw [List.length_map]; exact hj)]
    rw [e] at h1
    obtain ⟨n1, n2, n3⟩ := List.nodup_append.mp h1
    rw [List.nodup_cons] at n2
    have no : ∀ b ∈ L.map (·.1), b ≠ q.1 := fun b hb => h3 b hb q.1 (by simp)
    rw [List.nodup_append]
    refine ⟨n1, List.nodup_cons.mpr ⟨fun hm => no _ (List.mem_of_mem_drop hm) rfl, n2.2⟩, fun b hb d hd => ?_⟩
    rcases List.mem_cons.mp hd with rfl | hd
    · exact no b (List.mem_of_mem_take hb)
    · exact n3 b hb d (List.mem_cons_of_mem _ hd)
  · rcases List.mem_or_eq_of_mem_set hp with h | h
    · exact List.mem_append_left _ h
    · exact List.mem_append_right _ (by rw [h]; simp)
/-- x = l.pop(draw(pot, len(l))), the list one's own -/
theorem t_popO {q : Pt} {P : Int → Prop} {R : Int → PD} {il iv ip : Nat} {us : List V} {ds : List PyData} (k : Nat) (g0 : Good (some q) F0 H0) (w : Own (some q) F0 H0 F H L) (hk : L[k]? = some (l, .lst us)) (hr : RpAll K F us ds) (hl : σ[il]? = some (some (.ref l))) (hp : σ[ip]? = some (some (.ref q.p)))
    (hP : P (ds.length : Int)) (hz : ds.length ≤ 100000) (hR : ∀ d, R (ds.length : Int) d → ∃ j : Nat, d = .int (j : Int) ∧ j < ds.length)
    (kk : ∀ (j : Nat) (hj : j < ds.length) v F2 H2, Own (some q) F0 H0 F2 H2 (L.set k (l, .lst (us.eraseIdx j))) → Ex F F2 → us[j]? = some v → tz D (σ.set iv (some v)) H2) :
    tSeq (tAsg (tBM K "list" rPopAt (tVar il) (tCons (tCall (spP K P R) [] E (tCons (tVar ip) (tCons (tCB (rLen K) (tCons (tVar il) tNil)) tNil))) tNil)) (gName iv)) tz D σ H := by
  have a1 := (w.get hk).2.2
  refine ⟨.ref l, hl, .inl ⟨rfl, us, sq_of a1⟩, _, hp, .ref l, hl, l, us, rfl, .inl (SqL.of a1), ?_⟩
  refine ⟨q, (us.length : Int), F, rfl, by rw [hr.length]; exact hP, w.step.inn, w.step.good, fun d v F2 H2 hd s hv => ?_⟩
  rw [hr.length] at hd
  obtain ⟨j, rfl, hj⟩ := hR d hd
  obtain rfl := rp_int hv
  have w2 := w.run g0 s
  have hul := hr.length
  have hju : j < us.length := by omega
  refine ⟨l, us, (j : Int), j, us[j], rfl, rfl, (w2.get hk).2.2, by omega, by omega, seqIndex_of (by omega) (by omega), List.getElem?_eq_getElem hju, ?_⟩
  exact kk j hj _ _ _ (w2.put g0 k hk fun ys z => by cases z) s.sub (List.getElem?_eq_getElem hju)
/-- what is handed over, told by places -/
theorem Own.toAt (w : Own pt F0 H0 F H LR) (us : List Upd1) (hu : ∀ u ∈ us, LR[u.k]? = some (u.a, u.old)) (nd : (us.map (·.k)).Nodup) : OwnIn F H (us.map fun u => (u.a, u.old)) := by
  have apart : ∀ {i j : Nat} {p q : Own1}, LR[i]? = some p → LR[j]? = some q → i ≠ j → p.1 ≠ q.1 := fun {i j p q} hi hj ne e => by
    have h1 : (LR.map (·.1))[i]? = some p.1 := by rw [List.getElem?_map, hi]; rfl
    have h2 : (LR.map (·.1))[j]? = some p.1 := by rw [List.getElem?_map, hj, e]; rfl
    obtain ⟨l1, e1⟩ := List.getElem?_eq_some_iff.mp h1
    obtain ⟨l2, e2⟩ := List.getElem?_eq_some_iff.mp h2
    exact ne ((List.getElem_inj (h₀ := l1) (h₁ := l2) w.nd).mp (e1.trans e2.symm))
  have inj : ∀ u ∈ us, ∀ v ∈ us, u.a = v.a → u.k = v.k := fun u hu1 v hv1 e => Classical.byContradiction fun ne => apart (hu u hu1) (hu v hv1) ne e
  refine w.to ?_ fun p hp => ?_
  · rw [List.map_map]
    unfold List.Nodup at nd ⊢
    rw [List.pairwise_map] at nd ⊢
    exact List.Pairwise.imp_of_mem (fun {u v} hu1 hv1 h e => h (inj u hu1 v hv1 e)) nd
  · obtain ⟨u, hu1, rfl⟩ := List.mem_map.mp hp
    exact List.mem_of_getElem? (hu u hu1)
theorem et_andV {u : TT} {a : Bool} {R : Bool → Prop} (h1 : EtG pt t σ F (· = a)) (h2 : a = true → EtG pt u σ F R) (hf : a = false → R false) : EtG pt (tAnd t u) σ F R := fun H1 i g Q q => h1 H1 i g _ fun c F2 H2 hc s => by
  cases c with
  | true => exact (h2 hc.symm).mono s.sub H2 s.inn s.good Q fun d F3 H3 hd s3 => q d F3 H3 hd (s.trans s3)
  | false => exact q false F2 H2 (hf hc.symm) s
end
end Fv
namespace KH
open PySem PySem.Spec PyProof.Rows L2 L2H Fv Evl StX
def ownsF (o2 : Int) (k : Nat) : Option Int := if k = 2 then some o2 else none
def upF {α : Type} (f : Nat → α) (k : Nat) (v : α) : Nat → α := fun i => if i = k then v else f i
/-- where the law's things are -/
structure Ad where
  y : Addr
  dy : Addr
  l : Addr
  h : Addr
  R : Addr
  M : Addr
  lf : Addr
  se : Addr
  x : Nat → Addr
  dx : Nat → Addr
def lawL (CC0 CO : Addr) (A : Ad) (n : Nat) (m : Nat → Addr) (held : ORow) (fs : Nat → List (Str × V)) (ws : Nat → List V) (left : List Int) (sv : List V) : List Own1 :=
  [(A.y, .ins CC0 A.dy (celF n A.l)), (A.dy, .own A.y), (A.l, .lst (held.map optV)), (A.h, .lst (held.map optV)),
   (A.x 0, .ins CO (A.dx 0) (fs 0)), (A.dx 0, .own (A.x 0)), (A.x 1, .ins CO (A.dx 1) (fs 1)), (A.dx 1, .own (A.x 1)), (A.x 2, .ins CO (A.dx 2) (fs 2)), (A.dx 2, .own (A.x 2)),
   (A.R, .lst [.ref (A.x 0), .ref (A.x 1), .ref (A.x 2)]), (A.M, .lst [.ref (m 0), .ref (m 1), .ref (m 2)]), (m 0, .lst (ws 0)), (m 1, .lst (ws 1)), (m 2, .lst (ws 2)), (A.lf, .lst (left.map .int)), (A.se, .lst sv)]
section
variable {CC0 CO : Addr} {A : Ad} {n : Nat} {m : Nat → Addr} {held : ORow} {fs : Nat → List (Str × V)} {ws : Nat → List V} {left : List Int} {sv : List V} {k : Nat}
theorem lawL_x (h : k < 3) : (lawL CC0 CO A n m held fs ws left sv)[4 + 2 * k]? = some (A.x k, .ins CO (A.dx k) (fs k)) := match k, h with
  | 0, _ => rfl
  | 1, _ => rfl
  | 2, _ => rfl
theorem lawL_dx (h : k < 3) : (lawL CC0 CO A n m held fs ws left sv)[5 + 2 * k]? = some (A.dx k, .own (A.x k)) := match k, h with
  | 0, _ => rfl
  | 1, _ => rfl
  | 2, _ => rfl
theorem lawL_m (h : k < 3) : (lawL CC0 CO A n m held fs ws left sv)[12 + k]? = some (m k, .lst (ws k)) := match k, h with
  | 0, _ => rfl
  | 1, _ => rfl
  | 2, _ => rfl
theorem refs_at {f : Nat → Addr} (h : k < 3) : [V.ref (f 0), V.ref (f 1), V.ref (f 2)][k]? = some (V.ref (f k)) := match k, h with
  | 0, _ => rfl
  | 1, _ => rfl
  | 2, _ => rfl
theorem lawL_fgt {fs2 : List (Str × V)} (h : k < 3) : setUs (lawL CC0 CO A n m held fs ws left sv) [⟨4 + 2 * k, A.x k, .ins CO (A.dx k) (fs k), .ins CO (A.dx k) fs2⟩, ⟨5 + 2 * k, A.dx k, .own (A.x k), .own (A.x k)⟩] = lawL CC0 CO A n m held (upF fs k fs2) ws left sv := match k, h with
  | 0, _ => rfl
  | 1, _ => rfl
  | 2, _ => rfl
theorem lawL_turn {fs2 : List (Str × V)} {ws2 : List V} (h : k < 3) : setUs (lawL CC0 CO A n m held fs ws left sv) [⟨4 + 2 * k, A.x k, .ins CO (A.dx k) (fs k), .ins CO (A.dx k) fs2⟩, ⟨5 + 2 * k, A.dx k, .own (A.x k), .own (A.x k)⟩, ⟨0, A.y, .ins CC0 A.dy (celF n A.l), .ins CC0 A.dy (celF n A.l)⟩, ⟨1, A.dy, .own A.y, .own A.y⟩, ⟨2, A.l, .lst (held.map optV), .lst (held.map optV)⟩, ⟨12 + k, m k, .lst (ws k), .lst ws2⟩, ⟨3, A.h, .lst (held.map optV), .lst (held.map optV)⟩] = lawL CC0 CO A n m held (upF fs k fs2) (upF ws k ws2) left sv := match k, h with
  | 0, _ => rfl
  | 1, _ => rfl
  | 2, _ => rfl
theorem lawL_mine {a : Addr} {ws2 : List V} (h : k < 3) : ((lawL CC0 CO A n m held fs ws left sv).set (12 + k) (a, .lst ws2)).set 11 (A.M, .lst ([V.ref (m 0), V.ref (m 1), V.ref (m 2)].set k (.ref a))) = lawL CC0 CO A n (upF m k a) held fs (upF ws k ws2) left sv := match k, h with
  | 0, _ => rfl
  | 1, _ => rfl
  | 2, _ => rfl
end
section
variable {P : Program} {w : World} {K : PySem.W.Frag} {mg : Str → Option Value} {base : Heap} {CC0 CO CF CN CT C : Addr} {mc cls : Value}
variable {pt : Option Pt} {σ : L2.St} {F F' F0 H0 H F2 H2 : Hp} {te ti ta tb ty td : TE} {ts tr : TA} {D : Ends} {tz : TS} {L : List Own1} {x dx l a dd : Addr} {n : Nat} {held : ORow} {us : List V} {c : Co} {d : PyData} {ds : List PyData}
/-- what holds of them -/
structure LawI (K : PySem.W.Frag) (n : Nat) (o2 : Int) (cnt sb : Nat) (F : Hp) (held : ORow) (fs : Nat → List (Str × V)) (ws : Nat → List V) (left : List Int) (sv : List V) : Prop where
  nb : 2 ≤ n ∧ n ≤ 5
  o2b : 0 ≤ o2 ∧ o2 < (n : Int)
  ex : ∃ (c : Nat → Co) (hist seen : List ORow), (∀ k, k < 3 → ColF K F (fs k) n (c k) ∧ RpAll K F (ws k) (coDs (c k)) ∧ (c k).own = ownsF o2 k ∧ (c k).full.length ≤ cnt ∧ MomOk n held hist (c k)) ∧ HistOk n held hist ∧ ((∀ r ∈ seen, r ∈ hist) ∧ seen.length ≤ sb) ∧ RpAll K F sv (seen.map dO)
  le : LeftOk n held left
theorem LawI.mono {o2 : Int} {cnt sb cnt2 sb2 : Nat} {fs : Nat → List (Str × V)} {ws : Nat → List V} {left : List Int} {sv : List V} (e : Ex F F') (hc : cnt ≤ cnt2) (hb : sb ≤ sb2) (h : LawI K n o2 cnt sb F held fs ws left sv) : LawI K n o2 cnt2 sb2 F' held fs ws left sv := by
  obtain ⟨c, hist, seen, h1, h2, h3, h4⟩ := h.ex
  refine ⟨h.nb, h.o2b, ⟨c, hist, seen, fun k hk => ?_, h2, ⟨h3.1, by omega⟩, RpAll.mono e _ _ h4⟩, h.le⟩
  obtain ⟨a1, a2, a3, a4, a5⟩ := h1 k hk
  exact ⟨a1.mono e, RpAll.mono e _ _ a2, a3, by omega, a5⟩
theorem rv_ninI {i : Int} {ns : List Int} : RvG K (rIn K true) (.int i) (.list (ns.map .int)) (Is (.bool (!decide (i ∈ ns)))) := rv_val fun F H x y e hx hy => by
  obtain ⟨a, xs, rfl, hl, ha⟩ := rp_lst hy
  have e1 := rpAll_ints ha
  subst e1
  rw [rp_int hx]
  exact ⟨.bl (!inV (.int i) (ns.map V.int)), fun Q q => ⟨a, _, rfl, .inl (SqL.of (e _ _ hl)), rfl, flat_ints ns, q⟩, by rw [inV_ints]; exact .bl _⟩
theorem any_dO (ls : List ORow) (m : ORow) : (ls.map dO).any (fun z => PyData.eqv z (dO m)) = decide (m ∈ ls) := by
  rw [List.any_map]
  induction ls with
  | nil => simp
  | cons l ls ih =>
    rw [List.any_cons, ih]
    simp only [Function.comp, eqv_dO]
    by_cases h : l = m
    · subst h; simp
    · by_cases k : m ∈ ls <;> simp [h, k, Ne.symm h]
theorem canLay_rows : ∀ ns : List ORow, PyData.canLayAll0 (ns.map dO) = true
  | [] => by simp [PyData.canLayAll0]
  | r :: ns => by
    have h1 : PyData.canLay0 (dO r) = true := by simp only [PyData.canLay0]; exact canLayAll_opts r
    simp only [List.map_cons, PyData.canLayAll0, h1, canLay_rows ns, Bool.and_self]
theorem depth_rows : ∀ ns : List ORow, PyData.depthAll (ns.map dO) ≤ 2
  | [] => by simp [PyData.depthAll]
  | r :: ns => by
    have h1 := depthAll_opts r
    have h2 := depth_rows ns
    simp only [List.map_cons, PyData.depthAll, PyData.depth]
    omega
theorem shaped_rowsL (ns : List ORow) : SeqAt.shaped (.list (ns.map dO)) = true := shaped_of (by simp only [PyData.canLay0]; exact canLay_rows ns) (by have := depth_rows ns; simp only [PyData.depth]; omega)
theorem rv_ninRows {m : ORow} {ls : List ORow} : RvG K (rNotInD K) (dO m) (.list (ls.map dO)) (Is (.bool (!decide (m ∈ ls)))) := rv_val fun F H x y e hx hy =>
  ⟨_, fun Q q => ⟨dO m, ls.map dO, Rp.dp _ _ (Rp.mono e _ _ hx), Rp.dp _ _ (Rp.mono e _ _ hy), shaped_dO m, shaped_rowsL ls, q⟩, by rw [any_dO]; exact .bl _⟩
theorem rp_intsL {F : Hp} : ∀ ns : List Int, RpAll K F (ns.map V.int) (ns.map PyData.int)
  | [] => .nil
  | n :: ns => .cons (.int n) (rp_intsL ns)
/-- x = [e for ..], each a list of one's own -/
theorem t_asgLcOwn {α : Type} {wi : TI} {i j : Nat} {vs : List Nat} (enc : α → PyData) (ys : List α) (Ψ : α → HO → Hp → Prop) (hm : ∀ y o F F', Ex F F' → Ψ y o F → Ψ y o F') (g0 : Good pt F0 H0) (w : Own pt F0 H0 F H L) (hw : WiG K pt wi σ F (· = ys.map enc)) (hz : ys.length ≤ 20000) (hwp : ∀ x, wipe ((wipe σ vs).set j (some x)) vs = wipe σ vs)
    (he : ∀ y ∈ ys, ∀ F' H' L' v, Own pt F0 H0 F' H' L' → Ex F F' → Rp K F' v (enc y) → ∀ Q : VK, (∀ l o F2 H2, Own pt F0 H0 F2 H2 (L' ++ [(l, o)]) → Ex F' F2 → Ψ y o F2 → Q (.ref l) H2) → te ((wipe σ vs).set j (some v)) H' Q)
    (q : ∀ Dd bs F2 H2, Own pt F0 H0 F2 H2 (L ++ (Dd, .lst (bs.map fun b => V.ref b.1)) :: bs) → Ex F F2 → Paired (fun (b : Own1) y => Ψ y b.2 F2) bs ys → tz D (σ.set i (some (.ref Dd))) H2) : tSeq (tAsg (tLc wi (gName j) tYes te vs) (gName i)) tz D σ H :=
  e_lcOwn (Q := fun x H1 => gName i x σ H1 (tz D)) enc ys Ψ hm g0 w hw hz hwp he q
theorem et_ofU {te : TE} (h : EvG K pt te σ F (fun d => ∃ b, d = .bool b)) : EtG pt (tTest te) σ F (fun _ => True) := fun H1 i g Q q => h H1 i g _ fun d v F2 H2 ⟨b, hd⟩ s hv => by
  subst hd
  exact ⟨b, rp_bool hv, q b F2 H2 trivial s⟩
theorem shaped_ref3 (wd : Str) (d : PyData) (hw : PyData.strOk wd = true) (h : SeqAt.shaped (.tuple [d]) = true) : SeqAt.shaped (.tuple [.str wd, d, .bool true]) = true := by
  unfold SeqAt.shaped at h ⊢
  simp [PyData.canLay0, PyData.canLayAll0, PyData.depth, PyData.depthAll] at h ⊢
  exact ⟨⟨hw, h.1⟩, by omega⟩
theorem eqv_ref3 (wd : Str) (d : PyData) (h : PyData.eqv d d = true) : PyData.eqv (.tuple [.str wd, d, .bool true]) (.tuple [.str wd, d, .bool true]) = true := by
  simp [PyData.eqv, PyData.eqvAll, h]
theorem nd7 {k : Nat} (hk : k < 3) : ([4 + 2 * k, 5 + 2 * k, 0, 1, 2, 12 + k, 3] : List Nat).Nodup := match k, hk with
  | 0, _ => by decide
  | 1, _ => by decide
  | 2, _ => by decide
theorem turns_cons {n : Nat} {o : Option Int} (h : 2 ≤ n) : ∃ t ts, turnsO n o = t :: ts := by
  have := turns_pos (o := o) h
  match h : turnsO n o with
  | [] => rw [h] at this; cases this
  | t :: ts => exact ⟨t, ts, rfl⟩
theorem owns_at {k : Nat} {o2 : Int} {us : List V} (hk : k < 3) (h : RpAll K F us ([none, none, some o2].map optD)) : ∃ u, us[k]? = some u ∧ Rp K F u (optD (ownsF o2 k)) := by
  obtain ⟨b1, b2, b3, rfl, z1, z2, z3⟩ := rpAll3 h
  match k, hk with
  | 0, _ => exact ⟨_, rfl, z1⟩
  | 1, _ => exact ⟨_, rfl, z2⟩
  | 2, _ => exact ⟨_, rfl, z3⟩
theorem g_chnC {E : XK} {i0 : Nat} {l : Addr} {rs : List ORow} {sv : List V} (h0 : σ[i0]? = some (some (.ref l))) (hl : F l = some (.lst sv)) (hs : RpAll K F sv (rs.map dO)) (hb : n ≤ 1000 ∧ rs.length ≤ 1000 ∧ (∀ r ∈ rs, r.length = n) ∧ ∀ a ∈ rs, ∀ b ∈ rs, Sub a b ∨ Sub b a) :
    EvG K pt (tCall (spChn K) [] E (tCons (tVar i0) tNil)) σ F (Is (.bool true)) := fun H1 e g Q q =>
  ⟨_, h0, n, rs, .ref l, F, rfl, hb, .lst hl hs, e, fun z F2 H2 s hz => q _ z F2 H2 rfl (s.lift g) hz⟩
theorem isNone_stab (o : Option ORow) : isNone (stabD o) = o.isNone := by cases o <;> rfl
theorem nl_stab (o : Option ORow) : nl (stabD o) = true := by
  cases o with
  | none => rfl
  | some r => exact nl_dO r
theorem rv_pow {i j : Int} (h : CPow i j) : RvG K (rI CPow fun i j => .int (i ^ j.toNat)) (.int i) (.int j) (Is (.int (i ^ j.toNat))) := rv_I (f := fun i j => .int (i ^ j.toNat)) h fun F => .int _
/-- what is no house -/
theorem no_houses {d : PyData} (h2 : 2 ≤ n ∧ n ≤ 5) (h : d ∈ [PyData.int n, .int (-1), .int ((n : Int) + 10 ^ (20 : Int).toNat), .none, .str "0"]) : (isWhole (some 0) (some ((n : Int) - 1)) d = false ∧ SeqAt.shaped d = true ∧ PyData.eqv d d = true) ∧ SeqAt.shaped (.tuple [d]) = true := by
  simp only [List.mem_cons, List.not_mem_nil, or_false] at h
  rcases h with rfl | rfl | rfl | rfl | rfl
  · refine ⟨⟨?_, rfl, by simp [PyData.eqv]⟩, rfl⟩
    simp [isWhole, loOk, hiOk]; omega
  · refine ⟨⟨?_, rfl, by simp [PyData.eqv]⟩, rfl⟩
    simp [isWhole, loOk, hiOk]
  · refine ⟨⟨?_, rfl, by simp [PyData.eqv]⟩, rfl⟩
    have : (10 : Int) ^ (20 : Int).toNat = 100000000000000000000 := by decide
    rw [this]
    simp [isWhole, loOk, hiOk]; omega
  · exact ⟨⟨rfl, rfl, by simp [PyData.eqv]⟩, rfl⟩
  · exact ⟨⟨rfl, by decide +kernel, by decide +kernel⟩, by decide +kernel⟩
theorem owns_at2 {k : Nat} {o2 : Int} (hk : k < 3) : ([none, none, some o2].map optD)[k]? = some (optD (ownsF o2 k)) := match k, hk with
  | 0, _ => rfl
  | 1, _ => rfl
  | 2, _ => rfl
theorem g_refC {E : XK} {i0 : Nat} {t1 t2 : TE} {x : Addr} {wd : Str} {R2 : PD} (h0 : σ[i0]? = some (some (.ref x))) (ca : CelAt K CC0 F x n held) (hd : refD n held d wd) (h1 : EvG K pt t1 σ F (Is d)) (h2 : EvG K pt t2 σ F R2) :
    EvG K pt (tCall (spRef K CC0) [] E (tCons (tVar i0) (tCons t1 (tCons t2 tNil)))) σ F (Is (.tuple [.str wd, d, .bool true])) := fun H1 e g Q q =>
  ⟨_, h0, h1 H1 e g _ fun d1 v F1 H2 hd1 s1 hv => h2.mono s1.sub H2 s1.inn s1.good _ fun d2 u F2 H3 _ s2 _ => by
    subst hd1
    have s := s1.trans s2
    exact ⟨x, n, held, _, wd, v, u, F2, rfl, ca.mono s.sub, hd, Rp.mono s2.sub _ _ hv, s.inn, fun z F3 H4 s3 hz => q _ z F3 H4 rfl (s.trans (s3.lift s.good)) hz⟩⟩
theorem g_noC {E : XK} {i0 : Nat} {t1 : TE} {x : Addr} (h0 : σ[i0]? = some (some (.ref x))) (ca : CelAt K CC0 F x n held) (hd : isWhole (some 0) (some ((n : Int) - 1)) d = false ∧ SeqAt.shaped d = true ∧ PyData.eqv d d = true) (h1 : EvG K pt t1 σ F (Is d)) :
    EvG K pt (tCall (spNoC K CC0) [] E (tCons (tVar i0) (tCons t1 tNil))) σ F (Is (.bool true)) := fun H1 e g Q q =>
  ⟨_, h0, h1 H1 e g _ fun d1 v F1 H2 hd1 s1 hv => by
    subst hd1
    exact ⟨x, n, held, _, v, F1, rfl, ca.mono s1.sub, hd, hv, s1.inn, fun z F3 H4 s3 hz => q _ z F3 H4 rfl (s1.trans (s3.lift s1.good)) hz⟩⟩
theorem g_likC {E : XK} {i0 i1 i2 i3 k : Nat} {R M x m dx : Addr} {rs ms : List V} {fs : List (Str × V)} (h0 : σ[i0]? = some (some (.ref R))) (h1 : σ[i1]? = some (some (.ref M))) (h2 : σ[i2]? = some (some (.int (n : Int)))) (h3 : σ[i3]? = some (some (.int (k : Int)))) (hR : F R = some (.lst rs)) (hM : F M = some (.lst ms)) (hr : rs[k]? = some (.ref x)) (hm : ms[k]? = some (.ref m)) (hx : F x = some (.ins CO dx fs)) (cf : ColF K F fs n c) (hl : c.full.length ≤ 900) (hc : Rp K F (.ref m) (.list (coDs c))) :
    EvG K pt (tCall (spLik K CO) [] E (tCons (tOp (rIxL K) (tVar i0) (tVar i3)) (tCons (tOp (rIxL K) (tVar i1) (tVar i3)) (tCons (tVar i2) tNil)))) σ F (Is (.bool true)) := fun H1 e g Q q =>
  ⟨_, h0, _, h3, R, rs, k, .ref x, rfl, rfl, SqL.of (e _ _ hR), atI_nat hr, _, h1, _, h3, M, ms, k, .ref m, rfl, rfl, SqL.of (e _ _ hM), atI_nat hm, _, h2, x, dx, fs, n, c, .ref m, F, rfl, hx, cf, hl, hc, e, fun u F2 H2 s hu => q _ u F2 H2 rfl (s.lift g) hu⟩
theorem g_momC {E : XK} {i1 i2 i3 k : Nat} {M m : Addr} {ms : List V} {u : V} {mo r : ORow} (h1 : σ[i1]? = some (some (.ref M))) (h2 : σ[i2]? = some (some u)) (h3 : σ[i3]? = some (some (.int (k : Int)))) (hM : F M = some (.lst ms)) (hm : ms[k]? = some (.ref m)) (hb : 2 ≤ c.mom.length ∧ c.mom.getD (c.mom.length - 2) [] = mo ∧ mo.length ≤ 1000) (hc : Rp K F (.ref m) (.list (coDs c))) (hu : Rp K F u (dO r)) :
    EvG K pt (tCall (spMom K) [] E (tCons (tOp (rIxL K) (tVar i1) (tVar i3)) (tCons (tVar i2) tNil))) σ F (Is (.bool (decide (cutO c.own mo = r)))) := fun H1 e g Q q =>
  ⟨_, h1, _, h3, M, ms, k, .ref m, rfl, rfl, SqL.of (e _ _ hM), atI_nat hm, _, h2, c, mo, r, .ref m, u, F, rfl, hb, hc, hu, e, fun z F2 H2 s hz => q _ z F2 H2 rfl (s.lift g) hz⟩
theorem g_shwC {E : XK} {i0 : Nat} {x : Addr} (h0 : σ[i0]? = some (some (.ref x))) (ca : CelAt K CC0 F x n held) : EvG K pt (tProp CC0 (spShw K CC0) [] E (tVar i0)) σ F (Is (dO held)) := by
  obtain ⟨dx, l, us, h1, h2, h3⟩ := ca.ex
  exact g_propD h0 h1 fun F1 H1 e1 i1 Q q => ⟨x, n, held, F1, rfl, ca.mono e1, i1, q⟩
theorem g_rdC {E : XK} {i0 k : Nat} {x : Addr} {t1 : TE} (h0 : σ[i0]? = some (some (.ref x))) (ca : CelAt K CC0 F x n held) (hk : k < n) (h1 : EvG K pt t1 σ F (Is (.int (k : Int)))) : EvG K pt (tMeth CC0 "read" (spRd K CC0) [] E (tVar i0) (tCons t1 tNil)) σ F (Is (optD (held.getD k none))) := by
  obtain ⟨dx, l, us, h2, h3, h4⟩ := ca.ex
  refine g_methD (ds := [.int (k : Int)]) h0 h2 rfl (gs_one h1) fun F1 H1 vs e1 i1 hv Q q => ?_
  obtain ⟨v, rfl, hv1⟩ := rpAll1 hv
  obtain rfl := rp_int hv1
  exact ⟨x, n, k, held, F1, rfl, ca.mono e1, hk, i1, q⟩
/-- a, b = x, y by way of a tuple -/
theorem two_done {i j : Nat} {v u : V} {N : _root_.L2.St → Hp → Prop} (g0 : Good pt F0 H0) (w : Own pt F0 H0 F H L) (q : ∀ F3 H3, Own pt F0 H0 F3 H3 L → Ex F F3 → N ((σ.set i (some v)).set j (some u)) H3) :
    [v, u].length ≤ sizeLine ∧ ∀ p, H p = none → gTup K 2 (gCons (gName i) (gCons (gName j) gNil)) (.ref p) σ (upd H p (.tup [v, u])) N := by
  refine ⟨Nat.le_trans (show 2 ≤ 100000 by decide) (show (100000 : Nat) ≤ sizeLine by decide), fun p hp => ?_⟩
  have s3 : Step pt F H (upd F p (.tup [v, u])) (upd H p (.tup [v, u])) := .laid w.step.inn w.step.good hp
  exact ⟨p, [v, u], rfl, .of upd_same, rfl, v, [u], rfl, u, [], rfl, rfl, q _ _ (w.run g0 s3) s3.sub⟩
/-- range(20 + draw(..)) -/
theorem w_rngT {b c : Int} (hb : 0 ≤ b) (hc : b + c ≤ 1000) (h : EvG K pt te σ F (fun d => ∃ k : Int, d = .int k ∧ 0 ≤ k ∧ k < c)) : WiG K pt (iRng1 (tCons (tOp (rI0 fun i j => .int (i + j)) (tC (.int b)) te) tNil)) σ F (fun l => ∃ N : Nat, l = rng 0 N ∧ (N : Int) < b + c) := fun H1 i g RR q =>
  w_rng1 (R0 := fun ds => ∃ k : Int, ds = [.int (b + k)] ∧ 0 ≤ k ∧ k < c) (fun H1 i g Q q => g_consR (R := fun d => ∃ k : Int, d = .int (b + k) ∧ 0 ≤ k ∧ k < c) (g_op g_int h fun d e hd ⟨k, he, k0, k1⟩ => by
      subst hd he
      intro F H x y i hx hy Q q
      exact rv_add F H x y i hx hy Q fun z v F2 H2 hz s hv => q z v F2 H2 ⟨k, hz, k0, k1⟩ s hv) H1 i g Q fun ds vs F2 H2 ⟨d, hd, k, hk, k0, k1⟩ s hv => q ds vs F2 H2 ⟨k, by rw [hd, hk], k0, k1⟩ s hv)
    (fun ds ⟨k, e, k0, k1⟩ => ⟨_, e, by omega, by omega⟩) H1 i g RR fun ds J F2 H2 ⟨n, ⟨k, e, k0, k1⟩, hl⟩ => q ds J F2 H2 (by
      have : n = b + k := by simpa using e
      exact ⟨n.toNat, hl, by omega⟩)
end
end KH
namespace KH
open PySem PySem.Spec PyProof.Rows L2 L2H Fv Evl StX
abbrev s_law : Stmt := topS 22
theorem sc_law : FnScope ["_law_script", "_law_pot_here", "_law_n", "_law_cells", "_law_held", "_law_owns", "_law_reals", "_law_mine", "_law_skipped", "_law_left", "_law_seen", "_law_turn_here", "_law_word", "_law_house", "_law_full", "_law_k", "_law_stable"] ["_law_script"] (defScope s_law) := ⟨rfl, rfl, rfl, by decide +kernel, rfl, by decide +kernel, by decide +kernel⟩
section
variable {P : Program} {w : World} {K : PySem.W.Frag} {mg : Str → Option Value} {base : Heap} {CC0 CO CF CN CT C : Addr} {mc cls : Value}
variable {pt : Option Pt} {σ : L2.St} {F F' F0 H0 H F2 H2 : Hp} {te ti ta tb ty td : TE} {ts tr : TA} {D : Ends} {tz : TS} {L : List Own1} {x dx l a dd : Addr} {n : Nat} {held : ORow} {us : List V} {c : Co} {d : PyData} {ds : List PyData}
def spLaw (K : PySem.W.Frag) : Sp := fun vs H Q _ => ∃ (a : Addr) (ns : List Int), vs = [.ref a] ∧ SqL K H a (ns.map V.int) ∧ ∀ H', Q (.bl true) H'
/-- the state of the law's loop -/
def St40 (K : PySem.W.Frag) (CC0 CO : Addr) (A : Ad) (a : Addr) (q : Pt) (ov : V) (n : Nat) (o2 : Int) (cnt sb : Nat) (σ : _root_.L2.St) (F : Hp) (L : List Own1) : Prop :=
  ∃ (z11 z12 z13 z14 z15 z16 : Option V) (m : Nat → Addr) (held : ORow) (fs : Nat → List (Str × V)) (ws : Nat → List V) (left : List Int) (sv : List V),
    σ = [some (.ref a), some (.ref q.p), some (.int n), some (.ref A.y), some (.ref A.h), some ov, some (.ref A.R), some (.ref A.M), none, some (.ref A.lf), some (.ref A.se), z11, z12, z13, z14, z15, z16] ∧
    L = lawL CC0 CO A n m held fs ws left sv ∧ LawI K n o2 cnt sb F held fs ws left sv
theorem ok_law {f fP fD fC fK fS fT fL fM fH fF fN fX fG fV fR fW fE : Addr} {fd fdP fdD fdC fdK fdS fdT fdL fdM fdH fdF fdN fdX fdG fdV fdR fdW fdE : FuncData} {gA gB : List Value → List Value → List Value} (Fn : Fun K "law" "law" s_law f fd) (T : Tx mg) (CC : CelC K CC0) (OC : ColC K CO)
    (F_law_pot : Fun K "_law_pot" "_law_pot" s_law_pot fP fdP) (b_law_pot : Binds K fdP ["_law_script", "_law_salt"] []) (g_law_pot : mg "_law_pot" = some (.ref fP))
    (F_law_draw : Fun K "_law_draw" "_law_draw" s_law_draw fD fdD) (b_law_draw : Binds K fdD ["_law_pot_here", "_law_many"] []) (g_law_draw : mg "_law_draw" = some (.ref fD))
    (M_Cells : Mk K CC0 fC) (g_Cells : mg "Cells" = some (.ref CC0)) (b_Cells : Binds K fdC ["self", "houses"] []) (G_Cells : FnOk P w K mg base CX0 2 fC fdC ["self", "houses"] (spCelI K CC0))
    (M_Collector : Mk K CO fK) (g_Collector : mg "Collector" = some (.ref CO)) (bK0 : KBn K fdK ["self", "houses", "own"] 2 [] gA (fun vs _ => vs ++ [V.non])) (bK1 : KBn K fdK ["self", "houses", "own"] 2 ["own"] gB (fun vs zs => vs ++ zs)) (G_Collector : FnOk P w K mg base CX0 3 fK fdK ["self", "houses", "own"] (spColI K CO))
    (F_law_same : Fun K "_law_same" "_law_same" s_law_same fS fdS) (b_law_same : Binds K fdS ["_law_told", "_law_due"] []) (g_law_same : mg "_law_same" = some (.ref fS))
    (F_law_start : Fun K "_law_start" "_law_start" s_law_start fT fdT) (b_law_start : Binds K fdT ["_law_n", "_law_skipped"] []) (g_law_start : mg "_law_start" = some (.ref fT))
    (F_law_like : Fun K "_law_like" "_law_like" s_law_like fL fdL) (b_law_like : Binds K fdL ["_law_real", "_law_mine", "_law_n"] []) (g_law_like : mg "_law_like" = some (.ref fL)) (G_law_like : FnOk P w K mg base CX0 4 fL fdL ["_law_real", "_law_mine", "_law_n"] (spLik K CO))
    (F_law_moment : Fun K "_law_moment" "_law_moment" s_law_moment fM fdM) (b_law_moment : Binds K fdM ["_law_mine", "_law_stable"] []) (g_law_moment : mg "_law_moment" = some (.ref fM))
    (F_law_chained : Fun K "_law_chained" "_law_chained" s_law_chained fH fdH) (b_law_chained : Binds K fdH ["_law_views"] []) (g_law_chained : mg "_law_chained" = some (.ref fH))
    (F_law_refused : Fun K "_law_refused" "_law_refused" s_law_refused fF fdF) (b_law_refused : Binds K fdF ["_law_cells", "_law_house", "_law_value"] []) (g_law_refused : mg "_law_refused" = some (.ref fF)) (G_law_refused : FnOk P w K mg base CX0 5 fF fdF ["_law_cells", "_law_house", "_law_value"] (spRef K CC0))
    (F_law_no_cell : Fun K "_law_no_cell" "_law_no_cell" s_law_no_cell fN fdN) (b_law_no_cell : Binds K fdN ["_law_cells", "_law_house"] []) (g_law_no_cell : mg "_law_no_cell" = some (.ref fN)) (G_law_no_cell : FnOk P w K mg base CX0 5 fN fdN ["_law_cells", "_law_house"] (spNoC K CC0))
    (F_law_turn : Fun K "_law_turn" "_law_turn" s_law_turn fX fdX) (b_law_turn : Binds K fdX ["_law_real", "_law_mine", "_law_cells", "_law_held", "_law_n"] []) (g_law_turn : mg "_law_turn" = some (.ref fX)) (G_law_turn : FnOk P w K mg base CX0 5 fX fdX ["_law_real", "_law_mine", "_law_cells", "_law_held", "_law_n"] (spTrn K CC0 CO))
    (m_forget : Meth K CO "forget" fG) (b_forget : Binds K fdG ["self"] []) (G_forget : FnOk P w K mg base CX0 2 fG fdG ["self"] (spFgt K CO))
    (m_stable_view : Meth K CO "stable_view" fV) (b_stable_view : Binds K fdV ["self"] []) (G_stable_view : FnOk P w K mg base CX0 1 fV fdV ["self"] (spStb K CO))
    (m_read : Meth K CC0 "read" fR) (b_read : Binds K fdR ["self", "house"] []) (G_read : FnOk P w K mg base CX0 3 fR fdR ["self", "house"] (spRd K CC0))
    (m_write : Meth K CC0 "write" fW) (b_write : Binds K fdW ["self", "house", "value"] []) (G_write : FnOk P w K mg base CX0 3 fW fdW ["self", "house", "value"] (spWr K CC0))
    {pS : Addr} (p_shown : PropOf K CC0 "shown" pS fE) (b_shown : Binds K fdE ["self"] []) (G_shown : FnOk P w K mg base CX0 1 fE fdE ["self"] (spShw K CC0)) :
    FnOk P w K mg base CX0 6 f fd ["_law_script"] (spLaw K) := by
  have G_law_pot : FnOk P w K mg base CX0 1 fP fdP ["_law_script", "_law_salt"] (spPot K) := ok_pot F_law_pot T
  have G_law_draw : FnOk P w K mg base CX0 1 fD fdD ["_law_pot_here", "_law_many"] (spDraw K) := ok_draw F_law_draw T
  have G_law_same : FnOk P w K mg base CX0 3 fS fdS ["_law_told", "_law_due"] (spSm K lv2) := ok_same F_law_same T b_law_same g_law_same
  have G_law_start : FnOk P w K mg base CX0 1 fT fdT ["_law_n", "_law_skipped"] (spLst K) := ok_lst F_law_start
  have G_law_moment : FnOk P w K mg base CX0 1 fM fdM ["_law_mine", "_law_stable"] (spMom K) := ok_mom F_law_moment T
  have G_law_chained : FnOk P w K mg base CX0 1 fH fdH ["_law_views"] (spChn K) := ok_chn F_law_chained T
  refine Fn.ok sc_law (fun vs H Q E ⟨_, _, h, _⟩ => by rw [h]; rfl) (fun cdv A0 outer s H vs Q E hr h => ?_)
  obtain ⟨a, ns, rfl, hS, q⟩ := h
  refine ⟨_, (pss_cons (ps_set (i := 1) sc_law.nd rfl (by first | exact Or.inl rfl | exact Or.inr rfl) (pe_call G_law_pot (hr.mono (by decide)) (by rfl) g_law_pot F_law_pot.kp b_law_pot .nil pass0 (pa_cons (pv 0) (pa_cons pe_int pa_nil))))
    (pss_cons (ps_set (i := 2) sc_law.nd rfl (by first | exact Or.inl rfl | exact Or.inr rfl) (pe_op op_add pe_int (pe_call G_law_draw (hr.mono (by decide)) (by rfl) g_law_draw F_law_draw.kp b_law_draw .nil pass0 (pa_cons (pv 1) (pa_cons pe_int pa_nil)))))
    (pss_cons (ps_asg (pe_tup (pa_cons (pe_make M_Cells G_Cells (hr.mono (by decide)) (by rfl) g_Cells b_Cells .nil pass0 (pa_cons (pv 2) pa_nil)) (pa_cons (pe_op op_rep (pe_lst (pa_cons pe_non pa_nil)) (pv 2)) pa_nil))) (pg_tup rfl (pgs_cons (pg_name (i := 3) sc_law.nd rfl (by first | exact Or.inl rfl | exact Or.inr rfl)) (pgs_cons (pg_name (i := 4) sc_law.nd rfl (by first | exact Or.inl rfl | exact Or.inr rfl)) pgs_nil))))
    (pss_cons (ps_set (i := 5) sc_law.nd rfl (by first | exact Or.inl rfl | exact Or.inr rfl) (pe_lst (pa_cons pe_non (pa_cons pe_non (pa_cons (pe_call G_law_draw (hr.mono (by decide)) (by rfl) g_law_draw F_law_draw.kp b_law_draw .nil pass0 (pa_cons (pv 1) (pa_cons (pv 2) pa_nil))) pa_nil)))))
    (pss_cons (ps_set (i := 6) sc_law.nd rfl (by first | exact Or.inl rfl | exact Or.inr rfl) (pe_lst (pa_cons (pe_makeK M_Collector G_Collector (hr.mono (by decide)) (by rfl) g_Collector bK0 pass0 (pa_cons (pv 2) pa_nil) pk_nil) (pa_cons (pe_makeK M_Collector G_Collector (hr.mono (by decide)) (by rfl) g_Collector bK1 pass0 (pa_cons (pv 2) pa_nil) (pk_cons pe_non pk_nil)) (pa_cons (pe_makeK M_Collector G_Collector (hr.mono (by decide)) (by rfl) g_Collector bK1 pass0 (pa_cons (pv 2) pa_nil) (pk_cons (pe_ix (o_ixL (K := K)) (pv 5) pe_int (fun _ _ => rfl)) pk_nil)) pa_nil)))))
    (pss_cons (ps_set (i := 7) sc_law.nd rfl (by first | exact Or.inl rfl | exact Or.inr rfl) (pe_lc (own := [("_law_skipped", 8)]) (g := gName 8) rfl sc_law.nd (i_list (K := K) (pv 5)) (blkOk_by (own := [("_law_skipped", 8)]) (N := ["_law_script", "_law_pot_here", "_law_n", "_law_cells", "_law_held", "_law_owns", "_law_reals", "_law_mine", "_law_skipped", "_law_left", "_law_seen", "_law_turn_here", "_law_word", "_law_house", "_law_full", "_law_k", "_law_stable"]) (sc := (defScope s_law)) (by decide +kernel)) (fun _ _ _ _ _ => pg_name (i := 8) sc_law.nd rfl (by first | exact Or.inl rfl | exact Or.inr rfl)) (fun _ _ _ _ _ => pts_nil) (fun _ _ _ _ _ => (pe_call G_law_start (hr.mono (by decide)) (by rfl) g_law_start F_law_start.kp b_law_start .nil pass0 (pa_cons (pv 2) (pa_cons (pv 8) pa_nil))))))
    (pss_cons (ps_asg (pe_tup (pa_cons (pe_listRg rfl (by rfl) T.list (prg_1 (by rfl) T.range (pv 2))) (pa_cons (pe_lst pa_nil) pa_nil))) (pg_tup rfl (pgs_cons (pg_name (i := 9) sc_law.nd rfl (by first | exact Or.inl rfl | exact Or.inr rfl)) (pgs_cons (pg_name (i := 10) sc_law.nd rfl (by first | exact Or.inl rfl | exact Or.inr rfl)) pgs_nil))))
    (pss_cons (ps_for PassesOwn.never rfl (pi_range1 (by rfl) T.range (pa_cons (pe_op op_add pe_int (pe_call G_law_draw (hr.mono (by decide)) (by rfl) g_law_draw F_law_draw.kp b_law_draw .nil pass0 (pa_cons (pv 1) (pa_cons pe_int pa_nil)))) pa_nil)) (pg_name (i := 11) sc_law.nd rfl (by first | exact Or.inl rfl | exact Or.inr rfl)) (pss_cons (ps_set (i := 12) sc_law.nd rfl (by first | exact Or.inl rfl | exact Or.inr rfl) (pe_call G_law_draw (hr.mono (by decide)) (by rfl) g_law_draw F_law_draw.kp b_law_draw .nil pass0 (pa_cons (pv 1) (pa_cons pe_int pa_nil))))
    (pss_cons (ps_if (PW.pt (pw_and (pt_cmpR op_eq (pv 12) pe_int (nomark _)) (pw_and1 (e_truth (K := K) (pv 9))))) (pss_cons (ps_set (i := 13) sc_law.nd rfl (by first | exact Or.inl rfl | exact Or.inr rfl) (pe_bm PySem.F.plainAttrs_list PySem.F.slot_list_pop PySem.F.type_list_pop mt_popAt (pv 9) (pa_cons (pe_call G_law_draw (hr.mono (by decide)) (by rfl) g_law_draw F_law_draw.kp b_law_draw .nil pass0 (pa_cons (pv 1) (pa_cons (pe_callB (c_len (K := K)) (by rfl) T.len (by decide +kernel) (pa_cons (pv 9) pa_nil)) pa_nil))) pa_nil)))
    (pss_cons (ps_asg (pe_call G_law_draw (hr.mono (by decide)) (by rfl) g_law_draw F_law_draw.kp b_law_draw .nil pass0 (pa_cons (pv 1) (pa_cons pe_int pa_nil))) (pg_sub (pv 4) (pv 13) set_list))
    (pss_one (ps_if (pt_cmpR op_notN (pe_meth (pv 3) CC.cl m_write G_write (hr.mono (by decide)) b_write .nil pass0 (pa_cons (pv 13) (pa_cons (pe_ix (o_ixL (K := K)) (pv 4) (pv 13) (fun _ _ => rfl)) pa_nil))) pe_non (nomark _)) (pss_one (ps_ret pe_bl)) pss_nil)))) (pss_one (ps_if (PW.pt (pw_or (pt_cmpR op_eq (pv 12) pe_int (nomark _)) (pw_or1 (PW.pt (pw_and (pt_cmpR op_eq (pv 12) pe_int (nomark _)) (pw_and1 (pt_cmpR op_lt (pe_callB (c_len (K := K)) (by rfl) T.len (by decide +kernel) (pa_cons (pv 9) pa_nil)) (pv 2) (nomark _)))))))) (pss_cons (ps_setLc (i := 14) (own := [("_law_k", 15)]) (g := gName 15) rfl sc_law.nd rfl rfl (sw_true rfl rfl rfl (by decide +kernel)) (pi_range1 (by rfl) T.range (pa_cons (pv 2) pa_nil)) (blkOk_by (own := [("_law_k", 15)]) (N := ["_law_script", "_law_pot_here", "_law_n", "_law_cells", "_law_held", "_law_owns", "_law_reals", "_law_mine", "_law_skipped", "_law_left", "_law_seen", "_law_turn_here", "_law_word", "_law_house", "_law_full", "_law_k", "_law_stable"]) (sc := (defScope s_law)) (by decide +kernel)) (fun _ _ _ _ _ => pg_name (i := 15) sc_law.nd rfl (by first | exact Or.inl rfl | exact Or.inr rfl)) (fun _ _ _ _ _ => (pts_one (pt_cmpR (o_notIn (K := K)) (pv 15) (pv 9) (by rfl)))) (fun _ _ _ _ _ => (pv 15)))
    (pss_cons (ps_set (i := 13) sc_law.nd rfl (by first | exact Or.inl rfl | exact Or.inr rfl) (pe_ix (o_ixL (K := K)) (pv 14) (pe_call G_law_draw (hr.mono (by decide)) (by rfl) g_law_draw F_law_draw.kp b_law_draw .nil pass0 (pa_cons (pv 1) (pa_cons (pe_callB (c_len (K := K)) (by rfl) T.len (by decide +kernel) (pa_cons (pv 14) pa_nil)) pa_nil))) (fun _ _ => rfl)))
    (pss_one (ps_if (pt_cmpR (o_neD (K := K) hr.units) (pe_call G_law_refused (hr.mono (by decide)) (by rfl) g_law_refused F_law_refused.kp b_law_refused .nil pass0 (pa_cons (pv 3) (pa_cons (pv 13) (pa_cons (pe_call G_law_draw (hr.mono (by decide)) (by rfl) g_law_draw F_law_draw.kp b_law_draw .nil pass0 (pa_cons (pv 1) (pa_cons pe_int pa_nil))) pa_nil)))) (pe_tup (pa_cons pe_str (pa_cons (pv 13) (pa_cons pe_bl pa_nil)))) (nomark _)) (pss_one (ps_ret pe_bl)) pss_nil)))) (pss_one (ps_if (PW.pt (pw_and (pt_cmpR op_eq (pv 12) pe_int (nomark _)) (pw_and1 (pt_cmpR op_eq (pe_call G_law_draw (hr.mono (by decide)) (by rfl) g_law_draw F_law_draw.kp b_law_draw .nil pass0 (pa_cons (pv 1) (pa_cons pe_int pa_nil))) pe_int (nomark _))))) (pss_cons (ps_set (i := 15) sc_law.nd rfl (by first | exact Or.inl rfl | exact Or.inr rfl) (pe_call G_law_draw (hr.mono (by decide)) (by rfl) g_law_draw F_law_draw.kp b_law_draw .nil pass0 (pa_cons (pv 1) (pa_cons pe_int pa_nil))))
    (pss_cons (ps_expr (pe_meth0 (pe_ix (o_ixL (K := K)) (pv 6) (pv 15) (fun _ _ => rfl)) OC.cl m_forget G_forget (hr.mono (by decide)) b_forget .nil pass0))
    (pss_one (ps_asg (pe_call G_law_start (hr.mono (by decide)) (by rfl) g_law_start F_law_start.kp b_law_start .nil pass0 (pa_cons (pv 2) (pa_cons (pe_ix (o_ixL (K := K)) (pv 5) (pv 15) (fun _ _ => rfl)) pa_nil))) (pg_sub (pv 7) (pv 15) set_list))))) (pss_cons (ps_set (i := 15) sc_law.nd rfl (by first | exact Or.inl rfl | exact Or.inr rfl) (pe_call G_law_draw (hr.mono (by decide)) (by rfl) g_law_draw F_law_draw.kp b_law_draw .nil pass0 (pa_cons (pv 1) (pa_cons pe_int pa_nil))))
    (pss_one (ps_expr (pe_call G_law_turn (hr.mono (by decide)) (by rfl) g_law_turn F_law_turn.kp b_law_turn .nil pass0 (pa_cons (pe_ix (o_ixL (K := K)) (pv 6) (pv 15) (fun _ _ => rfl)) (pa_cons (pe_ix (o_ixL (K := K)) (pv 7) (pv 15) (fun _ _ => rfl)) (pa_cons (pv 3) (pa_cons (pv 4) (pa_cons (pv 2) pa_nil))))))))))))))
    (pss_cons (ps_if (PW.pt (pw_or (pt_not (pt_val (pe_call G_law_same (hr.mono (by decide)) (by rfl) g_law_same F_law_same.kp b_law_same .nil pass0 (pa_cons (pe_prop (pv 3) CC.cl p_shown G_shown (hr.mono (by decide)) b_shown .nil pass0 rfl) (pa_cons (pe_callTy (c_tup (K := K)) (by rfl) T.tuple (by decide +kernel) (pa_cons (pv 4) pa_nil)) pa_nil))))) (pw_or1 (e_truth (K := K) (pe_lc (own := [("_law_k", 15)]) (g := gName 15) rfl sc_law.nd (pi_range1 (by rfl) T.range (pa_cons pe_int pa_nil)) (blkOk_by (own := [("_law_k", 15)]) (N := ["_law_script", "_law_pot_here", "_law_n", "_law_cells", "_law_held", "_law_owns", "_law_reals", "_law_mine", "_law_skipped", "_law_left", "_law_seen", "_law_turn_here", "_law_word", "_law_house", "_law_full", "_law_k", "_law_stable"]) (sc := (defScope s_law)) (by decide +kernel)) (fun _ _ _ _ _ => pg_name (i := 15) sc_law.nd rfl (by first | exact Or.inl rfl | exact Or.inr rfl)) (fun _ _ _ _ _ => (pts_one (pt_not (pt_val (pe_call G_law_like (hr.mono (by decide)) (by rfl) g_law_like F_law_like.kp b_law_like .nil pass0 (pa_cons (pe_ix (o_ixL (K := K)) (pv 6) (pv 15) (fun _ _ => rfl)) (pa_cons (pe_ix (o_ixL (K := K)) (pv 7) (pv 15) (fun _ _ => rfl)) (pa_cons (pv 2) pa_nil)))))))) (fun _ _ _ _ _ => (pv 15))))))) (pss_one (ps_ret pe_bl)) pss_nil)
    (pss_cons (ps_for PassesOwn.never rfl (pi_range1 (by rfl) T.range (pa_cons pe_int pa_nil)) (pg_name (i := 15) sc_law.nd rfl (by first | exact Or.inl rfl | exact Or.inr rfl)) (pss_cons (ps_set (i := 16) sc_law.nd rfl (by first | exact Or.inl rfl | exact Or.inr rfl) (pe_meth0 (pe_ix (o_ixL (K := K)) (pv 6) (pv 15) (fun _ _ => rfl)) OC.cl m_stable_view G_stable_view (hr.mono (by decide)) b_stable_view .nil pass0))
    (pss_cons (ps_if (PW.pt (pw_and (pt_cmpR op_notN (pv 16) pe_non (nomark _)) (pw_and1 (pt_not (pt_val (pe_call G_law_moment (hr.mono (by decide)) (by rfl) g_law_moment F_law_moment.kp b_law_moment .nil pass0 (pa_cons (pe_ix (o_ixL (K := K)) (pv 7) (pv 15) (fun _ _ => rfl)) (pa_cons (pv 16) pa_nil)))))))) (pss_one (ps_ret pe_bl)) pss_nil)
    (pss_one (ps_if (PW.pt (pw_and (pt_cmpR op_notN (pv 16) pe_non (nomark _)) (pw_and (pt_cmpR op_isN (pe_ix (o_ixL (K := K)) (pv 5) (pv 15) (fun _ _ => rfl)) pe_non (nomark _)) (pw_and1 (pt_cmpR (o_notInD (K := K) (hu65 hr)) (pv 16) (pv 10) (by rfl)))))) (pss_one (ps_expr (pe_bm PySem.F.plainAttrs_list PySem.F.slot_list_append PySem.F.type_list_append mt_append (pv 10) (pa_cons (pv 16) pa_nil)))) pss_nil)))))
    (pss_one (ps_if (e_truth (K := K) (pe_lc (own := [("_law_house", 13)]) (g := gName 13) rfl sc_law.nd (pi_range1 (by rfl) T.range (pa_cons (pv 2) pa_nil)) (blkOk_by (own := [("_law_house", 13)]) (N := ["_law_script", "_law_pot_here", "_law_n", "_law_cells", "_law_held", "_law_owns", "_law_reals", "_law_mine", "_law_skipped", "_law_left", "_law_seen", "_law_turn_here", "_law_word", "_law_house", "_law_full", "_law_k", "_law_stable"]) (sc := (defScope s_law)) (by decide +kernel)) (fun _ _ _ _ _ => pg_name (i := 13) sc_law.nd rfl (by first | exact Or.inl rfl | exact Or.inr rfl)) (fun _ _ _ _ _ => (pts_one (pt_not (pt_val (pe_call G_law_same (hr.mono (by decide)) (by rfl) g_law_same F_law_same.kp b_law_same .nil pass0 (pa_cons (pe_meth (pv 3) CC.cl m_read G_read (hr.mono (by decide)) b_read .nil pass0 (pa_cons (pv 13) pa_nil)) (pa_cons (pe_ix (o_ixL (K := K)) (pv 4) (pv 13) (fun _ _ => rfl)) pa_nil))))))) (fun _ _ _ _ _ => (pv 13)))) (pss_one (ps_ret pe_bl)) pss_nil)))))))
    (pss_cons (ps_for PassesOwn.never rfl (i_list (K := K) (pe_lst (pa_cons (pv 2) (pa_cons (pe_un un_neg pe_int) (pa_cons (pe_op op_add (pv 2) (pe_op op_pow pe_int pe_int)) (pa_cons pe_non (pa_cons pe_str pa_nil))))))) (pg_name (i := 13) sc_law.nd rfl (by first | exact Or.inl rfl | exact Or.inr rfl)) (pss_one (ps_if (PW.pt (pw_or (pt_cmpR (o_neD (K := K) hr.units) (pe_call G_law_refused (hr.mono (by decide)) (by rfl) g_law_refused F_law_refused.kp b_law_refused .nil pass0 (pa_cons (pv 3) (pa_cons (pv 13) (pa_cons pe_int pa_nil)))) (pe_tup (pa_cons pe_str (pa_cons (pv 13) (pa_cons pe_bl pa_nil)))) (nomark _)) (pw_or1 (pt_not (pt_val (pe_call G_law_no_cell (hr.mono (by decide)) (by rfl) g_law_no_cell F_law_no_cell.kp b_law_no_cell .nil pass0 (pa_cons (pv 3) (pa_cons (pv 13) pa_nil)))))))) (pss_one (ps_ret pe_bl)) pss_nil)))
    (pss_one (ps_ret (pe_and (pe_call G_law_same (hr.mono (by decide)) (by rfl) g_law_same F_law_same.kp b_law_same .nil pass0 (pa_cons (pe_prop (pv 3) CC.cl p_shown G_shown (hr.mono (by decide)) b_shown .nil pass0 rfl) (pa_cons (pe_callTy (c_tup (K := K)) (by rfl) T.tuple (by decide +kernel) (pa_cons (pv 4) pa_nil)) pa_nil))) (pe_and (pe_call G_law_same (hr.mono (by decide)) (by rfl) g_law_same F_law_same.kp b_law_same .nil pass0 (pa_cons (e_fld (K := K) (pv 3) rfl) (pa_cons (pv 2) pa_nil))) (pe_one (pe_call G_law_chained (hr.mono (by decide)) (by rfl) g_law_chained F_law_chained.kp b_law_chained .nil pass0 (pa_cons (pv 10) pa_nil)))))))))))))))), ?_⟩
  refine ⟨_, rfl, ⟨a, ns, 40, H, rfl, hS, by decide, by decide, Ex.refl H, fun pq F1 H1 s0 g1 _ => ?_⟩⟩
  have w1 : Own (some pq) F1 H1 F1 H1 [] := Own.nil (Step.refl s0.inn g1)
  dsimp only
  refine t_asgF (K := K) (R := fun d => ∃ n : Nat, d = .int (n : Int) ∧ 2 ≤ n ∧ n ≤ 5) g1 w1 (g_op (R1 := Is (.int 2)) (S2 := fun d => ∃ k : Int, d = .int k ∧ 0 ≤ k ∧ k < 4) g_int (g_callP (m := 4) rfl g_int (by decide)) fun d1 d2 h1 ⟨k, h2, k0, k1⟩ => by
    rw [show d1 = _ from h1, h2]
    exact rv_imp rv_add fun z hz => ⟨(2 + k).toNat, by rw [show z = _ from hz]; congr 1; omega, by omega, by omega⟩) fun d v2 F2 H2 ⟨n, hd, n2, n5⟩ w2 e2 hv2 => ?_
  subst hd
  obtain rfl := rp_int hv2
  have nb : 2 ≤ n ∧ n ≤ 1000 := by omega
  refine ⟨_, rfl, ?_⟩
  intro x0 dx0 hx0 hdx0 hne0
  refine e_making (sp := spCelI K CC0) (ws := [.int n]) g1 w2 (fun x F2 L2 => ∃ dx l, L2 = celL CC0 x dx l n (List.replicate n .non)) (fun H2 x dx wi Q' q' => ⟨x, dx, n, F2, rfl, by omega, wi, fun l F3 H3 c => q' F3 H3 _ c ⟨dx, l, rfl⟩⟩) x0 dx0 hx0 hdx0 hne0 fun F3 H3 L3 w3 e3 hL => ⟨rfl, ?_⟩
  obtain ⟨dy, l, rfl⟩ := hL
  generalize x0 = y at *
  refine ⟨by show 1 ≤ _; decide, fun p hp => ⟨_, rfl, p, n, [V.non], rfl, rfl, upd_same, by omega, by omega, by rw [show ((n : Int)).toNat = n by omega]; exact Nat.le_trans (by simp; exact nb.2) (show 1000 ≤ sizeLine by decide), fun h hh => ?_⟩⟩
  have w4 := w3.new hp (o := .lst [V.non]) fun ys z => by cases z
  have w5 := (w4.less (L := [] ++ celL CC0 y dy l n (List.replicate n .non)) w3.nd fun p hp => List.mem_append_left _ hp).new hh (o := .lst (List.replicate n V.non)) fun ys z => by cases z
  rw [show ((n : Int)).toNat = n by omega, flat_non n]
  refine two_done g1 w5 fun F4 H4 w6 e4 => ?_
  dsimp only
  refine t_asgF (K := K) (R := fun d => ∃ k : Int, d = .list [.none, .none, .int k] ∧ 0 ≤ k ∧ k < (n : Int)) g1 w6 ((g_lst (gs_cons (R1 := Is .none) g_non (gs_cons (R1 := Is .none) g_non (g_consR (g_callP (m := (n : Int)) rfl (g_var (v := .int n) (i := 2) rfl (.int _)) ⟨by omega, by omega⟩)))) fun ds ⟨d, ds1, h1, _, d2, ds2, h2, _, d3, h3, _⟩ => by rw [h1, h2, h3]; show 3 ≤ 100000; decide).imp fun d ⟨ds, hd, d1, ds1, h1, hd1, d2, ds2, h2, hd2, d3, h3, k, h4, k0, k1⟩ => ⟨k, by rw [hd, h1, h2, h3, h4, show d1 = _ from hd1, show d2 = _ from hd2], k0, k1⟩) fun d ov F5 H5 ⟨o2, hd, o0, o1⟩ w7 e5 hov => ?_
  subst hd
  have g2v : ∀ {F' : Hp} {σ' : _root_.L2.St}, σ'[2]? = some (some (.int (n : Int))) → EvG K (some pq) (tVar 2) σ' F' (Is (.int (n : Int))) := fun h => g_var (v := .int n) h (.int _)
  -- three collectors
  have mk : ∀ (o : Option Int), (∀ k, o = some k → 0 ≤ k ∧ k < (n : Int)) → ∀ {F6 H6 : Hp} {Lq : List Own1} {PP : VK} {E' : XK} (x dx : Addr), Own (some pq) F1 H1 F6 H6 Lq → H6 x = none → H6 dx = none → dx ≠ x → (∀ dx fs F7 H7, Own (some pq) F1 H1 F7 H7 (Lq ++ colL CO x dx fs) → Ex F6 F7 → ColF K F7 fs n (startC n o) → PP .non H7) →
      spColI K CO (.ref x :: [.int n, optV o]) (upd (upd H6 dx (.own x)) x (.ins CO dx [])) PP E' := fun o ho F6 H6 Lq PP E' x dx wq hx hdx hne qq => e_making (sp := spColI K CO) (ws := [.int n, optV o]) g1 wq (fun x F2 L2 => ∃ dx fs, L2 = colL CO x dx fs ∧ ColF K F2 fs n (startC n o)) (fun H2 x dx wi Q' q' => ⟨x, dx, n, o, F6, rfl, nb, ho, wi, fun fs F3 H3 cf c => q' F3 H3 _ c ⟨dx, fs, rfl, cf⟩⟩) x dx hx hdx hne fun F7 H7 L7 w7 e7 ⟨dx, fs, hL, cf⟩ => by subst hL; exact qq dx fs F7 H7 w7 e7 cf
  refine ⟨_, rfl, rfl, rfl, ?_⟩
  intro xA da h1 h2 h3
  refine mk none (fun k hk => by cases hk) xA da w7 h1 h2 h3 fun dA fA F6 H6 w8 e6 cA => ⟨rfl, ?_⟩
  refine ⟨_, rfl, rfl, rfl, ?_⟩
  intro xB db h4 h5 h6
  refine mk none (fun k hk => by cases hk) xB db w8 h4 h5 h6 fun dB fB F7 H7 w9 e7 cB => ⟨rfl, ?_⟩
  obtain ⟨lo, ovs, rfl, hlo, hovs⟩ := rp_lst hov
  have hovs2 : ovs = [V.non, V.non, V.int o2] := by
    obtain ⟨b1, b2, b3, rfl, r1, r2, r3⟩ := rpAll3 hovs
    rw [rp_none r1, rp_none r2, rp_int r3]
  subst hovs2
  refine ⟨_, rfl, .ref lo, rfl, lo, _, 2, .int o2, rfl, rfl, SqL.of (w9.step.inn _ _ ((e6.trans e7) _ _ hlo)), rfl, rfl, rfl, ?_⟩
  intro xC dc h7 h8 h9
  refine mk (some o2) (fun k hk => by cases hk; exact ⟨o0, o1⟩) xC dc w9 h7 h8 h9 fun dC fC F8 H8 w10 e8 cC => ⟨rfl, ?_⟩
  refine ⟨Nat.le_trans (show 3 ≤ 100000 by decide) (show (100000 : Nat) ≤ sizeLine by decide), fun R hR => ?_⟩
  have w11 := w10.new hR (o := .lst [.ref xA, .ref xB, .ref xC]) fun ys z => by cases z
  have hov8 : Rp K F8 (.ref lo) (.list ([none, none, some o2].map optD)) := Rp.mono ((e6.trans e7).trans e8) _ _ hov
  dsimp only [gName]
  refine t_asgLcOwn (K := K) optD [none, none, some o2] (fun o ob F => ∃ ws, ob = .lst ws ∧ RpAll K F ws (coDs (startC n o))) (fun o ob F F' e ⟨ws, h1, h2⟩ => ⟨ws, h1, RpAll.mono e _ _ h2⟩) g1 w11 (w_listI (g_var (i := 5) rfl hov8)) (by show 3 ≤ 20000; decide) ?_ (fun o _ F' H' L' v w' e' hv Q' q' => ?_) fun M bs F9 H9 w12 e9 pr => ?_
  · exact fun _ => rfl
  · refine ⟨_, rfl, _, rfl, n, o, F', v, rfl, nb, w'.step.inn, hv, fun l ws F2 H2 c hws => ?_⟩
    obtain ⟨w'', e''⟩ := Own.callNew g1 w' c
    exact q' l _ F2 H2 w'' e'' ⟨ws, rfl, hws⟩
  obtain ⟨⟨m0, ob0⟩, ⟨m1, ob1⟩, ⟨m2, ob2⟩, rfl, ⟨ws0, rfl, hw0⟩, ⟨ws1, rfl, hw1⟩, ⟨ws2, rfl, hw2⟩⟩ : ∃ b0 b1 b2 : Own1, bs = [b0, b1, b2] ∧ (∃ ws, b0.2 = .lst ws ∧ RpAll K F9 ws (coDs (startC n none))) ∧ (∃ ws, b1.2 = .lst ws ∧ RpAll K F9 ws (coDs (startC n none))) ∧ (∃ ws, b2.2 = .lst ws ∧ RpAll K F9 ws (coDs (startC n (some o2)))) := by
    cases pr with
    | cons p0 pr => cases pr with
      | cons p1 pr => cases pr with
        | cons p2 pr =>
          cases pr
          exact ⟨_, _, _, rfl, p0, p1, p2⟩
  refine ⟨_, rfl, n, rfl, .of_le (Int.le_refl _) (by omega) (by omega) (by omega), fun lf hlf => ?_⟩
  have w13 := w12.new hlf (o := .lst (rgV 0 n)) fun ys z => by cases z
  refine ⟨Nat.zero_le _, fun se hse => ?_⟩
  have w14 := w13.new hse (o := .lst []) fun ys z => by cases z
  have eh : (nones n).map optV = List.replicate n V.non := by simp [nones, optV]
  have er : rgV 0 (n : Int) = ((List.range n).map fun k : Nat => (k : Int)).map V.int := by
    have := rgV_rng (K := K) 0 (n : Int) F9
    rw [Int.sub_zero, show ((n : Nat) : Int).toNat = n by omega] at this
    have e2 : rng 0 n = (((List.range n).map fun k : Nat => (k : Int)).map PyData.int) := by
      rw [List.map_map]
      apply List.ext_getElem?
      intro i
      by_cases z : i < n
      · rw [rng_get z, List.getElem?_map, List.getElem?_range z]; simp
      · rw [List.getElem?_eq_none (by rw [rng_len]; omega), List.getElem?_eq_none (by simp; omega)]
    rw [e2] at this
    exact rpAll_ints this
  have hov9 := Rp.mono e9 _ _ hov8
  have A : ∃ A : Ad, A = ⟨y, dy, l, h, R, M, lf, se, fun k => if k = 0 then xA else if k = 1 then xB else xC, fun k => if k = 0 then dA else if k = 1 then dB else dC⟩ := ⟨_, rfl⟩
  obtain ⟨A, eA⟩ := A
  have w15 : Own (some pq) F1 H1 F9 (upd (upd H9 lf (.lst (rgV 0 n))) se (.lst [])) (lawL CC0 CO A n (fun k => if k = 0 then m0 else if k = 1 then m1 else m2) (nones n) (fun k => if k = 0 then fA else if k = 1 then fB else fC) (fun k => if k = 0 then ws0 else if k = 1 then ws1 else ws2) ((List.range n).map fun k : Nat => (k : Int)) []) := by
    unfold lawL
    rw [← er, eh, eA]
    exact w14
  have L0 : LawI K n o2 0 0 F9 (nones n) (fun k => if k = 0 then fA else if k = 1 then fB else fC) (fun k => if k = 0 then ws0 else if k = 1 then ws1 else ws2) ((List.range n).map fun k : Nat => (k : Int)) [] := by
    refine ⟨⟨n2, n5⟩, ⟨o0, o1⟩, ⟨fun k => startC n (ownsF o2 k), [nones n], [], fun k hk => ?_, ⟨List.mem_singleton.mpr rfl, fun b hb => by rw [List.mem_singleton.mp hb]; exact Sub.refl _, fun b hb c hc => by rw [List.mem_singleton.mp hb, List.mem_singleton.mp hc]; exact .inl (Sub.refl _), by simp [nones]⟩, ⟨fun r hr => (by cases hr), Nat.le_refl _⟩, .nil⟩, left_start n⟩
    have e69 := (e7.trans e8).trans e9
    match k, hk with
    | 0, _ => exact ⟨cA.mono e69, hw0, rfl, Nat.le_refl _, start_mom (by simp [nones])⟩
    | 1, _ => exact ⟨cB.mono (e8.trans e9), hw1, rfl, Nat.le_refl _, start_mom (by simp [nones])⟩
    | 2, _ => exact ⟨cC.mono e9, hw2, rfl, Nat.le_refl _, start_mom (by simp [nones])⟩
  refine two_done g1 w15 fun F10 H10 w16 e10 => ?_
  dsimp only
  have hov10 := Rp.mono e10 _ _ hov9
  refine t_forO (K := K) g1 w16 (w_rngT (b := 20) (c := 41) (by decide) (by decide) (g_callP (m := 41) rfl g_int (by decide))) (fun ds i σ' F' L' => St40 K CC0 CO A a pq (.ref lo) n o2 i (3 * i) σ' F' L') (fun ds hds F' e' => ⟨none, none, none, none, none, none, _, _, _, _, _, _, by rw [eA]; rfl, rfl, L0.mono (e10.trans e') (Nat.le_refl _) (Nat.le_refl _)⟩) (fun ds hds i d hd σ' F' H' L' xt hI w' e' hx N hN => ?_) (fun ds hds σ' F' H' L' hI w' e' => ?_)
  · obtain ⟨z11, z12, z13, z14, z15, z16, m, held, fs, ws, left, sv, rfl, rfl, LI⟩ := hI
    obtain ⟨NN, rfl, hNN⟩ := hds
    have hi : i < 61 := by
      obtain ⟨h1, _⟩ := List.getElem?_eq_some_iff.mp hd
      rw [rng_len] at h1; omega
    refine t_asgF (K := K) (R := fun d => ∃ k : Int, d = .int k ∧ 0 ≤ k ∧ k < 8) g1 w' (g_callP (m := 8) rfl g_int (by decide)) fun d v12 F2 H2 ⟨wd, hd, wd0, wd8⟩ w2 e2 hv12 => ?_
    subst hd
    obtain rfl := rp_int hv12
    have LI2 := LI.mono e2 (Nat.le_refl _) (Nat.le_refl _)
    refine t_ifJO (Rb := fun b => b = (decide (wd = 0) && !(left.map PyData.int).isEmpty)) (fun σ3 F3 L3 => St40 K CC0 CO A a pq (.ref lo) n o2 (i + 1) (3 * i) σ3 F3 L3 ∧ Ex F2 F3) g1 w2 (et_and (et_of (K := K) (g_opI (g_var (v := .int wd) (i := 12) rfl (.int _)) g_int rv_eqI)) fun _ => et_truL (K := K) (g_var (i := 9) rfl (.lst (w2.see (k := 15) rfl) (rp_intsL left)))) (fun hb F3 H3 w3 e3 N' hN' => ?_) (fun hb F3 H3 w3 e3 N' hN' => ?_) fun σ3 F3 H3 L3 hJ w3 => ?_
    · have hb' := hb.symm
      simp only [Bool.and_eq_true, decide_eq_true_eq, Bool.not_eq_true', List.isEmpty_eq_false_iff] at hb'
      have LI3 := LI2.mono e3 (Nat.le_refl _) (Nat.le_refl _)
      have lpos : 0 < left.length := by
        have := List.length_pos_iff.mpr hb'.2
        simpa using this
      have lle := left_len LI3.le
      have nb5 := LI3.nb
      refine t_popO (ds := left.map PyData.int) 15 g1 w3 rfl (rp_intsL left) rfl rfl (by simp; omega) (by simp; omega) (fun d ⟨k, hk, k0, k1⟩ => ⟨k.toNat, by rw [hk]; congr 1; omega, by simp at k1 ⊢; omega⟩) fun j hj v F4 H4 w4 e4 hv => ?_
      have hjl : j < left.length := by simpa using hj
      have hmem := (LI3.le.mem left[j]).mp (List.getElem_mem hjl)
      obtain ⟨hN, hNe⟩ : ∃ hN : Nat, left[j] = (hN : Int) := ⟨left[j].toNat, by omega⟩
      have hv' : v = .int (hN : Int) := by
        rw [List.getElem?_map, List.getElem?_eq_getElem hjl] at hv
        rw [← hNe]; exact (Option.some.inj hv).symm
      subst hv'
      rw [hNe] at hmem
      have hNn : hN < n := by omega
      have hNh : held.getD hN none = none := by have := hmem.2; simpa using this
      have hlen : held.length = n := by
        obtain ⟨c, hist, seen, _, h2, _⟩ := LI3.ex
        exact h2.len
      refine t_setLO (K := K) (j := hN) (R := fun d => ∃ k : Int, d = .int k) 3 g1 w4 rfl rfl ((g_callP (m := 4) rfl g_int (by decide)).imp fun d ⟨k, hk, _⟩ => ⟨k, hk⟩) (fun d ⟨k, hk⟩ => by rw [hk]; rfl) (g_var (v := .int hN) (i := 13) rfl (.int _)) (by rw [List.length_map]; omega) fun d u F5 H5 hd w5 e5 hu => ?_
      obtain ⟨val, rfl⟩ := hd
      obtain rfl := rp_int hu
      have hheld : held[hN]? = some none := by
        rw [List.getElem?_eq_getElem (by omega)]
        rw [List.getD_eq_getElem?_getD, List.getElem?_eq_getElem (by omega)] at hNh
        exact congrArg some hNh
      have us0 : List Upd1 := []
      refine ⟨_, rfl, A.y, A.dy, _, rfl, (w5.get (k := 0) rfl).2.2, rfl, _, rfl, _, rfl, _, rfl, A.h, _, (hN : Int), .int val, rfl, rfl, SqL.of (w5.get (k := 3) rfl).2.2, atI_nat (by rw [List.getElem?_set_self (by rw [List.length_map]; omega)]), ?_⟩
      have hus : ∀ u ∈ [(⟨0, A.y, .ins CC0 A.dy (celF n A.l), .ins CC0 A.dy (celF n A.l)⟩ : Upd1), ⟨1, A.dy, .own A.y, .own A.y⟩, ⟨2, A.l, .lst (held.map optV), .lst ((held.map optV).set hN (.int val))⟩], (((lawL CC0 CO A n m held fs ws left sv).set 15 (A.lf, .lst ((left.map V.int).eraseIdx j))).set 3 (A.h, .lst ((held.map optV).set hN (.int val))))[u.k]? = some (u.a, u.old) := fun u hu => by
        simp only [List.mem_cons, List.not_mem_nil, or_false] at hu
        rcases hu with rfl | rfl | rfl <;> rfl
      refine ⟨A.y, A.dy, A.l, n, hN, held, val, held.map optV, F5, rfl, ⟨hNn, hlen, hheld, nb.1, nb.2⟩, rp_optV held, w5.toAt _ hus (by simp), fun F6 H6 c6 => ?_⟩
      obtain ⟨w6, e6⟩ := Own.callAt g1 w5 _ hus (by simp) c6 (fun u hu => by
        simp only [List.mem_cons, List.not_mem_nil, or_false] at hu
        rcases hu with rfl | rfl | rfl <;> simp)
      refine ⟨rfl, false, rfl, ?_⟩
      show N' _ H6
      have q1 : (held.set hN (some val)).map optV = (held.map optV).set hN (.int val) := by rw [List.map_set]; rfl
      have q2 : (left.eraseIdx j).map V.int = (left.map V.int).eraseIdx j := map_eraseIdx _ _ _
      have e46 := (e4.trans e5).trans e6
      refine hN' _ F6 H6 (lawL CC0 CO A n m (held.set hN (some val)) fs ws (left.eraseIdx j) sv) ⟨⟨_, _, _, _, _, _, m, _, fs, ws, _, sv, rfl, rfl, ?_⟩, e3.trans e46⟩ (by unfold lawL; rw [q1, q2]; exact w6)
      obtain ⟨c, hist, seen, h1, h2, h3, h4⟩ := (LI3.mono e46 (Nat.le_succ _) (Nat.le_refl _)).ex
      refine ⟨LI3.nb, LI3.o2b, ⟨c, held.set hN (some val) :: hist, seen, fun k hk => ?_, write_hist h2 hNh (by omega), ⟨fun r hr => List.mem_cons_of_mem _ (h3.1 r hr), h3.2⟩, h4⟩, ?_⟩
      · obtain ⟨a1, a2, a3, a4, a5⟩ := h1 k hk
        exact ⟨a1, a2, a3, a4, write_mom a5 hNh (by omega)⟩
      · have := left_erase (v := val) LI3.le hlen hjl
        rw [hNe] at this
        simpa using this
    · have LI3 := LI2.mono e3 (Nat.le_refl _) (Nat.le_refl _)
      have lle := left_len LI3.le
      have nb5 := LI3.nb
      have hlen : held.length = n := by
        obtain ⟨c, hist, seen, _, h2, _⟩ := LI3.ex
        exact h2.len
      have nob : wd = 0 → left = [] := fun z => by
        subst z
        simpa using hb
      refine t_ifR1 (Rb := fun b => b = (decide (wd = 0) || (decide (wd = 1) && decide (left.length < n)))) g1 w3 (et_or (et_of (K := K) (g_opI (g_var (v := .int wd) (i := 12) rfl (.int _)) g_int rv_eqI)) fun _ => et_and (et_of (K := K) (g_opI (g_var (v := .int wd) (i := 12) rfl (.int _)) g_int rv_eqI)) fun _ => EtG.is (et_of (K := K) (g_opI (g_cbI (gs_one (g_var (i := 9) rfl (.lst (w3.see (k := 15) rfl) (rp_intsL left)))) (rc_lenS (.inl rfl))) (g2v rfl) (rv_bl (g := fun i j => decide (i < j))))) (by rw [List.length_map]; exact decide_eq_decide.mpr (by omega))) (fun hb2 F4 H4 w4 e4 => ?_) fun hb2 F4 H4 w4 e4 => ?_
      · have hlt : left.length < n := by
          have := hb2.symm
          simp only [Bool.or_eq_true, Bool.and_eq_true, decide_eq_true_eq] at this
          rcases this with z | ⟨_, z⟩
          · rw [nob z]; simp; omega
          · exact z
        have LI4 := LI3.mono e4 (Nat.le_succ _) (Nat.le_refl _)
        obtain ⟨f1, f2, gd, back⟩ := w4.fixS g1 w4.nd (fun _ h => h)
        have s0 : Step (some pq) _ H4 _ H4 := Step.refl f2 gd
        have ca : CelAt K CC0 (putAll (lawL CC0 CO A n m held fs ws left sv) F4) A.y n held := .own g1 w4 (k1 := 0) (k2 := 2) rfl rfl (rp_optV held) hlen nb
        refine t_asgI (K := K) (d := .list (((List.range n).filter fun k : Nat => !decide ((k : Int) ∈ left)).map natD)) s0 (g_lcE natD (List.range n) (fun k : Nat => !decide ((k : Int) ∈ left)) natD (w_range (g2v rfl) (by omega)) (by simp; omega) (fun _ => rfl) (fun k hk F' e' y hy => et_of (K := K) (g_opI (g_var (i := 15) rfl hy) (g_var (i := 9) rfl (Rp.mono e' _ _ (.lst (w4.see (k := 15) rfl) (rp_intsL left)))) rv_ninI)) fun k hk _ F' e' y hy => g_var (i := 15) rfl hy) fun v14 F5 H5 s5 e5 hv14 => ?_
        generalize hFull : (List.range n).filter (fun k : Nat => !decide ((k : Int) ∈ left)) = full at hv14
        have fm : ∀ k ∈ full, k < n ∧ (k : Int) ∉ left := fun k hk => by
          rw [← hFull, List.mem_filter, List.mem_range] at hk
          exact ⟨hk.1, by simpa using hk.2⟩
        have fp : 0 < full.length := by
          obtain ⟨k, k1, k2⟩ := full_some LI3.le hlt
          exact List.length_pos_of_mem (a := k) (by rw [← hFull, List.mem_filter, List.mem_range]; exact ⟨k1, by simpa using k2⟩)
        have fl : full.length ≤ n := by
          rw [← hFull]
          exact Nat.le_trans (List.length_filter_le _ _) (by rw [List.length_range]; exact Nat.le_refl _)
        refine t_asg (K := K) (R := fun d => ∃ k : Nat, d = .int (k : Int) ∧ k ∈ full) s5 (g_op (R1 := Is (.list (full.map natD))) (S2 := fun d => ∃ k : Int, d = .int k ∧ 0 ≤ k ∧ k < (full.length : Int)) (g_var (i := 14) rfl hv14) (g_callP (m := (full.length : Int)) rfl ((g_cbI (gs_one (g_var (i := 14) rfl hv14)) (rc_lenS (.inl rfl))).is (by rw [List.length_map])) ⟨by omega, by omega⟩) fun d1 d2 h1 ⟨k, h2, k0, k1⟩ => by
          rw [show d1 = _ from h1, h2]
          obtain ⟨kn, rfl⟩ : ∃ kn : Nat, k = (kn : Int) := ⟨k.toNat, by omega⟩
          have hkn : kn < full.length := by omega
          exact rv_imp (rv_ixL (atI_nat (v := natD full[kn]) (by rw [List.getElem?_map, List.getElem?_eq_getElem hkn]; rfl))) fun z hz => ⟨full[kn], hz, List.getElem_mem hkn⟩) fun d v13 F6 H6 ⟨k, hd, hk⟩ s6 e6 hv13 => ?_
        subst hd
        obtain rfl := rp_int hv13
        obtain ⟨k1, k2⟩ := fm k hk
        refine t_if1 (b := false) s6 (EtG.is (et_of (K := K) (g_opI (g_refC (d := .int k) (wd := "twice") (R2 := fun d => ∃ k : Int, d = .int k ∧ 0 ≤ k ∧ k < 4) (i0 := 3) rfl (ca.mono (e5.trans e6)) (.inr ⟨rfl, k, rfl, k1, full_held LI3.le hlen k1 k2⟩) (g_var (v := .int k) (i := 13) rfl (.int _)) (g_callP (m := 4) rfl g_int (by decide))) (g_tupI (gs_three g_str (g_var (v := .int k) (i := 13) rfl (.int _)) g_bl) (by show 3 ≤ 100000; decide)) (rv_neD (shaped_ref3 _ _ (by decide +kernel) rfl) (shaped_ref3 _ _ (by decide +kernel) rfl)))) (by rw [eqv_ref3 _ _ (by simp [PyData.eqv])]; rfl)) (fun z => by cases z) fun _ F7 H7 s7 e7 => ?_
        obtain ⟨w7, e8, _, _⟩ := back F7 H7 s7
        exact hN' _ _ H7 _ ⟨⟨_, _, _, _, _, _, m, held, fs, ws, left, sv, rfl, rfl, LI4.mono e8 (Nat.le_refl _) (Nat.le_refl _)⟩, (e3.trans e4).trans e8⟩ w7
      · have LI4 := LI3.mono e4 (Nat.le_refl _) (Nat.le_refl _)
        refine t_ifR1 (Rb := fun _ => True) g1 w4 (et_andV (a := decide (wd = 2)) (et_of (K := K) (g_opI (g_var (v := .int wd) (i := 12) rfl (.int _)) g_int rv_eqI)) (fun _ => et_ofU (K := K) (g_op (R1 := fun d => ∃ k : Int, d = .int k ∧ 0 ≤ k ∧ k < 4) (g_callP (m := 4) rfl g_int (by decide)) g_int fun d1 d2 ⟨k, h1, _⟩ h2 => by
          subst h1; subst h2
          exact rv_imp rv_eqI fun z h => ⟨_, h⟩)) fun _ => trivial) (fun _ F5 H5 w5 e5 => ?_) fun _ F5 H5 w5 e5 => ?_
        · have LI5 := LI4.mono e5 (Nat.le_refl _) (Nat.le_refl _)
          refine t_asgF (K := K) (R := fun d => ∃ k : Nat, d = .int (k : Int) ∧ k < 3) g1 w5 ((g_callP (m := 3) rfl g_int (by decide)).imp fun d ⟨k, h, k0, k1⟩ => ⟨k.toNat, by rw [h]; congr 1; omega, by omega⟩) fun d v15 F6 H6 ⟨k, hd, hk⟩ w6 e6 hv15 => ?_
          subst hd
          obtain rfl := rp_int hv15
          obtain ⟨c, hist, seen, h1, h2, h3, h4⟩ := (LI5.mono e6 (Nat.le_refl _) (Nat.le_refl _)).ex
          obtain ⟨cf, hws, hown, hfl, mo⟩ := h1 k hk
          have hlk : (fs k).lookup ("forget" : Str) = none := look_col cf rfl
          have hoc : ∀ j, (c k).own = some j → 0 ≤ j ∧ j < (n : Int) := cf.ok.own
          obtain ⟨ov', tv, sv', fv', hfs, hov', htv, hsv', hfv'⟩ := id cf.ex
          obtain ⟨t, ts, hts⟩ := turns_cons (o := (c k).own) nb.1
          refine ⟨_, rfl, _, rfl, A.R, _, (k : Int), .ref (A.x k), rfl, rfl, SqL.of (w6.get (k := 10) rfl).2.2, atI_nat (refs_at (f := A.x) hk), A.x k, A.dx k, fs k, rfl, (w6.get (lawL_x hk)).2.2, hlk, ?_⟩
          have hus : ∀ fs2, ∀ u ∈ [(⟨4 + 2 * k, A.x k, .ins CO (A.dx k) (fs k), .ins CO (A.dx k) fs2⟩ : Upd1), ⟨5 + 2 * k, A.dx k, .own (A.x k), .own (A.x k)⟩], (lawL CC0 CO A n m held fs ws left sv)[u.k]? = some (u.a, u.old) := fun fs2 u hu => by
            simp only [List.mem_cons, List.not_mem_nil, or_false] at hu
            rcases hu with rfl | rfl
            · exact lawL_x hk
            · exact lawL_dx hk
          refine ⟨A.x k, A.dx k, fs k, n, t, ts, tv, F6, rfl, nb, by rw [hfs]; show 6 < 900; decide, by rw [hfs]; rfl, by rw [hfs]; rfl, hts ▸ htv, w6.toAt _ (hus []) (by simp), fun sv2 fv2 F7 H7 r1 r2 c7 => ?_⟩
          obtain ⟨w7, e7⟩ := Own.callAt g1 w6 _ (hus (fgtF (fs k) t sv2 fv2)) (by simp) c7 (fun u hu => by
            simp only [List.mem_cons, List.not_mem_nil, or_false] at hu
            rcases hu with rfl | rfl <;> simp)
          rw [lawL_fgt hk] at w7
          have cf7 : ColF K F7 (fgtF (fs k) t sv2 fv2) n (startC n (ownsF o2 k)) := by
            rw [← hown]
            refine ⟨⟨ov', tv, sv2, fv2, ?_, Rp.mono e7 _ _ hov', htv.mono e7, r1, r2⟩, startC_ok nb hoc⟩
            have : ((houseC n (startC n (c k).own) : Nat) : Int) = t := by
              have h0 := (houseC_at (startC_ok nb hoc)).1
              rw [show (startC n (c k).own).at_ = 0 from rfl, show (startC n (c k).own).own = (c k).own from rfl, hts] at h0
              exact (Option.some.inj h0).symm
            rw [this, hfs]; rfl
          have hov7 : Rp K F7 (.ref lo) (.list ([none, none, some o2].map optD)) := Rp.mono (((((((e'.trans e2).trans e3).trans e4).trans e5).trans e6).trans e7)) _ _ hov10
          obtain ⟨lo', ovs', hlo', hlL, hovs'⟩ := rp_lst hov7
          cases hlo'
          have hok := owns_at hk hovs'
          obtain ⟨uo, huo, ruo⟩ := hok
          refine ⟨_, rfl, _, rfl, _, rfl, lo, _, (k : Int), uo, rfl, rfl, SqL.of (w7.step.inn _ _ hlL), atI_nat huo, n, ownsF o2 k, F7, uo, rfl, nb, w7.step.inn, ruo, fun l2 ws2 F8 H8 c8 hws2 => ?_⟩
          obtain ⟨w8, e8⟩ := Own.callNew g1 w7 c8
          have w9 := Own.swap w8 (j := 12 + k) (by show 12 + k < 17; omega)
          have w10 := w9.put g1 11 (a := A.M) (o := .lst [V.ref (m 0), V.ref (m 1), V.ref (m 2)]) (o' := .lst ([V.ref (m 0), V.ref (m 1), V.ref (m 2)].set k (.ref l2))) (by rw [List.getElem?_set_ne (by omega)]; rfl) fun ys z => by cases z
          rw [lawL_mine hk] at w10
          refine ⟨_, rfl, _, rfl, A.M, [V.ref (m 0), V.ref (m 1), V.ref (m 2)], (k : Int), k, rfl, rfl, (w9.get (k := 11) (by rw [List.getElem?_set_ne (by omega)]; rfl)).2.2, ixN_nat hk, ?_⟩
          refine hN' _ F8 _ _ ⟨⟨_, _, _, _, _, _, upF m k l2, held, upF fs k (fgtF (fs k) t sv2 fv2), upF ws k ws2, left, sv, rfl, rfl, ⟨LI5.nb, LI5.o2b, ⟨upF c k (startC n (ownsF o2 k)), hist, seen, fun j hj => ?_, h2, h3, RpAll.mono (e7.trans e8) _ _ h4⟩, LI5.le⟩⟩, ((((e3.trans e4).trans e5).trans e6).trans e7).trans e8⟩ w10
          unfold upF
          by_cases z : j = k
          · subst z
            simp only [if_true]
            exact ⟨cf7.mono e8, hws2, rfl, Nat.zero_le _, start_mom hlen⟩
          · simp only [if_neg z]
            obtain ⟨a1, a2, a3, a4, a5⟩ := h1 j hj
            exact ⟨a1.mono (e7.trans e8), RpAll.mono (e7.trans e8) _ _ a2, a3, by omega, a5⟩
        · have LI5 := LI4.mono e5 (Nat.le_refl _) (Nat.le_refl _)
          refine t_asgF (K := K) (R := fun d => ∃ k : Nat, d = .int (k : Int) ∧ k < 3) g1 w5 ((g_callP (m := 3) rfl g_int (by decide)).imp fun d ⟨k, h, k0, k1⟩ => ⟨k.toNat, by rw [h]; congr 1; omega, by omega⟩) fun d v15 F6 H6 ⟨k, hd, hk⟩ w6 e6 hv15 => ?_
          subst hd
          obtain rfl := rp_int hv15
          obtain ⟨c, hist, seen, h1, h2, h3, h4⟩ := (LI5.mono e6 (Nat.le_refl _) (Nat.le_refl _)).ex
          obtain ⟨cf, hws, hown, hfl, mo⟩ := h1 k hk
          refine ⟨_, rfl, _, rfl, A.R, _, (k : Int), .ref (A.x k), rfl, rfl, SqL.of (w6.get (k := 10) rfl).2.2, atI_nat (refs_at (f := A.x) hk), _, rfl, _, rfl, A.M, _, (k : Int), .ref (m k), rfl, rfl, SqL.of (w6.get (k := 11) rfl).2.2, atI_nat (refs_at (f := m) hk), _, rfl, _, rfl, _, rfl, ?_⟩
          have hus : ∀ fs2 ws2, ∀ u ∈ [(⟨4 + 2 * k, A.x k, .ins CO (A.dx k) (fs k), .ins CO (A.dx k) fs2⟩ : Upd1), ⟨5 + 2 * k, A.dx k, .own (A.x k), .own (A.x k)⟩, ⟨0, A.y, .ins CC0 A.dy (celF n A.l), .ins CC0 A.dy (celF n A.l)⟩, ⟨1, A.dy, .own A.y, .own A.y⟩, ⟨2, A.l, .lst (held.map optV), .lst (held.map optV)⟩, ⟨12 + k, m k, .lst (ws k), .lst ws2⟩, ⟨3, A.h, .lst (held.map optV), .lst (held.map optV)⟩], (lawL CC0 CO A n m held fs ws left sv)[u.k]? = some (u.a, u.old) := fun fs2 ws2 u hu => by
            simp only [List.mem_cons, List.not_mem_nil, or_false] at hu
            rcases hu with rfl | rfl | rfl | rfl | rfl | rfl | rfl
            · exact lawL_x hk
            · exact lawL_dx hk
            · rfl
            · rfl
            · rfl
            · exact lawL_m hk
            · rfl
          have ndk := nd7 hk
          refine ⟨A.x k, A.dx k, m k, A.y, A.dy, A.l, A.h, fs k, ws k, n, held, c k, F6, rfl, cf, hws, hlen, by omega, w6.toAt _ (hus [] []) ndk, fun fs2 ws2 F7 H7 cf7 hw7 c7 => ?_⟩
          obtain ⟨w7, e7⟩ := Own.callAt g1 w6 _ (hus fs2 ws2) ndk c7 (fun u hu => by
            simp only [List.mem_cons, List.not_mem_nil, or_false] at hu
            rcases hu with rfl | rfl | rfl | rfl | rfl | rfl | rfl <;> simp)
          rw [lawL_turn hk] at w7
          refine hN' _ F7 _ _ ⟨⟨_, _, _, _, _, _, m, held, upF fs k fs2, upF ws k ws2, left, sv, rfl, rfl, ⟨LI5.nb, LI5.o2b, ⟨upF c k (stepC n held (c k)), hist, seen, fun j hj => ?_, h2, h3, RpAll.mono e7 _ _ h4⟩, LI5.le⟩⟩, (((e3.trans e4).trans e5).trans e6).trans e7⟩ w7
          unfold upF
          by_cases z : j = k
          · subst z
            simp only [if_true]
            refine ⟨cf7, hw7, by unfold stepC; split <;> exact hown, ?_, step_mom cf.ok mo h2⟩
            unfold stepC
            split
            · show ((c j).full ++ [_]).length ≤ i + 1
              rw [List.length_append]; simp; omega
            · show (c j).full.length ≤ i + 1
              omega
          · simp only [if_neg z]
            obtain ⟨a1, a2, a3, a4, a5⟩ := h1 j hj
            exact ⟨a1.mono e7, RpAll.mono e7 _ _ a2, a3, by omega, a5⟩
    · obtain ⟨⟨y11, y12, y13, y14, y15, y16, m, held, fs, ws, left, sv, rfl, rfl, LI⟩, e3⟩ := hJ
      obtain ⟨c, hist, seen, h1, h2, h3, h4⟩ := LI.ex
      have hlen := h2.len
      have ca : ∀ {F H : Hp} {sv : List V}, Own (some pq) F1 H1 F H (lawL CC0 CO A n m held fs ws left sv) → CelAt K CC0 (putAll (lawL CC0 CO A n m held fs ws left sv) F) A.y n held := fun w => .own g1 w (k1 := 0) (k2 := 2) rfl rfl (rp_optV held) hlen nb
      refine t_ifO (b := false) g1 w3 (EtG.is (et_or (a := false) (b := false) (EtG.is (et_not (b := true) (et_B (K := K) (g_call (dO held) (gs_two (g_shwC (i0 := 3) rfl (ca w3)) (g_cbI (gs_one (g_var (i := 4) rfl (.lst (w3.see (k := 3) rfl) (rp_optV held)))) rc_tupL)) rfl (lv2_dO (by omega))))) rfl) fun _ => EtG.is (et_truL (K := K) (g_lcE natD (List.range 3) (fun _ => false) natD (w_range (n := 3) g_int (by decide)) (by simp) (fun _ => rfl) (fun k hk F' e' y hy => ?_) fun k hk hf => by cases hf)) (by simp)) rfl) (fun z => by cases z) fun _ F4 H4 w4 e4 => ?_
      · have hk' : k < 3 := List.mem_range.mp hk
        obtain rfl := rp_int hy
        obtain ⟨a1, a2, a3, a4, a5⟩ := h1 k hk'
        have up := (w3.seeEx g1).trans e'
        exact EtG.is (et_not (b := true) (et_B (K := K) (g_likC (i0 := 6) (i1 := 7) (i2 := 2) (i3 := 15) rfl rfl rfl rfl (e' _ _ (w3.see (k := 10) rfl)) (e' _ _ (w3.see (k := 11) rfl)) (refs_at (f := A.x) hk') (refs_at (f := m) hk') (e' _ _ (w3.see (lawL_x hk'))) (a1.mono up) (by omega) (.lst (e' _ _ (w3.see (lawL_m hk'))) (RpAll.mono up _ _ a2))))) rfl
      refine t_forO (K := K) g1 w4 (w_range (n := 3) g_int (by decide)) (fun ds j σ' F' L' => St40 K CC0 CO A a pq (.ref lo) n o2 (i + 1) (3 * i + j) σ' F' L') (fun ds hds F' e' => ⟨_, _, _, _, _, _, m, held, fs, ws, left, sv, rfl, rfl, LI.mono (e4.trans e') (Nat.le_refl _) (Nat.le_refl _)⟩) (fun ds hds j d hd σ' F5 H5 L' x hI w5 e5 hx N2 hN2 => ?_) (fun ds hds σ' F5 H5 L' hI w5 e5 => ?_)
      · subst hds
        obtain ⟨k, hk, rfl⟩ := get_map hd
        obtain rfl : k = j := by
          obtain ⟨k1, k2⟩ := List.getElem?_eq_some_iff.mp hk
          rw [List.getElem_range] at k2; exact k2.symm
        have hk' : k < 3 := by
          obtain ⟨k1, _⟩ := List.getElem?_eq_some_iff.mp hk
          simpa using k1
        obtain rfl := rp_int hx
        obtain ⟨x11, x12, x13, x14, x15, x16, m, held, fs, ws, left, sv, rfl, rfl, LI⟩ := hI
        obtain ⟨c, hist, seen, h1, h2, h3, h4⟩ := LI.ex
        have hlen := h2.len
        obtain ⟨a1, a2, a3, a4, a5⟩ := h1 k hk'
        have sm := stab_cut (r := (stabC (c k)).getD []) a1.ok a5
        refine t_asgO (K := K) (R := Is (stabD (stabC (c k)))) g1 w5 (g_methX (K := K) (x_ixL (i := 6) rfl (w5.see (k := 10) rfl) (refs_at (f := A.x) hk') (g_var (v := .int k) (i := 15) rfl (.int _))) (w5.see (lawL_x hk')) (look_col a1 rfl) (fun F' e' => gs_nil) fun F6 H6 vs e6 i6 hvs Q' q' => ?_) (fun d hd => by rw [show d = _ from hd]; exact nl_stab _) fun d v16 F6 H6 hd w6 e6 hv16 => ?_
        · cases hvs
          exact ⟨A.x k, A.dx k, fs k, n, c k, F6, rfl, e6 _ _ (w5.see (lawL_x hk')), a1.mono ((w5.seeEx g1).trans e6), i6, q'⟩
        subst hd
        have up6 := e6.trans (w6.seeEx g1)
        have hc6 : Rp K (putAll (lawL CC0 CO A n m held fs ws left sv) F6) (.ref (m k)) (.list (coDs (c k))) := .lst (w6.see (lawL_m hk')) (RpAll.mono up6 _ _ a2)
        refine t_ifO (b := false) g1 w6 (EtG.is (et_and (a := !(stabC (c k)).isNone) (b := false) ((et_of (K := K) (g_opI (g_var (i := 16) rfl (Rp.mono (w6.seeEx g1) _ _ hv16)) g_non rv_notN)).is (by rw [isNone_stab])) fun hz => ?_) (by rw [Bool.and_false])) (fun z => by cases z) fun _ F7 H7 w7 e7 => ?_
        · cases hst : stabC (c k) with
          | none => rw [hst] at hz; cases hz
          | some r =>
            rw [hst] at hv16 sm
            obtain ⟨s1, s2, s3⟩ := sm rfl
            replace s2 : cutO (c k).own ((c k).mom.getD ((c k).mom.length - 2) []) = r := s2
            refine EtG.is (et_not (b := true) (et_B (K := K) ((g_momC (i1 := 7) (i2 := 16) (i3 := 15) rfl rfl rfl (w6.see (k := 11) rfl) (refs_at (f := m) hk') ⟨s1, rfl, ?_⟩ hc6 (Rp.mono (w6.seeEx g1) _ _ hv16)).is ?_))) rfl
            · rw [(h2.le _ s3).1]; omega
            · rw [decide_eq_true s2]
        have hov7 : Rp K F7 (.ref lo) (.list ([none, none, some o2].map optD)) := Rp.mono ((((((e'.trans e2).trans e3).trans e4).trans e5).trans e6).trans e7) _ _ hov10
        obtain ⟨lo', ovs', hlo', hlL, hovs'⟩ := rp_lst hov7
        cases hlo'
        obtain ⟨uo, huo, ruo⟩ := owns_at hk' hovs'
        have hv7 := Rp.mono e7 _ _ hv16
        have LI7 := LI.mono (e6.trans e7) (Nat.le_refl (i + 1)) (show 3 * i + k ≤ 3 * i + (k + 1) by omega)
        refine t_ifO1 (b := !(stabC (c k)).isNone && ((ownsF o2 k).isNone && !decide ((stabC (c k)).getD [] ∈ seen))) g1 w7 (et_and ((et_of (K := K) (g_opI (g_var (i := 16) rfl (Rp.mono (w7.seeEx g1) _ _ hv7)) g_non rv_notN)).is (by rw [isNone_stab])) fun hz => et_and ((et_of (K := K) (g_opI (g_opI (g_var (i := 5) rfl (Rp.mono (w7.seeEx g1) _ _ hov7)) (g_var (v := .int k) (i := 15) rfl (.int _)) (rv_ixL (d := optD (ownsF o2 k)) (atI_nat ?_))) g_non rv_isN)).is (isNone_opt _)) fun _ => ?_) (fun hb F8 H8 w8 e8 => ?_) fun hb F8 H8 w8 e8 => ?_
        · exact owns_at2 hk'
        · cases hst : stabC (c k) with
          | none => rw [hst] at hz; cases hz
          | some r =>
            rw [hst] at hv7
            exact et_of (K := K) (g_opI (g_var (i := 16) rfl (Rp.mono (w7.seeEx g1) _ _ hv7)) (g_var (i := 10) rfl (.lst (w7.see (k := 16) rfl) (RpAll.mono ((e6.trans e7).trans (w7.seeEx g1)) _ _ h4))) rv_ninRows)
        · simp only [Bool.and_eq_true, Bool.not_eq_true', decide_eq_false_iff_not] at hb
          obtain ⟨b1, b2, b3⟩ := hb
          cases hst : stabC (c k) with
          | none => rw [hst] at b1; cases b1
          | some r =>
            rw [hst] at hv7 sm
            obtain ⟨s1, s2, s3⟩ := sm rfl
            replace s2 : cutO (c k).own ((c k).mom.getD ((c k).mom.length - 2) []) = r := s2
            have hon : (c k).own = none := by rw [a3]; exact Option.isNone_iff_eq_none.mp b2
            rw [hon, cut_none] at s2
            have hs60 := h3.2
            refine t_appO1 (K := K) (ds := seen.map dO) (R := Is (dO r)) 16 g1 w8 rfl ⟨sv, rfl, RpAll.mono ((e6.trans e7).trans e8) _ _ h4⟩ rfl (g_var (i := 16) rfl (Rp.mono e8 _ _ hv7)) (by rw [List.length_map]; omega) fun d o3 F9 H9 hd w9 lo9 e9 => ?_
            subst hd
            obtain ⟨acc, rfl, racc⟩ := lo9
            obtain ⟨c', hist', seen', q1, q2, q3, q4⟩ := (LI7.mono (e8.trans e9) (Nat.le_refl _) (Nat.le_refl _)).ex
            refine hN2 _ F9 _ _ ⟨_, _, _, _, _, _, m, held, fs, ws, left, acc, rfl, rfl, ⟨LI.nb, LI.o2b, ⟨c, hist, seen ++ [r], fun k hk => ?_, h2, ⟨fun r' hr' => ?_, by rw [List.length_append]; simp; omega⟩, by rw [List.map_append]; exact racc⟩, LI.le⟩⟩ w9 (((e6.trans e7).trans e8).trans e9)
            · obtain ⟨b1, b2, b3, b4, b5⟩ := h1 k hk
              have up := ((e6.trans e7).trans e8).trans e9
              exact ⟨b1.mono up, RpAll.mono up _ _ b2, b3, b4, b5⟩
            · rcases List.mem_append.mp hr' with z | z
              · exact h3.1 r' z
              · rw [List.mem_singleton.mp z, ← s2]; exact s3
        · exact hN2 _ F8 _ _ ⟨_, _, _, _, _, _, m, held, fs, ws, left, sv, rfl, rfl, LI7.mono e8 (Nat.le_refl _) (Nat.le_refl _)⟩ w8 ((e6.trans e7).trans e8)
      · subst hds
        obtain ⟨x11, x12, x13, x14, x15, x16, m, held, fs, ws, left, sv, rfl, rfl, LI⟩ := hI
        obtain ⟨c, hist, seen, h1, h2, h3, h4⟩ := LI.ex
        have hlen := h2.len
        have ca5 : CelAt K CC0 (putAll (lawL CC0 CO A n m held fs ws left sv) F5) A.y n held := .own g1 w5 (k1 := 0) (k2 := 2) rfl rfl (rp_optV held) hlen nb
        refine t_ifO1 (b := false) g1 w5 (EtG.is (et_truL (K := K) (g_lcE natD (List.range n) (fun _ => false) natD (w_range (g2v rfl) (by omega)) (by simp; omega) (fun _ => rfl) (fun k hk F' e' y hy => ?_) fun k hk hf => by cases hf)) (by simp)) (fun z => by cases z) fun _ F6 H6 w6 e6 => ?_
        · have hk' : k < n := List.mem_range.mp hk
          obtain rfl := rp_int hy
          refine EtG.is (et_not (b := true) (et_B (K := K) (g_call (optD (held.getD k none)) (gs_two (g_rdC (i0 := 3) rfl (ca5.mono e') hk' (g_var (v := .int k) (i := 13) rfl (.int _))) ((g_opI (g_var (i := 4) rfl (Rp.mono e' _ _ (.lst (w5.see (k := 3) rfl) (rp_optV held)))) (g_var (v := .int k) (i := 13) rfl (.int _)) (rv_ixL (atI_opt (by omega)))).is ?_)) rfl (lv2_opt _)))) rfl
          rw [List.getD_eq_getElem?_getD, List.getElem?_eq_getElem (by omega)]; rfl
        · refine hN _ F6 H6 _ ⟨_, _, _, _, _, _, m, held, fs, ws, left, sv, rfl, rfl, LI.mono e6 (Nat.le_refl _) (by simp; omega)⟩ w6 ((((e2.trans e3).trans e4).trans e5).trans e6)
  · obtain ⟨NN, rfl, hNN⟩ := hds
    rw [rng_len] at hI
    obtain ⟨z11, z12, z13, z14, z15, z16, m, held, fs, ws, left, sv, rfl, rfl, LI⟩ := hI
    have nb5 := LI.nb
    refine t_forO (K := K) g1 w' (w_listI (ds := [.int n, .int (-1), .int ((n : Int) + 10 ^ (20 : Int).toNat), .none, .str "0"]) (g_lstI (gs_consI (g2v rfl) (gs_consI (g_un1 (i := 1) g_int) (gs_three (g_opI (g2v rfl) (g_opI (g_int (i := 10)) (g_int (i := 20)) (rv_pow ⟨by decide, by decide, by decide⟩)) rv_add) g_non g_str))) (by show 5 ≤ 100000; decide))) (fun ds j σ' F' L' => L' = lawL CC0 CO A n m held fs ws left sv ∧ ∃ x13, σ' = [some (.ref a), some (.ref pq.p), some (.int n), some (.ref A.y), some (.ref A.h), some (.ref lo), some (.ref A.R), some (.ref A.M), none, some (.ref A.lf), some (.ref A.se), z11, z12, x13, z14, z15, z16]) (fun ds hds F' e' => ⟨rfl, _, rfl⟩) (fun ds hds j d hd σ' F5 H5 L' x hI w5 e5 hx N2 hN2 => ?_) (fun ds hds σ' F5 H5 L' hI w5 e5 => ?_)
    · obtain ⟨rfl, x13, rfl⟩ := hI
      have hlen : held.length = n := by
        obtain ⟨c, hist, seen, h1, h2, h3, h4⟩ := LI.ex
        exact h2.len
      have ca5 : CelAt K CC0 (putAll (lawL CC0 CO A n m held fs ws left sv) F5) A.y n held := .own g1 w5 (k1 := 0) (k2 := 2) rfl rfl (rp_optV held) hlen nb
      rw [hds] at hd
      obtain ⟨⟨q1, q2, q3⟩, q4⟩ := no_houses nb5 (List.mem_of_getElem? hd)
      have hx5 := Rp.mono (w5.seeEx g1) _ _ hx
      refine t_ifO1 (b := false) g1 w5 (EtG.is (et_or (a := false) (b := false) (EtG.is (et_of (K := K) (g_opI (g_refC (d := d) (wd := "none") (i0 := 3) (R2 := Is (.int 0)) rfl ca5 (.inl ⟨rfl, q1⟩) (g_var (i := 13) rfl hx5) g_int) (g_tupI (gs_three g_str (g_var (i := 13) rfl hx5) g_bl) (by show 3 ≤ 100000; decide)) (rv_neD (shaped_ref3 _ _ (by decide +kernel) q4) (shaped_ref3 _ _ (by decide +kernel) q4)))) (by rw [eqv_ref3 _ _ q3]; rfl)) fun _ => EtG.is (et_not (b := true) (et_B (K := K) (g_noC (i0 := 3) rfl ca5 ⟨q1, q2, q3⟩ (g_var (i := 13) rfl hx5)))) rfl) rfl) (fun z => by cases z) fun _ F6 H6 w6 e6 => ?_
      exact hN2 _ F6 H6 _ ⟨rfl, _, rfl⟩ w6 e6
    · obtain ⟨rfl, x13, rfl⟩ := hI
      obtain ⟨c, hist, seen, h1, h2, h3, h4⟩ := LI.ex
      have hlen := h2.len
      have ca5 : CelAt K CC0 (putAll (lawL CC0 CO A n m held fs ws left sv) F5) A.y n held := .own g1 w5 (k1 := 0) (k2 := 2) rfl rfl (rp_optV held) hlen nb
      have hs60 := h3.2
      refine t_retO (K := K) (R := Is (.bool true)) g1 w5 ((g_andV (a := true) (b := true) (g_call (dO held) (gs_two (g_shwC (i0 := 3) rfl ca5) (g_cbI (gs_one (g_var (i := 4) rfl (.lst (w5.see (k := 3) rfl) (rp_optV held)))) rc_tupL)) rfl (lv2_dO (by omega))) fun _ => (g_andV (a := true) (b := true) (g_call (PyData.int n) (gs_two (g_fld (K := K) (i := 3) rfl (w5.see (k := 0) rfl) CC.cl CC.nN rfl (.int _)) (g2v rfl)) rfl (show lv2 (PyData.int n) from rfl)) fun _ => g_chnC (n := n) (i0 := 10) rfl (w5.see (k := 16) rfl) (RpAll.mono (e5.trans (w5.seeEx g1)) _ _ h4) ⟨nb.2, by omega, fun r hr => by rw [(h2.le r (h3.1 r hr)).1, hlen], fun a ha b hb => h2.chain a (h3.1 a ha) b (h3.1 b hb)⟩).is rfl).is rfl) (fun d hd => by rw [show d = _ from hd]; rfl) fun d v F6 H6 hd w6 e6 hv => ?_
      subst hd
      obtain rfl := rp_bool hv
      exact q _
end
end KH
namespace KH
open PySem PySem.Spec PyProof.Rows L2 Fv Evl StX
abbrev FunCol (K : PySem.W.Frag) (f : Addr) (fd : FuncData) : Prop := L2.FunD K "__init__" "Collector.__init__" (defArgs s_Collector___init__) (defBody s_Collector___init__) (defScope s_Collector___init__) [] [("own", V.non)] f fd
theorem kbn0 {K : PySem.W.Frag} {f : Addr} {fd : FuncData} (F : FunCol K f fd) : ∃ g, KBn K fd ["self", "houses", "own"] 2 [] g (fun vs _ => vs ++ [V.non]) := by
  obtain ⟨mv, h⟩ := L2.FunD.kbinds0 F (ps := ["self", "houses", "own"]) 2 [] [("own", V.non)] (fun vs mz _ => vs ++ mz) (by simp) (fun q hq => hq) (fun r1 r2 _ => r1.append r2) fun D doc pm an cdv ct us mv ws hu hm hw => match us, mv, ws, hu, hm, hw with | [_, _], [_], [], _, _, _ => ⟨_, _, _, _, _, _, rfl, rfl, rfl⟩
  exact ⟨_, h⟩
theorem kbn1 {K : PySem.W.Frag} {f : Addr} {fd : FuncData} (F : FunCol K f fd) : ∃ g, KBn K fd ["self", "houses", "own"] 2 ["own"] g (fun vs zs => vs ++ zs) := by
  obtain ⟨mv, h⟩ := L2.FunD.kbinds0 F (ps := ["self", "houses", "own"]) 2 ["own"] [] (fun vs _ zs => vs ++ zs) (by simp) (fun q hq => by cases hq) (fun r1 _ r3 => r1.append r3) fun D doc pm an cdv ct us mv ws hu hm hw => match us, mv, ws, hu, hm, hw with | [_, _], [], [_], _, _, _ => rfl
  exact ⟨_, h⟩
theorem binds_whole {K : PySem.W.Frag} {f : Addr} {fd : FuncData} (F : FunW K f fd) : Binds K fd ["thing", "low", "high"] [] := by
  obtain ⟨ds, hv, hb⟩ := L2.FunD.binds1 F (ps := ["thing", "low", "high"]) 3 2 (by simp) rfl fun T kV doc pm an cdv ct us its hl hi => match us, its, hl, hi with | [_, _, _], [_, _], _, _ => ⟨_, rfl, rfl⟩
  cases hv
  exact hb
theorem exm_is {K : PySem.W.Frag} {S B : Addr} {r : Bool} (hb : PySem.W.subIn K (.ref B) (.type "BaseException") = some true) (hc : PySem.W.isClsIn K B = true) (ht : PySem.W.typeIn K (.ref B) = some (.type "type")) (hs : PySem.W.subIn K (.ref S) (.ref B) = some r) : PySem.W.exmOne K (.ref S) (.ref B) = some r := by
  have hc' : (PySem.W.clsIn K B).isSome = true := hc
  unfold PySem.W.exmOne PySem.W.kitCls
  simp only [hb, hc', ht, hs, beq_self_eq_true, Bool.and_self, if_true]
theorem kit_ref {K : PySem.W.Frag} {S B : Addr} (hc : PySem.W.isClsIn K B = true) (ht : PySem.W.typeIn K (.ref B) = some (.type "type")) (hs : PySem.W.subIn K (.ref S) (.ref B) = some true) : PySem.W.kitOne K (.ref S) (.ref B) = some true := by
  have hc' : (PySem.W.clsIn K B).isSome = true := hc
  unfold PySem.W.kitOne PySem.W.kitCls
  simp [hc', ht, hs]
theorem kit_VE {K : PySem.W.Frag} {S : Addr} (hs : PySem.W.subIn K (.ref S) (.type "ValueError") = some true) : PySem.W.kitOne K (.ref S) (.type "ValueError") = some true := by
  have hk : PySem.W.kitMeta "ValueError" = true := by decide +kernel
  unfold PySem.W.kitOne PySem.W.kitCls
  simp [hk, hs]
section
variable {P : Program} {w : World} {K : PySem.W.Frag} {mg : Str → Option Value}
theorem all_mk {l : PySem.W.OpenLaw} {h : Heap} {fa : Addr} (X : K.In h) (G : h.Ns mainGlobals mg) (hfa : mg "law" = some (.ref fa))
    {CC0 : Addr}
    {CO : Addr}
    {f0 : Addr} {od0 an0 : Option Addr} {sl0 : Array (Option Value)} {oc0 kV0 dc0 pm0 cd0 ct0 : Value}
    {f1 : Addr} {od1 an1 : Option Addr} {sl1 : Array (Option Value)} {oc1 kV1 dc1 pm1 cd1 ct1 : Value}
    {f2 : Addr} {od2 an2 : Option Addr} {sl2 : Array (Option Value)} {oc2 kV2 dc2 pm2 cd2 ct2 : Value}
    {f3 : Addr} {od3 an3 : Option Addr} {sl3 : Array (Option Value)} {oc3 kV3 dc3 pm3 cd3 ct3 : Value}
    {f4 : Addr} {od4 an4 : Option Addr} {sl4 : Array (Option Value)} {oc4 kV4 dc4 pm4 cd4 ct4 : Value}
    {f5 : Addr} {od5 an5 : Option Addr} {sl5 : Array (Option Value)} {oc5 kV5 dc5 pm5 cd5 ct5 : Value}
    {f6 : Addr} {od6 an6 : Option Addr} {sl6 : Array (Option Value)} {oc6 kV6 dc6 pm6 cd6 ct6 : Value}
    {f7 : Addr} {od7 an7 : Option Addr} {sl7 : Array (Option Value)} {oc7 kV7 dc7 pm7 cd7 ct7 : Value}
    {f8 : Addr} {od8 an8 : Option Addr} {sl8 : Array (Option Value)} {oc8 kV8 dc8 pm8 cd8 ct8 : Value}
    {f9 : Addr} {od9 an9 : Option Addr} {sl9 : Array (Option Value)} {oc9 kV9 dc9 pm9 cd9 ct9 : Value}
    {f10 : Addr} {od10 an10 : Option Addr} {sl10 : Array (Option Value)} {oc10 kV10 dc10 pm10 cd10 ct10 : Value}
    {f11 : Addr} {od11 an11 : Option Addr} {sl11 : Array (Option Value)} {oc11 kV11 dc11 pm11 cd11 ct11 : Value}
    {TW : Addr} {ocT : Value} {odT : Option Addr} {nT : Nat} {slT : Array (Option Value)}
    {f12 : Addr} {od12 an12 : Option Addr} {sl12 : Array (Option Value)} {oc12 kV12 dc12 pm12 cd12 ct12 : Value}
    {f13 : Addr} {od13 an13 : Option Addr} {sl13 : Array (Option Value)} {oc13 kV13 dc13 pm13 cd13 ct13 : Value}
    {p14 : Addr} {rest14 : List Value}
    {f14 : Addr} {od14 an14 : Option Addr} {sl14 : Array (Option Value)} {oc14 kV14 dc14 pm14 cd14 ct14 : Value}
    {f15 : Addr} {od15 an15 : Option Addr} {sl15 : Array (Option Value)} {oc15 kV15 dc15 pm15 cd15 ct15 : Value}
    {f16 : Addr} {od16 an16 : Option Addr} {sl16 : Array (Option Value)} {oc16 kV16 dc16 pm16 cd16 ct16 : Value}
    {f17 : Addr} {od17 an17 : Option Addr} {sl17 : Array (Option Value)} {oc17 kV17 dc17 pm17 cd17 ct17 : Value}
    {KD18 : Addr}
    {f18 : Addr} {od18 an18 : Option Addr} {sl18 : Array (Option Value)} {oc18 dc18 pm18 cd18 ct18 : Value}
    {f19 : Addr} {od19 an19 : Option Addr} {sl19 : Array (Option Value)} {oc19 kV19 dc19 pm19 cd19 ct19 : Value}
    {f20 : Addr} {od20 an20 : Option Addr} {sl20 : Array (Option Value)} {oc20 kV20 dc20 pm20 cd20 ct20 : Value}
    {f21 : Addr} {od21 an21 : Option Addr} {sl21 : Array (Option Value)} {oc21 kV21 dc21 pm21 cd21 ct21 : Value}
    {CF : Addr}
    {f22 : Addr} {od22 an22 : Option Addr} {sl22 : Array (Option Value)} {oc22 kV22 dc22 pm22 cd22 ct22 : Value}
    {CN NN : Addr} {nmN qN : Str} {bsN bmN subN : List Value} {snN : List Str} {abN : Bool} {coN : Option Bool} {ddN : Option Addr} {x0N x1N x2N x3N x5N : Option Value}
    {f23 : Addr} {od23 an23 : Option Addr} {sl23 : Array (Option Value)} {oc23 kV23 dc23 pm23 cd23 ct23 : Value}
    {CT NT : Addr} {nmT qT : Str} {bsT bmT subT : List Value} {snT : List Str} {abT : Bool} {coT : Option Bool} {ddT : Option Addr} {x0T x1T x2T x3T x5T : Option Value}
    (aCC0 : PySem.W.nsIn K mainGlobals "Cells" = some (some (.ref CC0)))
    (aCO : PySem.W.nsIn K mainGlobals "Collector" = some (some (.ref CO)))
    (a0 : PySem.W.nsIn K mainGlobals "_law_same" = some (some (.ref f0)))
    (l0 : K.lookup f0 = some ⟨oc0, od0, .func (PySem.W.fnOf "_law_same" "_law_same" (defArgs s_law_same) (defBody s_law_same) (defScope s_law_same) .none kV0 dc0 pm0 an0 cd0 ct0), sl0⟩)
    (c0 : PySem.W.codeIn K cd0 "_law_same" = true)
    (k0 : PySem.W.keepIn K (.ref f0) = true)
    (a1 : PySem.W.nsIn K mainGlobals "_law_pot" = some (some (.ref f1)))
    (l1 : K.lookup f1 = some ⟨oc1, od1, .func (PySem.W.fnOf "_law_pot" "_law_pot" (defArgs s_law_pot) (defBody s_law_pot) (defScope s_law_pot) .none kV1 dc1 pm1 an1 cd1 ct1), sl1⟩)
    (c1 : PySem.W.codeIn K cd1 "_law_pot" = true)
    (k1 : PySem.W.keepIn K (.ref f1) = true)
    (a2 : PySem.W.nsIn K mainGlobals "_law_draw" = some (some (.ref f2)))
    (l2 : K.lookup f2 = some ⟨oc2, od2, .func (PySem.W.fnOf "_law_draw" "_law_draw" (defArgs s_law_draw) (defBody s_law_draw) (defScope s_law_draw) .none kV2 dc2 pm2 an2 cd2 ct2), sl2⟩)
    (c2 : PySem.W.codeIn K cd2 "_law_draw" = true)
    (k2 : PySem.W.keepIn K (.ref f2) = true)
    (a3 : PySem.W.nsIn K mainGlobals "_law_refused" = some (some (.ref f3)))
    (l3 : K.lookup f3 = some ⟨oc3, od3, .func (PySem.W.fnOf "_law_refused" "_law_refused" (defArgs s_law_refused) (defBody s_law_refused) (defScope s_law_refused) .none kV3 dc3 pm3 an3 cd3 ct3), sl3⟩)
    (c3 : PySem.W.codeIn K cd3 "_law_refused" = true)
    (k3 : PySem.W.keepIn K (.ref f3) = true)
    (a4 : PySem.W.nsIn K mainGlobals "_law_no_cell" = some (some (.ref f4)))
    (l4 : K.lookup f4 = some ⟨oc4, od4, .func (PySem.W.fnOf "_law_no_cell" "_law_no_cell" (defArgs s_law_no_cell) (defBody s_law_no_cell) (defScope s_law_no_cell) .none kV4 dc4 pm4 an4 cd4 ct4), sl4⟩)
    (c4 : PySem.W.codeIn K cd4 "_law_no_cell" = true)
    (k4 : PySem.W.keepIn K (.ref f4) = true)
    (a5 : PySem.W.nsIn K mainGlobals "_law_houses_of" = some (some (.ref f5)))
    (l5 : K.lookup f5 = some ⟨oc5, od5, .func (PySem.W.fnOf "_law_houses_of" "_law_houses_of" (defArgs s_law_houses_of) (defBody s_law_houses_of) (defScope s_law_houses_of) .none kV5 dc5 pm5 an5 cd5 ct5), sl5⟩)
    (c5 : PySem.W.codeIn K cd5 "_law_houses_of" = true)
    (k5 : PySem.W.keepIn K (.ref f5) = true)
    (a6 : PySem.W.nsIn K mainGlobals "_law_start" = some (some (.ref f6)))
    (l6 : K.lookup f6 = some ⟨oc6, od6, .func (PySem.W.fnOf "_law_start" "_law_start" (defArgs s_law_start) (defBody s_law_start) (defScope s_law_start) .none kV6 dc6 pm6 an6 cd6 ct6), sl6⟩)
    (c6 : PySem.W.codeIn K cd6 "_law_start" = true)
    (k6 : PySem.W.keepIn K (.ref f6) = true)
    (a7 : PySem.W.nsIn K mainGlobals "_law_turn" = some (some (.ref f7)))
    (l7 : K.lookup f7 = some ⟨oc7, od7, .func (PySem.W.fnOf "_law_turn" "_law_turn" (defArgs s_law_turn) (defBody s_law_turn) (defScope s_law_turn) .none kV7 dc7 pm7 an7 cd7 ct7), sl7⟩)
    (c7 : PySem.W.codeIn K cd7 "_law_turn" = true)
    (k7 : PySem.W.keepIn K (.ref f7) = true)
    (a8 : PySem.W.nsIn K mainGlobals "_law_like" = some (some (.ref f8)))
    (l8 : K.lookup f8 = some ⟨oc8, od8, .func (PySem.W.fnOf "_law_like" "_law_like" (defArgs s_law_like) (defBody s_law_like) (defScope s_law_like) .none kV8 dc8 pm8 an8 cd8 ct8), sl8⟩)
    (c8 : PySem.W.codeIn K cd8 "_law_like" = true)
    (k8 : PySem.W.keepIn K (.ref f8) = true)
    (a9 : PySem.W.nsIn K mainGlobals "_law_moment" = some (some (.ref f9)))
    (l9 : K.lookup f9 = some ⟨oc9, od9, .func (PySem.W.fnOf "_law_moment" "_law_moment" (defArgs s_law_moment) (defBody s_law_moment) (defScope s_law_moment) .none kV9 dc9 pm9 an9 cd9 ct9), sl9⟩)
    (c9 : PySem.W.codeIn K cd9 "_law_moment" = true)
    (k9 : PySem.W.keepIn K (.ref f9) = true)
    (a10 : PySem.W.nsIn K mainGlobals "_law_chained" = some (some (.ref f10)))
    (l10 : K.lookup f10 = some ⟨oc10, od10, .func (PySem.W.fnOf "_law_chained" "_law_chained" (defArgs s_law_chained) (defBody s_law_chained) (defScope s_law_chained) .none kV10 dc10 pm10 an10 cd10 ct10), sl10⟩)
    (c10 : PySem.W.codeIn K cd10 "_law_chained" = true)
    (k10 : PySem.W.keepIn K (.ref f10) = true)
    (a11 : PySem.W.nsIn K mainGlobals "law" = some (some (.ref f11)))
    (l11 : K.lookup f11 = some ⟨oc11, od11, .func (PySem.W.fnOf "law" "law" (defArgs s_law) (defBody s_law) (defScope s_law) .none kV11 dc11 pm11 an11 cd11 ct11), sl11⟩)
    (c11 : PySem.W.codeIn K cd11 "law" = true)
    (k11 : PySem.W.keepIn K (.ref f11) = true)
    (a12 : PySem.W.nsIn K mainGlobals "is_whole" = some (some (.ref f12)))
    (l12 : K.lookup f12 = some ⟨oc12, od12, .func (PySem.W.fnOf "is_whole" "is_whole" (defArgs s_is_whole) (defBody s_is_whole) (defScope s_is_whole) (.ref TW) kV12 dc12 pm12 an12 cd12 ct12), sl12⟩)
    (c12 : PySem.W.codeIn K cd12 "is_whole" = true)
    (k12 : PySem.W.keepIn K (.ref f12) = true)
    (lT : K.lookup TW = some ⟨ocT, odT, .seq [Value.none, Value.none].toArray nT, slT⟩)
    (a13 : PySem.W.findIn K (.ref CC0) "__init__" = some (some (.ref f13)))
    (i13 : PySem.W.isFn K (.ref f13) = true)
    (l13 : K.lookup f13 = some ⟨oc13, od13, .func (PySem.W.fnOf "__init__" "Cells.__init__" (defArgs s_Cells___init__) (defBody s_Cells___init__) (defScope s_Cells___init__) .none kV13 dc13 pm13 an13 cd13 ct13), sl13⟩)
    (c13 : PySem.W.codeIn K cd13 "Cells.__init__" = true)
    (k13 : PySem.W.keepIn K (.ref f13) = true)
    (a14 : PySem.W.findIn K (.ref CC0) "shown" = some (some (.ref p14)))
    (s14 : PySem.W.specialIn K (.ref p14) "__get__" = some (some (.builtin "property.__get__")))
    (t14 : PySem.W.takesIn K (.ref p14) = some true)
    (r14 : PySem.W.recIn K p14 "property" = some (.ref f14 :: rest14))
    (l14 : K.lookup f14 = some ⟨oc14, od14, .func (PySem.W.fnOf "shown" "Cells.shown" (defArgs s_Cells_shown) (defBody s_Cells_shown) (defScope s_Cells_shown) .none kV14 dc14 pm14 an14 cd14 ct14), sl14⟩)
    (c14 : PySem.W.codeIn K cd14 "Cells.shown" = true)
    (k14 : PySem.W.keepIn K (.ref f14) = true)
    (a15 : PySem.W.findIn K (.ref CC0) "write" = some (some (.ref f15)))
    (i15 : PySem.W.isFn K (.ref f15) = true)
    (l15 : K.lookup f15 = some ⟨oc15, od15, .func (PySem.W.fnOf "write" "Cells.write" (defArgs s_Cells_write) (defBody s_Cells_write) (defScope s_Cells_write) .none kV15 dc15 pm15 an15 cd15 ct15), sl15⟩)
    (c15 : PySem.W.codeIn K cd15 "Cells.write" = true)
    (k15 : PySem.W.keepIn K (.ref f15) = true)
    (a16 : PySem.W.findIn K (.ref CC0) "read" = some (some (.ref f16)))
    (i16 : PySem.W.isFn K (.ref f16) = true)
    (l16 : K.lookup f16 = some ⟨oc16, od16, .func (PySem.W.fnOf "read" "Cells.read" (defArgs s_Cells_read) (defBody s_Cells_read) (defScope s_Cells_read) .none kV16 dc16 pm16 an16 cd16 ct16), sl16⟩)
    (c16 : PySem.W.codeIn K cd16 "Cells.read" = true)
    (k16 : PySem.W.keepIn K (.ref f16) = true)
    (a17 : PySem.W.findIn K (.ref CC0) "_check_house" = some (some (.ref f17)))
    (i17 : PySem.W.isFn K (.ref f17) = true)
    (l17 : K.lookup f17 = some ⟨oc17, od17, .func (PySem.W.fnOf "_check_house" "Cells._check_house" (defArgs s_Cells__check_house) (defBody s_Cells__check_house) (defScope s_Cells__check_house) .none kV17 dc17 pm17 an17 cd17 ct17), sl17⟩)
    (c17 : PySem.W.codeIn K cd17 "Cells._check_house" = true)
    (k17 : PySem.W.keepIn K (.ref f17) = true)
    (a18 : PySem.W.findIn K (.ref CO) "__init__" = some (some (.ref f18)))
    (i18 : PySem.W.isFn K (.ref f18) = true)
    (l18 : K.lookup f18 = some ⟨oc18, od18, .func (PySem.W.fnOf "__init__" "Collector.__init__" (defArgs s_Collector___init__) (defBody s_Collector___init__) (defScope s_Collector___init__) .none (.ref KD18) dc18 pm18 an18 cd18 ct18), sl18⟩)
    (c18 : PySem.W.codeIn K cd18 "Collector.__init__" = true)
    (k18 : PySem.W.keepIn K (.ref f18) = true)
    (kd18 : PySem.W.nsIn K KD18 "own" = some (some .none))
    (a19 : PySem.W.findIn K (.ref CO) "forget" = some (some (.ref f19)))
    (i19 : PySem.W.isFn K (.ref f19) = true)
    (l19 : K.lookup f19 = some ⟨oc19, od19, .func (PySem.W.fnOf "forget" "Collector.forget" (defArgs s_Collector_forget) (defBody s_Collector_forget) (defScope s_Collector_forget) .none kV19 dc19 pm19 an19 cd19 ct19), sl19⟩)
    (c19 : PySem.W.codeIn K cd19 "Collector.forget" = true)
    (k19 : PySem.W.keepIn K (.ref f19) = true)
    (a20 : PySem.W.findIn K (.ref CO) "read_from" = some (some (.ref f20)))
    (i20 : PySem.W.isFn K (.ref f20) = true)
    (l20 : K.lookup f20 = some ⟨oc20, od20, .func (PySem.W.fnOf "read_from" "Collector.read_from" (defArgs s_Collector_read_from) (defBody s_Collector_read_from) (defScope s_Collector_read_from) .none kV20 dc20 pm20 an20 cd20 ct20), sl20⟩)
    (c20 : PySem.W.codeIn K cd20 "Collector.read_from" = true)
    (k20 : PySem.W.keepIn K (.ref f20) = true)
    (a21 : PySem.W.findIn K (.ref CO) "stable_view" = some (some (.ref f21)))
    (i21 : PySem.W.isFn K (.ref f21) = true)
    (l21 : K.lookup f21 = some ⟨oc21, od21, .func (PySem.W.fnOf "stable_view" "Collector.stable_view" (defArgs s_Collector_stable_view) (defBody s_Collector_stable_view) (defScope s_Collector_stable_view) .none kV21 dc21 pm21 an21 cd21 ct21), sl21⟩)
    (c21 : PySem.W.codeIn K cd21 "Collector.stable_view" = true)
    (k21 : PySem.W.keepIn K (.ref f21) = true)
    (aF : PySem.W.nsIn K mainGlobals "FirmError" = some (some (.ref CF)))
    (rdF : PySem.W.readsIn K CF (.type "type") = true)
    (gaF : PySem.W.specialIn K (.ref CF) "__getattribute__" = some (some (.builtin "type.__getattribute__")))
    (vF : PySem.W.findCls K (.ref CF) (.type "type") "__init__" = some (.val (.builtin "ValueError.__init__")))
    (iF : PySem.W.isClsIn K CF = true)
    (yF : PySem.W.typeIn K (.ref CF) = some (.type "type"))
    (aaN : PySem.W.nsIn K mainGlobals "NoHouse" = some (some (.ref CN)))
    (a22 : PySem.W.findIn K (.ref CN) "__init__" = some (some (.ref f22)))
    (tIN : PySem.W.typeIn K (.ref f22) = some (.type "function"))
    (l22 : K.lookup f22 = some ⟨oc22, od22, .func (PySem.W.fnOf "__init__" "NoHouse.__init__" (defArgs s_NoHouse___init__) (defBody s_NoHouse___init__) (defScope s_NoHouse___init__) .none kV22 dc22 pm22 an22 cd22 ct22), sl22⟩)
    (c22 : PySem.W.codeIn K cd22 "NoHouse.__init__" = true)
    (k22 : PySem.W.keepIn K (.ref f22) = true)
    (lEN : K.lookup CN = some (excClassObj nmN qN CN NN bsN bmN true snN subN abN coN ddN x0N x1N x2N x3N x5N "ValueError.__new__"))
    (vEN : PySem.HandSPX.refsVE bmN = true)
    (sEN : PySem.W.findIn K (.ref CN) "__setattr__" = some (some (.builtin "object.__setattr__")))
    (eEN : PySem.W.subIn K (.ref CN) (.type "BaseException") = some true)
    (yEN : PySem.W.typeIn K (.ref CN) = some (.type "type"))
    (kEN : PySem.W.keepIn K (.ref CN) = true)
    (iEN : PySem.W.isClsIn K CN = true)
    (xgN : PySem.W.findIn K (.ref CN) "__getattribute__" = some (some (.builtin "BaseException.__getattribute__")))
    (xhN : PySem.W.findIn K (.ref CN) "__getattr__" = some none)
    (hEN : PySem.W.hasDictIn K CN = true)
    (ssN : PySem.W.subIn K (.ref CN) (.ref CN) = some true)
    (sfN : PySem.W.subIn K (.ref CN) (.ref CF) = some true)
    (svN : PySem.W.subIn K (.ref CN) (.type "ValueError") = some true)
    (nN_house : PySem.W.findIn K (.ref CN) "house" = some none)
    (aaT : PySem.W.nsIn K mainGlobals "Twice" = some (some (.ref CT)))
    (a23 : PySem.W.findIn K (.ref CT) "__init__" = some (some (.ref f23)))
    (tIT : PySem.W.typeIn K (.ref f23) = some (.type "function"))
    (l23 : K.lookup f23 = some ⟨oc23, od23, .func (PySem.W.fnOf "__init__" "Twice.__init__" (defArgs s_Twice___init__) (defBody s_Twice___init__) (defScope s_Twice___init__) .none kV23 dc23 pm23 an23 cd23 ct23), sl23⟩)
    (c23 : PySem.W.codeIn K cd23 "Twice.__init__" = true)
    (k23 : PySem.W.keepIn K (.ref f23) = true)
    (lET : K.lookup CT = some (excClassObj nmT qT CT NT bsT bmT true snT subT abT coT ddT x0T x1T x2T x3T x5T "ValueError.__new__"))
    (vET : PySem.HandSPX.refsVE bmT = true)
    (sET : PySem.W.findIn K (.ref CT) "__setattr__" = some (some (.builtin "object.__setattr__")))
    (eET : PySem.W.subIn K (.ref CT) (.type "BaseException") = some true)
    (yET : PySem.W.typeIn K (.ref CT) = some (.type "type"))
    (kET : PySem.W.keepIn K (.ref CT) = true)
    (iET : PySem.W.isClsIn K CT = true)
    (xgT : PySem.W.findIn K (.ref CT) "__getattribute__" = some (some (.builtin "BaseException.__getattribute__")))
    (xhT : PySem.W.findIn K (.ref CT) "__getattr__" = some none)
    (hET : PySem.W.hasDictIn K CT = true)
    (ssT : PySem.W.subIn K (.ref CT) (.ref CT) = some true)
    (sfT : PySem.W.subIn K (.ref CT) (.ref CF) = some true)
    (svT : PySem.W.subIn K (.ref CT) (.type "ValueError") = some true)
    (nT_house : PySem.W.findIn K (.ref CT) "house" = some none)
    (z_isinstance : PySem.W.nsIn K mainGlobals "isinstance" = some none)
    (z_list : PySem.W.nsIn K mainGlobals "list" = some none)
    (z_tuple : PySem.W.nsIn K mainGlobals "tuple" = some none)
    (z_bool : PySem.W.nsIn K mainGlobals "bool" = some none)
    (z_int : PySem.W.nsIn K mainGlobals "int" = some none)
    (z_str : PySem.W.nsIn K mainGlobals "str" = some none)
    (z_all : PySem.W.nsIn K mainGlobals "all" = some none)
    (z_any : PySem.W.nsIn K mainGlobals "any" = some none)
    (z_range : PySem.W.nsIn K mainGlobals "range" = some none)
    (z_sorted : PySem.W.nsIn K mainGlobals "sorted" = some none)
    (z_set : PySem.W.nsIn K mainGlobals "set" = some none)
    (z_max : PySem.W.nsIn K mainGlobals "max" = some none)
    (z_len : PySem.W.nsIn K mainGlobals "len" = some none)
    (z_min : PySem.W.nsIn K mainGlobals "min" = some none)
    (z_repr : PySem.W.nsIn K mainGlobals "repr" = some none)
    (pgCC0 : PySem.W.plainGet K CC0 Str.empty = true)
    (hdCC0 : PySem.W.hasDictIn K CC0 = true)
    (poCC0 : PySem.W.plainOver K CC0 = true)
    (saCC0 : PySem.W.findIn K (.ref CC0) "__setattr__" = some (some (.builtin "object.__setattr__")))
    (mkCC0 : PySem.W.makesIn K CC0 = true)
    (kcCC0 : PySem.W.keepIn K (.ref CC0) = true)
    (noCC0_n : PySem.W.findIn K (.ref CC0) "n" = some none)
    (noCC0_held : PySem.W.findIn K (.ref CC0) "_held" = some none)
    (pgCO : PySem.W.plainGet K CO Str.empty = true)
    (hdCO : PySem.W.hasDictIn K CO = true)
    (poCO : PySem.W.plainOver K CO = true)
    (saCO : PySem.W.findIn K (.ref CO) "__setattr__" = some (some (.builtin "object.__setattr__")))
    (mkCO : PySem.W.makesIn K CO = true)
    (kcCO : PySem.W.keepIn K (.ref CO) = true)
    (noCO_n : PySem.W.findIn K (.ref CO) "n" = some none)
    (noCO_own : PySem.W.findIn K (.ref CO) "own" = some none)
    (noCO_turns : PySem.W.findIn K (.ref CO) "_turns" = some none)
    (noCO_turn : PySem.W.findIn K (.ref CO) "turn" = some none)
    (noCO_so_far : PySem.W.findIn K (.ref CO) "so_far" = some none)
    (noCO_full : PySem.W.findIn K (.ref CO) "full" = some none)
    (ap : PySem.W.subIn K (.ref CN) (.ref CT) = some false) :
    ∃ fd : FuncData, (∀ (s : Shared) (v : Value), BindsTo s fd ⟨[v], []⟩ [("_law_script", v)]) ∧ ∀ base : Heap, K.In base → base.Ns mainGlobals mg → FnOk l.prog w K mg base CX0 6 fa fd ["_law_script"] (spLaw K) := by
  have e := hfa.symm.trans (PySem.W.mg_of X G a11)
  cases e
  have T : Tx mg := ⟨PySem.W.mg_none_of X G z_isinstance, PySem.W.mg_none_of X G z_list, PySem.W.mg_none_of X G z_tuple, PySem.W.mg_none_of X G z_bool, PySem.W.mg_none_of X G z_int, PySem.W.mg_none_of X G z_str, PySem.W.mg_none_of X G z_all, PySem.W.mg_none_of X G z_any, PySem.W.mg_none_of X G z_range, PySem.W.mg_none_of X G z_sorted, PySem.W.mg_none_of X G z_set, PySem.W.mg_none_of X G z_max, PySem.W.mg_none_of X G z_len, PySem.W.mg_none_of X G z_min, PySem.W.mg_none_of X G z_repr⟩
  have F0 := fun_mk (st := s_law_same) l0 c0 k0
  have b0 := F0.binds (ps := ["_law_told", "_law_due"]) fun _ _ _ _ _ _ us hl => match us, hl with | [_, _], _ => rfl
  have g0 := PySem.W.mg_of X G a0
  have F1 := fun_mk (st := s_law_pot) l1 c1 k1
  have b1 := F1.binds (ps := ["_law_script", "_law_salt"]) fun _ _ _ _ _ _ us hl => match us, hl with | [_, _], _ => rfl
  have g1 := PySem.W.mg_of X G a1
  have F2 := fun_mk (st := s_law_draw) l2 c2 k2
  have b2 := F2.binds (ps := ["_law_pot_here", "_law_many"]) fun _ _ _ _ _ _ us hl => match us, hl with | [_, _], _ => rfl
  have g2 := PySem.W.mg_of X G a2
  have F3 := fun_mk (st := s_law_refused) l3 c3 k3
  have b3 := F3.binds (ps := ["_law_cells", "_law_house", "_law_value"]) fun _ _ _ _ _ _ us hl => match us, hl with | [_, _, _], _ => rfl
  have g3 := PySem.W.mg_of X G a3
  have F4 := fun_mk (st := s_law_no_cell) l4 c4 k4
  have b4 := F4.binds (ps := ["_law_cells", "_law_house"]) fun _ _ _ _ _ _ us hl => match us, hl with | [_, _], _ => rfl
  have g4 := PySem.W.mg_of X G a4
  have F5 := fun_mk (st := s_law_houses_of) l5 c5 k5
  have b5 := F5.binds (ps := ["_law_n", "_law_skipped"]) fun _ _ _ _ _ _ us hl => match us, hl with | [_, _], _ => rfl
  have g5 := PySem.W.mg_of X G a5
  have F6 := fun_mk (st := s_law_start) l6 c6 k6
  have b6 := F6.binds (ps := ["_law_n", "_law_skipped"]) fun _ _ _ _ _ _ us hl => match us, hl with | [_, _], _ => rfl
  have g6 := PySem.W.mg_of X G a6
  have F7 := fun_mk (st := s_law_turn) l7 c7 k7
  have b7 := F7.binds (ps := ["_law_real", "_law_mine", "_law_cells", "_law_held", "_law_n"]) fun _ _ _ _ _ _ us hl => match us, hl with | [_, _, _, _, _], _ => rfl
  have g7 := PySem.W.mg_of X G a7
  have F8 := fun_mk (st := s_law_like) l8 c8 k8
  have b8 := F8.binds (ps := ["_law_real", "_law_mine", "_law_n"]) fun _ _ _ _ _ _ us hl => match us, hl with | [_, _, _], _ => rfl
  have g8 := PySem.W.mg_of X G a8
  have F9 := fun_mk (st := s_law_moment) l9 c9 k9
  have b9 := F9.binds (ps := ["_law_mine", "_law_stable"]) fun _ _ _ _ _ _ us hl => match us, hl with | [_, _], _ => rfl
  have g9 := PySem.W.mg_of X G a9
  have F10 := fun_mk (st := s_law_chained) l10 c10 k10
  have b10 := F10.binds (ps := ["_law_views"]) fun _ _ _ _ _ _ us hl => match us, hl with | [_], _ => rfl
  have g10 := PySem.W.mg_of X G a10
  have F11 := fun_mk (st := s_law) l11 c11 k11
  have b11 := F11.binds (ps := ["_law_script"]) fun _ _ _ _ _ _ us hl => match us, hl with | [_], _ => rfl
  have g11 := PySem.W.mg_of X G a11
  have F12 : FunW K f12 _ := ⟨⟨oc12, od12, .ref TW, kV12, dc12, pm12, an12, cd12, ct12, sl12, rfl, l12, c12, .inr ⟨by simp, TW, _, [.none, .none], nT, rfl, lT, rfl, .cons rfl (.cons rfl .nil)⟩, .inl rfl⟩, k12⟩
  have b12 := binds_whole F12
  have g12 := PySem.W.mg_of X G a12
  have F13 := fun_mk (st := s_Cells___init__) l13 c13 k13
  have b13 := F13.binds (ps := ["self", "houses"]) fun _ _ _ _ _ _ us hl => match us, hl with | [_, _], _ => rfl
  have F14 := fun_mk (st := s_Cells_shown) l14 c14 k14
  have b14 := F14.binds (ps := ["self"]) fun _ _ _ _ _ _ us hl => match us, hl with | [_], _ => rfl
  have F15 := fun_mk (st := s_Cells_write) l15 c15 k15
  have b15 := F15.binds (ps := ["self", "house", "value"]) fun _ _ _ _ _ _ us hl => match us, hl with | [_, _, _], _ => rfl
  have F16 := fun_mk (st := s_Cells_read) l16 c16 k16
  have b16 := F16.binds (ps := ["self", "house"]) fun _ _ _ _ _ _ us hl => match us, hl with | [_, _], _ => rfl
  have F17 := fun_mk (st := s_Cells__check_house) l17 c17 k17
  have b17 := F17.binds (ps := ["self", "house"]) fun _ _ _ _ _ _ us hl => match us, hl with | [_, _], _ => rfl
  have F18 : L2.FunD K "__init__" "Collector.__init__" (defArgs s_Collector___init__) (defBody s_Collector___init__) (defScope s_Collector___init__) [] [("own", .non)] f18 _ := ⟨⟨oc18, od18, .none, .ref KD18, dc18, pm18, an18, cd18, ct18, sl18, rfl, l18, c18, .inl ⟨rfl, rfl⟩, .inr ⟨KD18, rfl, List.forall_mem_singleton.mpr ⟨.none, kd18, rfl⟩⟩⟩, k18⟩
  have F19 := fun_mk (st := s_Collector_forget) l19 c19 k19
  have b19 := F19.binds (ps := ["self"]) fun _ _ _ _ _ _ us hl => match us, hl with | [_], _ => rfl
  have F20 := fun_mk (st := s_Collector_read_from) l20 c20 k20
  have b20 := F20.binds (ps := ["self", "cells"]) fun _ _ _ _ _ _ us hl => match us, hl with | [_, _], _ => rfl
  have F21 := fun_mk (st := s_Collector_stable_view) l21 c21 k21
  have b21 := F21.binds (ps := ["self"]) fun _ _ _ _ _ _ us hl => match us, hl with | [_], _ => rfl
  have FM : FirmC K mg CF (.type "type") := ⟨PySem.W.mg_of X G aF, ⟨rdF, gaF⟩, vF⟩
  have F22 := fun_mk (st := s_NoHouse___init__) l22 c22 k22
  have b22 := F22.binds (ps := ["self", "house"]) fun _ _ _ _ _ _ us hl => match us, hl with | [_, _], _ => rfl
  have ECN : ErrC K mg CF CN f22 "NoHouse" ["house"] := ⟨⟨⟨_, _, _, _, _, _, _, _, _, _, _, _, _, _, _, lEN, vEN⟩, sEN, eEN, yEN, kEN⟩, a22, tIN, (List.forall_mem_singleton.mpr nN_house), PySem.W.mg_of X G aaN, ⟨xgN, xhN, eEN, hEN⟩, exm_is eEN iEN yEN ssN, kit_ref iF yF sfN, kit_VE svN⟩
  have F23 := fun_mk (st := s_Twice___init__) l23 c23 k23
  have b23 := F23.binds (ps := ["self", "house"]) fun _ _ _ _ _ _ us hl => match us, hl with | [_, _], _ => rfl
  have ECT : ErrC K mg CF CT f23 "Twice" ["house"] := ⟨⟨⟨_, _, _, _, _, _, _, _, _, _, _, _, _, _, _, lET, vET⟩, sET, eET, yET, kET⟩, a23, tIT, (List.forall_mem_singleton.mpr nT_house), PySem.W.mg_of X G aaT, ⟨xgT, xhT, eET, hET⟩, exm_is eET iET yET ssT, kit_ref iF yF sfT, kit_VE svT⟩
  have gCC0 := PySem.W.mg_of X G aCC0
  have clCC0 : Cls K CC0 := ⟨pgCC0, hdCC0, poCC0, saCC0⟩
  have gCO := PySem.W.mg_of X G aCO
  have clCO : Cls K CO := ⟨pgCO, hdCO, poCO, saCO⟩
  have CCf : CelC K CC0 := ⟨clCC0, noCC0_n, noCC0_held⟩
  have OCf : ColC K CO := ⟨clCO, noCO_n, noCO_own, noCO_turns, noCO_turn, noCO_so_far, noCO_full⟩
  have apart : PySem.W.exmOne K (.ref CN) (.ref CT) = some false := exm_is eET iET yET ap
  obtain ⟨gA, bK0⟩ := kbn0 F18
  obtain ⟨gB, bK1⟩ := kbn1 F18
  refine ⟨PySem.W.fnOf "law" "law" (defArgs s_law) (defBody s_law) (defScope s_law) .none kV11 dc11 pm11 an11 cd11 ct11, fun s v => .of_eq rfl, fun base _ _ => ?_⟩
  have OcelI := ok_celI (P := l.prog) (w := w) (base := base) (mg := mg) F13 CCf
  have Ochk := ok_chk (P := l.prog) (w := w) (base := base) (mg := mg) F17 T CCf F12 b12 g12
  have OchkB := ok_chkB (P := l.prog) (w := w) (base := base) (mg := mg) F17 T CCf FM ECN F22 b22 F12 b12 g12
  have Ord := ok_rd (P := l.prog) (w := w) (base := base) (mg := mg) F16 T CCf (⟨a17, i17, k17⟩ : Meth K CC0 "_check_house" f17) b17 Ochk
  have OrdB := ok_rdB (P := l.prog) (w := w) (base := base) (mg := mg) F16 CCf (⟨a17, i17, k17⟩ : Meth K CC0 "_check_house" f17) b17 OchkB
  have Oshw := ok_shw (P := l.prog) (w := w) (base := base) (mg := mg) F14 T CCf
  have Owr := ok_wr (P := l.prog) (w := w) (base := base) (mg := mg) F15 CCf (⟨a17, i17, k17⟩ : Meth K CC0 "_check_house" f17) b17 Ochk
  have OwrT := ok_wrT (P := l.prog) (w := w) (base := base) (mg := mg) F15 CCf FM ECT F23 b23 (⟨a17, i17, k17⟩ : Meth K CC0 "_check_house" f17) b17 Ochk
  have OwrN := ok_wrN (P := l.prog) (w := w) (base := base) (mg := mg) F15 CCf (⟨a17, i17, k17⟩ : Meth K CC0 "_check_house" f17) b17 OchkB
  have OwrU : FnOk l.prog w K mg base (L2.CX l.prog w) 4 f15 _ ["self", "house", "value"] (spWrU K CC0 CN CT) := Fv.FnOk.or OwrT OwrN
  have Ofgt := ok_fgt (P := l.prog) (w := w) (base := base) (mg := mg) F19 OCf
  have OcolI := ok_colI (P := l.prog) (w := w) (base := base) (mg := mg) F18 T OCf (⟨a19, i19, k19⟩ : Meth K CO "forget" f19) b19 Ofgt
  have Ordf := ok_rdf (P := l.prog) (w := w) (base := base) (mg := mg) F20 CCf OCf (⟨a16, i16, k16⟩ : Meth K CC0 "read" f16) b16 Ord
  have Ostb := ok_stb (P := l.prog) (w := w) (base := base) (mg := mg) F21 T OCf
  have Oref := ok_ref (P := l.prog) (w := w) (base := base) (mg := mg) F3 T CCf FM ECN ECT apart (⟨a15, i15, k15⟩ : Meth K CC0 "write" f15) b15 OwrU
  have OnoC := ok_noC (P := l.prog) (w := w) (base := base) (mg := mg) F4 T CCf FM ECN (⟨a16, i16, k16⟩ : Meth K CC0 "read" f16) b16 OrdB
  have Otrn := ok_trn (P := l.prog) (w := w) (base := base) (mg := mg) F7 T CCf OCf F5 b5 g5 (⟨a20, i20, k20⟩ : Meth K CO "read_from" f20) b20 Ordf
  have Olik := ok_lik (P := l.prog) (w := w) (base := base) (mg := mg) F8 T OCf F0 b0 g0 F5 b5 g5 (⟨a21, i21, k21⟩ : Meth K CO "stable_view" f21) b21 Ostb
  exact ok_law F11 T CCf OCf F1 b1 g1 F2 b2 g2 (⟨mkCC0, a13, i13, kcCC0⟩ : Mk K CC0 f13) gCC0 b13 OcelI (⟨mkCO, a18, i18, kcCO⟩ : Mk K CO f18) gCO bK0 bK1 OcolI F0 b0 g0 F6 b6 g6 F8 b8 g8 Olik F9 b9 g9 F10 b10 g10 F3 b3 g3 Oref F4 b4 g4 OnoC F7 b7 g7 Otrn (⟨a19, i19, k19⟩ : Meth K CO "forget" f19) b19 Ofgt (⟨a21, i21, k21⟩ : Meth K CO "stable_view" f21) b21 Ostb (⟨a16, i16, k16⟩ : Meth K CC0 "read" f16) b16 Ord (⟨a15, i15, k15⟩ : Meth K CC0 "write" f15) b15 Owr (⟨a14, s14, t14, ⟨rest14, r14⟩⟩ : PropOf K CC0 "shown" p14 f14) b14 Oshw
end
theorem walk {l : PySem.W.OpenLaw} {q : Program} {loose : List Str} {XP : (Str → Option Value) → Heap → Prop} {YP : World → Heap → Prop} {d : DefRec} {K : Params → PySem.W.Frag} (hn : l.most = some 63) (hdf : d.params.defaults = [])
    (hY : ∀ (w : World) (h : Heap), YP w h → (K w.params).In h)
    (F : ∀ (w : World) (mg : Str → Option Value) (fa : Addr) (h : Heap), (K w.params).In h → h.Ns mainGlobals mg → mg d.name = some (.ref fa) →
      ∃ fd : FuncData, (∀ (s : Shared) (u : Value), BindsTo s fd ⟨[u], []⟩ [("_law_script", u)]) ∧ ∀ base : Heap, (K w.params).In base → base.Ns mainGlobals mg → FnOk l.prog w (K w.params) mg base CX0 6 fa fd ["_law_script"] (spLaw (K w.params))) :
    PySem.W.WalkO q loose XP YP l.row.toRowW d [] (fun f vs => PySem.call f vs) :=
  L2.walk_of (n := 63) (k := 6) (x := "_law_script") (CX := fun _ => CX0) (sp := fun w => spLaw (K w.params)) hn (by decide) hdf ⟨rfl, by decide, by decide⟩ hY F (fun _ _ a ns _ _ hS => ⟨a, ns, rfl, hS, fun _ => rfl⟩) fun _ _ _ _ _ z => z
end KH
open PySem PySem.W PyProof.Rows
set_option maxRecDepth 100000 in
set_option maxHeartbeats 0 in
theorem PySem.Challenge.cw_firmvalues_k40_whole_collects_amid_write_holds : PySem.Challenge.rw_firmvalues_k40_whole_collects_amid_write.Holds := by
  w_on; o_law; k_head; (case hw => w_witness2)
  k_fill
  refine KH.walk (l := PySem.Challenge.rw_firmvalues_k40_whole_collects_amid_write) rfl rfl (fun w h Y => PySem.W.kIn_of Y) ?F
  case F =>
    intro w mg fa h KX G hmg
    refine' KH.all_mk KX G hmg ?aCC0 ?aCO ?a0 ?l0 ?c0 ?k0 ?a1 ?l1 ?c1 ?k1 ?a2 ?l2 ?c2 ?k2 ?a3 ?l3 ?c3 ?k3 ?a4 ?l4 ?c4 ?k4 ?a5 ?l5 ?c5 ?k5 ?a6 ?l6 ?c6 ?k6 ?a7 ?l7 ?c7 ?k7 ?a8 ?l8 ?c8 ?k8 ?a9 ?l9 ?c9 ?k9 ?a10 ?l10 ?c10 ?k10 ?a11 ?l11 ?c11 ?k11 ?a12 ?l12 ?c12 ?k12 ?lT ?a13 ?i13 ?l13 ?c13 ?k13 ?a14 ?s14 ?t14 ?r14 ?l14 ?c14 ?k14 ?a15 ?i15 ?l15 ?c15 ?k15 ?a16 ?i16 ?l16 ?c16 ?k16 ?a17 ?i17 ?l17 ?c17 ?k17 ?a18 ?i18 ?l18 ?c18 ?k18 ?kd18 ?a19 ?i19 ?l19 ?c19 ?k19 ?a20 ?i20 ?l20 ?c20 ?k20 ?a21 ?i21 ?l21 ?c21 ?k21 ?aF ?rdF ?gaF ?vF ?iF ?yF ?aaN ?a22 ?tIN ?l22 ?c22 ?k22 ?lEN ?vEN ?sEN ?eEN ?yEN ?kEN ?iEN ?xgN ?xhN ?hEN ?ssN ?sfN ?svN ?nN_house ?aaT ?a23 ?tIT ?l23 ?c23 ?k23 ?lET ?vET ?sET ?eET ?yET ?kET ?iET ?xgT ?xhT ?hET ?ssT ?sfT ?svT ?nT_house ?z_isinstance ?z_list ?z_tuple ?z_bool ?z_int ?z_str ?z_all ?z_any ?z_range ?z_sorted ?z_set ?z_max ?z_len ?z_min ?z_repr ?pgCC0 ?hdCC0 ?poCC0 ?saCC0 ?mkCC0 ?kcCC0 ?noCC0_n ?noCC0_held ?pgCO ?hdCO ?poCO ?saCO ?mkCO ?kcCO ?noCO_n ?noCO_own ?noCO_turns ?noCO_turn ?noCO_so_far ?noCO_full ?ap
    (case aCC0 => k_is)
    (case aCO => k_is)
    (case a0 => k_is)
    (case l0 => k_is)
    (case c0 => k_is)
    (case k0 => k_is)
    (case a1 => k_is)
    (case l1 => k_is)
    (case c1 => k_is)
    (case k1 => k_is)
    (case a2 => k_is)
    (case l2 => k_is)
    (case c2 => k_is)
    (case k2 => k_is)
    (case a3 => k_is)
    (case l3 => k_is)
    (case c3 => k_is)
    (case k3 => k_is)
    (case a4 => k_is)
    (case l4 => k_is)
    (case c4 => k_is)
    (case k4 => k_is)
    (case a5 => k_is)
    (case l5 => k_is)
    (case c5 => k_is)
    (case k5 => k_is)
    (case a6 => k_is)
    (case l6 => k_is)
    (case c6 => k_is)
    (case k6 => k_is)
    (case a7 => k_is)
    (case l7 => k_is)
    (case c7 => k_is)
    (case k7 => k_is)
    (case a8 => k_is)
    (case l8 => k_is)
    (case c8 => k_is)
    (case k8 => k_is)
    (case a9 => k_is)
    (case l9 => k_is)
    (case c9 => k_is)
    (case k9 => k_is)
    (case a10 => k_is)
    (case l10 => k_is)
    (case c10 => k_is)
    (case k10 => k_is)
    (case a11 => k_is)
    (case l11 => k_is)
    (case c11 => k_is)
    (case k11 => k_is)
    (case a12 => k_is)
    (case l12 => k_is)
    (case c12 => k_is)
    (case k12 => k_is)
    (case lT => k_is)
    (case a13 => k_is)
    (case i13 => k_is)
    (case l13 => k_is)
    (case c13 => k_is)
    (case k13 => k_is)
    (case a14 => k_is)
    (case s14 => k_is)
    (case t14 => k_is)
    (case r14 => k_is)
    (case l14 => k_is)
    (case c14 => k_is)
    (case k14 => k_is)
    (case a15 => k_is)
    (case i15 => k_is)
    (case l15 => k_is)
    (case c15 => k_is)
    (case k15 => k_is)
    (case a16 => k_is)
    (case i16 => k_is)
    (case l16 => k_is)
    (case c16 => k_is)
    (case k16 => k_is)
    (case a17 => k_is)
    (case i17 => k_is)
    (case l17 => k_is)
    (case c17 => k_is)
    (case k17 => k_is)
    (case a18 => k_is)
    (case i18 => k_is)
    (case l18 => k_is)
    (case c18 => k_is)
    (case k18 => k_is)
    (case kd18 => k_is)
    (case a19 => k_is)
    (case i19 => k_is)
    (case l19 => k_is)
    (case c19 => k_is)
    (case k19 => k_is)
    (case a20 => k_is)
    (case i20 => k_is)
    (case l20 => k_is)
    (case c20 => k_is)
    (case k20 => k_is)
    (case a21 => k_is)
    (case i21 => k_is)
    (case l21 => k_is)
    (case c21 => k_is)
    (case k21 => k_is)
    (case aF => k_is)
    (case rdF => k_is)
    (case gaF => k_is)
    (case vF => k_is)
    (case iF => k_is)
    (case yF => k_is)
    (case aaN => k_is)
    (case a22 => k_is)
    (case tIN => k_is)
    (case l22 => k_is)
    (case c22 => k_is)
    (case k22 => k_is)
    (case lEN => k_is)
    (case vEN => decide +kernel)
    (case sEN => k_is)
    (case eEN => k_is)
    (case yEN => k_is)
    (case kEN => k_is)
    (case iEN => k_is)
    (case xgN => k_is)
    (case xhN => k_is)
    (case hEN => k_is)
    (case ssN => k_is)
    (case sfN => k_is)
    (case svN => k_is)
    (case nN_house => k_is)
    (case aaT => k_is)
    (case a23 => k_is)
    (case tIT => k_is)
    (case l23 => k_is)
    (case c23 => k_is)
    (case k23 => k_is)
    (case lET => k_is)
    (case vET => decide +kernel)
    (case sET => k_is)
    (case eET => k_is)
    (case yET => k_is)
    (case kET => k_is)
    (case iET => k_is)
    (case xgT => k_is)
    (case xhT => k_is)
    (case hET => k_is)
    (case ssT => k_is)
    (case sfT => k_is)
    (case svT => k_is)
    (case nT_house => k_is)
    (case z_isinstance => k_is)
    (case z_list => k_is)
    (case z_tuple => k_is)
    (case z_bool => k_is)
    (case z_int => k_is)
    (case z_str => k_is)
    (case z_all => k_is)
    (case z_any => k_is)
    (case z_range => k_is)
    (case z_sorted => k_is)
    (case z_set => k_is)
    (case z_max => k_is)
    (case z_len => k_is)
    (case z_min => k_is)
    (case z_repr => k_is)
    (case pgCC0 => k_is)
    (case hdCC0 => k_is)
    (case poCC0 => k_is)
    (case saCC0 => k_is)
    (case mkCC0 => k_is)
    (case kcCC0 => k_is)
    (case noCC0_n => k_is)
    (case noCC0_held => k_is)
    (case pgCO => k_is)
    (case hdCO => k_is)
    (case poCO => k_is)
    (case saCO => k_is)
    (case mkCO => k_is)
    (case kcCO => k_is)
    (case noCO_n => k_is)
    (case noCO_own => k_is)
    (case noCO_turns => k_is)
    (case noCO_turn => k_is)
    (case noCO_so_far => k_is)
    (case noCO_full => k_is)
    (case ap => k_is)
