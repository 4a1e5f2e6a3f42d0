import PyProof.Rows.All
import Wide.All
import OpenK.AllK
import Wide.FinOn
import HandS.ForMost
import HandS.Base
import HandS.Call
import HandS.List
import HandS.Comp
import HandS.Ends
import HandS.Evl
import HandS.Words
import HandS.IsInst
import HandS.Deep
import HandS.Conv
import HandS.Flow
import HandS.Star
import HandS.TupAny
import HandS.SetFor
import HandS.SortKw
import HandS.Strs
import KE.DataMinMax
import KE.SortData
import HandS.Dict
import HandS.DictComp
import KE.SortCalls
import HandS.ClsMeth
import HandS.Property
import HandS.Style
import HandS.ExcInit
import HandS.ExcField
import HandS.ExcIs
import PyProof.ReprRoads
import PyProof.ReprReads
import HandS.ExcOwn
import KE.KIsAll
import KE.KMatchCls
import HandS.Small
import PyProof.Rows.TupMore
import HandS.HotCalls
import HandS.Text
import HandS.More
import HandS.SuiteRaise
import HandS.RaiseFrom
import HandS.ExcInitHot
import HandS.WordsList
import HandS.Exc
import HandS.WordsExc
import HandS.Defaults
import PySem.Challenge.RW_firmvalues_k03_first_refusals_of_inputs
import HandS.Wide
import HandS.FStr
import HandS.SortInts
set_option Elab.async false
set_option linter.all false
set_option maxRecDepth 100000
set_option maxHeartbeats 8000000
/-! fv: what an expression evaluates to, over a part of the heap that stays -/
namespace Fv
open PySem L2 Evl

/-! ### data in the heap: lists stand in the heap itself, tuples are read -/
mutual
inductive Rp (K : PySem.W.Frag) (H : Hp) : V → PyData → Prop
  | non : Rp K H .non .none
  | bl (b : Bool) : Rp K H (.bl b) (.bool b)
  | int (i : Int) : Rp K H (.int i) (.int i)
  | str (x : Str) : Rp K H (.str x) (.str x)
  | lst {a : Addr} {xs : List V} {ds : List PyData} : H a = some (.lst xs) → RpAll K H xs ds → Rp K H (.ref a) (.list ds)
  | tup {a : Addr} {xs : List V} {ds : List PyData} : H a = some (.tup xs) → RpAll K H xs ds → Rp K H (.ref a) (.tuple ds)
inductive RpAll (K : PySem.W.Frag) (H : Hp) : List V → List PyData → Prop
  | nil : RpAll K H [] []
  | cons {v : V} {vs : List V} {d : PyData} {ds : List PyData} : Rp K H v d → RpAll K H vs ds → RpAll K H (v :: vs) (d :: ds)
end
section
variable {K : PySem.W.Frag} {H H' : Hp}
mutual
theorem Rp.mono (e : Ex H H') : ∀ (d : PyData) (v : V), Rp K H v d → Rp K H' v d
  | .none, _, h => by cases h; exact .non
  | .bool b, _, h => by cases h; exact .bl b
  | .int i, _, h => by cases h; exact .int i
  | .str x, _, h => by cases h; exact .str x
  | .list ds, _, h => by
    cases h with
    | lst hs ha => exact .lst (e _ _ hs) (RpAll.mono e ds _ ha)
  | .tuple ds, _, h => by
    cases h with
    | tup hs ha => exact .tup (e _ _ hs) (RpAll.mono e ds _ ha)
  | .dict _, _, h => by cases h
theorem RpAll.mono (e : Ex H H') : ∀ (ds : List PyData) (vs : List V), RpAll K H vs ds → RpAll K H' vs ds
  | [], _, h => by cases h; exact .nil
  | d :: ds, _, h => by
    cases h with
    | cons h1 h2 => exact .cons (Rp.mono e d _ h1) (RpAll.mono e ds _ h2)
end
mutual
theorem Rp.dp : ∀ (d : PyData) (v : V), Rp K H v d → Dp K H v d
  | .none, _, h => by cases h; exact .non
  | .bool b, _, h => by cases h; exact .bl b
  | .int i, _, h => by cases h; exact .int i
  | .str x, _, h => by cases h; exact .str x
  | .list ds, _, h => by
    cases h with
    | lst hs ha => exact .lst (.inl (.inl hs)) (RpAll.dp ds _ ha)
  | .tuple ds, _, h => by
    cases h with
    | tup hs ha => exact .tup (st_of hs) (RpAll.dp ds _ ha)
  | .dict _, _, h => by cases h
theorem RpAll.dp : ∀ (ds : List PyData) (vs : List V), RpAll K H vs ds → DpAll K H vs ds
  | [], _, h => by cases h; exact .nil
  | d :: ds, _, h => by
    cases h with
    | cons h1 h2 => exact .cons (Rp.dp d _ h1) (RpAll.dp ds _ h2)
end
theorem RpAll.length : ∀ {ds : List PyData} {vs : List V}, RpAll K H vs ds → vs.length = ds.length
  | [], _, h => by cases h; rfl
  | d :: ds, _, h => by
    cases h with
    | cons h1 h2 => simp [RpAll.length h2]
theorem RpAll.append : ∀ {ds es : List PyData} {vs ws : List V}, RpAll K H vs ds → RpAll K H ws es → RpAll K H (vs ++ ws) (ds ++ es)
  | [], _, _, _, h, k => by cases h; exact k
  | d :: ds, _, _, _, h, k => by
    cases h with
    | cons h1 h2 => exact .cons h1 (RpAll.append h2 k)
theorem RpAll.get : ∀ {ds : List PyData} {vs : List V} {i : Nat} {v : V}, RpAll K H vs ds → vs[i]? = some v → ∃ d, ds[i]? = some d ∧ Rp K H v d
  | [], _, _, _, h, e => by cases h; simp at e
  | d :: ds, _, 0, _, h, e => by
    cases h with
    | cons h1 h2 => simp at e; subst e; exact ⟨d, rfl, h1⟩
  | d :: ds, _, i + 1, _, h, e => by
    cases h with
    | cons h1 h2 =>
      obtain ⟨d', e1, r⟩ := RpAll.get h2 (by simpa using e)
      exact ⟨d', by simpa using e1, r⟩
theorem RpAll.getD : ∀ {ds : List PyData} {vs : List V} {i : Nat} {d : PyData}, RpAll K H vs ds → ds[i]? = some d → ∃ v, vs[i]? = some v ∧ Rp K H v d
  | [], _, _, _, h, e => by simp at e
  | d :: ds, _, 0, _, h, e => by
    cases h with
    | cons h1 h2 => simp at e; subst e; exact ⟨_, rfl, h1⟩
  | d :: ds, _, i + 1, _, h, e => by
    cases h with
    | cons h1 h2 =>
      obtain ⟨v, e1, r⟩ := RpAll.getD h2 (by simpa using e)
      exact ⟨v, by simpa using e1, r⟩
theorem RpAll.one {v : V} {d : PyData} (h : Rp K H v d) : RpAll K H [v] [d] := .cons h .nil
theorem rp_int {v : V} {i : Int} (h : Rp K H v (.int i)) : v = .int i := by cases h; rfl
theorem rp_bool {v : V} {b : Bool} (h : Rp K H v (.bool b)) : v = .bl b := by cases h; rfl
theorem rp_none {v : V} (h : Rp K H v .none) : v = .non := by cases h; rfl
theorem rp_str {v : V} {x : Str} (h : Rp K H v (.str x)) : v = .str x := by cases h; rfl
theorem rp_tup {v : V} {ds : List PyData} (h : Rp K H v (.tuple ds)) : ∃ a xs, v = .ref a ∧ H a = some (.tup xs) ∧ RpAll K H xs ds := by
  cases h with
  | tup hs ha => exact ⟨_, _, rfl, hs, ha⟩
theorem rp_lst {v : V} {ds : List PyData} (h : Rp K H v (.list ds)) : ∃ a xs, v = .ref a ∧ H a = some (.lst xs) ∧ RpAll K H xs ds := by
  cases h with
  | lst hs ha => exact ⟨_, _, rfl, hs, ha⟩
theorem rpAll_ints : ∀ {ns : List Int} {vs : List V}, RpAll K H vs (ns.map PyData.int) → vs = ns.map V.int
  | [], _, h => by cases h; rfl
  | n :: ns, _, h => by
    cases h with
    | cons h1 h2 => rw [rp_int h1, rpAll_ints h2]; rfl
theorem rpAll_of_ints : ∀ (ns : List Int), RpAll K H (ns.map V.int) (ns.map PyData.int)
  | [] => .nil
  | n :: ns => .cons (.int n) (rpAll_of_ints ns)
theorem rpAll_bools : ∀ {bs : List Bool} {vs : List V}, RpAll K H vs (bs.map PyData.bool) → vs = bs.map V.bl
  | [], _, h => by cases h; rfl
  | b :: bs, _, h => by
    cases h with
    | cons h1 h2 => rw [rp_bool h1, rpAll_bools h2]; rfl
end

theorem tx {K : PySem.W.Frag} {H H' : Hp} {a : Addr} {xs : List V} (e : Ex H H') (h : H a = some (.tup xs)) : SqT K H' a xs := st_of (e _ _ h)
/-! ### the part that stays, and what may change -/
/-- what F2 has more than F was not there before -/
def New (F H F2 : Hp) : Prop := ∀ a, F a = none → H a ≠ none → F2 a = none
/-- the law's pot: three numbers and a list of numbers, which stays -/
structure Pt where
  p : Addr
  l : Addr
  ns : List Int
structure PotAt (H : Hp) (q : Pt) : Prop where
  ne : q.l ≠ q.p
  ls : H q.l = some (.lst (q.ns.map V.int))
  few : q.ns.length ≤ 60
  ex : ∃ (a b c : Int), H q.p = some (.lst [.int a, .int b, .int c, .ref q.l]) ∧ 0 ≤ a ∧ 0 ≤ b ∧ b < 2147483647 ∧ 0 ≤ c ∧ c ≤ q.ns.length
def Keep (pt : Option Pt) (H H' : Hp) : Prop := ∀ a o, (∀ q, pt = some q → a ≠ q.p) → H a = some o → H' a = some o
def Good (pt : Option Pt) (F H : Hp) : Prop := ∀ q, pt = some q → F q.p = none ∧ PotAt H q
theorem PotAt.some {H : Hp} {q : Pt} (h : PotAt H q) : H q.p ≠ none := by
  obtain ⟨a, b, c, e, _⟩ := h.ex
  rw [e]; simp
theorem Keep.refl (pt : Option Pt) (H : Hp) : Keep pt H H := fun _ _ _ h => h
theorem Keep.trans {pt : Option Pt} {H H1 H2 : Hp} (a : Keep pt H H1) (b : Keep pt H1 H2) : Keep pt H H2 := fun x o n h => b x o n (a x o n h)
theorem Keep.of {pt : Option Pt} {H H1 : Hp} (a : Ex H H1) : Keep pt H H1 := fun x o _ h => a x o h
theorem Keep.ex {H H1 : Hp} (a : Keep none H H1) : Ex H H1 := fun x o h => a x o (fun _ z => by cases z) h
theorem Good.nil {F H : Hp} : Good none F H := fun _ h => by cases h
theorem PotAt.mono {H H' : Hp} {q : Pt} (h : PotAt H q) (e : Ex H H') : PotAt H' q := by
  obtain ⟨a, b, c, h1, r⟩ := h.ex
  exact ⟨h.ne, e _ _ h.ls, h.few, a, b, c, e _ _ h1, r⟩
theorem Good.less {pt : Option Pt} {F F' H : Hp} (g : Good pt F' H) (e : Ex F F') : Good pt F H := fun p hp => by
  refine ⟨?_, (g p hp).2⟩
  cases w : F p.p with
  | none => rfl
  | some o =>
    have h := (g p hp).1
    rw [e p.p o w] at h
    cases h
/-- what F knows stays where only the pot changes -/
theorem Keep.sub {pt : Option Pt} {F H H1 : Hp} (k : Keep pt H H1) (g : Good pt F H) (e : Ex F H) : Ex F H1 := fun a o h => by
  refine k a o (fun q z w => ?_) (e a o h)
  have := (g q z).1
  rw [← w, h] at this
  cases this
theorem New.refl (F H : Hp) : New F H F := fun _ h _ => h
/-- there before -/
theorem Keep.there {pt : Option Pt} {H H1 : Hp} (k : Keep pt H H1) {F F1 : Hp} (g : Good pt F1 H1) {a : Addr} (h : H a ≠ none) : H1 a ≠ none := by
  cases e : H a with
  | none => exact absurd e h
  | some o =>
    by_cases z : ∃ q, pt = some q ∧ a = q.p
    · obtain ⟨q, z1, z2⟩ := z
      rw [z2]; exact (g q z1).2.some
    · rw [k a o (fun q w1 w2 => z ⟨q, w1, w2⟩) e]; simp
/-- what a piece leaves: F grew to F2, H became H2 -/
structure Step (pt : Option Pt) (F H F2 H2 : Hp) : Prop where
  sub : Ex F F2
  inn : Ex F2 H2
  keep : Keep pt H H2
  good : Good pt F2 H2
  new : New F H F2
theorem Step.refl {pt : Option Pt} {F H : Hp} (e : Ex F H) (g : Good pt F H) : Step pt F H F H := ⟨Ex.refl F, e, Keep.refl pt H, g, New.refl F H⟩
theorem Step.trans {pt : Option Pt} {F H F1 H1 F2 H2 : Hp} (a : Step pt F H F1 H1) (b : Step pt F1 H1 F2 H2) : Step pt F H F2 H2 :=
  ⟨a.sub.trans b.sub, b.inn, a.keep.trans b.keep, b.good, fun x h1 h2 => b.new x (a.new x h1 h2) (a.keep.there (F := F) a.good h2)⟩
/-- two parts together -/
def join (F G : Hp) : Hp := fun a => match F a with | some o => some o | none => G a
theorem join_l {F G : Hp} : Ex F (join F G) := fun a o h => by unfold join; rw [h]
theorem join_r {F G H : Hp} (f : Ex F H) (g : Ex G H) : Ex G (join F G) := fun a o h => by
  unfold join
  cases e : F a with
  | none => exact h
  | some u =>
    have h1 := f a u e
    rw [g a o h] at h1
    exact h1.symm
theorem join_in {F G H : Hp} (f : Ex F H) (g : Ex G H) : Ex (join F G) H := fun a o h => by
  unfold join at h
  cases e : F a with
  | none =>
    rw [e] at h
    exact g a o h
  | some u =>
    rw [e] at h
    have z := f a u e
    rw [z]
    exact h
theorem join_none {F G : Hp} {a : Addr} (f : F a = none) (g : G a = none) : join F G a = none := by unfold join; rw [f]; exact g
/-- the same piece seen from a greater part -/
theorem Step.wide {pt : Option Pt} {F F' H F2 H2 : Hp} (e : Ex F F') (e' : Ex F' H) (g : Good pt F' H) (s : Step pt F H F2 H2) : Step pt F' H (join F2 F') H2 := by
  have k : Ex F' H2 := s.keep.sub g e'
  refine ⟨join_r s.inn k, join_in s.inn k, s.keep, fun p hp => ⟨join_none (s.good p hp).1 (g p hp).1, (s.good p hp).2⟩, fun a h1 h2 => join_none (s.new a ?_ h2) h1⟩
  cases q : F a with
  | none => rfl
  | some o => rw [e a o q] at h1; cases h1
/-- a piece that changes nothing, where a pot stands -/
theorem Step.lift {pt : Option Pt} {F H F2 H2 : Hp} (g : Good pt F H) (s : Step none F H F2 H2) : Step pt F H F2 H2 :=
  ⟨s.sub, s.inn, Keep.of s.keep.ex, fun p hp => ⟨s.new p.p (g p hp).1 (g p hp).2.some, (g p hp).2.mono s.keep.ex⟩, s.new⟩
/-- a new object is laid and stays -/
theorem Step.laid {pt : Option Pt} {F H : Hp} {p : Addr} {o : HO} (e : Ex F H) (g : Good pt F H) (hp : H p = none) : Step pt F H (upd F p o) (upd H p o) := by
  have fp : F p = none := by
    cases q : F p with
    | none => rfl
    | some u => rw [e p u q] at hp; cases hp
  refine ⟨Ex.new fp, fun a u h => ?_, Keep.of (Ex.new hp), fun x hx => ?_, fun a h1 h2 => ?_⟩
  · by_cases z : a = p
    · rw [z, upd_same] at h ⊢; exact h
    · rw [upd_ne z] at h ⊢; exact e a _ h
  · obtain ⟨q1, q2⟩ := g x hx
    have hxp : x.p ≠ p := fun z => q2.some (by rw [z]; exact hp)
    exact ⟨by rw [upd_ne hxp]; exact q1, q2.mono (Ex.new hp)⟩
  · have z : a ≠ p := fun z => h2 (by rw [z]; exact hp)
    rw [upd_ne z]; exact h1

/-! ### what evaluates to what -/
abbrev PD := PyData → Prop
def EvG (K : PySem.W.Frag) (pt : Option Pt) (te : TE) (σ : L2.St) (F : Hp) (R : PD) : Prop :=
  ∀ H1, Ex F H1 → Good pt F H1 → ∀ Q : VK, (∀ d v F2 H2, R d → Step pt F H1 F2 H2 → Rp K F2 v d → Q v H2) → te σ H1 Q
def EvsG (K : PySem.W.Frag) (pt : Option Pt) (ta : TA) (σ : L2.St) (F : Hp) (R : List PyData → Prop) : Prop :=
  ∀ H1, Ex F H1 → Good pt F H1 → ∀ Q : List V → Hp → Prop, (∀ ds vs F2 H2, R ds → Step pt F H1 F2 H2 → RpAll K F2 vs ds → Q vs H2) → ta σ H1 Q
def EtG (pt : Option Pt) (tt : TT) (σ : L2.St) (F : Hp) (R : Bool → Prop) : Prop :=
  ∀ H1, Ex F H1 → Good pt F H1 → ∀ Q : Bool → Hp → Prop, (∀ b F2 H2, R b → Step pt F H1 F2 H2 → Q b H2) → tt σ H1 Q
/-- operations on values -/
def RvG (K : PySem.W.Frag) (r : L2.R2) (d e : PyData) (R : PD) : Prop := ∀ F H x y, Ex F H → Rp K F x d → Rp K F y e → ∀ Q : VK, (∀ z v F2 H2, R z → Step none F H F2 H2 → Rp K F2 v z → Q v H2) → r x y H Q
def RcG (K : PySem.W.Frag) (r : List V → Hp → VK → Prop) (ds : List PyData) (R : PD) : Prop := ∀ F H vs, Ex F H → RpAll K F vs ds → ∀ Q : VK, (∀ z v F2 H2, R z → Step none F H F2 H2 → Rp K F2 v z → Q v H2) → r vs H Q
/-- the same d -/
abbrev Is (d : PyData) : PD := fun x => x = d
section
variable {K : PySem.W.Frag} {pt : Option Pt} {σ : L2.St} {F F' : Hp} {te ta tb : TE} {ts tr : TA} {t u : TT} {R R1 S2 R3 : PD} {d e z : PyData} {r : L2.R2}
theorem EvG.mono (h : EvG K pt te σ F R) (e : Ex F F') : EvG K pt te σ F' R := fun H1 i g Q q =>
  h H1 (e.trans i) (g.less e) Q fun d v F2 H2 hr s hv => q d v _ H2 hr (s.wide e i g) (Rp.mono join_l _ _ hv)
theorem EvG.lift (h : EvG K none te σ F R) : EvG K pt te σ F R := fun H1 i g Q q => h H1 i .nil Q fun d v F2 H2 hr s hv => q d v F2 H2 hr (s.lift g) hv
theorem EvG.imp (h : EvG K pt te σ F R) (k : ∀ d, R d → R1 d) : EvG K pt te σ F R1 := fun H1 i g Q q => h H1 i g Q fun d v F2 H2 hr s hv => q d v F2 H2 (k d hr) s hv
theorem EvG.is (h : EvG K pt te σ F (Is d)) (k : d = e) : EvG K pt te σ F (Is e) := k ▸ h
theorem EtG.mono {R : Bool → Prop} (h : EtG pt t σ F R) (e : Ex F F') : EtG pt t σ F' R := fun H1 i g Q q =>
  h H1 (e.trans i) (g.less e) Q fun b F2 H2 hr s => q b _ H2 hr (s.wide e i g)
theorem EtG.lift {R : Bool → Prop} (h : EtG none t σ F R) : EtG pt t σ F R := fun H1 i g Q q => h H1 i .nil Q fun b F2 H2 hr s => q b F2 H2 hr (s.lift g)
theorem EtG.is {b c : Bool} (h : EtG pt t σ F (· = b)) (k : b = c) : EtG pt t σ F (· = c) := k ▸ h
theorem EvsG.mono {R : List PyData → Prop} (h : EvsG K pt ts σ F R) (e : Ex F F') : EvsG K pt ts σ F' R := fun H1 i g Q q =>
  h H1 (e.trans i) (g.less e) Q fun d v F2 H2 hr s hv => q d v _ H2 hr (s.wide e i g) (RpAll.mono join_l _ _ hv)

theorem g_var {i : Nat} {v : V} (h : σ[i]? = some (some v)) (hr : Rp K F v d) : EvG K pt (tVar i) σ F (Is d) := fun H1 e g Q q => ⟨v, h, q d v F H1 rfl (.refl e g) hr⟩
theorem g_int {i : Int} : EvG K pt (tC (.int i)) σ F (Is (.int i)) := fun H1 e g Q q => q _ _ F H1 rfl (.refl e g) (.int i)
theorem g_bl {b : Bool} : EvG K pt (tC (.bl b)) σ F (Is (.bool b)) := fun H1 e g Q q => q _ _ F H1 rfl (.refl e g) (.bl b)
theorem g_non : EvG K pt (tC .non) σ F (Is .none) := fun H1 e g Q q => q _ _ F H1 rfl (.refl e g) .non
theorem g_str {x : Str} : EvG K pt (tC (.str x)) σ F (Is (.str x)) := fun H1 e g Q q => q _ _ F H1 rfl (.refl e g) (.str x)
/-- two parts, one after the other; the second may know the first's value -/
theorem g_op (ha : EvG K pt ta σ F R1) (hb : EvG K pt tb σ F S2) (hr : ∀ d e, R1 d → S2 e → RvG K r d e R3) : EvG K pt (tOp r ta tb) σ F R3 := fun H1 i g Q q =>
  ha H1 i g _ fun d v F2 H2 hd s hv => hb.mono s.sub H2 s.inn s.good _ fun e w F3 H3 he s3 hw =>
    hr d e hd he F3 H3 v w s3.inn (Rp.mono s3.sub _ _ hv) hw Q fun z x F4 H4 hz s4 hx => q z x F4 H4 hz ((s.trans s3).trans (s4.lift s3.good)) hx
theorem gs_nil : EvsG K pt tNil σ F (· = []) := fun H1 i g Q q => q [] [] F H1 rfl (.refl i g) .nil
theorem gs_cons {R2 : List PyData → Prop} (ha : EvG K pt ta σ F R1) (hb : EvsG K pt tr σ F R2) : EvsG K pt (tCons ta tr) σ F (fun l => ∃ d ds, l = d :: ds ∧ R1 d ∧ R2 ds) := fun H1 i g Q q =>
  ha H1 i g _ fun d v F2 H2 hd s hv => hb.mono s.sub H2 s.inn s.good _ fun ds vs F3 H3 hds s3 hvs => q (d :: ds) (v :: vs) F3 H3 ⟨d, ds, rfl, hd, hds⟩ (s.trans s3) (.cons (Rp.mono s3.sub _ _ hv) hvs)
theorem gs_consI {ds : List PyData} (ha : EvG K pt ta σ F (Is d)) (hb : EvsG K pt tr σ F (· = ds)) : EvsG K pt (tCons ta tr) σ F (· = d :: ds) := fun H1 i g Q q =>
  gs_cons ha hb H1 i g Q fun l vs F2 H2 h s hv => by
    obtain ⟨d', ds', e, h1, h2⟩ := h
    exact q l vs F2 H2 (by rw [e, h1, h2]) s hv
theorem g_tup {R : List PyData → Prop} (h : EvsG K pt ts σ F R) (hz : ∀ ds, R ds → ds.length ≤ 100000) : EvG K pt (tTup ts) σ F (fun x => ∃ ds, x = .tuple ds ∧ R ds) := fun H1 i g Q q =>
  h H1 i g _ fun ds vs F2 H2 hd s hv => ⟨by rw [hv.length]; exact sz_of (hz ds hd), fun p hp => by
    have s3 : Step pt F2 H2 (upd F2 p (.tup vs)) (upd H2 p (.tup vs)) := .laid s.inn s.good hp
    exact q (.tuple ds) _ _ _ ⟨ds, rfl, hd⟩ (s.trans s3) (.tup upd_same (RpAll.mono s3.sub _ _ hv))⟩
theorem g_lst {R : List PyData → Prop} (h : EvsG K pt ts σ F R) (hz : ∀ ds, R ds → ds.length ≤ 100000) : EvG K pt (tLst ts) σ F (fun x => ∃ ds, x = .list ds ∧ R ds) := fun H1 i g Q q =>
  h H1 i g _ fun ds vs F2 H2 hd s hv => ⟨by rw [hv.length]; exact sz_of (hz ds hd), fun p hp => by
    have s3 : Step pt F2 H2 (upd F2 p (.lst vs)) (upd H2 p (.lst vs)) := .laid s.inn s.good hp
    exact q (.list ds) _ _ _ ⟨ds, rfl, hd⟩ (s.trans s3) (.lst upd_same (RpAll.mono s3.sub _ _ hv))⟩
theorem g_tupI {ds : List PyData} (h : EvsG K pt ts σ F (· = ds)) (hz : ds.length ≤ 100000) : EvG K pt (tTup ts) σ F (Is (.tuple ds)) := (g_tup h fun _ e => by rw [e]; exact hz).imp fun _ ⟨_, e, e2⟩ => by rw [e, e2]
theorem g_lstI {ds : List PyData} (h : EvsG K pt ts σ F (· = ds)) (hz : ds.length ≤ 100000) : EvG K pt (tLst ts) σ F (Is (.list ds)) := (g_lst h fun _ e => by rw [e]; exact hz).imp fun _ ⟨_, e, e2⟩ => by rw [e, e2]
/-- tests -/
theorem et_of {b : Bool} (h : EvG K pt te σ F (Is (.bool b))) : EtG pt (tTest te) σ F (· = b) := fun H1 i g Q q => h H1 i g _ fun d v F2 H2 hd s hv => by
  subst hd
  exact ⟨b, rp_bool hv, q b F2 H2 rfl s⟩
theorem et_B {b : Bool} (h : EvG K pt te σ F (Is (.bool b))) : EtG pt (tB te) σ F (· = b) := fun H1 i g Q q => h H1 i g _ fun d v F2 H2 hd s hv => by
  subst hd
  exact ⟨b, rp_bool hv, q b F2 H2 rfl s⟩
theorem et_yes : EtG pt tYes σ F (· = true) := fun H1 i g Q q => q true F H1 rfl (.refl i g)
theorem et_not {b : Bool} (h : EtG pt t σ F (· = b)) : EtG pt (tNot t) σ F (· = !b) := fun H1 i g Q q => h H1 i g _ fun c F2 H2 hc s => by
  subst hc
  exact q _ F2 H2 rfl s
theorem et_and {a b : Bool} (h1 : EtG pt t σ F (· = a)) (h2 : a = true → EtG pt u σ F (· = b)) : EtG pt (tAnd t u) σ F (· = (a && b)) := fun H1 i g Q q => h1 H1 i g _ fun c F2 H2 hc s => by
  subst hc
  cases c with
  | true => exact (h2 rfl).mono s.sub H2 s.inn s.good Q fun b' F3 H3 hb s3 => q b' F3 H3 (by rw [hb]; rfl) (s.trans s3)
  | false => exact q false F2 H2 rfl s
theorem et_or {a b : Bool} (h1 : EtG pt t σ F (· = a)) (h2 : a = false → EtG pt u σ F (· = b)) : EtG pt (tOr t u) σ F (· = (a || b)) := fun H1 i g Q q => h1 H1 i g _ fun c F2 H2 hc s => by
  subst hc
  cases c with
  | false => exact (h2 rfl).mono s.sub H2 s.inn s.good Q fun b' F3 H3 hb s3 => q b' F3 H3 (by rw [hb]; rfl) (s.trans s3)
  | true => exact q true F2 H2 rfl s
theorem g_andV {a b : Bool} (h1 : EvG K pt ta σ F (Is (.bool a))) (h2 : a = true → EvG K pt tb σ F (Is (.bool b))) : EvG K pt (tAndV ta tb) σ F (Is (.bool (a && b))) := fun H1 i g Q q => h1 H1 i g _ fun d v F2 H2 hd s hv => by
  subst hd
  refine ⟨a, rp_bool hv, ?_⟩
  cases a with
  | true => exact (h2 rfl).mono s.sub H2 s.inn s.good Q fun d' v' F3 H3 hd' s3 hv' => q d' v' F3 H3 hd' (s.trans s3) hv'
  | false => exact q _ _ F2 H2 rfl s (.bl false)
theorem g_orV {a b : Bool} (h1 : EvG K pt ta σ F (Is (.bool a))) (h2 : a = false → EvG K pt tb σ F (Is (.bool b))) : EvG K pt (tOrV ta tb) σ F (Is (.bool (a || b))) := fun H1 i g Q q => h1 H1 i g _ fun d v F2 H2 hd s hv => by
  subst hd
  refine ⟨a, rp_bool hv, ?_⟩
  cases a with
  | false => exact (h2 rfl).mono s.sub H2 s.inn s.good Q fun d' v' F3 H3 hd' s3 hv' => q d' v' F3 H3 hd' (s.trans s3) hv'
  | true => exact q _ _ F2 H2 rfl s (.bl true)
theorem g_notV {a : Bool} (h : EvG K pt ta σ F (Is (.bool a))) : EvG K pt (tNotV ta) σ F (Is (.bool (!a))) := fun H1 i g Q q => h H1 i g _ fun d v F2 H2 hd s hv => by
  subst hd
  exact ⟨a, rp_bool hv, q _ _ F2 H2 rfl s (.bl _)⟩
theorem g_if {b : Bool} (h : EtG pt t σ F (· = b)) (h1 : b = true → EvG K pt ta σ F R) (h2 : b = false → EvG K pt tb σ F R) : EvG K pt (tIf t ta tb) σ F R := fun H1 i g Q q => h H1 i g _ fun c F2 H2 hc s => by
  subst hc
  cases c with
  | true => exact (h1 rfl).mono s.sub H2 s.inn s.good Q fun d' v' F3 H3 hd' s3 hv' => q d' v' F3 H3 hd' (s.trans s3) hv'
  | false => exact (h2 rfl).mono s.sub H2 s.inn s.good Q fun d' v' F3 H3 hd' s3 hv' => q d' v' F3 H3 hd' (s.trans s3) hv'
/-- a value from an operation that lays nothing -/
theorem rv_val (h : ∀ F H x y, Ex F H → Rp K F x d → Rp K F y e → ∃ v, (∀ Q : VK, Q v H → r x y H Q) ∧ Rp K F v z) : RvG K r d e (Is z) := fun F H x y i hx hy Q q => by
  obtain ⟨v, k, hv⟩ := h F H x y i hx hy
  exact k Q (q z v F H rfl (.refl i .nil) hv)
theorem rc_val {r : List V → Hp → VK → Prop} {ds : List PyData} (h : ∀ F H vs, Ex F H → RpAll K F vs ds → ∃ v, (∀ Q : VK, Q v H → r vs H Q) ∧ Rp K F v z) : RcG K r ds (Is z) := fun F H vs i hx Q q => by
  obtain ⟨v, k, hv⟩ := h F H vs i hx
  exact k Q (q z v F H rfl (.refl i .nil) hv)
theorem rv_I0 {g : Int → Int → V} {f : Int → Int → PyData} {i j : Int} (hg : ∀ F, Rp K F (g i j) (f i j)) : RvG K (rI0 g) (.int i) (.int j) (Is (f i j)) := rv_val fun F H x y _ hx hy => ⟨g i j, fun Q q => ⟨i, j, rp_int hx, rp_int hy, q⟩, hg F⟩
theorem rv_I {C : Int → Int → Prop} {g : Int → Int → V} {f : Int → Int → PyData} {i j : Int} (hc : C i j) (hg : ∀ F, Rp K F (g i j) (f i j)) : RvG K (rI C g) (.int i) (.int j) (Is (f i j)) := rv_val fun F H x y _ hx hy => ⟨g i j, fun Q q => ⟨i, j, rp_int hx, rp_int hy, hc, q⟩, hg F⟩
theorem rv_eqD (hd : SeqAt.shaped d = true) (he : SeqAt.shaped e = true) : RvG K (rEqD K) d e (Is (.bool (PyData.eqv d e))) := rv_val fun F H x y i hx hy => ⟨_, fun Q q => ⟨d, e, Rp.dp _ _ (Rp.mono i _ _ hx), Rp.dp _ _ (Rp.mono i _ _ hy), hd, he, q⟩, .bl _⟩
theorem rv_neD (hd : SeqAt.shaped d = true) (he : SeqAt.shaped e = true) : RvG K (rNeD K) d e (Is (.bool (!PyData.eqv d e))) := rv_val fun F H x y i hx hy => ⟨_, fun Q q => ⟨d, e, Rp.dp _ _ (Rp.mono i _ _ hx), Rp.dp _ _ (Rp.mono i _ _ hy), hd, he, q⟩, .bl _⟩
theorem g_cb {r : List V → Hp → VK → Prop} {R1 : List PyData → Prop} (h : EvsG K pt ts σ F R1) (hr : ∀ ds, R1 ds → RcG K r ds R) : EvG K pt (tCB r ts) σ F R := fun H1 i g Q q =>
  h H1 i g _ fun ds vs F2 H2 hd s hv => hr ds hd F2 H2 vs s.inn hv Q fun z v F3 H3 hz s3 hv' => q z v F3 H3 hz (s.trans (s3.lift s.good)) hv'
end
end Fv

namespace Fv
open PySem L2 Evl
/-! ### what is walked -/
structure Yields (K : PySem.W.Frag) (J : It) (F : Hp) (ds : List PyData) : Prop where
  go : ∀ i H, Ex F H → i < ds.length → J.go i H
  stop : ∀ H, Ex F H → J.stop ds.length H
  yld : ∀ i H x H', Ex F H → i < ds.length → J.yld i H x H' → H' = H ∧ ∃ d, ds[i]? = some d ∧ Rp K F x d
def WiG (K : PySem.W.Frag) (pt : Option Pt) (wi : TI) (σ : L2.St) (F : Hp) (R : List PyData → Prop) : Prop :=
  ∀ H1, Ex F H1 → Good pt F H1 → ∀ RR : It → Hp → Prop, (∀ ds J F2 H2, R ds → Step pt F H1 F2 H2 → Yields K J F2 ds → RR J H2) → wi σ H1 RR
section
variable {K : PySem.W.Frag} {pt : Option Pt} {σ : L2.St} {F F' : Hp} {te ta tb : TE} {ts tr : TA} {t u : TT} {R R1 S2 R3 : PD} {d e z : PyData} {r : L2.R2} {wi wi1 : TI}
theorem rd_inj {H : Hp} {a : Addr} {u v : HO} (h : H a = some u) (h' : H a = some v) : u = v := Option.some.inj (h.symm.trans h')
theorem w_listI {ds : List PyData} (h : EvG K pt te σ F (Is (.list ds))) : WiG K pt (iList K te) σ F (· = ds) := fun H1 i g RR q =>
  h H1 i g _ fun d v F2 H2 hd s hv => by
    subst hd
    obtain ⟨a, xs, rfl, hl, ha⟩ := rp_lst hv
    refine ⟨a, rfl, ⟨xs, sq_of (s.inn _ _ hl)⟩, q ds _ F2 H2 rfl s ⟨fun i H e hi => ?_, fun H e => ⟨xs, sq_of (e _ _ hl), Nat.le_of_eq ha.length⟩, fun i H x H' e hi y => ?_⟩⟩
    · have hi' : i < xs.length := by rw [ha.length]; exact hi
      exact ⟨xs, xs[i], sq_of (e _ _ hl), List.getElem?_eq_getElem hi'⟩
    · exact ⟨y.1, ha.get (y.2 xs (sq_of (e _ _ hl)))⟩
theorem w_tupI {ds : List PyData} (h : EvG K pt te σ F (Is (.tuple ds))) : WiG K pt (iTup K te) σ F (· = ds) := fun H1 i g RR q =>
  h H1 i g _ fun d v F2 H2 hd s hv => by
    subst hd
    obtain ⟨a, xs, rfl, hl, ha⟩ := rp_tup hv
    refine ⟨a, rfl, ⟨xs, tx s.inn hl⟩, q ds _ F2 H2 rfl s ⟨fun i H e hi => ?_, fun H e => ⟨xs, tx e hl, Nat.le_of_eq ha.length⟩, fun i H x H' e hi y => ?_⟩⟩
    · have hi' : i < xs.length := by rw [ha.length]; exact hi
      exact ⟨xs, xs[i], tx e hl, List.getElem?_eq_getElem hi'⟩
    · exact ⟨y.1, ha.get (y.2 xs (tx e hl))⟩
/-- the numbers lo, lo + 1, .. -/
def rng (lo : Int) (n : Nat) : List PyData := (List.range n).map fun (k : Nat) => PyData.int (lo + (k : Int))
theorem rng_len (lo : Int) (n : Nat) : (rng lo n).length = n := by unfold rng; simp
theorem rng_get {lo : Int} {n i : Nat} (h : i < n) : (rng lo n)[i]? = some (.int (lo + (i : Int))) := by unfold rng; rw [List.getElem?_map, List.getElem?_range h]; rfl
theorem y_rng (lo : Int) (n : Nat) (F : Hp) : Yields K (Itr lo n) F (rng lo n) := ⟨fun i H _ hi => by rw [rng_len] at hi; exact hi, fun H _ => by rw [rng_len]; exact Nat.le_refl _, fun i H x H' _ hi y => by
  rw [rng_len] at hi
  exact ⟨y.1, _, rng_get hi, by rw [y.2]; exact .int _⟩⟩
theorem w_rng1 {R0 : List PyData → Prop} (h : EvsG K pt ts σ F R0) (hn : ∀ ds, R0 ds → ∃ n : Int, ds = [.int n] ∧ -(2 ^ 62) ≤ n ∧ n < 2 ^ 62) : WiG K pt (iRng1 ts) σ F (fun l => ∃ n : Int, R0 [.int n] ∧ l = rng 0 n.toNat) := fun H1 i g RR q =>
  h H1 i g _ fun ds vs F2 H2 hd s hv => by
    obtain ⟨n, rfl, h1, h2⟩ := hn ds hd
    have e : vs = [.int n] := rpAll_ints (ns := [n]) hv
    subst e
    exact ⟨n, rfl, h1, h2, q _ _ F2 H2 ⟨n, hd, rfl⟩ s (y_rng 0 n.toNat F2)⟩
theorem w_rng1I {n : Int} (h : EvsG K pt ts σ F (· = [.int n])) (h1 : -(2 ^ 62) ≤ n) (h2 : n < 2 ^ 62) : WiG K pt (iRng1 ts) σ F (· = rng 0 n.toNat) := fun H1 i g RR q =>
  w_rng1 h (fun ds e => ⟨n, e, h1, h2⟩) H1 i g RR fun ds J F2 H2 hd s y => by
    obtain ⟨m, e1, e2⟩ := hd
    have : m = n := by injection e1 with e1; injection e1
    subst this
    exact q ds J F2 H2 e2 s y
theorem w_rng2I {a b : Int} (h : EvsG K pt ts σ F (· = [.int a, .int b])) (h1 : -(2 ^ 62) ≤ a) (h2 : a < 2 ^ 62) (h3 : -(2 ^ 62) ≤ b) (h4 : b < 2 ^ 62) : WiG K pt (iRng2 ts) σ F (· = rng a (b - a).toNat) := fun H1 i g RR q =>
  h H1 i g _ fun ds vs F2 H2 hd s hv => by
    subst hd
    have e : vs = [.int a, .int b] := rpAll_ints (ns := [a, b]) hv
    subst e
    exact ⟨a, b, rfl, ⟨h1, h2, h3, h4⟩, q _ _ F2 H2 rfl s (y_rng a _ F2)⟩

/-! ### comprehensions -/
/-- a list that grows at Dl beside the part that stays -/
def Grow (K : PySem.W.Frag) (pt : Option Pt) (F H1 : Hp) (Dl : Addr) (A : List PyData → Prop) (H' : Hp) : Prop :=
  ∃ F' l acc, Step pt F H1 F' H' ∧ F' Dl = none ∧ H' Dl = some (.lst acc) ∧ RpAll K F' acc l ∧ A l
theorem Good.upd {F H : Hp} {Dl : Addr} {o : HO} (g : Good pt F H) (h : ∀ q, pt = some q → Dl ≠ q.p ∧ Dl ≠ q.l) : Good pt F (upd H Dl o) := fun q hq => by
  obtain ⟨g1, g2⟩ := g q hq
  obtain ⟨a, b, c, e, r⟩ := g2.ex
  refine ⟨g1, g2.ne, ?_, g2.few, a, b, c, ?_, r⟩
  · rw [upd_ne (h q hq).2.symm]; exact g2.ls
  · rw [upd_ne (h q hq).1.symm]; exact e
theorem off_pot {F H : Hp} {Dl : Addr} (g : Good pt F H) (h : H Dl = none) : ∀ q, pt = some q → Dl ≠ q.p ∧ Dl ≠ q.l := fun q hq => by
  obtain ⟨_, g2⟩ := g q hq
  exact ⟨fun z => g2.some (by rw [← z]; exact h), fun z => by have := g2.ls; rw [← z, h] at this; cases this⟩
theorem Step.put {F H1 F' H' : Hp} {Dl : Addr} {o : HO} (s : Step pt F H1 F' H') (g : Good pt F H1) (h1 : H1 Dl = none) (f : F' Dl = none) : Step pt F H1 F' (upd H' Dl o) :=
  ⟨s.sub, fun a u h => by
    have : a ≠ Dl := fun z => by rw [z, f] at h; cases h
    rw [upd_ne this]; exact s.inn a u h, fun a u n h => by
    have : a ≠ Dl := fun z => by rw [z, h1] at h; cases h
    rw [upd_ne this]; exact s.keep a u n h, s.good.upd (off_pot g h1), s.new⟩
theorem Grow.start {F H1 : Hp} {Dl : Addr} {A : List PyData → Prop} (i : Ex F H1) (g : Good pt F H1) (h : H1 Dl = none) (a : A []) : Grow K pt F H1 Dl A (upd H1 Dl (.lst [])) := by
  have f : F Dl = none := by
    cases w : F Dl with
    | none => rfl
    | some o => rw [i _ _ w] at h; cases h
  exact ⟨F, [], [], (Step.refl i g).put g h f, f, upd_same, .nil, a⟩
/-- frozen at the end -/
theorem Grow.done {F H1 H' : Hp} {Dl : Addr} {A : List PyData → Prop} (g : Good pt F H1) (h : H1 Dl = none) (w : Grow K pt F H1 Dl A H') : ∃ F2 l, A l ∧ Step pt F H1 F2 H' ∧ Rp K F2 (.ref Dl) (.list l) := by
  obtain ⟨F', l, acc, s, f, e, r, a⟩ := w
  have e1 : Ex F' (upd F' Dl (.lst acc)) := Ex.new f
  refine ⟨upd F' Dl (.lst acc), l, a, ⟨s.sub.trans e1, fun b u hb => ?_, s.keep, fun q hq => ⟨?_, (s.good q hq).2⟩, fun b h1 h2 => ?_⟩, .lst upd_same (RpAll.mono e1 _ _ r)⟩
  · by_cases z : b = Dl
    · rw [z, upd_same] at hb; rw [z, e]; exact hb
    · rw [upd_ne z] at hb; exact s.inn b u hb
  · rw [upd_ne (off_pot g h q hq).1.symm]; exact (s.good q hq).1
  · have z : b ≠ Dl := fun z => h2 (by rw [z]; exact h)
    rw [upd_ne z]; exact s.new b h1 h2
theorem Grow.imp {F H1 H' : Hp} {Dl : Addr} {A B : List PyData → Prop} (w : Grow K pt F H1 Dl A H') (k : ∀ l, A l → B l) : Grow K pt F H1 Dl B H' := by
  obtain ⟨F', l, acc, s, f, e, r, a⟩ := w
  exact ⟨F', l, acc, s, f, e, r, k l a⟩
/-- a piece runs beside the list -/
theorem Step.beside {F H1 F' H' F2 H2 : Hp} {Dl : Addr} {acc : List V} (g : Good pt F H1) (h : H1 Dl = none) (f : F' Dl = none) (e : H' Dl = some (.lst acc)) (s : Step pt F' H' F2 H2) : F2 Dl = none ∧ H2 Dl = some (.lst acc) :=
  ⟨s.new Dl f (by rw [e]; simp), s.keep Dl _ (fun q hq => (off_pot g h q hq).1) e⟩
/-- one turn: the test, then the item -/
theorem Grow.turn {F H1 H' : Hp} {Dl : Addr} {A B : List PyData → Prop} {σ2 : L2.St} (g : Good pt F H1) (h : H1 Dl = none) (w : Grow K pt F H1 Dl A H') (hz : ∀ l, A l → l.length < 100000)
    (P : Bool → Prop) (ht : ∀ F', Ex F F' → EtG pt t σ2 F' P) (he : P true → ∀ F', Ex F F' → EvG K pt te σ2 F' R) (hy : P true → ∀ l d, A l → R d → B (l ++ [d])) (hn : P false → ∀ l, A l → B l) :
    t σ2 H' fun b H3 => if b = true then te σ2 H3 fun y H4 => ∃ acc, H4 Dl = some (.lst acc) ∧ acc.length < sizeLine ∧ Grow K pt F H1 Dl B (upd H4 Dl (.lst (acc ++ [y]))) else Grow K pt F H1 Dl B H3 := by
  obtain ⟨F', l, acc, s, f, e, r, a⟩ := w
  refine ht F' s.sub H' s.inn s.good _ fun b F2 H2 hb s2 => ?_
  obtain ⟨f2, e2⟩ := s2.beside g h f e
  cases b with
  | true =>
    show te σ2 H2 fun y H4 => ∃ acc, H4 Dl = some (.lst acc) ∧ acc.length < sizeLine ∧ Grow K pt F H1 Dl B (upd H4 Dl (.lst (acc ++ [y])))
    refine he hb F2 (s.sub.trans s2.sub) H2 s2.inn s2.good _ fun d v F3 H3 hd s3 hv => ?_
    obtain ⟨f3, e3⟩ := s3.beside g h f2 e2
    refine ⟨acc, e3, sz_lt (by rw [r.length]; exact hz l a), F3, l ++ [d], acc ++ [v], ((s.trans s2).trans s3).put g h f3, f3, upd_same, ?_, hy hb l d a hd⟩
    exact RpAll.append (RpAll.mono (s2.sub.trans s3.sub) _ _ r) (.one hv)
  | false =>
    show Grow K pt F H1 Dl B H2
    exact ⟨F2, l, acc, s.trans s2, f2, e2, RpAll.mono s2.sub _ _ r, hn hb l a⟩
/-- [e for x in .. if ..]: A tells the list made behind i turns -/
theorem g_lc {j : Nat} {vs : List Nat} {RS : List PyData → Prop} (A : List PyData → Nat → List PyData → Prop) (hw : WiG K pt wi σ F RS) (hz : ∀ ds, RS ds → ds.length ≤ 50000) (hwp : ∀ x, wipe ((wipe σ vs).set j (some x)) vs = wipe σ vs)
    (hA : ∀ ds i l, RS ds → A ds i l → l.length ≤ i) (h0 : ∀ ds, RS ds → A ds 0 [])
    (hs : ∀ ds i d, RS ds → ds[i]? = some d → ∃ (P : Bool → Prop) (Re : PD), (P true → ∀ l x, A ds i l → Re x → A ds (i + 1) (l ++ [x])) ∧ (P false → ∀ l, A ds i l → A ds (i + 1) l) ∧
      ∀ F', Ex F F' → ∀ x, Rp K F' x d → EtG pt t ((wipe σ vs).set j (some x)) F' P ∧ (P true → EvG K pt te ((wipe σ vs).set j (some x)) F' Re)) :
    EvG K pt (tLc wi (gName j) t te vs) σ F (fun x => ∃ ds l, x = .list l ∧ RS ds ∧ A ds ds.length l) := fun H0 i0 g0 Q q =>
  hw H0 i0 g0 _ fun ds J F1 H1 hds s1 Y => fun Dl hD => by
    have gi := s1.inn
    have gg := s1.good
    refine ⟨fun i m H => m = ds.length - i ∧ i ≤ ds.length ∧ Grow K pt F1 H1 Dl (A ds i) H, ⟨ds.length, by simp, Nat.zero_le _, .start gi gg hD (h0 ds hds)⟩, ?_⟩
    rintro i m H ⟨rfl, hi, w⟩
    obtain ⟨F', l, acc, s, f, e, r, a⟩ := id w
    have eH : Ex F1 H := s.sub.trans s.inn
    by_cases hlt : i < ds.length
    · refine .inr ⟨Y.go i H eH hlt, Grow K pt F1 H1 Dl (A ds (i + 1)), fun H' p' => ⟨ds.length - (i + 1), by omega, rfl, hlt, p'⟩, fun x H' y => ?_⟩
      obtain ⟨rfl, d, hd, hx⟩ := Y.yld i H x H' eH hlt y
      obtain ⟨P, Re, k1, k2, k3⟩ := hs ds i d hds hd
      refine ⟨hwp x, w.turn gg hD (fun l' a' => by have := hA ds i l' hds a'; have := hz ds hds; omega) P (fun F'' e'' => (k3 F'' (s1.sub.trans e'') x (Rp.mono e'' _ _ hx)).1) (fun hp F'' e'' => (k3 F'' (s1.sub.trans e'') x (Rp.mono e'' _ _ hx)).2 hp) (fun hp l' x' => k1 hp l' x') (fun hp l' => k2 hp l')⟩
    · have hE : i = ds.length := Nat.le_antisymm hi (Nat.le_of_not_lt hlt)
      subst hE
      refine .inl ⟨Y.stop H eH, ?_⟩
      obtain ⟨F2, l2, a2, s2, r2⟩ := w.done gg hD
      exact q _ _ F2 H ⟨ds, l2, rfl, hds, a2⟩ (s1.trans s2) r2
theorem take_succ {ds : List PyData} {i : Nat} {d : PyData} (h : ds[i]? = some d) : ds.take (i + 1) = ds.take i ++ [d] := by
  rw [List.take_add_one, h]; rfl
/-- the same where test and item are known -/
theorem g_lcI {j : Nat} {vs : List Nat} {ds : List PyData} (p : PyData → Bool) (f : PyData → PyData) (hw : WiG K pt wi σ F (· = ds)) (hz : ds.length ≤ 50000) (hwp : ∀ x, wipe ((wipe σ vs).set j (some x)) vs = wipe σ vs)
    (ht : ∀ d ∈ ds, ∀ F', Ex F F' → ∀ x, Rp K F' x d → EtG pt t ((wipe σ vs).set j (some x)) F' (· = p d))
    (he : ∀ d ∈ ds, p d = true → ∀ F', Ex F F' → ∀ x, Rp K F' x d → EvG K pt te ((wipe σ vs).set j (some x)) F' (Is (f d))) :
    EvG K pt (tLc wi (gName j) t te vs) σ F (Is (.list ((ds.filter p).map f))) := by
  refine (g_lc (RS := (· = ds)) (fun ds i l => l = ((ds.take i).filter p).map f) hw (fun _ e => e ▸ hz) hwp (fun ds i l _ a => ?_) (fun _ _ => by simp) (fun ds' i d e hd => ?_)).imp fun x hx => ?_
  · rw [a, List.length_map]
    exact Nat.le_trans (List.length_filter_le _ _) (by rw [List.length_take]; exact Nat.min_le_left _ _)
  · subst e
    have hm : d ∈ ds' := List.mem_of_getElem? hd
    refine ⟨(· = p d), Is (f d), fun hp l x a ex => ?_, fun hp l a => ?_, fun F' e x hx => ⟨ht d hm F' e x hx, fun hp => he d hm hp.symm F' e x hx⟩⟩
    · rw [take_succ hd, List.filter_append, List.map_append, a, ex]
      simp [hp.symm]
    · rw [take_succ hd, List.filter_append, List.map_append, a]
      simp [hp.symm]
  · obtain ⟨ds', l, e1, e2, e3⟩ := hx
    subst e2
    rw [List.take_length] at e3
    show x = _
    rw [e1, e3]
/-- .. without a test -/
theorem g_lcM {j : Nat} {vs : List Nat} {ds : List PyData} (f : PyData → PyData) (hw : WiG K pt wi σ F (· = ds)) (hz : ds.length ≤ 50000) (hwp : ∀ x, wipe ((wipe σ vs).set j (some x)) vs = wipe σ vs)
    (he : ∀ d ∈ ds, ∀ F', Ex F F' → ∀ x, Rp K F' x d → EvG K pt te ((wipe σ vs).set j (some x)) F' (Is (f d))) :
    EvG K pt (tLc wi (gName j) tYes te vs) σ F (Is (.list (ds.map f))) :=
  (g_lcI (fun _ => true) f hw hz hwp (fun _ _ _ _ _ _ => et_yes) (fun d hd _ => he d hd)).is (congrArg (fun l => PyData.list (List.map f l)) (show ds.filter (fun _ => true) = ds from List.filter_eq_self.mpr (fun _ _ => rfl)))

/-! ### promises of defs that change nothing, calls -/
def PSp {ι : Type} (K : PySem.W.Frag) (A : ι → List PyData) (P : ι → Prop) (f : ι → PyData) : Sp := fun vs H Q _ => ∃ i F, P i ∧ Ex F H ∧ RpAll K F vs (A i) ∧ ∀ v F2 H2, Step none F H F2 H2 → Rp K F2 v (f i) → Q v H2
theorem PSp.len {ι : Type} {A : ι → List PyData} {P : ι → Prop} {f : ι → PyData} {n : Nat} (h : ∀ i, (A i).length = n) : ∀ vs H Q E, PSp K A P f vs H Q E → vs.length = n := fun vs H Q E ⟨i, F, _, _, r, _⟩ => by rw [r.length, h]
theorem g_call {ι : Type} {A : ι → List PyData} {P : ι → Prop} {f : ι → PyData} {ds : List PyData} {E : XK} (i : ι) (h : EvsG K pt ts σ F (· = ds)) (ha : ds = A i) (hp : P i) : EvG K pt (tCall (PSp K A P f) [] E ts) σ F (Is (f i)) := fun H1 e g Q q =>
  h H1 e g _ fun ds' vs F2 H2 hd s hv => by
    rw [hd, ha] at hv
    refine ⟨i, F2, hp, s.inn, by rw [List.append_nil]; exact hv, fun v F3 H3 s3 hv3 => q _ v F3 H3 rfl (s.trans (s3.lift s.good)) hv3⟩
end

/-! ### statements -/
section
variable {K : PySem.W.Frag} {pt : Option Pt} {σ : L2.St} {F0 H0 F H F' : Hp} {te ta tb : TE} {ts tr : TA} {t u : TT} {R R1 S2 R3 : PD} {d e z : PyData} {wi : TI} {D : Ends} {tu tw tz : TS}
theorem t_ret (s : Step pt F0 H0 F H) (h : EvG K pt te σ F R) (q : ∀ d v F2 H2, R d → Step pt F0 H0 F2 H2 → Rp K F2 v d → D.rt v H2) : tRet te D σ H := h H s.inn s.good _ fun d v F2 H2 hd s2 hv => q d v F2 H2 hd (s.trans s2) hv
theorem t_retI (s : Step pt F0 H0 F H) (h : EvG K pt te σ F (Is d)) (q : ∀ v F2 H2, Step pt F0 H0 F2 H2 → Rp K F2 v d → D.rt v H2) : tRet te D σ H := t_ret s h fun d' v F2 H2 e s2 hv => q v F2 H2 s2 (by rw [← (show d' = d from e)]; exact hv)
theorem t_asg {i : Nat} (s : Step pt F0 H0 F H) (h : EvG K pt te σ F R) (q : ∀ d v F2 H2, R d → Step pt F0 H0 F2 H2 → Ex F F2 → Rp K F2 v d → tz D (σ.set i (some v)) H2) : tSeq (tAsg te (gName i)) tz D σ H :=
  h H s.inn s.good _ fun d v F2 H2 hd s2 hv => q d v F2 H2 hd (s.trans s2) s2.sub hv
theorem t_asgI {i : Nat} (s : Step pt F0 H0 F H) (h : EvG K pt te σ F (Is d)) (q : ∀ v F2 H2, Step pt F0 H0 F2 H2 → Ex F F2 → Rp K F2 v d → tz D (σ.set i (some v)) H2) : tSeq (tAsg te (gName i)) tz D σ H :=
  t_asg s h fun d' v F2 H2 e s2 e2 hv => q v F2 H2 s2 e2 (by rw [← (show d' = d from e)]; exact hv)
theorem t_if {b : Bool} (s : Step pt F0 H0 F H) (h : EtG pt t σ F (· = b)) (h1 : b = true → ∀ F2 H2, Step pt F0 H0 F2 H2 → Ex F F2 → tu { D with nx := tz D } σ H2) (h2 : b = false → ∀ F2 H2, Step pt F0 H0 F2 H2 → Ex F F2 → tw { D with nx := tz D } σ H2) :
    tSeq (tIfS t tu tw) tz D σ H := h H s.inn s.good _ fun c F2 H2 hc s2 => by
  subst hc
  cases c with
  | true => exact h1 rfl F2 H2 (s.trans s2) s2.sub
  | false => exact h2 rfl F2 H2 (s.trans s2) s2.sub
theorem t_when {b : Bool} (s : Step pt F0 H0 F H) (h : EtG pt t σ F (· = b)) (h1 : b = true → ∀ F2 H2, Step pt F0 H0 F2 H2 → Ex F F2 → tu { D with nx := tz D } σ H2) (h2 : b = false → ∀ F2 H2, Step pt F0 H0 F2 H2 → Ex F F2 → tz D σ H2) :
    tSeq (tIfS t tu tNext) tz D σ H := t_if s h h1 h2
theorem t_if1 {b : Bool} (s : Step pt F0 H0 F H) (h : EtG pt t σ F (· = b)) (h1 : b = true → ∀ F2 H2, Step pt F0 H0 F2 H2 → Ex F F2 → tu D σ H2) (h2 : b = false → ∀ F2 H2, Step pt F0 H0 F2 H2 → Ex F F2 → tw D σ H2) :
    tIfS t tu tw D σ H := h H s.inn s.good _ fun c F2 H2 hc s2 => by
  subst hc
  cases c with
  | true => exact h1 rfl F2 H2 (s.trans s2) s2.sub
  | false => exact h2 rfl F2 H2 (s.trans s2) s2.sub
theorem t_drop (s : Step pt F0 H0 F H) (h : EvG K pt te σ F R) (q : ∀ F2 H2, Step pt F0 H0 F2 H2 → Ex F F2 → tz D σ H2) : tSeq (tDrop te) tz D σ H := h H s.inn s.good _ fun d v F2 H2 _ s2 _ => q F2 H2 (s.trans s2) s2.sub
/-- for x in ..: I tells the slots behind i turns -/
theorem t_for {j : Nat} {ds : List PyData} (s : Step pt F0 H0 F H) (hw : WiG K pt wi σ F (· = ds)) (I : Nat → L2.St → Hp → Prop) (h0 : ∀ F2, Ex F F2 → I 0 σ F2)
    (hs : ∀ i d, ds[i]? = some d → ∀ σ' F' H' x, I i σ' F' → Step pt F0 H0 F' H' → Ex F F' → Rp K F' x d →
      ∀ N : L2.St → Hp → Prop, (∀ σ2 F2 H2, I (i + 1) σ2 F2 → Step pt F0 H0 F2 H2 → Ex F' F2 → N σ2 H2) → tu { D with nx := N, ct := N, bk := tz D } (σ'.set j (some x)) H')
    (hd : ∀ σ' F' H', I ds.length σ' F' → Step pt F0 H0 F' H' → Ex F F' → tz D σ' H') : tSeq (tFor wi (gName j) tu) tz D σ H :=
  hw H s.inn s.good _ fun ds' J F1 H1 e s1 Y => by
    subst e
    refine ⟨fun i m σ' H' => m = ds'.length - i ∧ i ≤ ds'.length ∧ ∃ F', Step pt F0 H0 F' H' ∧ Ex F1 F' ∧ I i σ' F', ⟨ds'.length, by simp, Nat.zero_le _, F1, s.trans s1, Ex.refl _, h0 F1 s1.sub⟩, ?_⟩
    rintro i m σ' H' ⟨rfl, hi, F', s', e', p⟩
    have eH : Ex F1 H' := e'.trans s'.inn
    by_cases hlt : i < ds'.length
    · refine .inr ⟨Y.go i H' eH hlt, fun σ2 H2 => ∃ F2, Step pt F0 H0 F2 H2 ∧ Ex F1 F2 ∧ I (i + 1) σ2 F2, fun σ2 H2 ⟨F2, a, b, c⟩ => ⟨ds'.length - (i + 1), by omega, rfl, hlt, F2, a, b, c⟩, fun x H2 y => ?_⟩
      obtain ⟨rfl, d, hdd, hx⟩ := Y.yld i H' x H2 eH hlt y
      exact hs i d hdd σ' F' _ x p s' (s1.sub.trans e') (Rp.mono e' _ _ hx) _ fun σ2 F2 H2 a b c => ⟨F2, b, e'.trans c, a⟩
    · have hE : i = ds'.length := Nat.le_antisymm hi (Nat.le_of_not_lt hlt)
      subst hE
      exact .inl ⟨Y.stop H' eH, hd σ' F' H' p s' (s1.sub.trans e')⟩
end
end Fv

namespace Fv
open PySem L2 Evl
/-! ### == of data -/
/-- a tuple of whole numbers, a list and a tuple of such -/
abbrev dT (ns : List Int) : PyData := .tuple (ns.map PyData.int)
abbrev dLT (ls : List (List Int)) : PyData := .list (ls.map dT)
abbrev dTT (ls : List (List Int)) : PyData := .tuple (ls.map dT)
theorem eqvAll_ints : ∀ ns ms : List Int, PyData.eqvAll (ns.map .int) (ms.map .int) = decide (ns = ms)
  | [], [] => by simp [PyData.eqvAll]
  | [], m :: ms => by simp [PyData.eqvAll]
  | n :: ns, [] => by simp [PyData.eqvAll]
  | n :: ns, m :: ms => by
    simp only [List.map_cons, PyData.eqvAll, PyData.eqv, eqvAll_ints ns ms]
    by_cases h : n = m <;> by_cases k : ns = ms <;> simp [h, k]
theorem eqv_dT (ns ms : List Int) : PyData.eqv (dT ns) (dT ms) = decide (ns = ms) := by
  simp only [PyData.eqv]; exact eqvAll_ints ns ms
theorem any_dT (ls : List (List Int)) (m : List Int) : (ls.map dT).any (fun z => PyData.eqv z (dT m)) = decide (m ∈ ls) := by
  rw [List.any_map]
  induction ls with
  | nil => simp
  | cons l ls ih =>
    rw [List.any_cons, ih]
    simp only [Function.comp, eqv_dT]
    by_cases h : l = m
    · subst h; simp
    · by_cases k : m ∈ ls <;> simp [h, k, Ne.symm h]
theorem shaped_of {d : PyData} (h1 : d.canLay0 = true) (h2 : d.depth ≤ 64) : SeqAt.shaped d = true := by unfold SeqAt.shaped; simp [h1, h2]
theorem canLayAll_ints : ∀ ns : List Int, PyData.canLayAll0 (ns.map .int) = true
  | [] => by simp [PyData.canLayAll0]
  | n :: ns => by simp [PyData.canLayAll0, PyData.canLay0, canLayAll_ints ns]
theorem depthAll_ints : ∀ ns : List Int, PyData.depthAll (ns.map .int) ≤ 1
  | [] => by simp [PyData.depthAll]
  | n :: ns => by
    have := depthAll_ints ns
    simp only [List.map_cons, PyData.depthAll, PyData.depth]
    omega
theorem canLay_dT (ns : List Int) : (dT ns).canLay0 = true := by simp [dT, PyData.canLay0, canLayAll_ints]
theorem depth_dT (ns : List Int) : (dT ns).depth ≤ 2 := by
  have := depthAll_ints ns
  simp only [dT, PyData.depth]; omega
theorem shaped_dT (ns : List Int) : SeqAt.shaped (dT ns) = true := shaped_of (canLay_dT ns) (by have := depth_dT ns; omega)
theorem canLayAll_dT : ∀ ls : List (List Int), PyData.canLayAll0 (ls.map dT) = true
  | [] => by simp [PyData.canLayAll0]
  | n :: ns => by simp only [List.map_cons, PyData.canLayAll0, canLay_dT, canLayAll_dT ns]; rfl
theorem depthAll_dT : ∀ ls : List (List Int), PyData.depthAll (ls.map dT) ≤ 2
  | [] => by simp [PyData.depthAll]
  | n :: ns => by
    have := depthAll_dT ns
    have := depth_dT n
    simp only [List.map_cons, PyData.depthAll]
    omega
theorem shaped_dLT (ls : List (List Int)) : SeqAt.shaped (dLT ls) = true := shaped_of (by simp only [dLT, PyData.canLay0]; exact canLayAll_dT ls) (by have := depthAll_dT ls; simp only [dLT, PyData.depth]; omega)
section
variable {K : PySem.W.Frag} {pt : Option Pt} {σ : L2.St} {F F' H : Hp} {te ta tb : TE} {ts tr : TA} {t u : TT} {R R1 S2 R3 : PD} {d e z : PyData} {r : L2.R2} {wi wi1 : TI}
/-! ### operations -/
theorem rv_add {i j : Int} : RvG K (rI0 fun i j => .int (i + j)) (.int i) (.int j) (Is (.int (i + j))) := rv_I0 (f := fun i j => .int (i + j)) fun F => .int _
theorem rv_sub {i j : Int} : RvG K (rI0 fun i j => .int (i - j)) (.int i) (.int j) (Is (.int (i - j))) := rv_I0 (f := fun i j => .int (i - j)) fun F => .int _
theorem rv_bl {g : Int → Int → Bool} {i j : Int} : RvG K (rI0 fun i j => .bl (g i j)) (.int i) (.int j) (Is (.bool (g i j))) := rv_I0 (f := fun i j => .bool (g i j)) fun F => .bl _
/-- flat things of data -/
def flatD : PyData → Bool
  | .none => true | .bool _ => true | .int _ => true | .str _ => true | _ => false
def unV : PyData → V
  | .none => .non | .bool b => .bl b | .int i => .int i | .str x => .str x | _ => .non
theorem rp_flat {v : V} (h : flatD d = true) (r : Rp K F v d) : v = unV d := by
  cases d <;> first | (cases r; rfl) | (cases h)
def isNone : PyData → Bool
  | .none => true
  | _ => false
theorem rp_isN {v : V} (r : Rp K F v d) : decide (v = .non) = isNone d := by
  cases r <;> simp [isNone]
theorem rv_isN {d : PyData} : RvG K (fun x y H Q => y = .non ∧ Q (.bl (decide (x = .non))) H) d .none (Is (.bool (isNone d))) := rv_val fun F H x y _ hx hy => ⟨_, fun Q q => ⟨rp_none hy, q⟩, by rw [rp_isN hx]; exact .bl _⟩
theorem rv_notN {d : PyData} : RvG K (fun x y H Q => y = .non ∧ Q (.bl (!decide (x = .non))) H) d .none (Is (.bool (!isNone d))) := rv_val fun F H x y _ hx hy => ⟨_, fun Q q => ⟨rp_none hy, q⟩, by rw [rp_isN hx]; exact .bl _⟩
theorem inV_ints (i : Int) (ns : List Int) : inV (.int i) (ns.map V.int) = decide (i ∈ ns) := by
  unfold inV
  rw [List.any_map]
  induction ns with
  | nil => simp
  | cons n ns ih =>
    rw [List.any_cons, ih]
    by_cases h : n = i
    · subst h; simp [eqV]
    · by_cases k : i ∈ ns <;> simp [eqV, h, k, Ne.symm h]
theorem flat_ints (ns : List Int) : (ns.map V.int).all flatV = true := by induction ns <;> simp_all [flatV]
theorem rv_inT {i : Int} {ns : List Int} : RvG K (rIn K false) (.int i) (dT ns) (Is (.bool (decide (i ∈ ns)))) := rv_val fun F H x y e hx hy => by
  obtain ⟨a, xs, rfl, hl, ha⟩ := rp_tup hy
  have e1 := rpAll_ints ha
  subst e1
  rw [rp_int hx]
  exact ⟨_, fun Q q => ⟨a, _, rfl, .inr (tx e hl), rfl, flat_ints ns, q⟩, by rw [inV_ints]; exact .bl _⟩
theorem rv_ninT {i : Int} {ns : List Int} : RvG K (rIn K true) (.int i) (dT ns) (Is (.bool (!decide (i ∈ ns)))) := rv_val fun F H x y e hx hy => by
  obtain ⟨a, xs, rfl, hl, ha⟩ := rp_tup hy
  have e1 := rpAll_ints ha
  subst e1
  rw [rp_int hx]
  exact ⟨_, fun Q q => ⟨a, _, rfl, .inr (tx e hl), rfl, flat_ints ns, q⟩, by rw [inV_ints]; exact .bl _⟩
theorem rv_inD {m : List Int} {ls : List (List Int)} : RvG K (rInD K) (dT m) (dLT ls) (Is (.bool (decide (m ∈ ls)))) := rv_val fun F H x y e hx hy =>
  ⟨_, fun Q q => ⟨dT m, ls.map dT, Rp.dp _ _ (Rp.mono e _ _ hx), Rp.dp _ _ (Rp.mono e _ _ hy), shaped_dT m, shaped_dLT ls, q⟩, by rw [any_dT]; exact .bl _⟩
theorem rv_ninD {m : List Int} {ls : List (List Int)} : RvG K (rNotInD K) (dT m) (dLT ls) (Is (.bool (!decide (m ∈ ls)))) := rv_val fun F H x y e hx hy =>
  ⟨_, fun Q q => ⟨dT m, ls.map dT, Rp.dp _ _ (Rp.mono e _ _ hx), Rp.dp _ _ (Rp.mono e _ _ hy), shaped_dT m, shaped_dLT ls, q⟩, by rw [any_dT]; exact .bl _⟩
theorem rv_neT {m n : List Int} : RvG K (rNeD K) (dT m) (dT n) (Is (.bool (!decide (m = n)))) := fun F H x y i hx hy Q q => rv_neD (shaped_dT m) (shaped_dT n) F H x y i hx hy Q fun z v F2 H2 hz => q z v F2 H2 (by rw [show z = _ from hz, eqv_dT])
theorem atI_rp {ds : List PyData} {xs : List V} {i : Int} (h : RpAll K F xs ds) (e : atI ds i = some d) : ∃ v, atI xs i = some v ∧ Rp K F v d := by
  unfold atI at e ⊢
  rw [h.length]
  cases q : ixN ds.length i with
  | none => rw [q] at e; cases e
  | some j =>
    rw [q] at e
    exact h.getD e
theorem rv_ixT {ds : List PyData} {i : Int} (h : atI ds i = some d) : RvG K (rIxT K) (.tuple ds) (.int i) (Is d) := rv_val fun F H x y e hx hy => by
  obtain ⟨a, xs, rfl, hl, ha⟩ := rp_tup hx
  obtain ⟨v, e1, r1⟩ := atI_rp ha h
  exact ⟨v, fun Q q => ⟨a, xs, i, v, rfl, rp_int hy, tx e hl, e1, q⟩, r1⟩
theorem rv_ixL {ds : List PyData} {i : Int} (h : atI ds i = some d) : RvG K (rIxL K) (.list ds) (.int i) (Is d) := rv_val fun F H x y e hx hy => by
  obtain ⟨a, xs, rfl, hl, ha⟩ := rp_lst hx
  obtain ⟨v, e1, r1⟩ := atI_rp ha h
  exact ⟨v, fun Q q => ⟨a, xs, i, v, rfl, rp_int hy, sq_of (e _ _ hl), e1, q⟩, r1⟩
theorem rv_cat {ds es : List PyData} (hz : ds.length + es.length ≤ 100000) : RvG K rCat (.list ds) (.list es) (Is (.list (ds ++ es))) := fun F H x y e hx hy Q q => by
  obtain ⟨a, xs, rfl, hl, ha⟩ := rp_lst hx
  obtain ⟨b, ys, rfl, hm, hb⟩ := rp_lst hy
  refine ⟨a, b, xs, ys, rfl, rfl, e _ _ hl, e _ _ hm, by rw [ha.length, hb.length]; exact sz_of hz, fun p hp => ?_⟩
  have s : Step none F H (upd F p (.lst (xs ++ ys))) (upd H p (.lst (xs ++ ys))) := .laid e .nil hp
  exact q _ _ _ _ rfl s (.lst upd_same (RpAll.mono s.sub _ _ (ha.append hb)))
/-! ### calls of built-ins -/
theorem rc_all {bs : List Bool} : RcG K (rAll K) [.list (bs.map .bool)] (Is (.bool (bs.all id))) := rc_val fun F H vs e h => by
  cases h with
  | cons h1 h2 =>
    cases h2
    obtain ⟨a, xs, rfl, hl, ha⟩ := rp_lst h1
    have e1 := rpAll_bools ha
    subst e1
    exact ⟨_, fun Q q => ⟨a, bs, rfl, sq_of (e _ _ hl), q⟩, .bl _⟩
theorem rc_any {bs : List Bool} : RcG K (rAny K) [.list (bs.map .bool)] (Is (.bool (bs.any id))) := rc_val fun F H vs e h => by
  cases h with
  | cons h1 h2 =>
    cases h2
    obtain ⟨a, xs, rfl, hl, ha⟩ := rp_lst h1
    have e1 := rpAll_bools ha
    subst e1
    exact ⟨_, fun Q q => ⟨a, bs, rfl, sq_of (e _ _ hl), q⟩, .bl _⟩
theorem rc_tupL {ds : List PyData} : RcG K (fun xs H Q => ∃ p ys, xs = [.ref p] ∧ ((SqL K H p ys ∧ ∀ l, H l = none → Q (.ref l) (upd H l (.tup ys))) ∨ (SqT K H p ys ∧ Q (.ref p) H))) [.list ds] (Is (.tuple ds)) := fun F H vs e h Q q => by
  cases h with
  | cons h1 h2 =>
    cases h2
    obtain ⟨a, xs, rfl, hl, ha⟩ := rp_lst h1
    refine ⟨a, xs, rfl, .inl ⟨sq_of (e _ _ hl), fun p hp => ?_⟩⟩
    have s : Step none F H (upd F p (.tup xs)) (upd H p (.tup xs)) := .laid e .nil hp
    exact q _ _ _ _ rfl s (.tup upd_same (RpAll.mono s.sub _ _ ha))
theorem rc_tupT {ds : List PyData} : RcG K (fun xs H Q => ∃ p ys, xs = [.ref p] ∧ ((SqL K H p ys ∧ ∀ l, H l = none → Q (.ref l) (upd H l (.tup ys))) ∨ (SqT K H p ys ∧ Q (.ref p) H))) [.tuple ds] (Is (.tuple ds)) := rc_val fun F H vs e h => by
  cases h with
  | cons h1 h2 =>
    cases h2
    obtain ⟨a, xs, rfl, hl, ha⟩ := rp_tup h1
    exact ⟨_, fun Q q => ⟨a, xs, rfl, .inr ⟨tx e hl, q⟩⟩, .tup hl ha⟩
theorem rc_lenL {ds : List PyData} : RcG K (fun xs H Q => ∃ p ys, xs = [.ref p] ∧ (SqL K H p ys ∨ SqT K H p ys) ∧ Q (.int ys.length) H) [.list ds] (Is (.int ds.length)) := rc_val fun F H vs e h => by
  cases h with
  | cons h1 h2 =>
    cases h2
    obtain ⟨a, xs, rfl, hl, ha⟩ := rp_lst h1
    exact ⟨_, fun Q q => ⟨a, xs, rfl, .inl (sq_of (e _ _ hl)), q⟩, by rw [← ha.length]; exact .int _⟩
theorem rc_lenT {ds : List PyData} : RcG K (fun xs H Q => ∃ p ys, xs = [.ref p] ∧ (SqL K H p ys ∨ SqT K H p ys) ∧ Q (.int ys.length) H) [.tuple ds] (Is (.int ds.length)) := rc_val fun F H vs e h => by
  cases h with
  | cons h1 h2 =>
    cases h2
    obtain ⟨a, xs, rfl, hl, ha⟩ := rp_tup h1
    exact ⟨_, fun Q q => ⟨a, xs, rfl, .inr (tx e hl), q⟩, by rw [← ha.length]; exact .int _⟩
/-- the built-in class of data -/
def tyD : PyData → String
  | .none => "NoneType" | .bool _ => "bool" | .int _ => "int" | .str _ => "str" | .list _ => "list" | .tuple _ => "tuple" | .dict _ => "dict"
theorem rp_ty {v : V} (r : Rp K F v d) : TyX K F v (.type (tyD d)) := by
  cases r with
  | non => exact .base .non
  | bl b => exact .base (.bl b)
  | int i => exact .base (.int i)
  | str x => exact .base (.str x)
  | lst h _ => exact .base (.lst h)
  | tup h _ =>
    exact .base (.tup h)
/-- isinstance(x, T), T a built-in class -/
theorem g_isi {T : String} {b : Bool} (h : EvG K pt te σ F (Is d)) (hk : kitB (tyD d) T = some b) : EvG K pt (tCB (rIsi K) (tCons te (tCons (tC (.ty T)) tNil))) σ F (Is (.bool b)) := fun H1 i g Q q =>
  h H1 i g _ fun d' v F2 H2 hd s hv => by
    subst hd
    exact ⟨v, .ty T, _, _, b, rfl, .ty T, rp_ty (Rp.mono s.inn _ _ hv), kit_ty hk, q _ _ F2 H2 rfl s (.bl b)⟩
/-- isinstance(x, (S, T)) -/
theorem g_isi2 {S T : String} {b c : Bool} (h : EvG K pt te σ F (Is d)) (hk : kitB (tyD d) S = some b) (hk2 : kitB (tyD d) T = some c) : EvG K pt (tCB (rIsiT K) (tCons te (tCons (tTup (tCons (tC (.ty S)) (tCons (tC (.ty T)) tNil))) tNil))) σ F (Is (.bool (b || c))) := fun H1 i g Q q =>
  h H1 i g _ fun d' v F2 H2 hd s hv => by
    subst hd
    refine ⟨sz_of (by show 2 ≤ 100000; decide), fun p hp => ?_⟩
    have s3 : Step pt F2 H2 (upd F2 p (.tup [.ty S, .ty T])) (upd H2 p (.tup [.ty S, .ty T])) := .laid s.inn s.good hp
    refine ⟨v, p, _, _, [.type S, .type T], b || c, rfl, upd_same, .cons (.ty S) (.cons (.ty T) .nil), rp_ty (Rp.mono (s3.sub.trans s3.inn) _ _ hv), ?_, q _ _ _ _ rfl (s.trans s3) (.bl _)⟩
    refine kitAny_cons (kit_ty hk) (fun hb => ?_) (fun hb => by rw [hb]; rfl)
    subst hb
    refine kitAny_cons (kit_ty hk2) (fun hc => ?_) (fun hc => by rw [hc]; rfl)
    subst hc
    exact kitAny_nil
/-- the truth of a list, a tuple -/
theorem et_truL {ds : List PyData} (h : EvG K pt te σ F (Is (.list ds))) : EtG pt (fun σ H Q => te σ H fun x H' => ∃ k, TruV K x H' k ∧ Q k H') σ F (· = !ds.isEmpty) := fun H1 i g Q q =>
  h H1 i g _ fun d' v F2 H2 hd s hv => by
    subst hd
    obtain ⟨a, xs, rfl, hl, ha⟩ := rp_lst hv
    have e : xs.isEmpty = ds.isEmpty := by have := ha.length; cases xs <;> cases ds <;> simp_all
    exact ⟨!ds.isEmpty, .inl ⟨xs, sq_of (s.inn _ _ hl), by rw [e]⟩, q _ F2 H2 rfl s⟩
theorem et_truT {ds : List PyData} (h : EvG K pt te σ F (Is (.tuple ds))) : EtG pt (fun σ H Q => te σ H fun x H' => ∃ k, TruV K x H' k ∧ Q k H') σ F (· = !ds.isEmpty) := fun H1 i g Q q =>
  h H1 i g _ fun d' v F2 H2 hd s hv => by
    subst hd
    obtain ⟨a, xs, rfl, hl, ha⟩ := rp_tup hv
    have e : xs.isEmpty = ds.isEmpty := by have := ha.length; cases xs <;> cases ds <;> simp_all
    exact ⟨!ds.isEmpty, .inr (.inl ⟨xs, tx s.inn hl, by rw [e]⟩), q _ F2 H2 rfl s⟩
theorem et_truI {n : Int} (h : EvG K pt te σ F (Is (.int n))) : EtG pt (fun σ H Q => te σ H fun x H' => ∃ k, TruV K x H' k ∧ Q k H') σ F (· = (n != 0)) := fun H1 i g Q q =>
  h H1 i g _ fun d' v F2 H2 hd s hv => by
    subst hd
    rw [rp_int hv]
    exact ⟨n != 0, rfl, q _ F2 H2 rfl s⟩
end
end Fv

/-! the rules with K told, so that they stand within comprehensions -/
namespace Fv
open PySem PySem.Spec PyProof.Rows L2 Evl StX
section
variable {X : Cx} {K : PySem.W.Frag} {tg : Expr}
abbrev rLen (K : PySem.W.Frag) : List V → Hp → VK → Prop := fun xs H Q => ∃ p ys, xs = [.ref p] ∧ (SqL K H p ys ∨ SqT K H p ys) ∧ Q (.int ys.length) H
abbrev rTup (K : PySem.W.Frag) : List V → Hp → VK → Prop := fun xs H Q => ∃ p ys, xs = [.ref p] ∧ ((SqL K H p ys ∧ ∀ l, H l = none → Q (.ref l) (upd H l (.tup ys))) ∨ (SqT K H p ys ∧ Q (.ref p) H))
abbrev rList (K : PySem.W.Frag) : List V → Hp → VK → Prop := fun xs H Q => ∃ p ys, xs = [.ref p] ∧ (SqL K H p ys ∨ SqT K H p ys) ∧ ∀ l, H l = none → Q (.ref l) (upd H l (.lst ys))
theorem o_in (h : X.K = K := by rfl) : OpR X (compareOp .In) (rIn K false) := h ▸ op_in_seq
theorem o_notIn (h : X.K = K := by rfl) : OpR X (compareOp .NotIn) (rIn K true) := h ▸ op_notIn_seq
theorem o_inD (hu : X.A.units + 65 < cLine) (h : X.K = K := by rfl) : OpR X (compareOp .In) (rInD K) := h ▸ op_inD hu
theorem o_notInD (hu : X.A.units + 65 < cLine) (h : X.K = K := by rfl) : OpR X (compareOp .NotIn) (rNotInD K) := h ▸ op_notInD hu
theorem o_eqD (hu : X.A.units + 64 < cLine) (h : X.K = K := by rfl) : OpR X (compareOp .Eq) (rEqD K) := h ▸ op_eqD hu
theorem o_neD (hu : X.A.units + 64 < cLine) (h : X.K = K := by rfl) : OpR X (compareOp .NotEq) (rNeD K) := h ▸ op_neD hu
theorem o_ixT (h : X.K = K := by rfl) : IxR X (rIxT K) := h ▸ ix_tup
theorem o_ixL (h : X.K = K := by rfl) : IxR X (rIxL K) := h ▸ ix_list
theorem o_catT (h : X.K = K := by rfl) : OpR X (binaryOp .Add) (rCatT K) := h ▸ op_catT
theorem c_all (hc : X.calm = true := by rfl) (h : X.K = K := by rfl) : CallR X (.builtin "all") (rAll K) := h ▸ cr_all hc
theorem c_any (hc : X.calm = true := by rfl) (h : X.K = K := by rfl) : CallR X (.builtin "any") (rAny K) := h ▸ cr_any hc
theorem c_len (h : X.K = K := by rfl) : CallR X (.builtin "len") (rLen K) := h ▸ call_len_seq
theorem c_tup (h : X.K = K := by rfl) : CallR X (.type "tuple") (rTup K) := h ▸ call_tuple_of
theorem c_list (h : X.K = K := by rfl) : CallR X (.type "list") (rList K) := h ▸ call_list_of
theorem c_isi (h : X.K = K := by rfl) : CallR X (.builtin "isinstance") (rIsi K) := h ▸ call_isi
theorem c_isiT (h : X.K = K := by rfl) : CallR X (.builtin "isinstance") (rIsiT K) := h ▸ call_isiT
theorem s_list (h : X.K = K := by rfl) : SlR X (rSlL K) := h ▸ sl_list
theorem s_tup (h : X.K = K := by rfl) : SlR X (rSlA K) := h ▸ sl_tupA
theorem i_list {l : Expr} {tl : TE} (hl : PE X l tl) (h : X.K = K := by rfl) : PI X tg l (iList K tl) := h ▸ pi_list hl
theorem i_tup {l : Expr} {tl : TE} (hl : PE X l tl) (h : X.K = K := by rfl) : PI X tg l (iTup K tl) := h ▸ pi_tup hl
theorem e_fld {e : Expr} {ta : TE} {f : Str} {pos : Pos} (he : PE X e ta) (hb : attributeBase e f X.env (eval e X.env) = eval e X.env) (h : X.K = K := by rfl) : PE X (.Attribute e f pos) (tFld K ta f) := h ▸ pe_fld he hb
theorem e_truth {a : Expr} {ta : TE} (ha : PE X a ta) (he : ∀ whole, isTrue a X.env whole = (do let v ← whole; standAt a.pos; holding [v] (truthy v)) := by intro _; rfl) (h : X.K = K := by rfl) :
    PT X a (fun σ H Q => ta σ H fun x H' => ∃ k, TruV K x H' k ∧ Q k H') := h ▸ pt_truth ha he
theorem a_star {e : Expr} {te : TE} {es : List Expr} {t : TA} {p : Pos} (he : PE X e te) (hr : PA X es t) (hs : starEach (.Starred e p :: es) X.env = (true, eval e X.env) :: starEach es X.env := by rfl) (h : X.K = K := by rfl) : PA X (.Starred e p :: es) (tStar K te t) := h ▸ pa_star he hr hs
end
section
variable {K : PySem.W.Frag} {pt : Option Pt} {σ : L2.St} {F F' H : Hp} {te ta tb : TE} {ts tr : TA} {t u : TT} {R R1 S2 R3 : PD} {d e z : PyData} {r : L2.R2}
theorem rc_list {ds : List PyData} {src : PyData} (hs : src = .list ds ∨ src = .tuple ds) : RcG K (rList K) [src] (Is (.list ds)) := fun F H vs e h Q q => by
  cases h with
  | cons h1 h2 =>
    cases h2
    have go : ∀ a xs, (SqL K H a xs ∨ SqT K H a xs) → RpAll K F xs ds → rList K [.ref a] H Q := fun a xs hl ha => ⟨a, xs, rfl, hl, fun p hp => by
      have s : Step none F H (upd F p (.lst xs)) (upd H p (.lst xs)) := .laid e .nil hp
      exact q _ _ _ _ rfl s (.lst upd_same (RpAll.mono s.sub _ _ ha))⟩
    rcases hs with rfl | rfl
    · obtain ⟨a, xs, rfl, hl, ha⟩ := rp_lst h1
      exact go a xs (.inl (sq_of (e _ _ hl))) ha
    · obtain ⟨a, xs, rfl, hl, ha⟩ := rp_tup h1
      exact go a xs (.inr (tx e hl)) ha
theorem rv_catT {ds es : List PyData} (h0 : ds ≠ []) (hz : ds.length + es.length ≤ 100000) : RvG K (rCatT K) (.tuple ds) (.tuple es) (Is (.tuple (ds ++ es))) := fun F H x y e hx hy Q q => by
  obtain ⟨a, xs, rfl, hl, ha⟩ := rp_tup hx
  obtain ⟨b, ys, rfl, hm, hb⟩ := rp_tup hy
  refine ⟨a, b, xs, ys, rfl, rfl, tx e hl, tx e hm, ?_, by rw [ha.length, hb.length]; exact sz_of hz, ?_, fun _ p hp => ?_⟩
  · rintro rfl
    cases ha
    exact h0 rfl
  · rintro rfl
    cases hb
    exact q _ _ F H rfl (.refl e .nil) (.tup hl (by rw [List.append_nil]; exact ha))
  · have s : Step none F H (upd F p (.tup (xs ++ ys))) (upd H p (.tup (xs ++ ys))) := .laid e .nil hp
    exact q _ _ _ _ rfl s (.tup upd_same (RpAll.mono s.sub _ _ (ha.append hb)))
/-- *xs in a display -/
theorem gs_star {ds es : List PyData} {src : PyData} (hs : src = .list ds ∨ src = .tuple ds) (h : EvG K pt te σ F (Is src)) (hr : EvsG K pt tr σ F (· = es)) : EvsG K pt (tStar K te tr) σ F (· = ds ++ es) := fun H1 i g Q q =>
  h H1 i g _ fun d v F2 H2 hd s hv => by
    subst hd
    have go : ∀ a xs, v = .ref a → (F2 a = some (.tup xs) ∨ F2 a = some (.lst xs)) → RpAll K F2 xs ds → ∃ p xs, v = V.ref p ∧ (SqT K H2 p xs ∨ SqL K H2 p xs) ∧ tr σ H2 fun ys H3 => Q (xs ++ ys) H3 := fun a xs ev hl ha => by
      refine ⟨a, xs, ev, ?_, hr.mono s.sub H2 s.inn s.good _ fun es' ys F3 H3 he s3 hy => ?_⟩
      · rcases hl with hl | hl
        · exact .inl (tx s.inn hl)
        · exact .inr (sq_of (s.inn _ _ hl))
      · subst he
        exact q _ _ F3 H3 rfl (s.trans s3) (RpAll.append (RpAll.mono s3.sub _ _ ha) hy)
    rcases hs with rfl | rfl
    · obtain ⟨a, xs, rfl, hl, ha⟩ := rp_lst hv
      exact go a xs rfl (.inr hl) ha
    · obtain ⟨a, xs, rfl, hl, ha⟩ := rp_tup hv
      exact go a xs rfl (.inl hl) ha
end
end Fv

namespace Fv
open PySem PySem.Spec PyProof.Rows L2 Evl StX
/-! ### set(t), sorted of it -/
def rSetT (K : PySem.W.Frag) (w : World) : List V → Hp → VK → Prop := fun xs H Q => ∃ (p : Addr) (ns : List Int), xs = [.ref p] ∧ SqT K H p (ns.map V.int) ∧ ns.length ≤ 60 ∧
  ∀ a c, H a = none → c ≤ ns.length → Q (.ref a) (upd H a (SetO w a (fun j => decide (j ∈ ns)) c))
theorem c_setT {X : Cx} {K : PySem.W.Frag} {w : World} (hc : X.calm = true := by rfl) (h : X.K = K := by rfl) (hw : X.w = w := by rfl) : CallR X (.type "set") (rSetT K w) := by
  subst h; subst hw
  intro pins s σ H xs us Q I r h
  obtain ⟨p, ns, rfl, hq, hl, q⟩ := h
  rw [Vals.ref1 r]
  obtain ⟨its, rv, ht, hz⟩ := I.tuple hq
  have hi : IntsAre its.toArray.toList ns := ints_of_vals rv
  refine call_set_tupI ns (I.ok.hd hc) ht hi (by unfold scanBound; omega) fun h' tk c R1 hcn k => ?_
  exact ⟨.ref s.heap.objs.size, _, I.laid (t' := tk) k (Nat.le_refl _) (setO_new R1), rfl, q _ c (I.hok.fresh (Nat.le_refl _)) hcn⟩
theorem c_sortedSet {X : Cx} {w : World} (hc : X.calm = true := by rfl) (hw : X.w = w := by rfl) : CallR X (.builtin "sorted") (rSortedSet w) := hw ▸ cr_sortedSet hc
/-- an object that is laid beside -/
theorem Step.litter {pt : Option Pt} {F H : Hp} {p : Addr} {o : HO} (e : Ex F H) (g : Good pt F H) (hp : H p = none) : Step pt F H F (upd H p o) :=
  ⟨Ex.refl F, e.trans (Ex.new hp), Keep.of (Ex.new hp), fun q hq => ⟨(g q hq).1, (g q hq).2.mono (Ex.new hp)⟩, New.refl F H⟩
section
variable {K : PySem.W.Frag} {w : World} {pt : Option Pt} {σ : L2.St} {F F' H : Hp} {te ta tb : TE} {ts tr : TA} {t u : TT} {R R1 S2 R3 : PD} {d e z : PyData} {r : L2.R2}
theorem g_sortedSet {ns : List Int} (h : EvG K pt te σ F (Is (dT ns))) (hz : ns.length ≤ 60) : EvG K pt (tCB (rSortedSet w) (tCons (tCB (rSetT K w) (tCons te tNil)) tNil)) σ F
    (fun x => ∃ ms : List Int, x = .list (ms.map .int) ∧ ms.Pairwise (· < ·) ∧ ∀ k, k ∈ ms ↔ k ∈ ns) := fun H1 i g Q q =>
  h H1 i g _ fun d v F2 H2 hd s hv => by
    subst hd
    obtain ⟨a, xs, rfl, hl, ha⟩ := rp_tup hv
    have e1 := rpAll_ints ha
    subst e1
    refine ⟨a, ns, rfl, tx s.inn hl, hz, fun b c hb hc => ?_⟩
    have s3 : Step pt F2 H2 F2 (upd H2 b (SetO w b (fun j => decide (j ∈ ns)) c)) := .litter s.inn s.good hb
    refine ⟨b, _, c, rfl, upd_same, by omega, fun ms p hp hm hlen hn => ?_⟩
    have s4 : Step pt F2 (upd H2 b (SetO w b (fun j => decide (j ∈ ns)) c)) (upd F2 p (.lst (ms.map V.int))) _ := .laid s3.inn s3.good hn
    exact q _ _ _ _ ⟨ms, rfl, hp, fun k => by rw [hm k, decide_eq_true_eq]⟩ ((s.trans s3).trans s4) (.lst upd_same (rpAll_of_ints ms))
/-- the one ascending row of the members of ns below n -/
def lotOf (n : Nat) (ns : List Int) : List Int := ((List.range n).map Int.ofNat).filter fun k => decide (k ∈ ns)
theorem pw_range (n : Nat) : ((List.range n).map Int.ofNat).Pairwise (· < ·) := by
  rw [List.pairwise_map]
  exact (List.pairwise_lt_range (n := n)).imp fun h => by simp only [Int.ofNat_eq_natCast]; omega
theorem asc_unique : ∀ {a b : List Int}, a.Pairwise (· < ·) → b.Pairwise (· < ·) → (∀ k, k ∈ a ↔ k ∈ b) → a = b
  | [], [], _, _, _ => rfl
  | [], y :: b, _, _, h => absurd ((h y).mpr (by simp)) (by simp)
  | x :: a, [], _, _, h => absurd ((h x).mp (by simp)) (by simp)
  | x :: a, y :: b, ha, hb, h => by
    have ha' := List.pairwise_cons.mp ha
    have hb' := List.pairwise_cons.mp hb
    have exy : x = y := by
      have h1 : x ∈ y :: b := (h x).mp (by simp)
      have h2 : y ∈ x :: a := (h y).mpr (by simp)
      rcases List.mem_cons.mp h1 with e | m
      · exact e
      · rcases List.mem_cons.mp h2 with e | m'
        · exact e.symm
        · have := hb'.1 x m
          have := ha'.1 y m'
          omega
    subst exy
    refine congrArg (x :: ·) (asc_unique ha'.2 hb'.2 fun k => ⟨fun m => ?_, fun m => ?_⟩)
    · have h1 : k ∈ x :: b := (h k).mp (List.mem_cons_of_mem _ m)
      rcases List.mem_cons.mp h1 with e | m'
      · have := ha'.1 k m; omega
      · exact m'
    · have h1 : k ∈ x :: a := (h k).mpr (List.mem_cons_of_mem _ m)
      rcases List.mem_cons.mp h1 with e | m'
      · have := hb'.1 k m; omega
      · exact m'
theorem lotOf_asc (n : Nat) (ns : List Int) : (lotOf n ns).Pairwise (· < ·) := (pw_range n).filter _
theorem mem_lotOf {n : Nat} {ns : List Int} {k : Int} : k ∈ lotOf n ns ↔ (0 ≤ k ∧ k < n) ∧ k ∈ ns := by
  unfold lotOf
  rw [List.mem_filter, List.mem_map, decide_eq_true_eq]
  constructor
  · rintro ⟨⟨j, hj, rfl⟩, h⟩
    rw [List.mem_range] at hj
    exact ⟨⟨by simp only [Int.ofNat_eq_natCast]; omega, by simp only [Int.ofNat_eq_natCast]; omega⟩, h⟩
  · rintro ⟨⟨h1, h2⟩, h⟩
    exact ⟨⟨k.toNat, by rw [List.mem_range]; omega, by simp only [Int.ofNat_eq_natCast]; omega⟩, h⟩
theorem lotOf_len (n : Nat) (ns : List Int) : (lotOf n ns).length ≤ n := by
  unfold lotOf
  exact Nat.le_trans (List.length_filter_le _ _) (by simp)
theorem sorted_is {n : Nat} {ns ms : List Int} (hp : ms.Pairwise (· < ·)) (hm : ∀ k, k ∈ ms ↔ k ∈ ns) (hb : ∀ k ∈ ns, 0 ≤ k ∧ k < n) : ms = lotOf n ns :=
  asc_unique hp (lotOf_asc n ns) fun k => by rw [mem_lotOf, hm]; exact ⟨fun h => ⟨hb k h, h⟩, fun h => h.2⟩

/-! ### max(t, default=d) -/
/-- the greatest of ns, d if there is none -/
def maxOf (d : Int) : List Int → Int
  | [] => d
  | n :: r => r.foldl max n
def rMaxD (K : PySem.W.Frag) : List V → List V → Hp → VK → Prop := fun xs zs H Q => ∃ (p : Addr) (ns : List Int) (d : Int), xs = [.ref p] ∧ zs = [.int d] ∧ SqT K H p (ns.map V.int) ∧
  Q (.int (maxOf d ns)) H
theorem intOf {v : Value} {h : Heap} {i : Int} {bs : List Addr} (r : Reads h v (.int i) bs) : ∃ t, v = Value.int i t := by
  cases r with
  | int i t => exact ⟨t, rfl⟩
theorem c_maxD {X : Cx} {K : PySem.W.Frag} (hu : X.A.units + 3 < cLine) (hc : X.calm = true := by rfl) (h : X.K = K := by rfl) : CallRK X (.builtin "max") [Str.ofString "default"] (rMaxD K) := by
  subst h
  intro pins s σ H xs zs us ws Q I r rz h
  obtain ⟨p, ns, d, rfl, rfl, hq, q⟩ := h
  rw [Vals.ref1 r]
  obtain ⟨tk, rfl⟩ : ∃ t, ws = [Value.int d t] := by
    cases rz with
    | cons r1 r2 => cases r2; obtain ⟨t, rfl⟩ := r1; exact ⟨t, rfl⟩
  obtain ⟨its, rv, ht, hz⟩ := I.tuple hq
  obtain ⟨as, hr⟩ := Dp.readsAll I (ns.map .int) _ its (RpAll.dp _ _ (rpAll_of_ints ns)) rv
  have kept : ∀ (v : V) (u : Value) (h' : Heap) (tk : Nat), RelV v u → (∀ b o, s.heap.get? b = some o → h'.get? b = some o) → Q v H → EP X pins σ Q u { s with heap := h', toks := tk } := fun v u h' tk rvu k hq => ⟨v, H, I.kept (t' := tk) k, rvu, hq⟩
  refine PySem.W.max_tuple_default (I.ok.hd hc) ht hr ⟨?_, ?_⟩ ?_ (fun hn h' tk k => ?_) (fun y ys i v h' tk bs e hv hrd k => ?_)
  · intro x hx y hy
    obtain ⟨a, _, rfl⟩ := List.mem_map.mp hx
    obtain ⟨b, _, rfl⟩ := List.mem_map.mp hy
    rfl
  · intro x hx
    obtain ⟨a, _, rfl⟩ := List.mem_map.mp hx
    intro z; cases z
  · have := depthAll_ints ns
    omega
  · have : ns = [] := List.map_eq_nil_iff.mp hn
    subst this
    exact kept (.int d) _ h' tk ⟨_, rfl⟩ k q
  · cases ns with
    | nil => cases e
    | cons n r =>
      simp only [List.map_cons, List.cons.injEq] at e
      obtain ⟨rfl, rfl⟩ := e
      rw [PySem.W.maxD_ints] at hrd
      obtain ⟨t, rfl⟩ := intOf hrd
      exact kept (.int _) _ h' tk ⟨_, rfl⟩ k q
theorem g_maxD {ns : List Int} {c : Int} (h : EvG K pt te σ F (Is (dT ns))) (hd : EvG K pt ta σ F (Is (.int c))) : EvG K pt (tCKw (rMaxD K) (tCons te tNil) (tCons ta tNil)) σ F (Is (.int (maxOf c ns))) := fun H1 i g Q q =>
  h H1 i g _ fun d v F2 H2 hd' s hv => hd.mono s.sub H2 s.inn s.good _ fun d2 v2 F3 H3 hd2 s3 hv2 => by
    subst hd'; subst hd2
    obtain ⟨a, xs, rfl, hl, ha⟩ := rp_tup hv
    have e1 := rpAll_ints ha
    subst e1
    refine ⟨a, ns, c, rfl, by rw [rp_int hv2], tx s3.inn (s3.sub _ _ hl), ?_⟩
    exact q _ _ F3 H3 rfl (s.trans s3) (.int _)
/-! ### () + t -/
theorem c_catT0 : True := trivial
end
end Fv

namespace Fv
open PySem PySem.Spec PyProof.Rows L2 Evl StX
theorem hu3 {k : Nat} {A : Around} (hr : Room k A) : A.units + 3 < cLine := Nat.lt_of_le_of_lt (Nat.add_le_add_left (by decide : 3 ≤ 64) _) hr.units
theorem hu65 {k : Nat} {A : Around} (hr : Room k A) : A.units + 65 < cLine := by have := hr.un; omega
theorem o_catA {X : Cx} {K : PySem.W.Frag} (h : X.K = K := by rfl) : OpR X (binaryOp .Add) (rCatA K) := h ▸ op_catA
section
variable {K : PySem.W.Frag} {w : World} {pt : Option Pt} {σ : L2.St} {F F' H : Hp} {te ta tb : TE} {ts tr : TA} {t u : TT} {R R1 S2 R3 : PD} {d e z : PyData} {r : L2.R2} {wi wi1 : TI}
theorem rv_catA {ds es : List PyData} (hz : ds.length + es.length ≤ 100000) : RvG K (rCatA K) (.tuple ds) (.tuple es) (Is (.tuple (ds ++ es))) := fun F H x y e hx hy Q q => by
  obtain ⟨a, xs, rfl, hl, ha⟩ := rp_tup hx
  obtain ⟨b, ys, rfl, hm, hb⟩ := rp_tup hy
  refine ⟨a, b, xs, ys, rfl, rfl, tx e hl, tx e hm, by rw [ha.length, hb.length]; exact sz_of hz, ?_, ?_, fun _ _ p hp => ?_⟩
  · rintro rfl
    cases ha
    exact q _ _ F H rfl (.refl e .nil) (.tup hm hb)
  · rintro _ rfl
    cases hb
    exact q _ _ F H rfl (.refl e .nil) (.tup hl (by rw [List.append_nil]; exact ha))
  · have s : Step none F H (upd F p (.tup (xs ++ ys))) (upd H p (.tup (xs ++ ys))) := .laid e .nil hp
    exact q _ _ _ _ rfl s (.tup upd_same (RpAll.mono s.sub _ _ (ha.append hb)))
theorem get_map {α : Type} {enc : α → PyData} {xs : List α} {i : Nat} {d : PyData} (h : (xs.map enc)[i]? = some d) : ∃ x, xs[i]? = some x ∧ d = enc x := by
  rw [List.getElem?_map] at h
  cases e : xs[i]? with
  | none => rw [e] at h; cases h
  | some x => rw [e] at h; exact ⟨x, rfl, (Option.some.inj h).symm⟩
theorem take_succA {α : Type} {ds : List α} {i : Nat} {d : α} (h : ds[i]? = some d) : ds.take (i + 1) = ds.take i ++ [d] := by
  rw [List.take_add_one, h]; rfl
theorem g_lcE {α : Type} {j : Nat} {vs : List Nat} (enc : α → PyData) (xs : List α) (p : α → Bool) (g : α → PyData) (hw : WiG K pt wi σ F (· = xs.map enc)) (hz : xs.length ≤ 50000) (hwp : ∀ x, wipe ((wipe σ vs).set j (some x)) vs = wipe σ vs)
    (ht : ∀ x ∈ xs, ∀ F', Ex F F' → ∀ v, Rp K F' v (enc x) → EtG pt t ((wipe σ vs).set j (some v)) F' (· = p x))
    (he : ∀ x ∈ xs, p x = true → ∀ F', Ex F F' → ∀ v, Rp K F' v (enc x) → EvG K pt te ((wipe σ vs).set j (some v)) F' (Is (g x))) :
    EvG K pt (tLc wi (gName j) t te vs) σ F (Is (.list ((xs.filter p).map g))) := by
  refine (g_lc (RS := (· = xs.map enc)) (fun _ i l => l = ((xs.take i).filter p).map g) hw (fun _ e => by rw [e, List.length_map]; exact hz) hwp (fun ds i l _ a => ?_) (fun _ _ => by simp) (fun ds' i d e hd => ?_)).imp fun x hx => ?_
  · rw [a, List.length_map]
    exact Nat.le_trans (List.length_filter_le _ _) (by rw [List.length_take]; exact Nat.min_le_left _ _)
  · subst e
    obtain ⟨x, hx, rfl⟩ := get_map hd
    have hm : x ∈ xs := List.mem_of_getElem? hx
    refine ⟨(· = p x), Is (g x), fun hp l y a ex => ?_, fun hp l a => ?_, fun F' e v hv => ⟨ht x hm F' e v hv, fun hp => he x hm hp.symm F' e v hv⟩⟩
    · rw [take_succA hx, List.filter_append, List.map_append, a, ex]
      simp [hp.symm]
    · rw [take_succA hx, List.filter_append, List.map_append, a]
      simp [hp.symm]
  · obtain ⟨ds', l, e1, e2, e3⟩ := hx
    subst e2
    rw [List.length_map, List.take_length] at e3
    show x = _
    rw [e1, e3]
theorem g_lcEM {α : Type} {j : Nat} {vs : List Nat} (enc : α → PyData) (xs : List α) (g : α → PyData) (hw : WiG K pt wi σ F (· = xs.map enc)) (hz : xs.length ≤ 50000) (hwp : ∀ x, wipe ((wipe σ vs).set j (some x)) vs = wipe σ vs)
    (he : ∀ x ∈ xs, ∀ F', Ex F F' → ∀ v, Rp K F' v (enc x) → EvG K pt te ((wipe σ vs).set j (some v)) F' (Is (g x))) :
    EvG K pt (tLc wi (gName j) tYes te vs) σ F (Is (.list (xs.map g))) :=
  (g_lcE enc xs (fun _ => true) g hw hz hwp (fun _ _ _ _ _ _ => et_yes) (fun d hd _ => he d hd)).is (congrArg (fun l => PyData.list (List.map g l)) (show xs.filter (fun _ => true) = xs from List.filter_eq_self.mpr (fun _ _ => rfl)))
/-- the items are drawn: each has P -/
theorem g_lcR {α β : Type} {j : Nat} {vs : List Nat} (enc : β → PyData) (P : β → Prop) {RS : List PyData → Prop} (hw : WiG K pt wi σ F RS) (hz : ∀ ds, RS ds → ds.length ≤ 50000) (hwp : ∀ x, wipe ((wipe σ vs).set j (some x)) vs = wipe σ vs)
    (he : ∀ F', Ex F F' → ∀ v, EvG K pt te ((wipe σ vs).set j (some v)) F' (fun x => ∃ y, x = enc y ∧ P y)) :
    EvG K pt (tLc wi (gName j) tYes te vs) σ F (fun x => ∃ (ds : List PyData) (ys : List β), RS ds ∧ x = .list (ys.map enc) ∧ ys.length = ds.length ∧ ∀ y ∈ ys, P y) := by
  refine (g_lc (RS := RS) (fun _ i l => ∃ ys : List β, l = ys.map enc ∧ ys.length = i ∧ ∀ y ∈ ys, P y) hw hz hwp (fun ds i l _ a => ?_) (fun _ _ => ⟨[], rfl, rfl, by simp⟩) (fun ds' i d e hd => ?_)).imp fun x hx => ?_
  · obtain ⟨ys, rfl, e, _⟩ := a
    rw [List.length_map, e]; exact Nat.le_refl _
  · refine ⟨(· = true), fun x => ∃ y, x = enc y ∧ P y, fun _ l x a ex => ?_, (fun hp => by cases hp), fun F' e v hv => ⟨et_yes, fun _ => he F' e v⟩⟩
    obtain ⟨ys, rfl, e, hP⟩ := a
    obtain ⟨y, rfl, py⟩ := ex
    refine ⟨ys ++ [y], by simp, by simp [e], fun z hz => ?_⟩
    rcases List.mem_append.mp hz with m | m
    · exact hP z m
    · rw [List.mem_singleton.mp m]; exact py
  · obtain ⟨ds', l, e1, e2, ys, rfl, e4, e5⟩ := hx
    exact ⟨ds', ys, e2, e1, e4, e5⟩
theorem yes_of {σ : L2.St} {H : Hp} {Q : Bool → Hp → Prop} (h : Q true H) : tYes σ H Q := h
theorem ite_t {p q : Prop} (h : p) : (if true = true then p else q) := by rw [if_pos rfl]; exact h
/-- [e for x in .. for y in .. if ..] -/
theorem g_lc2E {α β : Type} {j j1 : Nat} {vs vs1 : List Nat} (enc : α → PyData) (enc1 : β → PyData) (xs : List α) (ys : α → List β) (p : α → β → Bool) (g : α → β → PyData) (hw : WiG K pt wi σ F (· = xs.map enc)) (hz : xs.length ≤ 300) (hz1 : ∀ x ∈ xs, (ys x).length ≤ 300)
    (hwp : ∀ x, wipe ((wipe σ vs).set j (some x)) vs = wipe σ vs) (hwp1 : ∀ x y, wipe ((wipe ((wipe σ vs).set j (some x)) vs1).set j1 (some y)) vs1 = wipe ((wipe σ vs).set j (some x)) vs1)
    (hw1 : ∀ x ∈ xs, ∀ F', Ex F F' → ∀ v, Rp K F' v (enc x) → WiG K pt wi1 ((wipe σ vs).set j (some v)) F' (· = (ys x).map enc1))
    (ht : ∀ x ∈ xs, ∀ y ∈ ys x, ∀ F', Ex F F' → ∀ v u, Rp K F' v (enc x) → Rp K F' u (enc1 y) → EtG pt t ((wipe ((wipe σ vs).set j (some v)) vs1).set j1 (some u)) F' (· = p x y))
    (he : ∀ x ∈ xs, ∀ y ∈ ys x, p x y = true → ∀ F', Ex F F' → ∀ v u, Rp K F' v (enc x) → Rp K F' u (enc1 y) → EvG K pt te ((wipe ((wipe σ vs).set j (some v)) vs1).set j1 (some u)) F' (Is (g x y))) :
    EvG K pt (tLc2 wi (gName j) tYes wi1 (gName j1) t te vs vs1) σ F (Is (.list (xs.flatMap fun x => ((ys x).filter (p x)).map (g x)))) := fun H0 i0 g0 Q q =>
  hw H0 i0 g0 _ fun ds J F1 H1 hds s1 Y => fun Dl hD => by
    subst hds
    have gi := s1.inn
    have gg := s1.good
    let fl := fun l : List α => l.flatMap fun x => ((ys x).filter (p x)).map (g x)
    have hfl : ∀ i, i ≤ xs.length → (fl (xs.take i)).length ≤ i * 300 := by
      intro i
      induction i with
      | zero => intro _; simp [fl]
      | succ i ih =>
        intro hi
        have e := List.getElem?_eq_getElem (show i < xs.length by omega)
        rw [take_succA e]
        show ((xs.take i ++ [xs[i]]).flatMap _).length ≤ _
        rw [List.flatMap_append, List.length_append]
        have h1 := ih (by omega)
        have h2 := hz1 _ (List.mem_of_getElem? e)
        have h3 := List.length_filter_le (p xs[i]) (ys xs[i])
        simp only [List.flatMap_cons, List.flatMap_nil, List.append_nil, List.length_map]
        show (fl (xs.take i)).length + _ ≤ _
        omega
    refine ⟨fun i m H => m = xs.length - i ∧ i ≤ xs.length ∧ Grow K pt F1 H1 Dl (· = fl (xs.take i)) H, ⟨xs.length, by simp, Nat.zero_le _, .start gi gg hD (by simp [fl])⟩, ?_⟩
    rintro i m H ⟨rfl, hi, w⟩
    obtain ⟨F', l, acc, s, f, e, r, a⟩ := id w
    have eH : Ex F1 H := s.sub.trans s.inn
    by_cases hlt : i < xs.length
    · refine .inr ⟨Y.go i H eH (by rw [List.length_map]; exact hlt), Grow K pt F1 H1 Dl (· = fl (xs.take (i + 1))), fun H' p' => ⟨xs.length - (i + 1), by omega, rfl, hlt, p'⟩, fun v H' y => ?_⟩
      obtain ⟨rfl, d, hd, hx⟩ := Y.yld i H v H' eH (by rw [List.length_map]; exact hlt) y
      obtain ⟨x, hxx, rfl⟩ := get_map hd
      have hm : x ∈ xs := List.mem_of_getElem? hxx
      refine ⟨hwp v, ?_⟩
      refine yes_of (ite_t ?_)
      -- the inner walk
      refine hw1 x hm F' (s1.sub.trans s.sub) v (Rp.mono s.sub _ _ hx) H' s.inn s.good _ fun ds1 J1 F2 H2 hds1 s2 Y1 => ?_
      subst hds1
      obtain ⟨f2, e2⟩ := s2.beside gg hD f e
      let fi := fun k : Nat => fl (xs.take i) ++ (((ys x).take k).filter (p x)).map (g x)
      refine ⟨fun k m H => m = (ys x).length - k ∧ k ≤ (ys x).length ∧ ∃ F3 acc, Step pt F1 H1 F3 H ∧ Ex F2 F3 ∧ F3 Dl = none ∧ H Dl = some (.lst acc) ∧ RpAll K F3 acc (fi k), ⟨(ys x).length, by simp, Nat.zero_le _, F2, acc, s.trans s2, Ex.refl _, f2, e2, ?_⟩, ?_⟩
      · show RpAll K F2 acc (fl (xs.take i) ++ (((ys x).take 0).filter (p x)).map (g x))
        rw [List.take_zero, List.filter_nil, List.map_nil, List.append_nil, ← a]
        exact RpAll.mono s2.sub _ _ r
      rintro k m H3 ⟨rfl, hk, F3, acc3, s3, e23, f3, e3, r3⟩
      have eH3 : Ex F2 H3 := e23.trans s3.inn
      by_cases hkl : k < (ys x).length
      · refine .inr ⟨Y1.go k H3 eH3 (by rw [List.length_map]; exact hkl), fun H => ∃ F3 acc, Step pt F1 H1 F3 H ∧ Ex F2 F3 ∧ F3 Dl = none ∧ H Dl = some (.lst acc) ∧ RpAll K F3 acc (fi (k + 1)), fun H' p' => ⟨(ys x).length - (k + 1), by omega, rfl, hkl, p'⟩, fun u H' yy => ?_⟩
        obtain ⟨rfl, d1, hd1, hu⟩ := Y1.yld k H3 u H' eH3 (by rw [List.length_map]; exact hkl) yy
        obtain ⟨y, hyy, rfl⟩ := get_map hd1
        have hmy : y ∈ ys x := List.mem_of_getElem? hyy
        have hv3 : Rp K F3 v (enc x) := Rp.mono s3.sub _ _ hx
        have hu3 : Rp K F3 u (enc1 y) := Rp.mono e23 _ _ hu
        refine ⟨hwp1 v u, ?_⟩
        refine ht x hm y hmy F3 (s1.sub.trans s3.sub) v u hv3 hu3 H' s3.inn s3.good _ fun b F4 H4 hb s4 => ?_
        obtain ⟨f4, e4⟩ := s4.beside gg hD f3 e3
        subst hb
        cases hp : p x y with
        | true =>
          rw [if_pos rfl]
          refine he x hm y hmy hp F4 ((s1.sub.trans s3.sub).trans s4.sub) v u (Rp.mono s4.sub _ _ hv3) (Rp.mono s4.sub _ _ hu3) H4 s4.inn s4.good _ fun z zv F5 H5 hzz s5 hzv => ?_
          obtain ⟨f5, e5⟩ := s5.beside gg hD f4 e4
          subst hzz
          refine ⟨acc3, e5, sz_lt ?_, F5, acc3 ++ [zv], ((s3.trans s4).trans s5).put gg hD f5, (e23.trans s4.sub).trans s5.sub, f5, upd_same, ?_⟩
          · rw [r3.length]
            show (fl (xs.take i) ++ (((ys x).take k).filter (p x)).map (g x)).length < 100000
            rw [List.length_append, List.length_map]
            have h1 := hfl i hi
            have h2 := List.length_filter_le (p x) ((ys x).take k)
            have h3 := hz1 x hm
            rw [List.length_take] at h2
            have h4 : i * 300 ≤ 300 * 300 := Nat.mul_le_mul_right _ (by omega)
            omega
          · show RpAll K F5 _ (fl (xs.take i) ++ (((ys x).take (k + 1)).filter (p x)).map (g x))
            rw [take_succA hyy, List.filter_append, List.map_append]
            have : [y].filter (p x) = [y] := by simp [hp]
            rw [this, List.map_cons, List.map_nil, ← List.append_assoc]
            exact RpAll.append (RpAll.mono (s4.sub.trans s5.sub) _ _ r3) (.one hzv)
        | false =>
          rw [if_neg Bool.false_ne_true]
          refine ⟨F4, acc3, s3.trans s4, e23.trans s4.sub, f4, e4, ?_⟩
          show RpAll K F4 _ (fl (xs.take i) ++ (((ys x).take (k + 1)).filter (p x)).map (g x))
          rw [take_succA hyy, List.filter_append, List.map_append]
          have : [y].filter (p x) = [] := by simp [hp]
          rw [this, List.map_nil, List.append_nil]
          exact RpAll.mono s4.sub _ _ r3
      · have hE : k = (ys x).length := Nat.le_antisymm hk (Nat.le_of_not_lt hkl)
        subst hE
        refine .inl ⟨by have := Y1.stop H3 eH3; rw [List.length_map] at this; exact this, F3, fl (xs.take (i + 1)), acc3, s3, f3, e3, ?_, rfl⟩
        have e6 : fl (xs.take (i + 1)) = fi (ys x).length := by
          show (xs.take (i + 1)).flatMap _ = fl (xs.take i) ++ (((ys x).take (ys x).length).filter (p x)).map (g x)
          rw [take_succA hxx, List.flatMap_append, List.take_length]
          simp only [List.flatMap_cons, List.flatMap_nil, List.append_nil]
          rfl
        rw [e6]
        exact r3
    · have hE : i = xs.length := Nat.le_antisymm hi (Nat.le_of_not_lt hlt)
      subst hE
      refine .inl ⟨by have := Y.stop H eH; rw [List.length_map] at this; exact this, ?_⟩
      obtain ⟨F2, l2, a2, s2, r2⟩ := w.done gg hD
      refine q _ _ F2 H ?_ (s1.trans s2) r2
      show PyData.list l2 = _
      rw [a2, List.take_length]
theorem rc_allM {α : Type} (a : List α) (p : α → Bool) : RcG K (rAll K) [.list (a.map fun x => .bool (p x))] (Is (.bool (a.all p))) := by
  have h := rc_all (K := K) (bs := a.map p)
  rw [List.map_map] at h
  have e : (a.map p).all id = a.all p := by induction a <;> simp_all
  rw [e] at h
  exact h
theorem rc_anyM {α : Type} (a : List α) (p : α → Bool) : RcG K (rAny K) [.list (a.map fun x => .bool (p x))] (Is (.bool (a.any p))) := by
  have h := rc_any (K := K) (bs := a.map p)
  rw [List.map_map] at h
  have e : (a.map p).any id = a.any p := by induction a <;> simp_all
  rw [e] at h
  exact h
theorem g_cbI {r : List V → Hp → VK → Prop} {ds : List PyData} (h : EvsG K pt ts σ F (· = ds)) (hr : RcG K r ds R) : EvG K pt (tCB r ts) σ F R := g_cb h fun _ e => e ▸ hr
theorem g_consR (h : EvG K pt te σ F R) : EvsG K pt (tCons te tNil) σ F (fun l => ∃ d, l = [d] ∧ R d) := fun H1 i g Q q => gs_cons h gs_nil H1 i g Q fun l vs F2 H2 hl s hv => by
  obtain ⟨d, ds, e, h1, h2⟩ := hl
  exact q l vs F2 H2 ⟨d, by rw [e, h2], h1⟩ s hv
/-- one argument -/
theorem gs_one (h : EvG K pt te σ F (Is d)) : EvsG K pt (tCons te tNil) σ F (· = [d]) := gs_consI h gs_nil
theorem gs_two (h : EvG K pt ta σ F (Is d)) (h2 : EvG K pt tb σ F (Is e)) : EvsG K pt (tCons ta (tCons tb tNil)) σ F (· = [d, e]) := gs_consI h (gs_one h2)
theorem gs_three {tc : TE} (h : EvG K pt ta σ F (Is d)) (h2 : EvG K pt tb σ F (Is e)) (h3 : EvG K pt tc σ F (Is z)) : EvsG K pt (tCons ta (tCons tb (tCons tc tNil))) σ F (· = [d, e, z]) := gs_consI h (gs_two h2 h3)
theorem g_un1 {i : Int} (h : EvG K pt te σ F (Is (.int i))) : EvG K pt (tUn (rU fun i => .int (-i)) te) σ F (Is (.int (-i))) := fun H1 i' g Q q => h H1 i' g _ fun d v F2 H2 hd s hv => by
  subst hd
  exact ⟨i, rp_int hv, q _ _ F2 H2 rfl s (.int _)⟩
theorem g_opI (ha : EvG K pt ta σ F (Is d)) (hb : EvG K pt tb σ F (Is e)) (hr : RvG K r d e R) : EvG K pt (tOp r ta tb) σ F R := g_op ha hb fun _ _ h1 h2 => h1 ▸ h2 ▸ hr
end
section
variable {K : PySem.W.Frag} {pt : Option Pt} {σ : L2.St} {F0 H0 F H F' : Hp} {te ta tb : TE} {t u : TT} {R : PD} {d e z : PyData} {D : Ends} {tu tw tz : TS}
theorem t_asg1 {i : Nat} (s : Step pt F0 H0 F H) (h : EvG K pt te σ F R) (q : ∀ d v F2 H2, R d → Step pt F0 H0 F2 H2 → Ex F F2 → Rp K F2 v d → D.nx (σ.set i (some v)) H2) : tAsg te (gName i) D σ H :=
  h H s.inn s.good _ fun d v F2 H2 hd s2 hv => q d v F2 H2 hd (s.trans s2) s2.sub hv
theorem t_for1 {wi : TI} {j : Nat} {ds : List PyData} (s : Step pt F0 H0 F H) (hw : WiG K pt wi σ F (· = ds)) (I : Nat → L2.St → Hp → Prop) (h0 : ∀ F2, Ex F F2 → I 0 σ F2)
    (hs : ∀ i d, ds[i]? = some d → ∀ σ' F' H' x, I i σ' F' → Step pt F0 H0 F' H' → Ex F F' → Rp K F' x d →
      ∀ N : L2.St → Hp → Prop, (∀ σ2 F2 H2, I (i + 1) σ2 F2 → Step pt F0 H0 F2 H2 → Ex F' F2 → N σ2 H2) → tu { D with nx := N, ct := N, bk := D.nx } (σ'.set j (some x)) H')
    (hd : ∀ σ' F' H', I ds.length σ' F' → Step pt F0 H0 F' H' → Ex F F' → D.nx σ' H') : tFor wi (gName j) tu D σ H :=
  t_for (D := { D with nx := D.nx }) (tz := fun D' σ H => D.nx σ H) s hw I h0 hs hd
/-- a test that fails: the suite is skipped -/
theorem t_skip (s : Step pt F0 H0 F H) (h : EtG pt t σ F (· = false)) (q : ∀ F2 H2, Step pt F0 H0 F2 H2 → Ex F F2 → tz D σ H2) : tSeq (tIfS t tu tNext) tz D σ H := t_when s h (fun z => by cases z) fun _ => q
end
end Fv

namespace Fv
open PySem PySem.Spec PyProof.Rows L2 Evl StX
theorem o_ix {X : Cx} {K : PySem.W.Frag} (h : X.K = K := by rfl) : IxR X (rIx K) := h ▸ ix_seq
theorem m_append {X : Cx} : MtR X "list.append" rAppend := mt_append
section
variable {K : PySem.W.Frag} {w : World} {pt : Option Pt} {σ : L2.St} {F F' H : Hp} {te ta tb : TE} {ts tr : TA} {t u : TT} {R R1 S2 R3 : PD} {d e z : PyData} {r : L2.R2} {wi wi1 : TI}
theorem rv_ix {ds : List PyData} {src : PyData} {i : Int} (hs : src = .list ds ∨ src = .tuple ds) (h : atI ds i = some d) : RvG K (rIx K) src (.int i) (Is d) := fun F H x y e hx hy Q q => by
  rcases hs with rfl | rfl
  · exact .inl (rv_ixL h F H x y e hx hy Q q)
  · exact .inr (.inl (rv_ixT h F H x y e hx hy Q q))
theorem rv_eqI {i j : Int} : RvG K rEq (.int i) (.int j) (Is (.bool (decide (i = j)))) := rv_val fun F H x y _ hx hy => by
  rw [rp_int hx, rp_int hy]
  refine ⟨.bl (decide (V.int i = V.int j)), fun Q q => ⟨rfl, q⟩, ?_⟩
  have : decide (V.int i = V.int j) = decide (i = j) := by by_cases h : i = j <;> simp [h]
  rw [this]; exact .bl _
theorem rc_lenS {ds : List PyData} {src : PyData} (hs : src = .list ds ∨ src = .tuple ds) : RcG K (rLen K) [src] (Is (.int ds.length)) := by
  rcases hs with rfl | rfl
  · exact rc_lenL
  · exact rc_lenT
end
/-! ### a list that grows -/
/-- at l a list of ls beside the part that stays; it was made behind H0 -/
structure Gst (K : PySem.W.Frag) (pt : Option Pt) (F0 H0 : Hp) (l : Addr) (F H : Hp) (ls : List PyData) : Prop where
  step : Step pt F0 H0 F H
  off : F l = none
  ex : ∃ acc, H l = some (.lst acc) ∧ RpAll K F acc ls
section
variable {K : PySem.W.Frag} {pt : Option Pt} {σ : L2.St} {F0 H0 F H F' F2 H2 : Hp} {te ta tb : TE} {ts tr : TA} {t u : TT} {R R1 S2 R3 : PD} {d e z : PyData} {wi : TI} {D : Ends} {tu tw tz : TS} {l : Addr} {ls : List PyData}
theorem Gst.run (g0 : Good pt F0 H0) (h0 : H0 l = none) (g : Gst K pt F0 H0 l F H ls) (s : Step pt F H F2 H2) : Gst K pt F0 H0 l F2 H2 ls := by
  obtain ⟨acc, e, r⟩ := g.ex
  obtain ⟨f2, e2⟩ := s.beside g0 h0 g.off e
  -- the pot is off l
  exact ⟨g.step.trans s, f2, acc, e2, RpAll.mono s.sub _ _ r⟩
theorem Gst.put (g0 : Good pt F0 H0) (h0 : H0 l = none) (g : Gst K pt F0 H0 l F H ls) {v : V} (hv : Rp K F v d) : ∃ acc, H l = some (.lst acc) ∧ acc.length = ls.length ∧ Gst K pt F0 H0 l F (upd H l (.lst (acc ++ [v]))) (ls ++ [d]) := by
  obtain ⟨acc, e, r⟩ := g.ex
  exact ⟨acc, e, r.length, g.step.put g0 h0 g.off, g.off, _, upd_same, r.append (.one hv)⟩
theorem Gst.done (g0 : Good pt F0 H0) (h0 : H0 l = none) (g : Gst K pt F0 H0 l F H ls) : ∃ F2, Step pt F0 H0 F2 H ∧ Ex F F2 ∧ Rp K F2 (.ref l) (.list ls) := by
  obtain ⟨acc, e, r⟩ := g.ex
  have e1 : Ex F (upd F l (.lst acc)) := Ex.new g.off
  refine ⟨upd F l (.lst acc), ⟨g.step.sub.trans e1, fun b u hb => ?_, g.step.keep, fun q hq => ⟨?_, (g.step.good q hq).2⟩, fun b h1 h2 => ?_⟩, e1, .lst upd_same (RpAll.mono e1 _ _ r)⟩
  · by_cases z : b = l
    · rw [z, upd_same] at hb; rw [z, e]; exact hb
    · rw [upd_ne z] at hb; exact g.step.inn b u hb
  · rw [upd_ne (off_pot g0 h0 q hq).1.symm]; exact (g.step.good q hq).1
  · have z : b ≠ l := fun z => h2 (by rw [z]; exact h0)
    rw [upd_ne z]; exact g.step.new b h1 h2
/-- x = [] -/
theorem t_newL {i : Nat} (s : Step pt F0 H0 F H) (q : ∀ l, H0 l = none → H l = none → Gst K pt F0 H0 l F (upd H l (.lst [])) [] → tz D (σ.set i (some (.ref l))) (upd H l (.lst []))) (hb : ∀ l, H l = none → H0 l = none) : tSeq (tAsg (tLst tNil) (gName i)) tz D σ H :=
  ⟨Nat.zero_le _, fun l hl => by
    have f : F l = none := by
      cases e : F l with
      | none => rfl
      | some o => rw [s.inn _ _ e] at hl; cases hl
    exact q l (hb l hl) hl ⟨s.trans (.litter s.inn s.good hl), f, [], upd_same, .nil⟩⟩
/-- x.append(e) -/
theorem t_app {i : Nat} (g0 : Good pt F0 H0) (h0 : H0 l = none) (g : Gst K pt F0 H0 l F H ls) (hi : σ[i]? = some (some (.ref l))) (h : EvG K pt te σ F R) (hz : ls.length < 100000)
    (q : ∀ d F2 H2, R d → Gst K pt F0 H0 l F2 H2 (ls ++ [d]) → Ex F F2 → D.nx σ H2) : tDrop (tBM K "list" rAppend (tVar i) (tCons te tNil)) D σ H := by
  obtain ⟨acc, e, r⟩ := g.ex
  refine ⟨.ref l, hi, .inl ⟨rfl, acc, sq_of e⟩, h H g.step.inn g.step.good _ fun d v F2 H2 hd s hv => ?_⟩
  obtain ⟨acc2, e2, hlen, g2⟩ := (g.run g0 h0 s).put g0 h0 hv
  exact ⟨l, acc2, v, rfl, rfl, e2, sz_lt (by rw [hlen]; exact hz), q d F2 _ hd g2 s.sub⟩
/-- a loop beside a list that grows: I tells the slots and the list behind i turns -/
theorem t_forG {j : Nat} {ds : List PyData} (g0 : Good pt F0 H0) (h0 : H0 l = none) (g : Gst K pt F0 H0 l F H ls) (hw : WiG K pt wi σ F (· = ds)) (I : Nat → L2.St → Hp → List PyData → Prop) (hi : ∀ F2, Ex F F2 → I 0 σ F2 ls)
    (hs : ∀ i d, ds[i]? = some d → ∀ σ' F' H' x ls', I i σ' F' ls' → Gst K pt F0 H0 l F' H' ls' → Ex F F' → Rp K F' x d →
      ∀ N : L2.St → Hp → Prop, (∀ σ2 F2 H2 ls2, I (i + 1) σ2 F2 ls2 → Gst K pt F0 H0 l F2 H2 ls2 → Ex F' F2 → N σ2 H2) → tu { D with nx := N, ct := N, bk := tz D } (σ'.set j (some x)) H')
    (hd : ∀ σ' F' H' ls', I ds.length σ' F' ls' → Gst K pt F0 H0 l F' H' ls' → Ex F F' → tz D σ' H') : tSeq (tFor wi (gName j) tu) tz D σ H :=
  hw H g.step.inn g.step.good _ fun ds' J F1 H1 e s1 Y => by
    subst e
    refine ⟨fun i m σ' H' => m = ds'.length - i ∧ i ≤ ds'.length ∧ ∃ F' ls', Gst K pt F0 H0 l F' H' ls' ∧ Ex F1 F' ∧ I i σ' F' ls', ⟨ds'.length, by simp, Nat.zero_le _, F1, ls, g.run g0 h0 s1, Ex.refl _, hi F1 s1.sub⟩, ?_⟩
    rintro i m σ' H' ⟨rfl, hil, F', ls', g', e', p⟩
    have eH : Ex F1 H' := e'.trans g'.step.inn
    by_cases hlt : i < ds'.length
    · refine .inr ⟨Y.go i H' eH hlt, fun σ2 H2 => ∃ F2 ls2, Gst K pt F0 H0 l F2 H2 ls2 ∧ Ex F1 F2 ∧ I (i + 1) σ2 F2 ls2, fun σ2 H2 ⟨F2, ls2, a, b, c⟩ => ⟨ds'.length - (i + 1), by omega, rfl, hlt, F2, ls2, a, b, c⟩, fun x H2 y => ?_⟩
      obtain ⟨rfl, d, hdd, hx⟩ := Y.yld i H' x H2 eH hlt y
      exact hs i d hdd σ' F' _ x ls' p g' (s1.sub.trans e') (Rp.mono e' _ _ hx) _ fun σ2 F2 H2 ls2 a b c => ⟨F2, ls2, b, e'.trans c, a⟩
    · have hE : i = ds'.length := Nat.le_antisymm hil (Nat.le_of_not_lt hlt)
      subst hE
      exact .inl ⟨Y.stop H' eH, hd σ' F' H' ls' p g' (s1.sub.trans e')⟩
end
end Fv
namespace Fv
open PySem L2 Evl
theorem Step.back {pt : Option Pt} {F0 H0 F H : Hp} (s : Step pt F0 H0 F H) (l : Addr) (h : H l = none) : H0 l = none := by
  cases e : H0 l with
  | none => rfl
  | some o => exact absurd h (s.keep.there (F := F) s.good (by rw [e]; simp))
end Fv

/-! a dict comprehension whose keys are tuples -/
namespace Fv
open PySem PySem.Spec PyProof.Rows L2 Evl StX
/-- the store of one entry, the key a tuple that stands -/
theorem putT {Y : Cx} {pins : List (Addr × Obj)} {τ : L2.St} {G : Hp} {s : Shared} {E : Value → Shared → Prop} {D b : Addr} {es : List (List Key × V)} {k : List Key} {v : V} {u r : Value} {Q : Unit → Shared → Prop}
    (hu : Y.A.units + 1 < cLine) (I : Inv Y pins τ G s) (hD : G D = some (.dT es)) (hk : G b = some (.tup (k.map kV))) (hz : es.length < sizeLine) (ru : RelV (.ref b) u) (rr : RelV v r)
    (fin : ∀ s', Inv Y pins τ (upd G D (.dT (putK es k v))) s' → Q () s') : wpAny (model Y.prog Y.w) Y.A (dictSet D u r) Q E s := by
  cases (show u = Value.ref b from ru)
  obtain ⟨hl, hsys, ts, kt, of⟩ := dt_of I.hok hD
  refine wpAny_dictSet_heap (hsz := by rw [← Paired.length kt]; exact hl) (show (tupleKind (mixKind Y.prog Y.w)).room Y.A from Nat.lt_of_succ_lt hu) (key_of I.hok hk) of fun hp' new same => fin _ ?_
  obtain ⟨o, ar, n, e1, e2, e3, e4, _, e6⟩ := new
  have fit : (putK es k v).length ≤ sizeLine := by have := length_putK es k v; omega
  refine d_write I (by rw [hD]; trivial) same ⟨o, e1⟩ ⟨fit, hsys, _, (kt.put k hk rr).keeps fun c ys ec => ?_, o, ar, n, e1, e2, e3, e4, e6⟩
  have : c ≠ D := ne_of ec hD (fun z => by cases z)
  rw [upd_ne this]; exact ec
/-- {k: v for target in iter if ..}: D is the new dict, each key a tuple of ints and texts -/
def tDcT (wi : TI) (g : TG) (tt : TT) (tk tv : TE) (vs : List Nat) : TE := fun σ H Q => wi σ H fun J H1 => ∀ D, H1 D = none →
  ∃ W : Nat → Nat → Hp → Prop, (∃ m, W 0 m (upd H1 D (.dT []))) ∧ ∀ i m H, W i m H →
    (J.stop i H ∧ Q (.ref D) H) ∨
    (J.go i H ∧ ∃ Nx : Hp → Prop, (∀ H', Nx H' → ∃ m', m' < m ∧ W (i + 1) m' H') ∧
      ∀ x H', J.yld i H x H' → g x (wipe σ vs) H' fun σ2 H2 => wipe σ2 vs = wipe σ vs ∧ tt σ2 H2 fun b H3 =>
        if b = true then tk σ2 H3 fun y H4 => tv σ2 H4 fun z H5 => ∃ es k q, y = .ref q ∧ H5 q = some (.tup (k.map kV)) ∧ H5 D = some (.dT es) ∧ es.length < sizeLine ∧ Nx (upd H5 D (.dT (putK es k z)))
        else Nx H3)
section
variable {X : Cx} {kx vx tg iter : Expr} {ifs : List Expr} {scope : Scope} {own : List (Str × Nat)} {pos : Pos} {wi : TI} {g : TG} {tt : TT} {tk tv : TE}
/-- the scope's block of a comprehension, whatever its own frame -/
abbrev Blk (X : Cx) (scope : Scope) (P : Cx → Prop) : Prop := ∀ (s : Shared) (H : Hp) (C : Addr) (cl : List (Str × Addr)) (fp : List Addr), P (X.blk s H scope (compEnvC scope cl C X.env) fp)
theorem pe_dcT (hc : X.calm = true) (hu : X.A.units + 1 < cLine) (hN : X.N.Nodup) (hi : PI X tg iter wi) (ok : BlkOk X.N X.env.scope scope own)
    (hg : Blk X scope fun Y => PG Y tg g) (ht : Blk X scope fun Y => PTs Y ifs tt) (hk : Blk X scope fun Y => PE Y kx tk) (hv : Blk X scope fun Y => PE Y vx tv) (hs : ∀ x, foldedSetIterable iter X.env x = pure x := by intro _; rfl) :
    PE X (.DictComp kx vx [⟨tg, iter, ifs, 0⟩] scope pos) (tDcT wi g tt tk tv (own.map (·.2))) := by
  refine ⟨fun pins s σ H Q I q => ?_⟩
  rw [arm_eval_DictComp]
  have clo : ∀ n ∈ scope.names, n.2 = .free → ∃ c, X.env.cells.lookup n.1 = some c := fun n hn e => (ok.free n hn e).elim (fun z => I.ok.has _ (.inl z)) fun z => I.ok.has _ (.inr z)
  refine wpAny_comprehension_free (use := none) rfl hs (closure_ok clo) ok.kind (fun n hn e => by rw [ok.uniq n hn, e]) (thn (hi.run pins s σ H _ I q) fun xv sa ha => thn ha fun itv sb hb => ?_)
  obtain ⟨it, fp, tn, J, Hb, rfl, Ib, T, tb, fb, qb⟩ := hb
  refine wpAny_newObj_type (newEnv_comp ?_)
  -- the dict D, then the block's frame C
  generalize eD : sb.heap.objs.size = D
  have freeD : Hb D = none := Ib.hok.fresh (Nat.le_of_eq eD)
  obtain ⟨W, ⟨m0, w0⟩, turn⟩ := qb D freeD
  generalize ec : ({ sb with heap := sb.heap.push { cls := .type "dict", data := .dict #[] } } : Shared) = sc
  have push : sc.heap = sb.heap.push { cls := .type "dict", data := .dict #[] } := by rw [← ec]
  have Ic : Inv X pins σ (upd Hb D (.dT [])) sc := by
    subst eD; subst ec
    exact Ib.laid (t' := sb.toks) (fun _ _ e => Heap.get?_push_of_some _ e) (Nat.le_refl _) (dt_empty sb.heap Ib.big)
  have fc : ∀ b ∈ fp, FpOk X pins (upd Hb D (.dT [])) b ∧ b < sc.heap.objs.size := fun b hb => by
    obtain ⟨o, e, _⟩ := T.obj _ _ tb b hb
    have lt := Heap.lt_size e
    have ne : b ≠ D := fun z => by rw [z, ← eD] at lt; exact Nat.lt_irrefl _ lt
    exact ⟨⟨by rw [upd_ne ne]; exact (fb b hb).1, (fb b hb).2⟩, by rw [push, Heap.size_push]; exact Nat.lt_succ_of_lt lt⟩
  have tc : tn 0 sc.heap := T.keep _ _ _ tb fun _ _ _ e => by rw [push]; exact Heap.get?_push_of_some _ e
  have Id := block_start Ic ok hN fc
  have none3 : ∀ b ∈ fp, upd Hb D (.dT []) b = none := fun b hb => (fc b hb).1.1
  have bg := hg sc (upd Hb D (.dT [])) sc.heap.objs.size (cellsFrom (sc.heap.objs.size + 1) scope.names (cloFrom X.env.cells scope.names [])) fp
  have bt := ht sc (upd Hb D (.dT [])) sc.heap.objs.size (cellsFrom (sc.heap.objs.size + 1) scope.names (cloFrom X.env.cells scope.names [])) fp
  have bk := hk sc (upd Hb D (.dT [])) sc.heap.objs.size (cellsFrom (sc.heap.objs.size + 1) scope.names (cloFrom X.env.cells scope.names [])) fp
  have bv := hv sc (upd Hb D (.dT [])) sc.heap.objs.size (cellsFrom (sc.heap.objs.size + 1) scope.names (cloFrom X.env.cells scope.names [])) fp
  show codeAny _ _ (.compStart (.DictComp kx vx [⟨tg, iter, ifs, 0⟩] scope pos) 0 (.ref it) (.ref D) (compEnvC scope (cellsFrom (sc.heap.objs.size + 1) scope.names (cloFrom X.env.cells scope.names [])) sc.heap.objs.size X.env))
    (compPost (model X.prog X.w) X.A X.xe none (EP X pins σ Q) (.ref D) sc.heap.objs.size) { sc with heap := pushCells (sc.heap.push { cls := .type "dict", data := .dict #[] }) scope.names }
  have td : tn 0 (pushCells (sc.heap.push { cls := .type "dict", data := .dict #[] }) scope.names) := T.keep _ _ _ tc fun _ _ _ e => pushCells_keeps _ _ _ _ (Heap.get?_push_of_some _ e)
  generalize eY : compEnvC scope (cellsFrom (sc.heap.objs.size + 1) scope.names (cloFrom X.env.cells scope.names [])) sc.heap.objs.size X.env = env1 at Id bg bt bk bv ⊢
  have locY : env1.locals = sc.heap.objs.size := by rw [← eY]; rfl
  generalize eH : upd Hb D (.dT []) = Hc at Ic Id bg bt bk bv w0 none3 fc
  generalize es0 : ({ sc with heap := pushCells (sc.heap.push { cls := .type "dict", data := .dict #[] }) scope.names } : Shared) = sd at Id ⊢
  have td' : tn 0 sd.heap := by rw [← es0]; exact td
  generalize eZ : X.blk sc Hc scope env1 fp = Y at Id bg bt bk bv
  have YA : Y.A = X.A := by rw [← eZ]
  have own1 : ∀ {τ : L2.St} {G : Hp} {s' : Shared}, Inv Y [] τ G s' → (∀ b ∈ fp, G b = none) → ∀ b ∈ fp, FpOk Y [] G b := fun {τ G s'} J1 hn b hb => by
    subst eZ
    exact ⟨hn b hb, (J1.ok.exf b hb).1, J1.ok.exfs b hb, .inl hb, fun x c e => (J1.ok.exf b hb).2 x c e, fun p hp => by simp at hp⟩
  have main : codeAny (model X.prog X.w) X.A (.compLoop (.DictComp kx vx [⟨tg, iter, ifs, 0⟩] scope pos) 0 (.ref it) (.ref D) env1) (compPost (model X.prog X.w) X.A X.xe none (EP X pins σ Q) (.ref D) sc.heap.objs.size) sd := by
    refine compLoop_anyD (fun n s' => ∃ i G, Inv Y [] (wipe σ (own.map (·.2))) G s' ∧ tn i s'.heap ∧ (∀ b ∈ fp, G b = none) ∧ W i n G) ?_ m0 ⟨0, Hc, Id, td', none3, w0⟩
    rintro n s1 ⟨i, G, J1, t1, n1, w1⟩
    rcases turn i n G w1 with ⟨stp, qq⟩ | ⟨go, Nx, hNx, step⟩
    · -- the end: back in the def's own frame
      have z := T.done Y (by subst eZ; rfl) (by subst eZ; rfl) (by subst eZ; rfl) (by subst eZ; exact hc) i [] s1 _ G (fun _ _ => False) J1 (own1 J1 n1) t1 stp
      rw [YA] at z
      refine thnF z fun r s2 ⟨er, J2⟩ => ?_
      subst er; subst eZ
      have nC : G sc.heap.objs.size = none := by
        have z : G env1.locals = none := J2.free
        rw [locY] at z; exact z
      obtain ⟨m, hm, _⟩ := J2.loc
      have hm : s2.heap.Ns env1.locals m := hm
      rw [locY] at hm
      have back : Inv X pins σ G s2 := Ic.call' (ch := fp) J2.os J2.base J2.hok J2.bare fun b hb => let y := (fc b hb).1.2; ⟨y.2.2.1, y.1, y.2.2.2.1, y.2.2.2.2⟩
      obtain ⟨f0, f1, f2, f3, f4, f5⟩ := Ic.fpOk (Nat.le_refl _) nC
      exact ⟨m, hm, fun h3 sb3 => ⟨.ref D, G, back.turned (t' := s2.toks) (fun b o hb e => (sb3.2 b hb).trans e) f0 f1 f3 f4 f5, rfl, qq⟩⟩
    · have z := T.item Y (by subst eZ; rfl) (by subst eZ; rfl) (by subst eZ; rfl) (by subst eZ; exact hc) i [] s1 _ G (fun _ _ => False) J1 (own1 J1 n1) t1 go
      rw [YA] at z
      refine thnF z fun r s2 ⟨u, er, h2⟩ => ?_
      subst er
      refine thnF h2 fun _ s3 ⟨x, G3, J3, r3, y3, t3, n3⟩ => ?_
      have J3' := J3.pinned (own1 J3 n3) (T.obj _ _ t3)
      have zg := bg.run _ s3 _ G3 x u _ J3' r3 (step x G3 y3)
      subst eZ
      refine thnF zg fun _ s4 ⟨τ, G4, J4, hw4, q4⟩ => ?_
      refine thnF (bt.run _ s4 τ G4 _ J4 q4) fun b s5 ⟨G5, J5, q5⟩ => ?_
      have len : (wipe σ (own.map (·.2))).length = τ.length := by rw [← hw4, wipe_length]
      have close : ∀ {s' : Shared} {G' : Hp}, Inv (X.blk sc Hc scope env1 fp) ([] ++ pinsAt fp s3.heap) τ G' s' → Nx G' → ∃ m, m < n ∧ ∃ i G, Inv (X.blk sc Hc scope env1 fp) [] (wipe σ (own.map (·.2))) G s' ∧ tn i s'.heap ∧ (∀ b ∈ fp, G b = none) ∧ W i m G := fun {s' G'} J' nx => by
        obtain ⟨m', lt, w'⟩ := hNx G' nx
        have held : ∀ b ∈ fp, ∀ o, s3.heap.get? b = some o → s'.heap.get? b = some o ∧ G' b = none := fun b hb o e =>
          have y := J'.pin (b, o) (List.mem_append_right _ (List.mem_append_right _ (mem_pinsAt hb e)))
          ⟨y.1, y.2.1⟩
        refine ⟨m', lt, i + 1, G', (J'.unpinned (pins := [])).weak len (fun j v e => (wipe_some (hw4 ▸ e)).1), T.keep _ _ _ t3 fun b hb o e => (held b hb o e).1, fun b hb => ?_, w'⟩
        obtain ⟨o, e, _⟩ := T.obj _ _ t3 b hb
        exact (held b hb o e).2
      cases b with
      | false => exact close J5 (by simpa using q5)
      | true =>
        have q5' := q5
        simp only [if_true] at q5'
        refine thnF (bk.run _ s5 τ G5 _ J5 q5') fun kv s6 ⟨yk, G6, J6, r6, q6⟩ => ?_
        refine thnF (bv.run _ s6 τ G6 _ J6 q6) fun vv s7 ⟨yv, G7, J7, r7, es, k, q, ek, hq, hD, hz, nx⟩ => ?_
        subst ek
        exact putT (Y := X.blk sc Hc scope env1 fp) hu J7 hD hq hz r6 r7 fun s8 J8 => close J8 nx
  exact codeAny_compStart_dict main (T.self X.A 0 _ _ _ td' main)
end
end Fv

/-! sorted of a list of rows of whole numbers -/
namespace Fv
open PySem PySem.Spec PyProof.Rows L2 Evl StX
/-- the rows in Python's order -/
def sortL (ls : List (List Int)) : List (List Int) := ls.mergeSort (PySem.W.dataLe false dT)
theorem sortL_perm (ls : List (List Int)) : (sortL ls).Perm ls := List.mergeSort_perm _ _
theorem each_of_vals {β : Type} {f : β → V} : ∀ {bs : List β} {us : List Value}, Vals (bs.map f) us → PySem.W.EachIs (fun u b => RelV (f b) u) us bs
  | [], _, h => by cases h; exact .nil
  | b :: bs, _, h => by
    cases h with
    | cons r t => exact .cons r (each_of_vals t)
theorem vals_of_each {β : Type} {f : β → V} : ∀ {bs : List β} {us : List Value}, PySem.W.EachIs (fun u b => RelV (f b) u) us bs → Vals (bs.map f) us
  | [], _, h => by cases h; exact .nil
  | b :: bs, _, h => by
    cases h with
    | cons r t => exact .cons r (vals_of_each t)
theorem sorts_unit {prog : Program} {w : World} {A : Around} {s : Shared} {vs : List Value} (e : PySem.W.EachIs (fun v d => ∃ as, Reads s.heap v d as) vs [dT []]) (hu : A.units + 1 < cLine) : PySem.W.SortsAt prog w A s (PySem.W.dataKind s.heap [dT []]) vs := by
  have one : ∀ d, d ∈ [dT []] → d = dT [] := fun d h => List.mem_singleton.mp h
  refine ⟨fun v hv => ?_, general', fun E x y a b Q ha hb hq => ?_, fun h2 => ?_⟩
  · obtain ⟨d, hd, as, r⟩ := e.left v hv
    exact ⟨_, PySem.W.dataKind_some (fun d h d' h' => by rw [one d h, one d' h']; rfl) hd r⟩
  · obtain ⟨d, as, hd, ra, rfl⟩ := PySem.W.dataKind_inv ha
    obtain ⟨d', as', hd', rb, rfl⟩ := PySem.W.dataKind_inv hb
    have e1 := one d hd
    have e2 := one d' hd'
    subst e1 e2
    show wpAny _ _ (oneLt' false x y) Q E s
    exact PySem.W.oneLt_alike (f := false) (fun z => by cases z) ra rb rfl (fun z => by cases z) (by have : (dT []).depth = 1 := by decide
                                                                                                     rw [this]; omega) hq
  · have := e.length
    simp at this
    omega
/-- sorted(xs), xs a list of rows -/
def rSortLL (K : PySem.W.Frag) : List V → Hp → VK → Prop := fun xs H Q => ∃ (l : Addr) (ps : List (V × List Int)), xs = [.ref l] ∧ H l = some (.lst (ps.map (·.1))) ∧ (∀ p ∈ ps, Rp K H p.1 (dT p.2)) ∧
  ((∀ p ∈ ps, p.2 ≠ []) ∨ ps.map (·.2) = [[]]) ∧ ∀ (qs : List (V × List Int)) p, qs.Perm ps → qs.map (·.2) = sortL (ps.map (·.2)) → H p = none → Q (.ref p) (upd H p (.lst (qs.map (·.1))))
theorem c_sortLL {X : Cx} {K : PySem.W.Frag} (hu : X.A.units + 65 < cLine) (h : X.K = K := by rfl) : CallR X (.builtin "sorted") (rSortLL K) := by
  subst h
  intro pins s σ H xs us Q I r q
  obtain ⟨l, ps, rfl, hl, hp, hk, q⟩ := q
  rw [Vals.ref1 r]
  obtain ⟨its, rv, pl, hz⟩ := I.list (SqL.of hl)
  have ea : PySem.W.EachIs (fun u b => RelV b.1 u) its ps := each_of_vals rv
  have rd : ∀ u (b : V × List Int), b ∈ ps → RelV b.1 u → ∃ as, Reads s.heap u (dT b.2) as := fun u b hb ru => Dp.reads I (dT b.2) b.1 u (Rp.dp _ _ (hp b hb)) ru
  let hS : Heap := PySem.W.sortingHeap (PySem.W.copyHeap s.heap its) (s.heap.objs.size + 1) its
  have er0 : PySem.W.EachIs (fun u (b : V × List Int) => ∃ as, Reads hS u (dT b.2) as) its ps := (PySem.W.each_mem ea).mono fun u b ⟨ru, hb⟩ => by
    obtain ⟨as, x⟩ := rd u b hb ru
    exact ⟨as, PyProof.Rows.Reads.keeps (fun _ _ => PySem.W.sorting_copy_old) x⟩
  have er1 : PySem.W.EachIs (fun u d => ∃ as, Reads hS u d as) its (ps.map fun b => dT b.2) := PySem.W.each_map (R := fun u d => ∃ as, Reads hS u d as) (fun b : V × List Int => dT b.2) er0
  have al : PySem.W.AllAlike (ps.map fun b => dT b.2) := PySem.W.AllAlike.of fun b b' => PySem.W.alike_ints b.2 b'.2
  have dep : ∀ b : V × List Int, (dT b.2).depth ≤ 2 := fun b => depth_dT b.2
  have S : PySem.W.SortsAt X.prog X.w X.A.in1.in1 { s with heap := hS } (PySem.W.dataKind hS (ps.map fun b => dT b.2)) its := by
    rcases hk with hne | h1
    · refine PySem.W.SortsAt.data (s := { s with heap := hS }) er1 al (.inl fun d hd => ?_) fun d hd => ?_
      · obtain ⟨b, hb, rfl⟩ := List.mem_map.mp hd
        have := hne b hb
        cases e : b.2 with
        | nil => exact absurd e this
        | cons x r => exact ⟨.int x, r.map .int, by simp [dT]⟩
      · obtain ⟨b, hb, rfl⟩ := List.mem_map.mp hd
        have := dep b
        show X.A.units + 1 + 1 + _ < _
        omega
    · have e2 : (ps.map fun b => dT b.2) = [dT []] := by
        have := congrArg (List.map dT) h1
        simpa [List.map_map, Function.comp_def] using this
      rw [e2] at er1 ⊢
      exact sorts_unit (s := { s with heap := hS }) er1 (by show X.A.units + 1 + 1 + 1 < _; omega)
  have out := PySem.W.sortVals_data (h' := hS) (enc := fun b : V × List Int => dT b.2) false ea er0 al
  refine PySem.W.sorted_vals pl.isList S (by rw [← rv.length]; exact hz) ?_
  generalize PySem.W.sortVals (PySem.W.dataKind hS (ps.map fun b => dT b.2)) false its its = ou at out
  generalize eq : ps.mergeSort (PySem.W.dataLe false fun b : V × List Int => dT b.2) = qs at out
  have pq : qs.Perm ps := eq ▸ List.mergeSort_perm _ _
  have snd : qs.map (·.2) = sortL (ps.map (·.2)) := by
    rw [← eq]
    exact PySem.W.sort_maps (s := PySem.W.dataLe false dT) (fun x : V × List Int => x.2) fun _ _ _ _ => rfl
  have vo : Vals (qs.map (·.1)) ou := vals_of_each out
  obtain ⟨c, hc⟩ := PyProof.Rows.sortedAll_at s.heap its ou.toArray
  have fr : H (s.heap.objs.size + 1) = none := I.hok.fresh (Nat.le_succ _)
  have len : (qs.map (·.1)).length ≤ sizeLine := by
    rw [List.length_map, pq.length_eq, ← List.length_map (f := (·.1))]; exact hz
  exact ⟨.ref (s.heap.objs.size + 1), upd H (s.heap.objs.size + 1) (.lst (qs.map (·.1))), I.laid (t' := s.toks) (fun _ _ => PyProof.Rows.sortedAll_old) (Nat.le_succ _) ⟨len, ou, c, vo, hc⟩, rfl, q qs _ pq snd fr⟩
section
variable {K : PySem.W.Frag} {w : World} {pt : Option Pt} {σ : L2.St} {F F' H : Hp} {te : TE}
theorem rp_rows : ∀ {xs : List V} {ls : List (List Int)}, RpAll K F xs (ls.map dT) → (xs.zip ls).map (·.1) = xs ∧ (xs.zip ls).map (·.2) = ls ∧ ∀ p ∈ xs.zip ls, Rp K F p.1 (dT p.2)
  | _, [], h => by cases h; simp
  | _, l :: ls, h => by
    cases h with
    | cons h1 h2 =>
      obtain ⟨e1, e2, e3⟩ := rp_rows h2
      refine ⟨by simp [e1], by simp [e2], fun p hp => ?_⟩
      rw [List.zip_cons_cons] at hp
      rcases List.mem_cons.mp hp with rfl | m
      · exact h1
      · exact e3 p m
theorem rows_rp : ∀ {ps : List (V × List Int)}, (∀ p ∈ ps, Rp K F p.1 (dT p.2)) → RpAll K F (ps.map (·.1)) ((ps.map (·.2)).map dT)
  | [], _ => .nil
  | p :: ps, h => .cons (h p (by simp)) (rows_rp fun q m => h q (List.mem_cons_of_mem _ m))
theorem g_sortLL {ls : List (List Int)} (h : EvG K pt te σ F (Is (dLT ls))) (hk : (∀ l ∈ ls, l ≠ []) ∨ ls = [[]]) : EvG K pt (tCB (rSortLL K) (tCons te tNil)) σ F (Is (dLT (sortL ls))) := fun H1 i g Q q =>
  h H1 i g _ fun d v F2 H2 hd s hv => by
    subst hd
    obtain ⟨a, xs, rfl, hl, ha⟩ := rp_lst hv
    obtain ⟨e1, e2, e3⟩ := rp_rows ha
    refine ⟨a, xs.zip ls, rfl, by rw [e1]; exact s.inn _ _ hl, fun p hp => Rp.mono s.inn _ _ (e3 p hp), ?_, fun qs p pq es hp => ?_⟩
    · rcases hk with hk | hk
      · exact .inl fun p hp => hk _ (by rw [← e2]; exact List.mem_map_of_mem hp)
      · exact .inr (by rw [e2]; exact hk)
    · have s3 : Step pt F2 H2 (upd F2 p (.lst (qs.map (·.1)))) (upd H2 p (.lst (qs.map (·.1)))) := .laid s.inn s.good hp
      refine q _ _ _ _ rfl (s.trans s3) (.lst upd_same ?_)
      rw [e2] at es
      rw [← es]
      exact rows_rp fun r hr => Rp.mono s3.sub _ _ (e3 r (pq.mem_iff.mp hr))
end
end Fv

/-! dicts with rows as keys; objects -/
namespace Fv
open PySem PySem.Spec PyProof.Rows L2 Evl StX
abbrev key (l : List Int) : List Key := l.map Sum.inl
theorem key_kV (l : List Int) : (key l).map kV = l.map V.int := by simp [key, Function.comp_def, kV]
def letD (ls : List (List Int)) : List (List Key × V) := ls.foldl (fun es l => putK es (key l) (.bl true)) []
theorem letD_snoc (ls : List (List Int)) (l : List Int) : letD (ls ++ [l]) = putK (letD ls) (key l) (.bl true) := by simp [letD]
theorem key_inj {a b : List Int} (h : key a = key b) : a = b := by
  have := congrArg (List.map kV) h
  rw [key_kV, key_kV] at this
  exact (List.map_inj_right (fun x y h => by injection h)).mp this
theorem letD_len (ls : List (List Int)) : (letD ls).length ≤ ls.length := by
  unfold letD
  suffices ∀ (es : List (List Key × V)), (ls.foldl (fun es l => putK es (key l) (.bl true)) es).length ≤ es.length + ls.length by simpa using this []
  induction ls with
  | nil => intro es; simp
  | cons l ls ih =>
    intro es
    have h1 := ih (putK es (key l) (.bl true))
    have h2 := length_putK es (key l) (.bl true)
    simp only [List.foldl_cons, List.length_cons]
    omega
theorem valV_letD (ls : List (List Int)) (m : List Int) : valV (letD ls) (key m) = if m ∈ ls then some (.bl true) else none := by
  unfold letD
  suffices ∀ (es : List (List Key × V)), valV (ls.foldl (fun es l => putK es (key l) (.bl true)) es) (key m) = if m ∈ ls then some (.bl true) else valV es (key m) by simpa [valV_nil] using this []
  induction ls with
  | nil => intro es; simp
  | cons l ls ih =>
    intro es
    rw [List.foldl_cons, ih, valV_put]
    by_cases h : m ∈ ls
    · simp [h]
    · by_cases k : m = l
      · subst k; simp
      · have : key m ≠ key l := fun z => k (key_inj z)
        simp [h, k, this]
/-- a value that is no data: told by what stands in the part that stays -/
def EvX (pt : Option Pt) (te : TE) (σ : L2.St) (F : Hp) (Φ : V → Hp → Prop) : Prop :=
  ∀ H1, Ex F H1 → Good pt F H1 → ∀ Q : VK, (∀ v F2 H2, Φ v F2 → Step pt F H1 F2 H2 → Q v H2) → te σ H1 Q
section
variable {K : PySem.W.Frag} {w : World} {pt : Option Pt} {σ : L2.St} {F F' H : Hp} {te tv : TE} {t : TT} {wi : TI}
/-- {l: True for l in rows} -/
theorem x_dcT {j : Nat} {vs : List Nat} {ls : List (List Int)} (hw : WiG K pt wi σ F (· = ls.map dT)) (hz : ls.length ≤ 300) (hwp : ∀ x, wipe ((wipe σ vs).set j (some x)) vs = wipe σ vs)
    (hk : ∀ l ∈ ls, ∀ F', Ex F F' → ∀ v, Rp K F' v (dT l) → EvG K pt te ((wipe σ vs).set j (some v)) F' (Is (dT l))) (hv : ∀ F', Ex F F' → ∀ v, EvG K pt tv ((wipe σ vs).set j (some v)) F' (Is (.bool true))) :
    EvX pt (tDcT wi (gName j) tYes te tv vs) σ F (fun v F2 => ∃ D, v = .ref D ∧ F2 D = some (.dT (letD ls))) := fun H0 i0 g0 Q q =>
  hw H0 i0 g0 _ fun ds J F1 H1 hds s1 Y => fun D hD => by
    subst hds
    have gi := s1.inn
    have gg := s1.good
    have f1 : F1 D = none := by
      cases w : F1 D with
      | none => rfl
      | some o => rw [gi _ _ w] at hD; cases hD
    refine ⟨fun i m H => m = ls.length - i ∧ i ≤ ls.length ∧ ∃ F', Step pt F1 H1 F' H ∧ F' D = none ∧ H D = some (.dT (letD (ls.take i))), ⟨ls.length, by simp, Nat.zero_le _, F1, .litter gi gg hD, f1, upd_same⟩, ?_⟩
    rintro i m H ⟨rfl, hi, F', s, f, e⟩
    have eH : Ex F1 H := s.sub.trans s.inn
    by_cases hlt : i < ls.length
    · refine .inr ⟨Y.go i H eH (by rw [List.length_map]; exact hlt), fun H => ∃ F', Step pt F1 H1 F' H ∧ F' D = none ∧ H D = some (.dT (letD (ls.take (i + 1)))), fun H' p' => ⟨ls.length - (i + 1), by omega, rfl, hlt, p'⟩, fun v H' y => ?_⟩
      obtain ⟨rfl, d, hd, hx⟩ := Y.yld i H v H' eH (by rw [List.length_map]; exact hlt) y
      obtain ⟨l, hl, rfl⟩ := get_map hd
      have hm : l ∈ ls := List.mem_of_getElem? hl
      refine ⟨hwp v, yes_of (ite_t ?_)⟩
      refine hk l hm F' (s1.sub.trans s.sub) v (Rp.mono s.sub _ _ hx) H' s.inn s.good _ fun d2 y2 F2 H2 hd2 s2 hy2 => ?_
      have off : ∀ q, pt = some q → D ≠ q.p := fun q hq => (off_pot gg hD q hq).1
      have f2 := s2.new D f (by rw [e]; simp)
      have e2 := s2.keep D _ off e
      refine hv F2 ((s1.sub.trans s.sub).trans s2.sub) v H2 s2.inn s2.good _ fun d3 y3 F3 H3 hd3 s3 hy3 => ?_
      have f3 := s3.new D f2 (by rw [e2]; simp)
      have e3 := s3.keep D _ off e2
      subst hd2; subst hd3
      rw [rp_bool hy3]
      obtain ⟨q2, xs, rfl, hq2, ha⟩ := rp_tup hy2
      have e1 := rpAll_ints ha
      subst e1
      refine ⟨_, key l, q2, rfl, by rw [key_kV]; exact s3.inn _ _ (s3.sub _ _ hq2), e3, sz_lt ?_, F3, ((s.trans s2).trans s3).put gg hD f3, f3, ?_⟩
      · have := letD_len (ls.take i)
        rw [List.length_take] at this
        omega
      · rw [take_succA hl, letD_snoc]
        exact upd_same
    · have hE : i = ls.length := Nat.le_antisymm hi (Nat.le_of_not_lt hlt)
      subst hE
      rw [List.take_length] at e
      refine .inl ⟨by have := Y.stop H eH; rw [List.length_map] at this; exact this, q _ (upd F' D (.dT (letD ls))) H ⟨D, rfl, upd_same⟩ (s1.trans ⟨s.sub.trans (Ex.new f), fun b u hb => ?_, s.keep, fun z hz => ⟨?_, (s.good z hz).2⟩, fun b h1 h2 => ?_⟩)⟩
      · by_cases z : b = D
        · rw [z, upd_same] at hb; rw [z, e]; exact hb
        · rw [upd_ne z] at hb; exact s.inn b u hb
      · rw [upd_ne (off_pot gg hD z hz).1.symm]; exact (s.good z hz).1
      · have z : b ≠ D := fun z => h2 (by rw [z]; exact hD)
        rw [upd_ne z]; exact s.new b h1 h2
end
/-- H without a -/
def del (H : Hp) (a : Addr) : Hp := fun b => if b = a then none else H b
theorem del_same {H : Hp} {a : Addr} : del H a a = none := by unfold del; rw [if_pos rfl]
theorem del_ne {H : Hp} {a b : Addr} (h : b ≠ a) : del H a b = H b := by unfold del; rw [if_neg h]
theorem del_ex {H : Hp} {a : Addr} : Ex (del H a) H := fun b o h => by
  by_cases z : b = a
  · rw [z, del_same] at h; cases h
  · rw [del_ne z] at h; exact h
/-- what stands for itself within a body: the object at x is the body's own -/
theorem Step.own {F H : Hp} (e : Ex F H) (x dx : Addr) : Step none F (del (del H x) dx) F H := ⟨Ex.refl F, e, Keep.of fun a o h => del_ex _ _ (del_ex _ _ h), .nil, New.refl F _⟩
section
variable {K : PySem.W.Frag} {pt : Option Pt} {σ : L2.St} {F0 H0 F H : Hp} {te : TE} {R : PD} {d : PyData} {D : Ends} {tz : TS} {x dx C : Addr} {fs : List (Str × V)} {i : Nat} {f : Str}
theorem EvG.toX (h : EvG K pt te σ F (Is d)) : EvX pt te σ F (fun v F2 => Rp K F2 v d) := fun H1 i g Q q => h H1 i g Q fun d' v F2 H2 hd s hv => q v F2 H2 (by rw [← (show d' = d from hd)]; exact hv) s
/-- self.f = e -/
theorem t_fld1 {Φ : V → Hp → Prop} (s : Step none F0 H0 F H) (h0 : H0 x = none) (hx : F x = none) (hi : σ[i]? = some (some (.ref x))) (ho : H x = some (.ins C dx fs)) (cl : Cls K C) (na : NoAttr K C f) (hz : fs.length < 1000) (h : EvX none te σ F Φ)
    (q : ∀ v F2 H2, Φ v F2 → Step none F0 H0 F2 H2 → Ex F F2 → F2 x = none → H2 x = some (.ins C dx (putF f v fs)) → D.nx σ H2) : sFld K (tVar i) te f D σ H :=
  h H s.inn .nil _ fun v F2 H2 hv s2 => by
    have f2 : F2 x = none := s2.new x hx (by rw [ho]; simp)
    exact ⟨.ref x, hi, x, C, dx, fs, rfl, s2.keep.ex x _ ho, cl, na, hz, q v F2 _ hv ((s.trans s2).put .nil h0 f2) s2.sub f2 upd_same⟩
theorem t_fld {Φ : V → Hp → Prop} (s : Step none F0 H0 F H) (h0 : H0 x = none) (hx : F x = none) (hi : σ[i]? = some (some (.ref x))) (ho : H x = some (.ins C dx fs)) (cl : Cls K C) (na : NoAttr K C f) (hz : fs.length < 1000) (h : EvX none te σ F Φ)
    (q : ∀ v F2 H2, Φ v F2 → Step none F0 H0 F2 H2 → Ex F F2 → F2 x = none → H2 x = some (.ins C dx (putF f v fs)) → tz D σ H2) : tSeq (sFld K (tVar i) te f) tz D σ H :=
  t_fld1 (D := { D with nx := tz D }) s h0 hx hi ho cl na hz h q
end
end Fv
namespace Fv
open PySem L2 Evl
theorem Step.own1 {F H : Hp} (e : Ex F H) (x : Addr) : Step none F (del H x) F H := ⟨Ex.refl F, e, Keep.of del_ex, .nil, New.refl F _⟩
theorem Step.less {F B B' F2 H2 : Hp} (s : Step none F B F2 H2) (e : Ex B' B) : Step none F B' F2 H2 :=
  ⟨s.sub, s.inn, Keep.of fun a o h => s.keep.ex a o (e a o h), .nil, fun a h1 h2 => s.new a h1 (by
    cases w : B' a with
    | none => exact absurd w h2
    | some o => rw [e a o w]; simp)⟩
theorem Step.add {F B F2 H2 : Hp} {a : Addr} {o : HO} (s : Step none F B F2 H2) (f : F2 a = none) (h : H2 a = some o) (b : B a = none) : Step none F B (upd F2 a o) H2 :=
  ⟨s.sub.trans (Ex.new f), fun c u hc => by
    by_cases z : c = a
    · rw [z, upd_same] at hc; rw [z, h]; exact hc
    · rw [upd_ne z] at hc; exact s.inn c u hc, s.keep, .nil, fun c h1 h2 => by
    have z : c ≠ a := fun z => h2 (by rw [z]; exact b)
    rw [upd_ne z]; exact s.new c h1 h2⟩
end Fv

/-! ranges as rows, slices, fields, keys, static methods -/
namespace Fv
open PySem PySem.Spec PyProof.Rows L2 Evl StX
section
variable {K : PySem.W.Frag} {w : World} {pt : Option Pt} {σ : L2.St} {F F' H : Hp} {te ta tb tv : TE} {t : TT} {wi : TI} {d : PyData} {R : PD}
theorem rgV_rng (a b : Int) (F : Hp) : RpAll K F (rgV a b) (rng a (b - a).toNat) := by
  unfold rgV rng
  have : ∀ (l : List Nat), RpAll K F (l.map fun i => V.int (a + (i : Nat))) (l.map fun (k : Nat) => PyData.int (a + (k : Int))) := by
    intro l
    induction l with
    | nil => exact .nil
    | cons x r ih => exact .cons (.int _) ih
  exact this _
theorem g_tupR1 {n : Int} (h : EvG K pt te σ F (Is (.int n))) (h0 : 0 ≤ n) (h1 : n ≤ 16777216) : EvG K pt (tTupRg (tRg1 te)) σ F (Is (.tuple (rng 0 n.toNat))) := fun H1 i g Q q =>
  h H1 i g _ fun d v F2 H2 hd s hv => by
    subst hd
    refine ⟨n, rp_int hv, .of_le (Int.le_refl _) h1 (by omega) h0, fun p hp => ?_⟩
    have s3 : Step pt F2 H2 (upd F2 p (.tup (rgV 0 n))) (upd H2 p (.tup (rgV 0 n))) := .laid s.inn s.good hp
    exact q _ _ _ _ rfl (s.trans s3) (.tup upd_same (by simpa using rgV_rng (K := K) 0 n (upd F2 p (.tup (rgV 0 n)))))
theorem g_tupR2 {a b : Int} (ha : EvG K pt ta σ F (Is (.int a))) (hb : EvG K pt tb σ F (Is (.int b))) (h0 : 0 ≤ a) (h1 : b ≤ 16777216) (h2 : a ≤ 16777216) (h3 : 0 ≤ b) : EvG K pt (tTupRg (tRg2 ta tb)) σ F (Is (.tuple (rng a (b - a).toNat))) := fun H1 i g Q q =>
  ha H1 i g _ fun d v F2 H2 hd s hv => hb.mono s.sub H2 s.inn s.good _ fun e u F3 H3 he s2 hu => by
    subst hd; subst he
    refine ⟨a, b, rp_int hv, rp_int hu, .of_le h0 h1 h2 h3, fun p hp => ?_⟩
    have s3 : Step pt F3 H3 (upd F3 p (.tup (rgV a b))) (upd H3 p (.tup (rgV a b))) := .laid s2.inn s2.good hp
    exact q _ _ _ _ rfl ((s.trans s2).trans s3) (.tup upd_same (rgV_rng a b _))
/-- t[i:] -/
theorem g_slA {ds : List PyData} {i : Nat} (h : EvG K pt te σ F (Is (.tuple ds))) (hi : EvG K pt ta σ F (Is (.int (i : Int)))) : EvG K pt (tSl (rSlA K) te (tPart ta) tNoPart) σ F (Is (.tuple (ds.drop i))) := fun H1 i' g Q q =>
  h H1 i' g _ fun d v F2 H2 hd s hv => hi.mono s.sub H2 s.inn s.good _ fun e u F3 H3 he s2 hu => by
    subst hd; subst he
    obtain ⟨a, xs, rfl, hl, ha⟩ := rp_tup hv
    refine ⟨(i : Int), rp_int hu, a, xs, rfl, tx s2.inn (s2.sub _ _ hl), fun hw => ?_, fun hw p hp => ?_⟩
    · rw [HT.sIx_nat] at hw
      have : ds.drop i = ds := by
        have hl := ha.length
        by_cases z : xs.length = 0
        · have : ds = [] := List.eq_nil_of_length_eq_zero (by omega)
          rw [this]; simp
        · have : i = 0 := by have := hw.1; omega
          rw [this]; rfl
      refine q _ _ F3 H3 rfl (s.trans s2) ?_
      rw [this]
      exact .tup (s2.sub _ _ hl) (RpAll.mono s2.sub _ _ ha)
    · have e1 : cutV xs (some (i : Int)) none = xs.drop i := by
        unfold cutV
        rw [HT.sIx_nat, HT.sIx_none]
        by_cases z : i ≤ xs.length
        · rw [Nat.min_eq_left z]
          exact List.take_of_length_le (by rw [List.length_drop]; omega)
        · rw [Nat.min_eq_right (by omega), Nat.sub_self, List.take_zero, List.drop_eq_nil_of_le (by omega)]
      rw [e1]
      have s3 : Step pt F3 H3 (upd F3 p (.tup (xs.drop i))) (upd H3 p (.tup (xs.drop i))) := .laid s2.inn s2.good hp
      refine q _ _ _ _ rfl ((s.trans s2).trans s3) (.tup upd_same (RpAll.mono (s2.sub.trans s3.sub) _ _ ?_))
      have : ∀ (n : Nat) {xs : List V} {ds : List PyData}, RpAll K F2 xs ds → RpAll K F2 (xs.drop n) (ds.drop n) := by
        intro n
        induction n with
        | zero => intro _ _ h; exact h
        | succ n ih =>
          intro xs ds h
          cases h with
          | nil => exact .nil
          | cons h1 h2 => exact ih h2
      exact this i ha
/-- o.f, o's fields told in the part that stays -/
theorem x_fld {Φ : V → Hp → Prop} {i : Nat} {x C dx : Addr} {fs : List (Str × V)} {f : Str} {v : V} (hi : σ[i]? = some (some (.ref x))) (ho : F x = some (.ins C dx fs)) (cl : Cls K C) (na : NoAttr K C f) (hl : fs.lookup f = some v) (hv : ∀ F', Ex F F' → Φ v F') : EvX pt (tFld K (tVar i) f) σ F Φ := fun H1 i' g Q q =>
  ⟨.ref x, hi, x, C, dx, fs, v, rfl, i' _ _ ho, cl, na, hl, q v F H1 (hv F (Ex.refl F)) (.refl i' g)⟩
theorem g_fld {i : Nat} {x C dx : Addr} {fs : List (Str × V)} {f : Str} {v : V} (hi : σ[i]? = some (some (.ref x))) (ho : F x = some (.ins C dx fs)) (cl : Cls K C) (na : NoAttr K C f) (hl : fs.lookup f = some v) (hv : Rp K F v d) : EvG K pt (tFld K (tVar i) f) σ F (Is d) := fun H1 i' g Q q =>
  ⟨.ref x, hi, x, C, dx, fs, v, rfl, i' _ _ ho, cl, na, hl, q d v F H1 rfl (.refl i' g) hv⟩
theorem EvX.mono {Φ : V → Hp → Prop} (hm : ∀ v F1 F2, Ex F1 F2 → Φ v F1 → Φ v F2) (h : EvX pt te σ F Φ) (e : Ex F F') : EvX pt te σ F' Φ := fun H1 i g Q q =>
  h H1 (e.trans i) (g.less e) Q fun v F2 H2 hv s => q v _ H2 (hm v _ _ join_l hv) (s.wide e i g)
/-- a row among the keys of a dict -/
theorem g_din {m : List Int} {ls : List (List Int)} (hk : EvG K pt te σ F (Is (dT m))) (hd : ∀ F', Ex F F' → EvX pt ta σ F' (fun v F2 => ∃ D, v = .ref D ∧ F2 D = some (.dT (letD ls)))) : EvG K pt (tDIn te ta) σ F (Is (.bool (decide (m ∈ ls)))) := fun H1 i g Q q =>
  hk H1 i g _ fun d v F2 H2 hd' s hv => hd F2 s.sub H2 s.inn s.good _ fun u F3 H3 ⟨D, hu, hD⟩ s2 => by
    subst hd'
    obtain ⟨a, xs, rfl, hl, ha⟩ := rp_tup hv
    have e1 := rpAll_ints ha
    subst e1
    refine ⟨D, _, hu, DGet.t (k := key m) (s2.inn _ _ hD) (by rw [key_kV]; exact s2.inn _ _ (s2.sub _ _ hl)), q _ _ F3 H3 rfl (s.trans s2) ?_⟩
    rw [valV_letD]
    by_cases z : m ∈ ls
    · rw [if_pos z]; simp only [Option.isSome_some, z, decide_true]; exact .bl true
    · rw [if_neg z]; simp only [Option.isSome_none, z, decide_false]; exact .bl false
end
/-! ### C.m(..), m a static method -/
structure SMet (K : PySem.W.Frag) (C : Addr) (mc : Value) (m : Str) (p g : Addr) : Prop where
  at_ : PySem.W.findCls K (.ref C) mc m = some (.get (.builtin "staticmethod.__get__") (.ref p) .none (.ref C))
  rc : ∃ rest, PySem.W.recIn K p "staticmethod" = some (.ref g :: rest)
  kp : PySem.W.keepIn K (.ref g) = true
theorem pe_smeth {X : Cx} {CX : CXT} {k : Nat} {C p g : Addr} {fd : FuncData} {ps : List Str} {sp : Sp} {dvs : List V} {ds : List Value} {E : XK} {mc : Value} {x m : Str} {px apos pos : Pos} {e : Expr} {es : List Expr} {t : TA} {pl : Sem Bool}
    (hg : Gl X x) (hm : X.mg x = some (.ref C)) (r : ClX.CRead X.K C mc) (c : SMet X.K C mc m p g) (F : FnOk X.prog X.w X.K X.mg X.base CX k g fd ps sp) (hr : Room k X.A) (hb : Binds X.K fd ps ds) (hd : Vals dvs ds) (hx : Passes CX X E) (ha : PA X (e :: es) t)
    (hdb : (x == ("__debug__" : Str)) = false := by decide) (hst : starEach (e :: es) X.env = (false, eval e X.env) :: starEach es X.env := by rfl) (hpl : (backTo pos (starEach es X.env)).any (·.1) = false := by rfl)
    (ht : eval (.Call (.Attribute (.Name x px) m apos) (e :: es) [] pos) X.env = (do
      let ov ← eval (.Name x px) X.env
      standAt apos.atName
      let (f, first) ← holding [ov] (getMethod ov m pl)
      callWith pos f first (backTo pos (starEach (e :: es) X.env)) (backToKw pos (keywordEach [] X.env))) := by rfl) :
    PE X (.Call (.Attribute (.Name x px) m apos) (e :: es) [] pos) (tCall sp dvs E t) := by
  refine ⟨fun pins s σ H Q I q => ?_⟩
  obtain ⟨rest, rec_⟩ := c.rc
  refine PySem.W.methodCall_KW (pl := pl) (ld_glob I hg hm ?_ hdb) ht
  refine PySem.W.method_cls I.kIn r.ga (PySem.W.cls_bind I.kIn r.rd c.at_ (wpAny_call (PySem.W.sm_get (s := { s with toks := s.toks + 1 }) I.kIn rec_ (PySem.W.handed_on rfl ?_))))
  refine PySem.W.callWith_K (h₀ := X.base) I.ok.mod.kin c.kp (thn (ha.run pos pins _ σ H _ (I.tok (s.toks + 1)) q) fun us s1 ⟨vs, H1, I1, rr, q1⟩ => ⟨I1.kIn, ?_⟩) hst hpl
  exact run_fn F hr hb hd hx I1 rr q1
end Fv

/-! the pot: expressions that lay nothing -/
namespace Fv
open PySem PySem.Spec PyProof.Rows L2 Evl StX
def EvC (te : TE) (σ : L2.St) (H : Hp) (v : V) : Prop := ∀ Q : VK, Q v H → te σ H Q
def EtC (t : TT) (σ : L2.St) (H : Hp) (b : Bool) : Prop := ∀ Q : Bool → Hp → Prop, Q b H → t σ H Q
section
variable {K : PySem.W.Frag} {σ : L2.St} {H : Hp} {te ta tb : TE} {t u : TT} {x y z : V} {r : L2.R2}
theorem ec_var {i : Nat} (h : σ[i]? = some (some x)) : EvC (tVar i) σ H x := fun Q q => ⟨x, h, q⟩
theorem ec_int {i : Int} : EvC (tC (.int i)) σ H (.int i) := fun Q q => q
theorem ec_op (ha : EvC ta σ H x) (hb : EvC tb σ H y) (hr : ∀ Q : VK, Q z H → r x y H Q) : EvC (tOp r ta tb) σ H z := fun Q q => ha _ (hb _ (hr Q q))
theorem ec_I0 {g : Int → Int → V} {i j : Int} (ha : EvC ta σ H (.int i)) (hb : EvC tb σ H (.int j)) : EvC (tOp (rI0 g) ta tb) σ H (g i j) := ec_op ha hb fun Q q => ⟨i, j, rfl, rfl, q⟩
theorem ec_I {C : Int → Int → Prop} {g : Int → Int → V} {i j : Int} (ha : EvC ta σ H (.int i)) (hb : EvC tb σ H (.int j)) (hc : C i j) : EvC (tOp (rI C g) ta tb) σ H (g i j) := ec_op ha hb fun Q q => ⟨i, j, rfl, rfl, hc, q⟩
theorem ec_eq {i j : Int} (ha : EvC ta σ H (.int i)) (hb : EvC tb σ H (.int j)) : EvC (tOp rEq ta tb) σ H (.bl (decide (i = j))) := ec_op ha hb fun Q q => by
  have : decide (V.int i = V.int j) = decide (i = j) := by by_cases h : i = j <;> simp [h]
  exact ⟨rfl, by rw [this]; exact q⟩
theorem ec_ixL {p : Addr} {xs : List V} {i : Int} {v : V} (ha : EvC ta σ H (.ref p)) (hb : EvC tb σ H (.int i)) (hp : H p = some (.lst xs)) (hi : atI xs i = some v) : EvC (tOp (rIxL K) ta tb) σ H v := ec_op ha hb fun Q q => ⟨p, xs, i, v, rfl, rfl, SqL.of hp, hi, q⟩
theorem ec_int1 {i : Int} (h : EvC te σ H (.int i)) : EvC (tCB (fun xs H Q => (∃ i, xs = [.int i] ∧ Q (.int i) H) ∨ ∃ k, xs = [.bl k] ∧ Q (.int (if k then 1 else 0)) H) (tCons te tNil)) σ H (.int i) := fun Q q => h _ (.inl ⟨i, rfl, q⟩)
theorem ec_len {p : Addr} {xs : List V} (h : EvC te σ H (.ref p)) (hp : H p = some (.lst xs)) : EvC (tCB (rLen K) (tCons te tNil)) σ H (.int xs.length) := fun Q q => h _ ⟨p, xs, rfl, .inl (SqL.of hp), q⟩
theorem etc_of {b : Bool} (h : EvC te σ H (.bl b)) : EtC (tTest te) σ H b := fun Q q => h _ ⟨b, rfl, q⟩
theorem etc_and {a b : Bool} (h1 : EtC t σ H a) (h2 : a = true → EtC u σ H b) : EtC (tAnd t u) σ H (a && b) := fun Q q => h1 _ (by
  cases a with
  | true => exact h2 rfl Q q
  | false => exact q)
/-- the pot as it stands -/
structure Pot (H : Hp) (q : Pt) (a b c : Int) : Prop where
  at_ : H q.p = some (.lst [.int a, .int b, .int c, .ref q.l])
  ls : H q.l = some (.lst (q.ns.map V.int))
  ne : q.l ≠ q.p
  few : q.ns.length ≤ 60
  a0 : 0 ≤ a
  b0 : 0 ≤ b
  b1 : b < 2147483647
  c0 : 0 ≤ c
  c1 : c ≤ q.ns.length
theorem Pot.of {q : Pt} (h : PotAt H q) : ∃ a b c, Pot H q a b c := by
  obtain ⟨a, b, c, h1, h2, h3, h4, h5, h6⟩ := h.ex
  exact ⟨a, b, c, h1, h.ls, h.ne, h.few, h2, h3, h4, h5, h6⟩
theorem Pot.pot {q : Pt} {a b c : Int} (h : Pot H q a b c) : PotAt H q := ⟨h.ne, h.ls, h.few, a, b, c, h.at_, h.a0, h.b0, h.b1, h.c0, h.c1⟩
theorem Pot.put {q : Pt} {a b c a' b' c' : Int} (h : Pot H q a b c) (h1 : 0 ≤ a') (h2 : 0 ≤ b') (h3 : b' < 2147483647) (h4 : 0 ≤ c') (h5 : c' ≤ q.ns.length) : Pot (upd H q.p (.lst [.int a', .int b', .int c', .ref q.l])) q a' b' c' :=
  ⟨upd_same, by rw [upd_ne h.ne]; exact h.ls, h.ne, h.few, h1, h2, h3, h4, h5⟩
theorem Step.pot {F : Hp} {q : Pt} {o : HO} (e : Ex F H) (g : Good (some q) F H) (h : PotAt (upd H q.p o) q) : Step (some q) F H F (upd H q.p o) := by
  have fp := (g q rfl).1
  refine ⟨Ex.refl F, fun a u h => ?_, fun a u hq h => ?_, fun q' hq => ?_, New.refl F H⟩
  · rw [upd_ne (fun z => by rw [z, fp] at h; cases h)]; exact e _ _ h
  · rw [upd_ne (hq q rfl)]; exact h
  · obtain rfl := Option.some.inj hq
    exact ⟨fp, h⟩
/-- pot[i] = e -/
theorem ts_put {q : Pt} {D : Ends} {tz : TS} {i : Int} {j : Nat} {v : V} {xs : List V} (h : EvC te σ H v) (h0 : σ[0]? = some (some (.ref q.p))) (hp : H q.p = some (.lst xs)) (hj : ixN xs.length i = some j) (k : tz D σ (upd H q.p (.lst (xs.set j v)))) :
    tSeq (tAsg te (gSub (tVar 0) (tC (.int i)) rSetL)) tz D σ H := h _ ⟨_, h0, ⟨q.p, xs, i, j, rfl, rfl, hp, hj, k⟩⟩
theorem ts_put1 {q : Pt} {D : Ends} {i : Int} {j : Nat} {v : V} {xs : List V} (h : EvC te σ H v) (h0 : σ[0]? = some (some (.ref q.p))) (hp : H q.p = some (.lst xs)) (hj : ixN xs.length i = some j) (k : D.nx σ (upd H q.p (.lst (xs.set j v)))) :
    tAsg te (gSub (tVar 0) (tC (.int i)) rSetL) D σ H := h _ ⟨_, h0, ⟨q.p, xs, i, j, rfl, rfl, hp, hj, k⟩⟩
theorem ts_asg {D : Ends} {tz : TS} {i : Nat} {v : V} (h : EvC te σ H v) (k : tz D (σ.set i (some v)) H) : tSeq (tAsg te (gName i)) tz D σ H := h _ k
theorem ts_ret {D : Ends} {v : V} (h : EvC te σ H v) (k : D.rt v H) : tRet te D σ H := h _ k
theorem ts_if {D : Ends} {tu tw tz : TS} {b : Bool} (h : EtC t σ H b) (k1 : b = true → tu { D with nx := tz D } σ H) (k2 : b = false → tw { D with nx := tz D } σ H) : tSeq (tIfS t tu tw) tz D σ H := h _ (by
  cases b with
  | true => exact k1 rfl
  | false => exact k2 rfl)
theorem ts_if1 {D : Ends} {tu tw : TS} {b : Bool} (h : EtC t σ H b) (k1 : b = true → tu D σ H) (k2 : b = false → tw D σ H) : tIfS t tu tw D σ H := h _ (by
  cases b with
  | true => exact k1 rfl
  | false => exact k2 rfl)
end
end Fv
namespace Fv
open PySem PySem.Spec PyProof.Rows L2 Evl StX
section
variable {σ : L2.St} {H : Hp} {t : TT}
theorem ts_when {D : Ends} {tu tz : TS} {b : Bool} (J : L2.St → Hp → Prop) (h : EtC t σ H b) (k1 : b = true → ∀ N : L2.St → Hp → Prop, (∀ σ' H', J σ' H' → N σ' H') → tu { D with nx := N } σ H) (k2 : b = false → J σ H) (k : ∀ σ' H', J σ' H' → tz D σ' H') :
    tSeq (tIfS t tu tNext) tz D σ H := ts_if h (fun e => k1 e _ fun σ' H' j => k σ' H' j) fun e => k σ H (k2 e)
end
theorem fm0 (i : Int) {j : Int} (h : 0 < j) : 0 ≤ i.fmod j ∧ i.fmod j < j := ⟨Int.fmod_nonneg_of_pos i h, Int.fmod_lt_of_pos i h⟩
theorem fd0 {i j : Int} (h : 0 ≤ i) (hj : 0 ≤ j) : 0 ≤ i.fdiv j := Int.fdiv_nonneg h hj
end Fv

namespace Fv
open PySem PySem.Spec PyProof.Rows L2 Evl StX
/-- a promise of a def that takes the pot and a number -/
def spP (K : PySem.W.Frag) (P : Int → Prop) (R : Int → PD) : Sp := fun vs H Q _ => ∃ (q : Pt) (m : Int) (F : Hp), vs = [.ref q.p, .int m] ∧ P m ∧ Ex F H ∧ Good (some q) F H ∧ ∀ d v F2 H2, R m d → Step (some q) F H F2 H2 → Rp K F2 v d → Q v H2
theorem spP.len {K : PySem.W.Frag} {P : Int → Prop} {R : Int → PD} : ∀ vs H Q E, spP K P R vs H Q E → vs.length = 2 := fun vs H Q E ⟨_, _, _, h, _⟩ => by rw [h]; rfl
section
variable {K : PySem.W.Frag} {pt : Option Pt} {σ : L2.St} {F F' H : Hp} {te ta tb : TE} {ts tr : TA} {t u : TT} {R R1 S2 R3 : PD} {d e z : PyData} {r : L2.R2}
theorem g_callP {P : Int → Prop} {R : Int → PD} {E : XK} {q : Pt} {i : Nat} {m : Int} (h0 : σ[i]? = some (some (.ref q.p))) (h : EvG K (some q) te σ F (Is (.int m))) (hp : P m) : EvG K (some q) (tCall (spP K P R) [] E (tCons (tVar i) (tCons te tNil))) σ F (R m) := fun H1 e g Q k =>
  ⟨_, h0, h H1 e g _ fun d v F2 H2 hd s hv => by
    subst hd
    obtain rfl := rp_int hv
    exact ⟨q, m, F2, rfl, hp, s.inn, s.good, fun d v F3 H3 hr s3 hv3 => k d v F3 H3 hr (s.trans s3) hv3⟩⟩
theorem rv_mul {i j : Int} (h : CMul i j) : RvG K (rI CMul fun i j => .int (i * j)) (.int i) (.int j) (Is (.int (i * j))) := rv_I (f := fun i j => .int (i * j)) h fun F => .int _
theorem rv_shl {j : Nat} (h : j ≤ 60) : RvG K (rI CPow fun i j => .int (i * 2 ^ j.toNat)) (.int 1) (.int (j : Int)) (Is (.int (2 ^ j))) := fun F H x y i hx hy Q q => rv_I (f := fun i j => .int (i * 2 ^ j.toNat)) (C := CPow) (show CPow 1 (j : Int) from ⟨by omega, by omega, by decide⟩) (fun F => .int _) F H x y i hx hy Q fun z v F2 H2 hz s hv => q z v F2 H2 (by rw [show z = _ from hz]; simp) s hv
theorem rv_shr {i j : Int} (h : 0 ≤ j) : RvG K (rI (fun _ j => 0 ≤ j) fun i j => .int (i / 2 ^ j.toNat)) (.int i) (.int j) (Is (.int (i / 2 ^ j.toNat))) := rv_I (f := fun i j => .int (i / 2 ^ j.toNat)) h fun F => .int _
theorem rv_and {i j : Int} : RvG K (rI0 fun i j => .int (Builtin.bitAnd i j)) (.int i) (.int j) (Is (.int (Builtin.bitAnd i j))) := rv_I0 (f := fun i j => .int (Builtin.bitAnd i j)) fun F => .int _
theorem rc_int1 {i : Int} : RcG K (fun xs H Q => (∃ i, xs = [.int i] ∧ Q (.int i) H) ∨ ∃ k, xs = [.bl k] ∧ Q (.int (if k then 1 else 0)) H) [.int i] (Is (.int i)) := rc_val fun F H vs e h => by
  have hv : vs = [.int i] := rpAll_ints (ns := [i]) h
  exact ⟨.int i, fun Q q => .inl ⟨i, hv, q⟩, .int i⟩
theorem ex_seq {a : Addr} {xs : List V} (e : Ex F H) (h : SqL K F a xs) : SqL K H a xs := ex_l e h
/-- script[0:60] -/
theorem g_slS {a : Addr} {ns : List Int} {i : Nat} (h0 : σ[i]? = some (some (.ref a))) (h : SqL K F a (ns.map V.int)) : EvG K pt (tSl (rSlL K) (tVar i) (tPart (tC (.int 0))) (tPart (tC (.int 60)))) σ F (Is (.list ((ns.take 60).map .int))) := fun H1 e g Q q => by
  refine ⟨_, h0, 0, rfl, 60, rfl, a, ns.map V.int, rfl, ex_l e h, fun p hp => ?_⟩
  have e1 : cutV (ns.map V.int) (some 0) (some 60) = (ns.take 60).map V.int := by
    unfold cutV
    rw [show HT.sIx (ns.map V.int).length 0 (some 0) = min 0 (ns.map V.int).length from HT.sIx_nat _ _ 0, show HT.sIx (ns.map V.int).length (ns.map V.int).length (some 60) = min 60 (ns.map V.int).length from HT.sIx_nat _ _ 60, Nat.zero_min, List.drop_zero, Nat.sub_zero, List.map_take]
    by_cases z : 60 ≤ (ns.map V.int).length
    · rw [Nat.min_eq_left z]
    · rw [Nat.min_eq_right (by omega), List.take_of_length_le (Nat.le_refl _), List.take_of_length_le (by omega)]
  rw [e1]
  have s3 : Step pt F H1 (upd F p (.lst ((ns.take 60).map V.int))) (upd H1 p (.lst ((ns.take 60).map V.int))) := .laid e g hp
  exact q _ _ _ _ rfl s3 (.lst upd_same (rpAll_of_ints _))
/-- o.m(..), o.f of an instance, by a promise about what stands -/
theorem g_methD {C x dx : Addr} {fs : List (Str × V)} {m : Str} {sp : Sp} {E : XK} {i : Nat} {ds : List PyData} {z : PyData} (h0 : σ[i]? = some (some (.ref x))) (ho : F x = some (.ins C dx fs)) (hl : fs.lookup m = none) (h : EvsG K pt ts σ F (· = ds))
    (hs : ∀ F1 H1 vs, Ex F F1 → Ex F1 H1 → RpAll K F1 vs ds → ∀ Q : VK, (∀ v F2 H2, Step none F1 H1 F2 H2 → Rp K F2 v z → Q v H2) → sp (.ref x :: vs) H1 Q E) : EvG K pt (tMeth C m sp [] E (tVar i) ts) σ F (Is z) := fun H1 e g Q q =>
  ⟨_, h0, x, dx, fs, rfl, e _ _ ho, hl, h H1 e g _ fun ds' vs F2 H2 hd s hv => by
    subst hd
    rw [List.append_nil]
    exact hs F2 H2 vs s.sub s.inn hv Q fun v F3 H3 s3 hv3 => q _ v F3 H3 rfl (s.trans (s3.lift s.good)) hv3⟩
theorem g_propD {C x dx : Addr} {fs : List (Str × V)} {sp : Sp} {E : XK} {i : Nat} {z : PyData} (h0 : σ[i]? = some (some (.ref x))) (ho : F x = some (.ins C dx fs))
    (hs : ∀ F1 H1, Ex F F1 → Ex F1 H1 → ∀ Q : VK, (∀ v F2 H2, Step none F1 H1 F2 H2 → Rp K F2 v z → Q v H2) → sp [.ref x] H1 Q E) : EvG K pt (tProp C sp [] E (tVar i)) σ F (Is z) := fun H1 e g Q q =>
  ⟨_, h0, x, dx, fs, rfl, e _ _ ho, hs F H1 (Ex.refl F) e Q fun v F3 H3 s3 hv3 => q _ v F3 H3 rfl (s3.lift g) hv3⟩
end
section
variable {K : PySem.W.Frag} {pt : Option Pt} {σ : L2.St} {F0 H0 F H : Hp} {te : TE} {D : Ends} {tz : TS} {Φ : V → Hp → Prop}
theorem t_asgX {i : Nat} (s : Step pt F0 H0 F H) (h : EvX pt te σ F Φ) (q : ∀ v F2 H2, Φ v F2 → Step pt F0 H0 F2 H2 → Ex F F2 → tz D (σ.set i (some v)) H2) : tSeq (tAsg te (gName i)) tz D σ H :=
  h H s.inn s.good _ fun v F2 H2 hv s2 => q v F2 H2 hv (s.trans s2) s2.sub
theorem t_asgX1 {i : Nat} (s : Step pt F0 H0 F H) (h : EvX pt te σ F Φ) (q : ∀ v F2 H2, Φ v F2 → Step pt F0 H0 F2 H2 → Ex F F2 → D.nx (σ.set i (some v)) H2) : tAsg te (gName i) D σ H :=
  h H s.inn s.good _ fun v F2 H2 hv s2 => q v F2 H2 hv (s.trans s2) s2.sub
theorem t_retLst {ts : TA} {ds : List PyData} (s : Step pt F0 H0 F H) (h : EvsG K pt ts σ F (· = ds)) (k : ∀ vs F2 H2, Step pt F0 H0 F2 H2 → RpAll K F2 vs ds → vs.length ≤ sizeLine ∧ ∀ p, H2 p = none → D.rt (.ref p) (upd H2 p (.lst vs))) : tRet (tLst ts) D σ H :=
  h H s.inn s.good _ fun ds' vs F2 H2 hd s2 hv => by
    subst hd
    exact k vs F2 H2 (s.trans s2) hv
theorem t_retX (s : Step pt F0 H0 F H) (h : EvX pt te σ F Φ) (q : ∀ v F2 H2, Φ v F2 → Step pt F0 H0 F2 H2 → D.rt v H2) : tRet te D σ H :=
  h H s.inn s.good _ fun v F2 H2 hv s2 => q v F2 H2 hv (s.trans s2)
end
end Fv

namespace Fv
open PySem PySem.Spec PyProof.Rows L2 Evl StX
section
variable {K : PySem.W.Frag} {pt : Option Pt} {σ : L2.St} {F F' F0 H0 H : Hp} {te ta tb : TE} {ts tr : TA} {t u : TT} {R R1 S2 R3 : PD} {d e z : PyData} {r : L2.R2} {D : Ends} {tu tw tz : TS}
theorem rv_eqB {a b : Bool} : RvG K rEq (.bool a) (.bool b) (Is (.bool (decide (a = b)))) := rv_val fun F H x y _ hx hy => by
  rw [rp_bool hx, rp_bool hy]
  refine ⟨.bl (decide (V.bl a = V.bl b)), fun Q q => ⟨rfl, q⟩, ?_⟩
  have : decide (V.bl a = V.bl b) = decide (a = b) := by cases a <;> cases b <;> rfl
  rw [this]; exact .bl _
theorem rv_neB {a b : Bool} : RvG K rNe (.bool a) (.bool b) (Is (.bool (!decide (a = b)))) := rv_val fun F H x y _ hx hy => by
  rw [rp_bool hx, rp_bool hy]
  refine ⟨.bl (!decide (V.bl a = V.bl b)), fun Q q => ⟨rfl, q⟩, ?_⟩
  have : decide (V.bl a = V.bl b) = decide (a = b) := by cases a <;> cases b <;> rfl
  rw [this]; exact .bl _
theorem g_notTL {ds : List PyData} (h : EvG K pt te σ F (Is (.list ds))) : EvG K pt (tNotT K te) σ F (Is (.bool ds.isEmpty)) := fun H1 i g Q q => h H1 i g _ fun d v F2 H2 hd s hv => by
  subst hd
  obtain ⟨a, xs, rfl, hl, ha⟩ := rp_lst hv
  have hn := ha.length
  refine ⟨!xs.isEmpty, .inl ⟨xs, SqL.of (s.inn _ _ hl), rfl⟩, ?_⟩
  have e : (!(!xs.isEmpty)) = ds.isEmpty := by
    cases xs with
    | nil =>
      cases ds with
      | nil => rfl
      | cons _ _ => simp at hn
    | cons _ _ =>
      cases ds with
      | nil => simp at hn
      | cons _ _ => rfl
  rw [e]
  exact q _ _ F2 H2 rfl s (.bl _)
/-- two ways that join -/
theorem t_ifJ {b : Bool} (J : L2.St → Hp → Prop) (s : Step pt F0 H0 F H) (h : EtG pt t σ F (· = b))
    (h1 : b = true → ∀ F2 H2, Step pt F0 H0 F2 H2 → Ex F F2 → ∀ N : L2.St → Hp → Prop, (∀ σ' F' H', J σ' F' → Step pt F0 H0 F' H' → Ex F F' → N σ' H') → tu { D with nx := N } σ H2)
    (h2 : b = false → ∀ F2 H2, Step pt F0 H0 F2 H2 → Ex F F2 → ∀ N : L2.St → Hp → Prop, (∀ σ' F' H', J σ' F' → Step pt F0 H0 F' H' → Ex F F' → N σ' H') → tw { D with nx := N } σ H2)
    (k : ∀ σ' F' H', J σ' F' → Step pt F0 H0 F' H' → Ex F F' → tz D σ' H') : tSeq (tIfS t tu tw) tz D σ H :=
  t_if s h (fun e F2 H2 s2 e2 => h1 e F2 H2 s2 e2 _ k) (fun e F2 H2 s2 e2 => h2 e F2 H2 s2 e2 _ k)
end
end Fv

/-! rows with gaps: None or a whole number at each place -/
namespace Fv
open PySem PySem.Spec PyProof.Rows L2 Evl StX
def optD : Option Int → PyData
  | none => .none
  | some i => .int i
def optV : Option Int → V
  | none => .non
  | some i => .int i
abbrev dO (v : List (Option Int)) : PyData := .tuple (v.map optD)
abbrev dLO (vs : List (List (Option Int))) : PyData := .list (vs.map dO)
abbrev natD (k : Nat) : PyData := .int (k : Int)
abbrev dN (ks : List Nat) : PyData := .tuple (ks.map natD)
theorem rng_nat (n : Nat) : rng 0 n = (List.range n).map natD := by
  unfold rng
  refine List.map_congr_left fun k _ => ?_
  simp
section
variable {K : PySem.W.Frag} {pt : Option Pt} {σ : L2.St} {F F' H : Hp} {te ta tb : TE} {ts tr : TA} {t u : TT} {R R1 : PD} {d e z : PyData}
theorem rp_opt {v : V} {o : Option Int} (h : Rp K F v (optD o)) : v = optV o := by
  cases o with
  | none => exact rp_none h
  | some i => exact rp_int h
theorem scal_opt (a b : Option Int) : scal (optV a) (optV b) = true := by
  cases a <;> cases b <;> rfl
theorem dec_opt (a b : Option Int) : decide (optV a = optV b) = decide (a = b) := by
  cases a <;> cases b <;> simp [optV]
theorem rv_eqO {a b : Option Int} : RvG K rEq (optD a) (optD b) (Is (.bool (decide (a = b)))) := rv_val fun F H x y _ hx hy => by
  rw [rp_opt hx, rp_opt hy]
  exact ⟨_, fun Q q => ⟨scal_opt a b, q⟩, by rw [dec_opt]; exact .bl _⟩
theorem rv_neO {a b : Option Int} : RvG K rNe (optD a) (optD b) (Is (.bool (!decide (a = b)))) := rv_val fun F H x y _ hx hy => by
  rw [rp_opt hx, rp_opt hy]
  exact ⟨_, fun Q q => ⟨scal_opt a b, q⟩, by rw [dec_opt]; exact .bl _⟩
theorem isNone_opt (a : Option Int) : isNone (optD a) = a.isNone := by cases a <;> rfl
theorem rv_isO {a : Option Int} : RvG K (fun x y H Q => y = .non ∧ Q (.bl (decide (x = .non))) H) (optD a) .none (Is (.bool a.isNone)) := isNone_opt a ▸ rv_isN
theorem rv_notO {a : Option Int} : RvG K (fun x y H Q => y = .non ∧ Q (.bl (!decide (x = .non))) H) (optD a) .none (Is (.bool (!a.isNone))) := isNone_opt a ▸ rv_notN
theorem rv_isB {a b : Bool} : RvG K rIsB (.bool a) (.bool b) (Is (.bool (decide (a = b)))) := rv_val fun F H x y _ hx hy => ⟨_, fun Q q => ⟨a, b, rp_bool hx, rp_bool hy, q⟩, .bl _⟩
/-- v[k] of a row with gaps -/
theorem rv_ixO {v : List (Option Int)} {k : Nat} (h : k < v.length) : RvG K (rIxT K) (dO v) (natD k) (Is (optD (v.getD k none))) := rv_ixT (atI_nat (by rw [List.getElem?_map, List.getD_eq_getElem?_getD, List.getElem?_eq_getElem h]; rfl))
theorem g_ixO {v : List (Option Int)} {k : Nat} (ha : EvG K pt ta σ F (Is (dO v))) (hb : EvG K pt tb σ F (Is (natD k))) (h : k < v.length) : EvG K pt (tOp (rIxT K) ta tb) σ F (Is (optD (v.getD k none))) := g_opI ha hb (rv_ixO h)
/-- range(len(x)) -/
theorem w_len {ds : List PyData} {n : Nat} (h : EvG K pt te σ F (Is (.tuple ds))) (hn : ds.length = n) (hz : n ≤ 100000) : WiG K pt (iRng1 (tCons (tCB (rLen K) (tCons te tNil)) tNil)) σ F (· = (List.range n).map natD) := by
  have := w_rng1I (K := K) (pt := pt) (σ := σ) (F := F) (n := (n : Int)) (gs_one ((g_cbI (gs_one h) rc_lenT).is (by rw [hn]))) (by omega) (by omega)
  rw [show (n : Int).toNat = n by omega, rng_nat] at this
  exact this
theorem w_range {n : Nat} (h : EvG K pt te σ F (Is (.int (n : Int)))) (hz : n ≤ 100000) : WiG K pt (iRng1 (tCons te tNil)) σ F (· = (List.range n).map natD) := by
  have := w_rng1I (K := K) (pt := pt) (σ := σ) (F := F) (n := (n : Int)) (gs_one h) (by omega) (by omega)
  rw [show (n : Int).toNat = n by omega, rng_nat] at this
  exact this
/-- tuple([k for k in range(len(x)) if ..]) -/
theorem rv_inN {k : Nat} {ns : List Nat} : RvG K (rIn K false) (natD k) (dN ns) (Is (.bool (decide (k ∈ ns)))) := by
  have h := rv_inT (K := K) (i := (k : Int)) (ns := ns.map fun k : Nat => (k : Int))
  have e : (decide ((k : Int) ∈ ns.map fun k : Nat => (k : Int))) = decide (k ∈ ns) := by
    refine decide_eq_decide.mpr ⟨fun h => ?_, fun h => List.mem_map.mpr ⟨k, h, rfl⟩⟩
    obtain ⟨j, hj, ej⟩ := List.mem_map.mp h
    have : j = k := by omega
    rw [← this]; exact hj
  rw [e] at h
  have e2 : dT (ns.map fun k : Nat => (k : Int)) = dN ns := by simp [dT, dN, Function.comp_def]
  rw [e2] at h
  exact h
end
end Fv

namespace Fv
open PySem PySem.Spec PyProof.Rows L2 Evl StX
/-- a promise of a def that takes the pot and data -/
def spQ {ι : Type} (K : PySem.W.Frag) (A : ι → List PyData) (P : ι → Prop) (R : ι → PD) : Sp := fun vs H Q _ => ∃ (q : Pt) (i : ι) (F : Hp) (as : List V), vs = .ref q.p :: as ∧ P i ∧ Ex F H ∧ Good (some q) F H ∧ RpAll K F as (A i) ∧ ∀ d v F2 H2, R i d → Step (some q) F H F2 H2 → Rp K F2 v d → Q v H2
theorem spQ.len {ι : Type} {K : PySem.W.Frag} {A : ι → List PyData} {P : ι → Prop} {R : ι → PD} {n : Nat} (h : ∀ i, (A i).length = n) : ∀ vs H Q E, spQ K A P R vs H Q E → vs.length = n + 1 := fun vs H Q E ⟨_, i, _, _, e, _, _, _, r, _⟩ => by rw [e, List.length_cons, r.length, h]
section
variable {K : PySem.W.Frag} {pt : Option Pt} {σ : L2.St} {F F' F0 H0 H : Hp} {te ta tb : TE} {ts tr : TA} {t u : TT} {R R1 : PD} {d e z : PyData} {D : Ends} {tz tu : TS} {wi : TI}
theorem g_callQ {ι : Type} {A : ι → List PyData} {P : ι → Prop} {R : ι → PD} {E : XK} {q : Pt} {i : Nat} {ds : List PyData} (x : ι) (h0 : σ[i]? = some (some (.ref q.p))) (h : EvsG K (some q) ts σ F (· = ds)) (ha : ds = A x) (hp : P x) : EvG K (some q) (tCall (spQ K A P R) [] E (tCons (tVar i) ts)) σ F (R x) := fun H1 e g Q k =>
  ⟨_, h0, h H1 e g _ fun ds' vs F2 H2 hd s hv => by
    rw [hd, ha] at hv
    exact ⟨q, x, F2, vs, by rw [List.append_nil], hp, s.inn, s.good, hv, fun d v F3 H3 hr s3 hv3 => k d v F3 H3 hr (s.trans s3) hv3⟩⟩
/-- a loop; I tells slots and heaps behind i turns -/
theorem t_forH {j : Nat} {ds : List PyData} (i0 : Ex F H) (g : Good pt F H) (hw : WiG K pt wi σ F (· = ds)) (I : Nat → L2.St → Hp → Hp → Prop) (h0 : ∀ F1 H1, Step pt F H F1 H1 → I 0 σ F1 H1) (hI : ∀ i σ' F' H', I i σ' F' H' → Ex F' H')
    (hs : ∀ i d, ds[i]? = some d → ∀ σ' F' H' x, I i σ' F' H' → Ex F F' → Rp K F' x d →
      ∀ N : L2.St → Hp → Prop, (∀ σ2 F2 H2, I (i + 1) σ2 F2 H2 → Ex F' F2 → N σ2 H2) → tu { D with nx := N, ct := N, bk := tz D } (σ'.set j (some x)) H')
    (hd : ∀ σ' F' H', I ds.length σ' F' H' → Ex F F' → tz D σ' H') : tSeq (tFor wi (gName j) tu) tz D σ H :=
  hw H i0 g _ fun ds' J F1 H1 e s1 Y => by
    subst e
    refine ⟨fun i m σ' H' => m = ds'.length - i ∧ i ≤ ds'.length ∧ ∃ F', I i σ' F' H' ∧ Ex F1 F', ⟨ds'.length, by simp, Nat.zero_le _, F1, h0 F1 H1 s1, Ex.refl _⟩, ?_⟩
    rintro i m σ' H' ⟨rfl, hil, F', p, e'⟩
    have eH : Ex F1 H' := e'.trans (hI i σ' F' H' p)
    by_cases hlt : i < ds'.length
    · refine .inr ⟨Y.go i H' eH hlt, fun σ2 H2 => ∃ F2, I (i + 1) σ2 F2 H2 ∧ Ex F1 F2, fun σ2 H2 ⟨F2, a, b⟩ => ⟨ds'.length - (i + 1), by omega, rfl, hlt, F2, a, b⟩, fun x H2 y => ?_⟩
      obtain ⟨rfl, d, hdd, hx⟩ := Y.yld i H' x H2 eH hlt y
      exact hs i d hdd σ' F' _ x p (s1.sub.trans e') (Rp.mono e' _ _ hx) _ fun σ2 F2 H2 a b => ⟨F2, a, e'.trans b⟩
    · have hE : i = ds'.length := Nat.le_antisymm hil (Nat.le_of_not_lt hlt)
      subst hE
      exact .inl ⟨Y.stop H' eH, hd σ' F' H' p (s1.sub.trans e')⟩
/-! ### two lists of one's own -/
structure Two (K : PySem.W.Frag) (pt : Option Pt) (F0 H0 : Hp) (l m : Addr) (F H : Hp) (ls ms : List PyData) : Prop where
  step : Step pt F0 H0 F H
  ne : l ≠ m
  h1 : H0 l = none
  h2 : H0 m = none
  o1 : F l = none
  o2 : F m = none
  e1 : ∃ xs, H l = some (.lst xs) ∧ RpAll K F xs ls
  e2 : ∃ xs, H m = some (.lst xs) ∧ RpAll K F xs ms
variable {l m : Addr} {ls ms : List PyData} {F2 H2 : Hp}
theorem Two.run (g0 : Good pt F0 H0) (w : Two K pt F0 H0 l m F H ls ms) (s : Step pt F H F2 H2) : Two K pt F0 H0 l m F2 H2 ls ms := by
  obtain ⟨xs, a1, a2⟩ := w.e1
  obtain ⟨ys, b1, b2⟩ := w.e2
  obtain ⟨f1, k1⟩ := s.beside g0 w.h1 w.o1 a1
  obtain ⟨f2, k2⟩ := s.beside g0 w.h2 w.o2 b1
  exact ⟨w.step.trans s, w.ne, w.h1, w.h2, f1, f2, ⟨xs, k1, RpAll.mono s.sub _ _ a2⟩, ⟨ys, k2, RpAll.mono s.sub _ _ b2⟩⟩
theorem Two.swap (w : Two K pt F0 H0 l m F H ls ms) : Two K pt F0 H0 m l F H ms ls := ⟨w.step, w.ne.symm, w.h2, w.h1, w.o2, w.o1, w.e2, w.e1⟩
theorem Two.put1 (g0 : Good pt F0 H0) (w : Two K pt F0 H0 l m F H ls ms) {xs : List V} {ls' : List PyData} (r : RpAll K F xs ls') : Two K pt F0 H0 l m F (upd H l (.lst xs)) ls' ms := by
  obtain ⟨ys, b1, b2⟩ := w.e2
  exact ⟨w.step.put g0 w.h1 w.o1, w.ne, w.h1, w.h2, w.o1, w.o2, ⟨xs, upd_same, r⟩, ⟨ys, by rw [upd_ne w.ne.symm]; exact b1, b2⟩⟩
theorem RpAll.erase : ∀ {ds : List PyData} {vs : List V} (i : Nat), RpAll K F vs ds → RpAll K F (vs.eraseIdx i) (ds.eraseIdx i)
  | [], _, i, h => by cases h; cases i <;> exact .nil
  | d :: ds, _, 0, h => by
    cases h with
    | cons h1 h2 => exact h2
  | d :: ds, _, i + 1, h => by
    cases h with
    | cons h1 h2 => exact .cons h1 (RpAll.erase i h2)
/-- the length of one's own list -/
theorem Two.len (w : Two K pt F0 H0 l m F H ls ms) : ∃ xs, H l = some (.lst xs) ∧ xs.length = ls.length := by
  obtain ⟨xs, a1, a2⟩ := w.e1
  exact ⟨xs, a1, a2.length⟩
/-- m.append(l.pop(draw(pot, len(l)))) -/
theorem t_popApp {q : Pt} {P : Int → Prop} {R : Int → PD} {E : XK} {il im ip : Nat} (g0 : Good (some q) F0 H0) (w : Two K (some q) F0 H0 l m F H ls ms) (hl : σ[il]? = some (some (.ref l))) (hm : σ[im]? = some (some (.ref m))) (hp : σ[ip]? = some (some (.ref q.p)))
    (hP : P (ls.length : Int)) (hz : ls.length ≤ 1000) (hz2 : ms.length < 100000) (hR : ∀ d, R (ls.length : Int) d → ∃ k : Nat, d = .int (k : Int) ∧ k < ls.length)
    (k : ∀ (i : Nat) (hi : i < ls.length) F2 H2, Two K (some q) F0 H0 l m F2 H2 (ls.eraseIdx i) (ms ++ [ls[i]]) → Ex F F2 → D.nx σ H2) :
    tDrop (tBM K "list" rAppend (tVar im) (tCons (tBM K "list" rPopAt (tVar il) (tCons (tCall (spP K P R) [] E (tCons (tVar ip) (tCons (tCB (rLen K) (tCons (tVar il) tNil)) tNil))) tNil)) tNil)) D σ H := by
  obtain ⟨xs, a1, a2⟩ := w.e1
  obtain ⟨ys, b1, b2⟩ := w.e2
  refine ⟨.ref m, hm, .inl ⟨rfl, ys, sq_of b1⟩, .ref l, hl, .inl ⟨rfl, xs, sq_of a1⟩, _, hp, .ref l, hl, l, xs, rfl, .inl (SqL.of a1), ?_⟩
  refine ⟨q, (xs.length : Int), F, rfl, by rw [a2.length]; exact hP, w.step.inn, w.step.good, fun d v F2 H2 hd s hv => ?_⟩
  rw [a2.length] at hd
  obtain ⟨j, rfl, hj⟩ := hR d hd
  obtain rfl := rp_int hv
  have w2 := w.run g0 s
  obtain ⟨xs', c1, c2⟩ := w2.e1
  have hxl := c2.length
  obtain ⟨y, hy, ry⟩ := RpAll.getD c2 (List.getElem?_eq_getElem hj)
  have w3 := w2.put1 g0 (RpAll.erase j c2)
  obtain ⟨ys', e1, e2⟩ := w3.e2
  refine ⟨l, xs', (j : Int), j, y, rfl, rfl, c1, by omega, by omega, seqIndex_of (by omega) (by omega), hy, ?_⟩
  refine ⟨m, ys', y, rfl, rfl, e1, sz_lt (by rw [e2.length]; exact hz2), ?_⟩
  have w4 := (w3.swap.put1 g0 (e2.append (RpAll.one ry))).swap
  exact k j hj _ _ w4 s.sub
theorem Two.gst (w : Two K pt F0 H0 l m F H ls ms) : Gst K pt F0 H0 m F H ms := ⟨w.step, w.o2, w.e2⟩
theorem not_in {F H : Hp} {l : Addr} (e : Ex F H) (h : H l = none) : F l = none := by
  cases z : F l with
  | none => rfl
  | some o => have := e _ _ z; rw [h] at this; cases this
/-- l = list(x); m = [] -/
theorem t_two {i j : Nat} {src : PyData} {ds : List PyData} (g0 : Good pt F0 H0) (s : Step pt F0 H0 F H) (h : EvG K pt te σ F (Is src)) (hs : src = .list ds ∨ src = .tuple ds)
    (k : ∀ l m F2 H2, Two K pt F0 H0 l m F2 H2 ds [] → Ex F F2 → tz D ((σ.set i (some (.ref l))).set j (some (.ref m))) H2) :
    tSeq (tAsg (tCB (rList K) (tCons te tNil)) (gName i)) (tSeq (tAsg (tLst tNil) (gName j)) tz) D σ H :=
  h H s.inn s.good _ fun d v F2 H2 hd s2 hv => by
    subst hd
    obtain ⟨a, xs, rfl, hq, hxs⟩ : ∃ a xs, v = .ref a ∧ (SqL K H2 a xs ∨ SqT K H2 a xs) ∧ RpAll K F2 xs ds := by
      rcases hs with rfl | rfl
      · obtain ⟨a, xs, e, h1, h2⟩ := rp_lst hv
        exact ⟨a, xs, e, .inl (SqL.of (s2.inn _ _ h1)), h2⟩
      · obtain ⟨a, xs, e, h1, h2⟩ := rp_tup hv
        exact ⟨a, xs, e, .inr (tx s2.inn h1), h2⟩
    refine ⟨a, xs, rfl, hq, fun l hl => ?_⟩
    refine ⟨Nat.zero_le _, fun m hm => ?_⟩
    have s3 := s.trans s2
    have hml : m ≠ l := fun z => by rw [z, upd_same] at hm; cases hm
    have hm2 : H2 m = none := by rw [upd_ne hml] at hm; exact hm
    have hl0 := s3.back l hl
    have hm0 := s3.back m hm2
    have fl := not_in s3.inn hl
    have fm := not_in s3.inn hm2
    refine k l m F2 _ ⟨((s3.put g0 hl0 fl).put g0 hm0 fm), hml.symm, hl0, hm0, fl, fm, ⟨xs, by rw [upd_ne hml.symm, upd_same], hxs⟩, ⟨[], upd_same, .nil⟩⟩ s2.sub
end
end Fv

namespace Fv
open PySem PySem.Spec PyProof.Rows L2 Evl StX
section
variable {K : PySem.W.Frag} {pt : Option Pt} {σ : L2.St} {F0 H0 F H F' F2 H2 : Hp} {te : TE} {R : PD} {D : Ends} {l : Addr} {ls : List PyData}
/-- x.extend(e), e a new list -/
theorem t_ext {i : Nat} (g0 : Good pt F0 H0) (h0 : H0 l = none) (g : Gst K pt F0 H0 l F H ls) (hi : σ[i]? = some (some (.ref l))) {es : List PyData} (h : EvG K pt te σ F (Is (.list es))) (hz : ls.length + es.length ≤ 100000)
    (q : ∀ F2 H2, Gst K pt F0 H0 l F2 H2 (ls ++ es) → Ex F F2 → D.nx σ H2) : tDrop (tBM K "list" rExtend (tVar i) (tCons te tNil)) D σ H := by
  obtain ⟨acc, e, r⟩ := g.ex
  refine ⟨.ref l, hi, .inl ⟨rfl, acc, sq_of e⟩, h H g.step.inn g.step.good _ fun d v F2 H2 hd s hv => ?_⟩
  subst hd
  obtain ⟨b, zs, rfl, hb, hzs⟩ := rp_lst hv
  have g2 := g.run g0 h0 s
  obtain ⟨acc2, e2, r2⟩ := g2.ex
  refine ⟨l, b, acc2, zs, rfl, rfl, e2, s.inn _ _ hb, by rw [r2.length, hzs.length]; exact sz_of hz, q F2 _ ⟨g2.step.put g0 h0 g2.off, g2.off, _, upd_same, r2.append hzs⟩ s.sub⟩
end
end Fv

/-! C.__init__(self, ..) of an exception class C of the program whose __init__ is ValueError's -/
namespace Fv
open PySem PySem.Spec PyProof.Rows L2 Evl StX
section
variable {X : Cx} {e : Expr} {es : List Expr} {ta : TA} {p1 p2 pos : Pos} {x : Str} {C : Addr} {mc : Value}
theorem pe_fminit {pl : Sem Bool} (hg : Gl X x) (hm : X.mg x = some (.ref C)) (r : ClX.CRead X.K C mc) (vV : PySem.W.findCls X.K (.ref C) mc "__init__" = some (.val (.builtin "ValueError.__init__"))) (ha : PA X (e :: es) ta)
    (hdb : (x == ("__debug__" : Str)) = false := by decide)
    (hc : eval (.Call (.Attribute (.Name x p1) "__init__" p2) (e :: es) [] pos) X.env = (do
      let ov ← eval (.Name x p1) X.env
      standAt p2.atName
      let (f, first) ← holding [ov] (getMethod ov "__init__" pl)
      callWith pos f first (backTo pos (starEach (e :: es) X.env)) (backToKw pos (keywordEach [] X.env))) := by rfl)
    (he : starEach (e :: es) X.env = (false, eval e X.env) :: starEach es X.env := by rfl) (hpl : (backTo pos (starEach es X.env)).any (·.1) = false := by rfl) :
    PE X (.Call (.Attribute (.Name x p1) "__init__" p2) (e :: es) [] pos) (tVeI X.K ta) := by
  refine ⟨fun pins s σ H Q I h => ?_⟩
  refine PySem.W.methodCall_KW (pl := pl) (ld_glob I hg hm ?_ hdb) hc
  refine PySem.W.method_cls I.kIn r.ga (PySem.W.cls_value I.kIn r.rd vV (by decide +kernel) ?_)
  show wpAny _ _ (callWith pos (Value.builtin "ValueError.__init__") [] (backTo pos (starEach (e :: es) X.env)) []) _ _ _
  refine PyProof.Rows.callWith_method1 (thn (ha.run pos pins _ σ H _ (I.tok _) h) fun us s1 ⟨vs, H1, I1, r1, a, C, ws, ev, hl, T, ea, q⟩ => ?_) he hpl
  subst ev
  cases r1 with
  | @cons _ u0 _ ur ra rw' =>
    obtain rfl : u0 = Value.ref a := ra
    have hlen : ur.length ≤ sizeLine := by
      rw [← Paired.length rw', sizeLine_eq]
      omega
    exact oinit_ok T I1 ea hlen fun s' J => ⟨.non, H1, J, rfl, q⟩
end
end Fv

/-! promises of defs where no text of a list is being made around them (so that repr of one is known) -/
namespace Fv
open PySem PySem.Spec PyProof.Rows L2 Evl StX
/-- nothing is being shown -/
def Calmly (A : Around) : Prop := A.guards = some []
theorem Calmly.deeper {A : Around} (c : Calmly A) (env : Env) : Calmly (A.deeper env) := c
theorem Calmly.mark {A : Around} (c : Calmly A) (v : Option Value) : Calmly (A.mark v) := c
structure FnG (P : Program) (w : World) (K : PySem.W.Frag) (mg : Str → Option Value) (base : Heap) (CX : CXT) (k : Nat) (f : Addr) (fd : FuncData) (ps : List Str) (sp : Sp) : Prop where
  ln : ∀ vs H Q E, sp vs H Q E → vs.length = ps.length
  go : ∀ (A : Around) (out : List Env) (s : Shared) (H : Hp) (as : Args) (us : List Value) (vs : List V) (Q : VK) (E : XK), Calmly A → Room k A → Env0 P w K mg base A out s H → BindsTo s fd as (ps.zip us) → Vals vs us → sp vs H Q E → codeAny (model P w) A (.call (.ref f) as) (CR CX out P w H s Q E) s
theorem gfn_mk {CX : CXT} {P : Program} {w : World} {K : PySem.W.Frag} {mg : Str → Option Value} {base : Heap} {k : Nat} {f : Addr} {nm ql : Str} {pr : Arguments} {bd : List Stmt} {sc : Scope} {d1 d2 d3 d4 cv d5 oc : Value} {an od : Option Addr} {sl : Array (Option Value)} {N ps : List Str} {sp : Sp}
    (lk : K.lookup f = some ⟨oc, od, .func (PySem.W.fnOf nm ql pr bd sc d1 d2 d3 d4 an cv d5), sl⟩) (hc : PySem.W.codeIn K cv ql = true) (S : FnScope N ps sc) (ln : ∀ vs H Q E, sp vs H Q E → vs.length = ps.length)
    (hb : ∀ (A : Around) (out : List Env) (s : Shared) (H : Hp) (vs : List V) (Q : VK) (E : XK), Calmly A → Room k (A.deeper (envOfC ql sc s.heap.objs.size f cv)) → sp vs H Q E → ∃ t, PSs (cxOf CX P w K mg base N ql sc f cv A out s H E) bd t ∧ t { nx := fun _ H2 => Q .non H2, rt := Q } (start N vs) H) :
    FnG P w K mg base CX (k + 1) f (PySem.W.fnOf nm ql pr bd sc d1 d2 d3 d4 an cv d5) ps sp := by
  refine ⟨ln, fun A out s H as us vs Q E cm room e0 bi rv hs => ?_⟩
  have lv := ln _ _ _ _ hs
  have kin : K.In s.heap := e0.mod.kin.keeps fun b o z => (e0.bs b o z).1
  have nol : s.heap.NoLimit := e0.mod.nolimit.keeps fun b o z => (e0.bs b o z).1
  have kinds : ∀ y ∈ ps.zip us, sc.names.lookup y.1 = some .local ∨ (sc.names.lookup y.1 = some .cell ∧ ((cellsFrom (s.heap.objs.size + 1) sc.names []).lookup y.1).isSome = true) := by
    rintro ⟨x, v⟩ hy
    exact (S.par x (List.of_mem_zip hy).1).imp id fun z => ⟨z, PySem.W.cellsFrom_some _ _ _ (.inl z)⟩
  refine codeAny_call_function room.depth (kin _ _ lk) rfl S.co S.gen rfl (PySem.W.codeRec_of kin hc) (bi _ _ _ _ (wpAny_newFunctionEnv_cells S.kind kinds fun env he s2 y => ?_)); subst he
  refine ⟨nol.keeps y.toInCall.keep, codeAny_func ?_⟩; obtain ⟨t, ht, hq⟩ := hb A out s H vs Q E cm (room.deeper _) hs
  refine wpAny_mono (ht.run [] s2 (start N vs) H _ (inv_start S room.hd e0 lv rv y) hq) (fun fl s3 z => ?_) fun _ _ z => z
  cases fl with
  | brk => exact (z.elim fun _ z => z.elim fun _ z => z.2).elim
  | cont => exact (z.elim fun _ z => z.elim fun _ z => z.2).elim
  | next => obtain ⟨σ2, H2, J, q⟩ := z; exact ⟨V.non, H2, J.os, J.bare, J.base, J.hok, rfl, q⟩
  | ret u => obtain ⟨v, σ2, H2, J, ru, q⟩ := z; exact ⟨v, H2, J.os, J.bare, J.base, J.hok, ru, q⟩
section
variable {X : Cx} {CX : CXT} {k : Nat} {f : Addr} {fd : FuncData} {ps : List Str} {sp : Sp} {ds : List Value} {dvs : List V} {E : XK} {x : Str} {p pos : Pos} {e : Expr} {es : List Expr} {t : TA}
/-- x(e, ..) of such a def -/
theorem pe_callG (F : FnG X.prog X.w X.K X.mg X.base CX k f fd ps sp) (cm : Calmly X.A) (room : Room k X.A) (gl : Gl X x) (hm : X.mg x = some (.ref f)) (kp : PySem.W.keepIn X.K (.ref f) = true) (hb : Binds X.K fd ps ds) (hd : Vals dvs ds) (hx : Passes CX X E) (ha : PA X (e :: es) t)
    (h1 : (x == ("__debug__" : Str)) = false := by decide) (h2 : starEach (e :: es) X.env = (false, eval e X.env) :: starEach es X.env := by rfl) (h3 : (backTo pos (starEach es X.env)).any (·.1) = false := by rfl) : PE X (.Call (.Name x p) (e :: es) [] pos) (tCall sp dvs E t) := by
  constructor
  intro pins s σ H Q I h
  refine wpAny_Call_Name_kw (ld_glob I gl hm (PySem.W.callWith_K (h₀ := X.base) I.ok.mod.kin kp (thn (ha.run pos pins s σ H _ I h) fun us s1 z => ?_) h2 h3) h1)
  obtain ⟨vs, H1, I1, rv, q⟩ := z
  have r2 : Vals (vs ++ dvs) (us ++ ds) := rv.append hd
  have hl : (us ++ ds).length = ps.length := r2.length.symm.trans (F.ln _ _ _ _ q)
  refine ⟨I1.kIn, wpAny_call (codeAny_mono (F.go X.A X.stack s1 H1 ⟨us, []⟩ (us ++ ds) (vs ++ dvs) Q E cm room I1.env0 (hb s1 us I1.kIn hl) r2 q) fun r s' hq => ?_)⟩
  match r, hq with
  | .error er, hq => exact hx pins σ H1 s1 er s' I1 hq
  | .ok (.ret u), hq => exact I1.after hq
end
end Fv

/-! the law's own call: nothing is being shown around it -/
namespace Fv
open PySem PySem.Spec PyProof.Rows L2 Evl StX
theorem calm_top : Calmly callerA := rfl
/-- the law, called from an abstract heap that tracks the script alone, or nothing -/
theorem lawG_core {P : Program} {w : World} {K : PySem.W.Frag} {mg mb : Str → Option Value} {CX : CXT} {k : Nat} {fa a : Addr} {fd : FuncData} {x : Str} {sp : Sp} {s1 : Shared} {ob : Obj} {H : Hp}
    (kin : K.In s1.heap) (n1 : s1.heap.Ns mainGlobals mg) (n2 : s1.heap.Ns builtinsNs mb) (n3 : ∀ y : Str, y ≠ "__name__" → mb y = bootBuiltins y) (lim : s1.heap.NoLimit) (gs : s1.gens = #[]) (ga : s1.heap.get? a = some ob) (nd : ∀ es ep, ob.data ≠ .dict es ep) (room : Room k callerA)
    (F : ∀ base : Heap, K.In base → base.Ns mainGlobals mg → FnG P w K mg base CX k fa fd [x] sp) (bi : ∀ (s : Shared) (u : Value), BindsTo s fd ⟨[u], []⟩ [(x, u)]) (only : Only H) (hs : sp [.ref a] H (fun v _ => v = .bl true) fun _ _ _ => False) (hCX : ∀ e s', CX [] H s1 (fun _ _ _ => False) e s' → False)
    (hok : HOk P w H s1.heap) (hA : ∀ b, H b ≠ none → b = a ∧ K.lookup a = none) :
    codeAny (model P w) callerA (.call (.ref fa) ⟨[.ref a], []⟩) (fun r s' => r = .ok (.ret (.bool true)) ∧ OldK s1.heap s'.heap ∧ s'.os = s1.os ∧ AllBare s'.gens) s1 := by
  have free : ∀ {b : Addr} {o : Obj}, s1.heap.get? b = some o → (∀ z : b = a, False) → H b = none := fun {b o} _ hb => by
    cases q : H b with
    | none => rfl
    | some u => exact (hb (hA b (by rw [q]; exact fun z => by cases z)).1).elim
  have ns : ∀ {b : Addr} {m : Str → Option Value}, s1.heap.Ns b m → (hidT s1.heap H).Ns b m := by
    rintro b m ⟨o, es, ep, z1, z2, z3⟩
    exact ⟨o, es, ep, hidT_get z1 (free z1 fun z => by subst z; rw [ga] at z1; cases z1; exact nd _ _ z2), z2, z3⟩
  have kb : K.In (hidT s1.heap H) := fun b o z => hidT_get (kin b o z) (by
    cases q : H b with
    | none => rfl
    | some u =>
      obtain ⟨rfl, z2⟩ := hA b (by rw [q]; exact fun z => by cases z)
      rw [z2] at z; cases z)
  obtain ⟨mc, c1, c2⟩ := lim
  have md : Mod K mg (hidT s1.heap H) := ⟨kb, ns n1, ⟨mb, ns n2, n3⟩, mc, ns c1, c2⟩
  have e0 : Env0 P w K mg (hidT s1.heap H) callerA [] s1 H := ⟨rfl, md, fun b o z => of_hidT z, Nat.le_of_eq (hidT_size _ _), trivial, fun b z => absurd z (List.not_mem_nil), hok, .of_eq gs⟩
  have run := (F _ kb (ns n1)).go callerA [] s1 H ⟨[.ref a], []⟩ [.ref a] [.ref a] _ _ calm_top room e0 (bi s1 (.ref a)) (.cons rfl .nil) hs
  refine codeAny_mono run fun r s' h => ?_
  match r, h with
  | .error e, h => exact (hCX e s' h).elim
  | .ok (.ret u), h =>
    obtain ⟨v, H2, o2, b2, un, hok2, rv, rfl⟩ := h
    obtain rfl : u = Value.bool true := rv
    refine ⟨rfl, .of_keep fun b o z => ?_, o2, b2⟩
    cases q : H b with
    | none => exact un.keep b o z q (fun m => by cases m) (fun m => by cases m)
    | some u =>
      rcases only b with y | ⟨oo, xs, y⟩
      · rw [q] at y; cases y
      · have g2 := (hok2 b _ (un.frzs b oo _ y)).1
        have g1 := (hok b _ y).1
        rw [z] at g1; cases g1; exact g2
theorem lawG {P : Program} {w : World} {K : PySem.W.Frag} {mg mb : Str → Option Value} {CX : CXT} {k : Nat} {fa a : Addr} {fd : FuncData} {x : Str} {sp : Sp} {s1 : Shared} {vs : List Value} {ns : List Int}
    (kin : K.In s1.heap) (n1 : s1.heap.Ns mainGlobals mg) (n2 : s1.heap.Ns builtinsNs mb) (n3 : ∀ y : Str, y ≠ "__name__" → mb y = bootBuiltins y) (lim : s1.heap.NoLimit) (gs : s1.gens = #[]) (ga : s1.heap.get? a = some { cls := .type "list", data := .seq vs.toArray }) (whs : IntsAre vs ns) (few : ns.length ≤ sizeLine) (room : Room k callerA)
    (F : ∀ base : Heap, K.In base → base.Ns mainGlobals mg → FnG P w K mg base CX k fa fd [x] sp) (bi : ∀ (s : Shared) (u : Value), BindsTo s fd ⟨[u], []⟩ [(x, u)])
    (hs : ∀ H : Hp, Only H → SqL K H a (ns.map V.int) → sp [.ref a] H (fun v _ => v = .bl true) fun _ _ _ => False) (hCX : ∀ H e s', CX [] H s1 (fun _ _ _ => False) e s' → False) :
    codeAny (model P w) callerA (.call (.ref fa) ⟨[.ref a], []⟩) (fun r s' => r = .ok (.ret (.bool true)) ∧ OldK s1.heap s'.heap ∧ s'.os = s1.os ∧ AllBare s'.gens) s1 := by
  have rv := vals_ints whs
  have noD : ∀ es ep, (({ cls := .type "list", data := .seq vs.toArray } : Obj)).data ≠ .dict es ep := fun es ep z => by cases z
  cases hk : K.lookup a with
  | some o =>
    have z := kin a o hk
    rw [ga] at z; cases z
    refine lawG_core (H := fun _ => none) kin n1 n2 n3 lim gs ga noD room F bi (fun _ => .inl rfl) (hs _ (fun _ => .inl rfl) (.inr ⟨_, vs.toArray, _, hk, rfl, rfl, rfl, ?_, by simpa using rv⟩)) (hCX _) (fun b u q => by cases (show (none : Option HO) = some u from q)) fun b z => (z rfl).elim
    rw [List.size_toArray, whs.length]; exact few
  | none =>
    let ob : Obj := { cls := .type "list", data := .seq vs.toArray }
    let H : Hp := fun b => if b = a then some (.frz ob (.lst (ns.map V.int))) else none
    have at_ : H a = some (.frz ob (.lst (ns.map V.int))) := if_pos rfl
    have on : Only H := fun b => (Classical.em (b = a)).elim (fun z => .inr ⟨_, _, if_pos z⟩) fun z => .inl (if_neg z)
    refine lawG_core (H := H) kin n1 n2 n3 lim gs ga noD room F bi on (hs _ on (.inl (.inr ⟨ob, at_⟩))) (hCX _) (fun b u q => ?_) fun b z => ?_
    · by_cases y : b = a
      · subst y
        rw [at_] at q; cases q
        exact ⟨ga, by rw [List.length_map]; exact few, vs, _, rv, ga⟩
      · rw [show H b = none from if_neg y] at q; cases q
    · by_cases y : b = a
      · exact ⟨y, hk⟩
      · exact (z (if_neg y)).elim
theorem walkG {l : PySem.W.OpenLaw} {n k : Nat} {q : Program} {lo : List Str} {XP : (Str → Option Value) → Heap → Prop} {YP : World → Heap → Prop} {d : DefRec} {K : Params → PySem.W.Frag} {CX : World → CXT} {sp : World → Sp} {x : Str} (hn : l.most = some n) (hn2 : n ≤ sizeLine) (hdf : d.params.defaults = []) (room : Room k callerA) (hY : ∀ (w : World) (h : Heap), YP w h → (K w.params).In h)
    (F : ∀ (w : World) (mg : Str → Option Value) (fa : Addr) (h : Heap), (K w.params).In h → h.Ns mainGlobals mg → mg d.name = some (.ref fa) → ∃ fd : FuncData, (∀ (s : Shared) (u : Value), BindsTo s fd ⟨[u], []⟩ [(x, u)]) ∧ ∀ base : Heap, (K w.params).In base → base.Ns mainGlobals mg → FnG l.prog w (K w.params) mg base (CX w) k fa fd [x] (sp w))
    (hs : ∀ (w : World) (H : Hp) (a : Addr) (ns : List Int), ns.length ≤ n → Only H → SqL (K w.params) H a (ns.map V.int) → sp w [.ref a] H (fun v _ => v = .bl true) fun _ _ _ => False) (hCX : ∀ (w : World) (H : Hp) (s : Shared) (e : Value) (s' : Shared), CX w [] H s (fun _ _ _ => False) e s' → False) :
    PySem.W.WalkO q lo XP YP l.row.toRowW d [] (fun f vs => PySem.call f vs) := by
  refine Att.attach_call hn hdf fun w s0 s1 mg mb fa o pm cd doc a vs ns G Y ho hd hcd hmg hobj hints hlen hg => ?_
  obtain ⟨fd, bi, FF⟩ := F w mg fa _ (hY w _ Y) G.T.g hmg
  exact lawG (hY w _ Y) G.T.g G.T.b G.T.builtins G.T.nolimit hg hobj hints (Nat.le_trans hlen hn2) room FF bi (fun H o S => hs w H a ns hlen o S) fun H e s' => hCX w H s1 e s'
end Fv

/-! repr; x in t for a tuple of data of any depth; isinstance of a caught exception with fields -/
namespace Fv
open PySem PySem.Spec PyProof.Rows L2 Evl StX
section
variable {X : Cx} {K : PySem.W.Frag}
/-! ### repr -/
def rRepr (K : PySem.W.Frag) : List V → Hp → VK → Prop := fun xs H Q => ∃ (v : V) (d : PyData), xs = [v] ∧ Dp K H v d ∧ d.showable = true ∧ d.hasDict = false ∧ d.shown.length ≤ sizeLine ∧ d.depth ≤ 60 ∧ Q (.str d.shown) H
theorem c_repr (cm : Calmly X.A) (hu : X.A.units + 65 < cLine) (h : X.K = K := by rfl) : CallR X (.builtin "repr") (rRepr K) := by
  subst h
  intro pins s σ H xs us Q I r q0
  obtain ⟨v, d, rfl, hd, s1, s2, s3, s4, q⟩ := q0
  obtain ⟨u, rfl, rv⟩ := vals1 r
  obtain ⟨as, rd⟩ := Dp.reads I d v u hd rv
  have no : d.hasDict = true → sysModules ∉ as := fun z => by rw [s2] at z; cases z
  have ref : ∀ a, u = .ref a → wpAny (model X.prog X.w) X.A (call (.builtin "repr") [u]) (EP X pins σ Q) X.xe s := fun a z => by
    subst z
    exact repr_of_reads' rd s1 no cm (by omega) (fun _ _ e => e) (fun h' t tk k => ⟨.str d.shown, H, I.kept k, ⟨t, rfl⟩, q⟩) s3
  cases hd with
  | non => cases rv; exact P.repr_of_none ⟨.str _, H, I.tok _, ⟨_, rfl⟩, q⟩
  | bl b => cases rv; exact P.repr_of_bool ⟨.str _, H, I.tok _, ⟨_, rfl⟩, q⟩
  | int i =>
    obtain ⟨t, rfl⟩ := rv
    exact P.repr_of_int (by simpa [PyData.showable] using s1) ⟨.str _, H, I.tok _, ⟨_, rfl⟩, q⟩
  | str x =>
    obtain ⟨t, rfl⟩ := rv
    exact P.repr_of_str ⟨.str _, H, I.tok _, ⟨_, rfl⟩, q⟩ s3
  | lst hs ha => exact ref _ rv
  | tup hs ha => exact ref _ rv
/-! ### in -/
def rInU (K : PySem.W.Frag) (neg : Bool) : R2 := fun x y H Q => ∃ d ds, Dp K H x d ∧ Dp K H y (.tuple ds) ∧ SeqAt.shaped d = true ∧ SeqAt.shaped (.tuple ds) = true ∧ Q (.bl (if neg then !ds.any fun z => PyData.eqv z d else ds.any fun z => PyData.eqv z d)) H
theorem o_inU (hu : X.A.units + 65 < cLine) (h : X.K = K := by rfl) : OpR X (compareOp .In) (rInU K false) := by
  subst h
  intro pins s σ H x y v u Q I rx ry q0
  obtain ⟨d, ds, hd, he, sd, se, q⟩ := q0
  obtain ⟨as, r1⟩ := Dp.reads I d x v hd rx
  obtain ⟨bs, r2⟩ := Dp.reads I _ y u he ry
  exact SeqAt.in_tuple_reads r2 r1 (SeqAt.canLay_of_shaped se) (SeqAt.canLay_of_shaped sd) (room_in_shaped sd hu) ⟨.bl _, H, I, rfl, q⟩
theorem o_ninU (hu : X.A.units + 65 < cLine) (h : X.K = K := by rfl) : OpR X (compareOp .NotIn) (rInU K true) := by
  subst h
  intro pins s σ H x y v u Q I rx ry q0
  obtain ⟨d, ds, hd, he, sd, se, q⟩ := q0
  obtain ⟨as, r1⟩ := Dp.reads I d x v hd rx
  obtain ⟨bs, r2⟩ := Dp.reads I _ y u he ry
  exact SeqAt.notIn_tuple_reads r2 r1 (SeqAt.canLay_of_shaped se) (SeqAt.canLay_of_shaped sd) (room_in_shaped sd hu) ⟨.bl _, H, I, rfl, q⟩
end
end Fv

namespace Fv
open PySem PySem.Spec PyProof.Rows L2 Evl StX
/-- isinstance says yes as soon as the kind of the thing says so -/
theorem isi_yes {K : PySem.W.Frag} {x c t : Value} {Pz : Heap → Prop} (ty : ∀ (M : Model) (h : Heap), K.In h → Pz h → PySem.W.Looks M h (typeOf x) t) (e : PySem.W.kitOne K t c = some true) : Answers (fun s => K.In s.heap ∧ Pz s.heap) x c true := by
  rintro dep tk prog w A R ⟨hp, g, d, n, os⟩ ⟨⟨kin, pz⟩, q⟩
  have L0 := ty (model prog w) hp kin pz
  unfold PySem.W.kitOne at e
  unfold Builtin.«isinstance.nested»; refine wpAny_bind (L0.at ?_)
  by_cases z : (t == c) = true
  · rw [if_pos z]
    first
      | exact wpAny_pure (q n)
      | exact wpAny_bind (wpAny_rule (q n))
      | exact wpAny_bind (wpAny_rule (wpAny_pure (q n)))
      | exact wpAny_pure (wpAny_pure (q n))
      | exact wpAny_bind (wpAny_pure (wpAny_pure (q n)))
  · rw [if_neg z] at e ⊢; obtain ⟨k1, k2, k3⟩ := PySem.W.kit_cls (M := model prog w) kin e
    have k4 : PySem.W.Looks (model prog w) hp (isInstance x c) true := L0.andThen k3
    refine wpAny_bind (k1.at ?_); rw [if_pos (by decide)]; k_delta "plainIsInstance"
    refine wpAny_bind (wpAny_bind (k2.at ?_)); simp only [Bool.not_true, Bool.false_eq_true, if_false]; refine wpAny_bind (k4.at ?_)
    first
      | exact wpAny_pure (wpAny_pure (q n))
      | (simp only [if_true]; first | exact wpAny_pure (wpAny_pure (q n)) | exact wpAny_pure (q n) | exact wpAny_bind (wpAny_pure (wpAny_pure (q n))))
section
variable {X : Cx} {a C : Addr} {oe : Obj} {cls : Value} {d : Option Addr} {pn : List (Addr × Obj)}
/-- isinstance(e, c), e the caught exception: yes -/
def rIsY (K : PySem.W.Frag) (cls : Value) (a : Addr) : List V → Hp → VK → Prop := fun xs H Q => ∃ (c : V) (cv : Value), xs = [.ref a, c] ∧ (∀ u, RelV c u → u = cv) ∧ PySem.W.kitOne K cls cv = some true ∧ Q (.bl true) H
theorem c_isY {K : PySem.W.Frag} (hz : Zc cls d oe) (h : X.K = K := by rfl) : CallR (X.suite a ((a, oe) :: pn)) (.builtin "isinstance") (rIsY K cls a) := by
  subst h
  intro pins s σ H xs us Q I r q0
  obtain ⟨c, cv, rfl, hc, e, q⟩ := q0
  obtain ⟨u0, u1, rfl, ra, rc⟩ : ∃ u0 u1, us = [u0, u1] ∧ RelV (.ref a) u0 ∧ RelV c u1 := by
    cases r with
    | cons r1 r2 =>
      cases r2 with
      | cons r3 r4 => cases r4; exact ⟨_, _, rfl, r1, r3⟩
  obtain rfl : u0 = Value.ref a := ra
  obtain rfl := hc _ rc
  have got := (I.pin (a, oe) (List.mem_append_left _ List.mem_cons_self)).1
  refine call_isinstance (S := fun _ R s => (X.K.In s.heap ∧ s.heap.get? a = some oe) ∧ ∀ tk, R (.ok (.ret (.bool true))) { s with toks := tk })
    (fun prog w A R s hs => isinstance_outer (isi_yes (Pz := fun h => h.get? a = some oe) (fun M h kin z => fun A Q E s k q => wpAny_typeOf_ref (k _ _ z) (by rw [hz.1]; exact q)) e 0 _ prog w A R s hs) (fun z => nomatch z)) ⟨⟨I.kIn, got⟩, fun tk => ⟨.bl true, H, I.tok tk, rfl, q⟩⟩
end
end Fv

/-! set(l) of a list of whole numbers, its members known -/
namespace Fv
open PySem PySem.Spec PyProof.Rows L2 Evl StX
/-- an empty set, as it is laid -/
abbrev set0 (w : World) : Obj := { cls := .type "set", dict := none, data := .set #[] 0 (.fresh 0 0 (!w.params.followText "set-order")) }
section
variable {P : Program} {w : World} {A : Around} {E : Value → Shared → Prop} {s : Shared}
set_option maxHeartbeats 8000000 in
theorem set_of_list {l : Addr} {its : Array Value} (ns : List Int) {Q : Value → Shared → Prop} (calm : A.handled = none) (isl : s.heap.IsList l its) (whole : IntsAre its.toList ns) (few : ns.length + 1 < scanBound)
    (k : ∀ (h2 : Heap) (tk c : Nat), SetR w h2 s.heap.objs.size (fun j => decide (j ∈ ns)) c → c ≤ ns.length → (∀ b o, s.heap.get? b = some o → h2.get? b = some o) → Q (.ref s.heap.objs.size) { s with heap := h2, toks := tk }) : wpAny (model P w) A (call (.type "set") [.ref l]) Q E s := by
  have size : its.size = ns.length := by simpa using IntsAre.length whole
  obtain ⟨c1, tl1, mro1⟩ := F.called_set.mro
  have f1 := F.called_set.made; have f2 := F.called_set.sub
  refine wpAny_call (codeAny_of_tree ?_); show wpAny _ _ (callAny (.type "set") _) _ _ _
  refine wpAny_pure ⟨Code.quiet_builtin _ (by decide +kernel), codeAny_builtin F.entry_type_call ?_⟩; rw [Around.under_plain (weight_type_call_type "set" [.ref l] []) rfl]
  have f3 := F.called_set.notType; have f4 := F.called_set.canCreate; have f5 := F.typeCall_set_1 (.ref l)
  (repeat (any_goals (first | assumption | wp_step)))
  refine codeAny_mono (code_set_led1 (.ref l) (E := E) (Q₁ := fun o s1 => o = .ref s.heap.objs.size ∧ s1 = { s with heap := s.heap.push (set0 w) }) ⟨rfl, rfl⟩) fun r s1 hr => ?_
  cases r with
  | error e => exact hr
  | ok fl =>
    cases fl with
    | ret ob =>
      obtain ⟨rfl, rfl⟩ := hr
      have at0 : (s.heap.push (set0 w)).get? s.heap.objs.size = some (set0 w) := Heap.get?_push_size _ rfl
      have ty0 : Shared.TypeIs { s with heap := s.heap.push (set0 w) } (.ref s.heap.objs.size) "set" := ⟨_, at0, rfl⟩
      have f6 := F.called_set.init.lookup; have f7 := F.called_set.init.bind (.ref s.heap.objs.size)
      (repeat (any_goals (first | assumption | wp_step)))
      refine codeAny_mono (codeAny_call_builtin (R := wants (fun r s2 => r = .none ∧ ∃ h2 tk c, s2 = { s with heap := h2, toks := tk } ∧ SetR w h2 s.heap.objs.size (fun j => decide (j ∈ ns)) c ∧ c ≤ ns.length ∧ (∀ b o, s.heap.get? b = some o → h2.get? b = some o)) E) F.called_set.init.plain F.entry_set_init (check_set_init_1 ty0 ?_)) fun r2 s2 hr2 => ?_
      · obtain ⟨⟨oc, od, oa, os⟩, got, e1, nl, e2⟩ := isl
        simp only at e1 e2; subst e1; subst e2
        have got1 : (s.heap.push (set0 w)).get? l = some { cls := .type "list", dict := od, data := .seq its nl, slots := os } := Heap.get?_push_of_some _ got
        have g1 := F.sub_list_set; have g2 := F.sub_list_frozenset
        have g3 : (Value.type "list" == Value.type "dict") = false := by decide
        have isl1 : (s.heap.push (set0 w)).IsList l its := ⟨_, got1, rfl, nl, rfl⟩
        unfold Builtin.«set.__init__» noKeywords Builtin.Frozenset.updateFrom
        generalize hI : pyIter = PI
        wp_walk
        subst hI; refine wpAny_pyIter_list isl1 (wpAny_bind (wpAny_runValue ?_))
        have lt : l < s.heap.objs.size := Heap.lt_size got
        have calm3 : A.in1.in1.in1.handled = none := by simp [calm]
        have ne1 : l ≠ (s.heap.push (set0 w)).objs.size := by rw [Heap.size_push]; exact Nat.ne_of_lt (Nat.lt_succ_of_lt lt)
        have off : s.heap.objs.size ∉ [(s.heap.push (set0 w)).objs.size, l] := by
          rw [Heap.size_push]; simp only [List.mem_cons, List.not_mem_nil, or_false, not_or]
          exact ⟨Nat.ne_of_lt (Nat.lt_succ_self _), Nat.ne_of_gt lt⟩
        have vals : ∀ (i : Nat) (v : Value), its[i]? = some v → ∃ j t, ns[i]? = some j ∧ v = .int j t := fun i v hv => by
          have hi : i < ns.length := size ▸ (Array.getElem?_eq_some_iff.mp hv).1
          obtain ⟨t, e⟩ := PyProof.Rows.IntsAre.int_at whole i v (by rw [Array.getElem?_toList]; exact hv)
          exact ⟨ns[i], t, List.getElem?_eq_getElem hi, by rw [e, List.getD_eq_getElem?_getD, List.getElem?_eq_getElem hi]; rfl⟩
        refine set_update_ints ((Walks.list calm3 _ l ne1 its).toS) s.heap.objs.size off ns size few vals (its.size - 0) 0 _ (by omega) (Nat.zero_le _) ⟨⟨_, Heap.get?_push_size _ rfl, rfl, rfl⟩, (isl1.push _)⟩ ?first ?rest
        case first => exact ⟨0, Nat.le_refl 0, setR_new_at (Heap.get?_push_of_some _ at0)⟩
        case rest =>
          rintro ⟨h2, g2', d2, t2, o2⟩ c2 hm hc2 hS2
          have z1 : g2' = s.gens := hm.gens; have z2 : d2 = s.drawn := hm.drawn; have z3 : o2 = s.os := hm.os
          subst z1; subst z2; subst z3; show wpAny _ _ _ _ _ _
          refine wpAny_pure ?_; show wpAny _ _ (ret Value.none) _ _ _
          rw [size] at hc2
          refine wpAny_pure ⟨rfl, h2, t2, c2, rfl, hS2, hc2, fun b o e => ?_⟩
          have b0 : b < s.heap.objs.size := Heap.lt_size e
          have b2 : b ≠ (s.heap.push (set0 w)).objs.size := by rw [Heap.size_push]; exact Nat.ne_of_lt (Nat.lt_succ_of_lt b0)
          exact hm.heap b o (by simp only [List.mem_cons, List.not_mem_nil, or_false, not_or]; exact ⟨Nat.ne_of_lt b0, b2⟩) (Heap.get?_push_of_some _ (Heap.get?_push_of_some _ e))
      · match r2, hr2 with
        | .error e, hr2 => exact hr2
        | .ok (.ret r), hr2 =>
          obtain ⟨rfl, h2, tk, c, rfl, y1, y2, y3⟩ := hr2
          (repeat (any_goals (first | assumption | wp_step)))
          exact k _ _ _ y1 y2 y3
        | .ok .next, hr2 => exact hr2.elim
        | .ok .brk, hr2 => exact hr2.elim
        | .ok .cont, hr2 => exact hr2.elim
    | next => exact hr.elim
    | brk => exact hr.elim
    | cont => exact hr.elim
end
def rSetLi (K : PySem.W.Frag) (w : World) : List V → Hp → VK → Prop := fun xs H Q => ∃ (p : Addr) (ns : List Int), xs = [.ref p] ∧ SqL K H p (ns.map V.int) ∧ ns.length ≤ 60 ∧
  ∀ a c, H a = none → c ≤ ns.length → Q (.ref a) (upd H a (SetO w a (fun j => decide (j ∈ ns)) c))
theorem c_setL {X : Cx} {K : PySem.W.Frag} {w : World} (hc : X.calm = true := by rfl) (h : X.K = K := by rfl) (hw : X.w = w := by rfl) : CallR X (.type "set") (rSetLi K w) := by
  subst h; subst hw
  rintro pins s σ H xs us Q I r ⟨p, ns, rfl, hq, hl, q⟩
  rw [Vals.ref1 r]
  obtain ⟨its, rv, ht, hz⟩ := I.list hq
  refine set_of_list ns (I.ok.hd hc) ht.isList (by simpa using ints_of_vals rv) (by unfold scanBound; omega) fun h' tk c R1 hcn k => ?_
  exact ⟨.ref s.heap.objs.size, _, I.laid (t' := tk) k (Nat.le_refl _) (setO_new R1), rfl, q _ c (I.hok.fresh (Nat.le_refl _)) hcn⟩
/-- a list of whole numbers -/
abbrev dI (ns : List Int) : PyData := .list (ns.map PyData.int)
theorem g_sortedSetL {K : PySem.W.Frag} {w : World} {pt : Option Pt} {σ : L2.St} {F : Hp} {te : TE} {ns : List Int} (h : EvG K pt te σ F (Is (dI ns))) (hz : ns.length ≤ 60) : EvG K pt (tCB (rSortedSet w) (tCons (tCB (rSetLi K w) (tCons te tNil)) tNil)) σ F
    (fun x => ∃ ms : List Int, x = .list (ms.map .int) ∧ ms.Pairwise (· < ·) ∧ ∀ k, k ∈ ms ↔ k ∈ ns) := fun H1 i g Q q =>
  h H1 i g _ fun d v F2 H2 hd s hv => by
    subst hd
    obtain ⟨a, xs, rfl, hl, ha⟩ := rp_lst hv
    have e1 := rpAll_ints ha
    subst e1
    refine ⟨a, ns, rfl, SqL.of (s.inn _ _ hl), hz, fun b c hb hc => ?_⟩
    have s3 : Step pt F2 H2 F2 (upd H2 b (SetO w b (fun j => decide (j ∈ ns)) c)) := .litter s.inn s.good hb
    refine ⟨b, _, c, rfl, upd_same, by omega, fun ms p hp hm hlen hn => ?_⟩
    have s4 : Step pt F2 (upd H2 b (SetO w b (fun j => decide (j ∈ ns)) c)) (upd F2 p (.lst (ms.map V.int))) _ := .laid s3.inn s3.good hn
    exact q _ _ _ _ ⟨ms, rfl, hp, fun k => by rw [hm k, decide_eq_true_eq]⟩ ((s.trans s3).trans s4) (.lst upd_same (rpAll_of_ints ms))
end Fv

namespace Fv
open PySem PySem.Spec PyProof.Rows L2 Evl StX
/-! ### bool(t) of a tuple -/
theorem meets_boolU (t : Addr) (its : Array Value) (fit : (its.size : Int) < 2 ^ 63) : Meets (Builtin.«bool.__new__» ⟨[.type "bool", .ref t], []⟩) (fun _ R s => IsTup s.heap t its ∧ ∀ tk, R (.ok (.ret (.bool (!its.isEmpty)))) { s with toks := tk }) :=
  Meets.of_wp fun prog w A R s0 hs => by
    obtain ⟨ht, q⟩ := hs; obtain ⟨hp, g, d, tk, os⟩ := s0
    have f0 := F.conv_sub_bool
    (repeat (any_goals (first | assumption | (with_reducible refine truthy_tuple ht fit ?_) | wp_step)))
    all_goals first | exact ⟨_, rfl, q _⟩ | exact q _ | skip
theorem rv_len {K : PySem.W.Frag} : True := trivial
def rBoolU (K : PySem.W.Frag) : List V → Hp → VK → Prop := fun xs H Q => ∃ (a : Addr) (zs : List V), xs = [.ref a] ∧ SqT K H a zs ∧ Q (.bl (!zs.isEmpty)) H
theorem c_boolU {X : Cx} {K : PySem.W.Frag} (h : X.K = K := by rfl) : CallR X (.type "bool") (rBoolU K) := by
  subst h
  rintro pins s σ H xs us Q I r ⟨a, zs, rfl, hq, q⟩
  obtain rfl := Vals.ref1 r
  obtain ⟨its, rv, pl, hz⟩ := I.tuple hq
  have h0 := sizeLine_eq; have h1 := rv.length
  have e : zs.isEmpty = its.toArray.isEmpty := by cases zs <;> cases its <;> simp_all
  exact call_bool_1 (meets_boolU a its.toArray (by simp only [List.size_toArray]; omega)) ⟨pl, fun tk => ⟨rfl, ⟨.bl (!zs.isEmpty), H, I.tok _, by rw [e]; rfl, q⟩⟩⟩
section
variable {K : PySem.W.Frag} {pt : Option Pt} {σ : L2.St} {F F' F0 H0 H : Hp} {te ta tb : TE} {ts tr : TA} {t u : TT} {R R1 : PD} {d e z : PyData} {D : Ends} {tz tu : TS} {wi : TI}
theorem rc_boolU {ds : List PyData} : RcG K (rBoolU K) [.tuple ds] (Is (.bool (!ds.isEmpty))) := rc_val fun F H vs e h => by
  cases h with
  | cons h1 h2 =>
    cases h2
    obtain ⟨a, xs, rfl, hl, ha⟩ := rp_tup h1
    have e1 : xs.isEmpty = ds.isEmpty := by have := ha.length; cases xs <;> cases ds <;> simp_all
    exact ⟨.bl (!xs.isEmpty), fun Q q => ⟨a, xs, rfl, tx e hl, q⟩, by rw [e1]; exact .bl _⟩
/-! ### choices whose test is not known -/
theorem g_ifR {S : Bool → Prop} (h : EtG pt t σ F S) (h1 : EvG K pt ta σ F R) (h2 : EvG K pt tb σ F R) : EvG K pt (tIf t ta tb) σ F R := fun H1 i g Q q => h H1 i g _ fun c F2 H2 hc s => by
  cases c with
  | true => exact h1.mono s.sub H2 s.inn s.good Q fun d' v' F3 H3 hd' s3 hv' => q d' v' F3 H3 hd' (s.trans s3) hv'
  | false => exact h2.mono s.sub H2 s.inn s.good Q fun d' v' F3 H3 hd' s3 hv' => q d' v' F3 H3 hd' (s.trans s3) hv'
theorem et_truR {S : Int → Prop} (h : EvG K pt te σ F (fun d => ∃ k : Int, d = .int k ∧ S k)) : EtG pt (fun σ H Q => te σ H fun x H' => ∃ k, TruV K x H' k ∧ Q k H') σ F (fun _ => True) := fun H1 i g Q q =>
  h H1 i g _ fun d' v F2 H2 hd s hv => by
    obtain ⟨n, rfl, _⟩ := hd
    rw [rp_int hv]
    exact ⟨n != 0, rfl, q _ F2 H2 trivial s⟩
/-- an item of a written list, at a drawn place -/
theorem g_pick {ds : List PyData} {c : Int} (ha : EvG K pt ta σ F (Is (.list ds))) (hb : EvG K pt tb σ F (fun d => ∃ k : Int, d = .int k ∧ 0 ≤ k ∧ k < c)) (hc : c ≤ (ds.length : Int)) (hP : ∀ d ∈ ds, R d) : EvG K pt (tOp (rIxL K) ta tb) σ F R := g_op ha hb fun d e hd he => by
  obtain ⟨k, rfl, k0, k1⟩ := he
  subst hd
  obtain ⟨j, rfl⟩ : ∃ j : Nat, k = (j : Int) := ⟨k.toNat, by omega⟩
  have hj : j < ds.length := by omega
  intro F H x y i hx hy Q q
  exact rv_ixL (d := ds[j]) (atI_nat (List.getElem?_eq_getElem hj)) F H x y i hx hy Q fun z v F2 H2 hz s hv => q z v F2 H2 (by rw [show z = ds[j] from hz]; exact hP _ (List.getElem_mem hj)) s hv
/-! ### == [] -/
theorem rv_eqNil {ds : List PyData} (h : SeqAt.shaped (.list ds) = true) : RvG K (rEqD K) (.list ds) (.list []) (Is (.bool ds.isEmpty)) := by
  have := rv_eqD (K := K) h (show SeqAt.shaped (.list []) = true by decide)
  have e : PyData.eqv (.list ds) (.list []) = ds.isEmpty := by
    cases ds <;> simp [PyData.eqv, PyData.eqvAll]
  rw [e] at this; exact this
theorem shaped_dI (ns : List Int) : SeqAt.shaped (.list (ns.map PyData.int)) = true := shaped_of (by simp only [PyData.canLay0]; exact canLayAll_ints ns) (by have := depthAll_ints ns; simp only [PyData.depth]; omega)
theorem c_min2 {X : Cx} (hc : X.calm = true := by rfl) : CallR X (.builtin "min") (fun xs H Q => ∃ i j, xs = [.int i, .int j] ∧ Q (.int (if j < i then j else i)) H) := call_min2 hc
theorem rc_min2 {i j : Int} : RcG K (fun xs H Q => ∃ i j, xs = [.int i, .int j] ∧ Q (.int (if j < i then j else i)) H) [.int i, .int j] (Is (.int (if j < i then j else i))) := rc_val fun F H vs e h => by
  cases h with
  | cons h1 h2 =>
    cases h2 with
    | cons h3 h4 =>
      cases h4
      rw [rp_int h1, rp_int h3]
      exact ⟨_, fun Q q => ⟨i, j, rfl, q⟩, .int _⟩
end
end Fv

/-! loops over what is not known beforehand; l[:i] -/
namespace Fv
open PySem PySem.Spec PyProof.Rows L2 Evl StX
section
variable {K : PySem.W.Frag} {pt : Option Pt} {σ : L2.St} {F F' F0 H0 H : Hp} {te ta tb : TE} {ts tr : TA} {t u : TT} {R R1 : PD} {RS : List PyData → Prop} {d e z : PyData} {D : Ends} {tz tu : TS} {wi : TI} {l : Addr} {ls : List PyData}
theorem t_forR {j : Nat} (s : Step pt F0 H0 F H) (hw : WiG K pt wi σ F RS) (I : List PyData → Nat → L2.St → Hp → Prop) (h0 : ∀ ds, RS ds → ∀ F2, Ex F F2 → I ds 0 σ F2)
    (hs : ∀ ds, RS ds → ∀ i d, ds[i]? = some d → ∀ σ' F' H' x, I ds i σ' F' → Step pt F0 H0 F' H' → Ex F F' → Rp K F' x d →
      ∀ N : L2.St → Hp → Prop, (∀ σ2 F2 H2, I ds (i + 1) σ2 F2 → Step pt F0 H0 F2 H2 → Ex F' F2 → N σ2 H2) → tu { D with nx := N, ct := N, bk := tz D } (σ'.set j (some x)) H')
    (hd : ∀ ds, RS ds → ∀ σ' F' H', I ds ds.length σ' F' → Step pt F0 H0 F' H' → Ex F F' → tz D σ' H') : tSeq (tFor wi (gName j) tu) tz D σ H :=
  hw H s.inn s.good _ fun ds J F1 H1 hr s1 Y => by
    refine ⟨fun i m σ' H' => m = ds.length - i ∧ i ≤ ds.length ∧ ∃ F', Step pt F0 H0 F' H' ∧ Ex F1 F' ∧ I ds i σ' F', ⟨ds.length, by simp, Nat.zero_le _, F1, s.trans s1, Ex.refl _, h0 ds hr F1 s1.sub⟩, ?_⟩
    rintro i m σ' H' ⟨rfl, hi, F', s', e', p⟩
    have eH : Ex F1 H' := e'.trans s'.inn
    by_cases hlt : i < ds.length
    · refine .inr ⟨Y.go i H' eH hlt, fun σ2 H2 => ∃ F2, Step pt F0 H0 F2 H2 ∧ Ex F1 F2 ∧ I ds (i + 1) σ2 F2, fun σ2 H2 ⟨F2, a, b, c⟩ => ⟨ds.length - (i + 1), by omega, rfl, hlt, F2, a, b, c⟩, fun x H2 y => ?_⟩
      obtain ⟨rfl, d, hdd, hx⟩ := Y.yld i H' x H2 eH hlt y
      exact hs ds hr i d hdd σ' F' _ x p s' (s1.sub.trans e') (Rp.mono e' _ _ hx) _ fun σ2 F2 H2 a b c => ⟨F2, b, e'.trans c, a⟩
    · have hE : i = ds.length := Nat.le_antisymm hi (Nat.le_of_not_lt hlt)
      subst hE
      exact .inl ⟨Y.stop H' eH, hd ds hr σ' F' H' p s' (s1.sub.trans e')⟩
theorem t_forGR {j : Nat} (g0 : Good pt F0 H0) (h0 : H0 l = none) (g : Gst K pt F0 H0 l F H ls) (hw : WiG K pt wi σ F RS) (I : List PyData → Nat → L2.St → Hp → List PyData → Prop) (hi : ∀ ds, RS ds → ∀ F2, Ex F F2 → I ds 0 σ F2 ls)
    (hs : ∀ ds, RS ds → ∀ i d, ds[i]? = some d → ∀ σ' F' H' x ls', I ds i σ' F' ls' → Gst K pt F0 H0 l F' H' ls' → Ex F F' → Rp K F' x d →
      ∀ N : L2.St → Hp → Prop, (∀ σ2 F2 H2 ls2, I ds (i + 1) σ2 F2 ls2 → Gst K pt F0 H0 l F2 H2 ls2 → Ex F' F2 → N σ2 H2) → tu { D with nx := N, ct := N, bk := tz D } (σ'.set j (some x)) H')
    (hd : ∀ ds, RS ds → ∀ σ' F' H' ls', I ds ds.length σ' F' ls' → Gst K pt F0 H0 l F' H' ls' → Ex F F' → tz D σ' H') : tSeq (tFor wi (gName j) tu) tz D σ H :=
  hw H g.step.inn g.step.good _ fun ds J F1 H1 hr s1 Y => by
    refine ⟨fun i m σ' H' => m = ds.length - i ∧ i ≤ ds.length ∧ ∃ F' ls', Gst K pt F0 H0 l F' H' ls' ∧ Ex F1 F' ∧ I ds i σ' F' ls', ⟨ds.length, by simp, Nat.zero_le _, F1, ls, g.run g0 h0 s1, Ex.refl _, hi ds hr F1 s1.sub⟩, ?_⟩
    rintro i m σ' H' ⟨rfl, hil, F', ls', g', e', p⟩
    have eH : Ex F1 H' := e'.trans g'.step.inn
    by_cases hlt : i < ds.length
    · refine .inr ⟨Y.go i H' eH hlt, fun σ2 H2 => ∃ F2 ls2, Gst K pt F0 H0 l F2 H2 ls2 ∧ Ex F1 F2 ∧ I ds (i + 1) σ2 F2 ls2, fun σ2 H2 ⟨F2, ls2, a, b, c⟩ => ⟨ds.length - (i + 1), by omega, rfl, hlt, F2, ls2, a, b, c⟩, fun x H2 y => ?_⟩
      obtain ⟨rfl, d, hdd, hx⟩ := Y.yld i H' x H2 eH hlt y
      exact hs ds hr i d hdd σ' F' _ x ls' p g' (s1.sub.trans e') (Rp.mono e' _ _ hx) _ fun σ2 F2 H2 ls2 a b c => ⟨F2, ls2, b, e'.trans c, a⟩
    · have hE : i = ds.length := Nat.le_antisymm hil (Nat.le_of_not_lt hlt)
      subst hE
      exact .inl ⟨Y.stop H' eH, hd ds hr σ' F' H' ls' p g' (s1.sub.trans e')⟩
theorem RpAll.take : ∀ {ds : List PyData} {vs : List V} (i : Nat), RpAll K F vs ds → RpAll K F (vs.take i) (ds.take i)
  | [], _, i, h => by cases h; simp; exact .nil
  | d :: ds, _, 0, h => by simp; exact .nil
  | d :: ds, _, i + 1, h => by
    cases h with
    | cons h1 h2 => exact .cons h1 (RpAll.take i h2)
/-- xs[:i] -/
theorem g_slTo {ds : List PyData} {i : Nat} (h : EvG K pt te σ F (Is (.list ds))) : EvG K pt (tSl (rSlL K) te tNoPart (tPart (tC (.int (i : Int))))) σ F (Is (.list (ds.take i))) := fun H1 e g Q q =>
  h H1 e g _ fun d v F2 H2 hd s hv => by
    subst hd
    obtain ⟨a, xs, rfl, hl, ha⟩ := rp_lst hv
    refine ⟨_, rfl, a, xs, rfl, SqL.of (s.inn _ _ hl), fun p hp => ?_⟩
    have e1 : cutV xs none (some (i : Int)) = xs.take i := by
      unfold cutV
      rw [show HT.sIx xs.length 0 none = 0 from rfl, show HT.sIx xs.length xs.length (some (i : Int)) = min i xs.length from HT.sIx_nat _ _ i, List.drop_zero, Nat.sub_zero]
      by_cases z : i ≤ xs.length
      · rw [Nat.min_eq_left z]
      · rw [Nat.min_eq_right (by omega), List.take_of_length_le (Nat.le_refl _), List.take_of_length_le (by omega)]
    rw [e1]
    have s3 : Step pt F2 H2 (upd F2 p (.lst (xs.take i))) (upd H2 p (.lst (xs.take i))) := .laid s.inn s.good hp
    exact q _ _ _ _ rfl (s.trans s3) (.lst upd_same (RpAll.mono s3.sub _ _ (RpAll.take i ha)))
end
end Fv

/-! a caught exception handed to a def; several clauses that name it -/
namespace Fv
open PySem PySem.Spec PyProof.Rows L2 L2H Evl StX
/-- the promise of a def to which an exception of the class cls is handed while it is handled -/
structure FnT (P : Program) (w : World) (K : PySem.W.Frag) (mg : Str → Option Value) (base : Heap) (k : Nat) (f : Addr) (fd : FuncData) (ps : List Str) (cls : Value) (sp : Addr → Sp) : Prop where
  ln : ∀ a vs H Q E, sp a vs H Q E → vs.length = ps.length
  go : ∀ (A : Around) (out : List Env) (s : Shared) (H : Hp) (as : Args) (us : List Value) (vs : List V) (Q : VK) (E : XK) (z : Addr × Obj), RoomH k A → PinOk out H s z → z.2.cls = cls → Env0 P w K mg base A out s H → BindsTo s fd as (ps.zip us) → Vals vs us → sp z.1 vs H Q E → codeAny (model P w) A (.call (.ref f) as) (CR CX0 out P w H s Q E) s
theorem fnT_mk {P : Program} {w : World} {K : PySem.W.Frag} {mg : Str → Option Value} {base : Heap} {k : Nat} {f : Addr} {nm ql : Str} {pr : Arguments} {bd : List Stmt} {sc : Scope} {d1 d2 d3 d4 cv d5 oc : Value} {an od : Option Addr} {sl : Array (Option Value)} {N ps : List Str} {cls : Value} {sp : Addr → Sp}
    (lk : K.lookup f = some ⟨oc, od, .func (PySem.W.fnOf nm ql pr bd sc d1 d2 d3 d4 an cv d5), sl⟩) (hc : PySem.W.codeIn K cv ql = true) (S : FnScope N ps sc) (ln : ∀ a vs H Q E, sp a vs H Q E → vs.length = ps.length)
    (hb : ∀ (A : Around) (out : List Env) (s : Shared) (H : Hp) (vs : List V) (Q : VK) (E : XK) (z : Addr × Obj), z.2.cls = cls → RoomH k (A.deeper (envOfC ql sc s.heap.objs.size f cv)) → sp z.1 vs H Q E → ∃ t, PSs (cxH CX0 P w K mg base N ql sc f cv A out s H E z) bd t ∧ t { nx := fun _ H2 => Q .non H2, rt := Q } (start N vs) H) :
    FnT P w K mg base (k + 1) f (PySem.W.fnOf nm ql pr bd sc d1 d2 d3 d4 an cv d5) ps cls sp := by
  refine ⟨ln, fun A out s H as us vs Q E z room pz cz e0 bi rv hs => ?_⟩
  have lv := ln _ _ _ _ _ hs
  have kin : K.In s.heap := e0.mod.kin.keeps fun b o y => (e0.bs b o y).1
  have nol : s.heap.NoLimit := e0.mod.nolimit.keeps fun b o y => (e0.bs b o y).1
  have kinds : ∀ y ∈ ps.zip us, sc.names.lookup y.1 = some .local ∨ (sc.names.lookup y.1 = some .cell ∧ ((cellsFrom (s.heap.objs.size + 1) sc.names []).lookup y.1).isSome = true) := by
    rintro ⟨x, v⟩ hy
    exact (S.par x (List.of_mem_zip hy).1).imp id fun y => ⟨y, PySem.W.cellsFrom_some _ _ _ (.inl y)⟩
  refine codeAny_call_function room.depth (kin _ _ lk) rfl S.co S.gen rfl (PySem.W.codeRec_of kin hc) (bi _ _ _ _ (wpAny_newFunctionEnv_cells S.kind kinds fun env he s2 y => ?_)); subst he
  refine ⟨nol.keeps y.toInCall.keep, codeAny_func ?_⟩; obtain ⟨t, ht, hq⟩ := hb A out s H vs Q E z cz (room.deeper _) hs
  refine wpAny_mono (ht.run [] s2 (start N vs) H _ (inv_startH S pz e0 lv rv y) hq) (fun fl s3 z => ?_) fun _ _ z => z
  cases fl with
  | brk => exact (z.elim fun _ z => z.elim fun _ z => z.2).elim
  | cont => exact (z.elim fun _ z => z.elim fun _ z => z.2).elim
  | next => obtain ⟨σ2, H2, J, q⟩ := z; exact ⟨V.non, H2, J.os, J.bare, J.base, J.hok, rfl, q⟩
  | ret u => obtain ⟨v, σ2, H2, J, ru, q⟩ := z; exact ⟨v, H2, J.os, J.bare, J.base, J.hok, ru, q⟩
section
variable {X : Cx} {k : Nat} {f a : Addr} {oe : Obj} {cls : Value} {d : Option Addr} {pn : List (Addr × Obj)} {fd : FuncData} {ps : List Str} {sp : Addr → Sp} {x : Str} {p pos : Pos} {e : Expr} {es : List Expr} {t : TA}
theorem pe_callT (hz : Zc cls d oe) (F : FnT X.prog X.w X.K X.mg X.base k f fd ps cls sp) (room : RoomH k X.A) (gl : Gl (X.suite a ((a, oe) :: pn)) x) (hm : X.mg x = some (.ref f)) (kp : PySem.W.keepIn X.K (.ref f) = true) (hb : Binds X.K fd ps []) (ha : PA (X.suite a ((a, oe) :: pn)) (e :: es) t)
    (h1 : (x == ("__debug__" : Str)) = false := by decide) (h2 : starEach (e :: es) X.env = (false, eval e X.env) :: starEach es X.env := by rfl) (h3 : (backTo pos (starEach es X.env)).any (·.1) = false := by rfl) :
    PE (X.suite a ((a, oe) :: pn)) (.Call (.Name x p) (e :: es) [] pos) (tCall (sp a) [] E0 t) := by
  constructor
  intro pins s σ H Q I h
  refine wpAny_Call_Name_kw (ld_glob I gl hm (PySem.W.callWith_K (h₀ := X.base) I.ok.mod.kin kp (thn (ha.run pos pins s σ H _ I h) fun us s1 z => ?_) h2 h3) h1)
  obtain ⟨vs, H1, I1, rv, q⟩ := z
  rw [List.append_nil] at q
  have hl : (us ++ []).length = ps.length := by rw [List.append_nil]; exact rv.length.symm.trans (F.ln _ _ _ _ _ q)
  have bnd := hb s1 us I1.kIn hl
  rw [List.append_nil] at bnd
  obtain ⟨g1, g2, g3, g4, g5⟩ := I1.pin (a, oe) (List.mem_append_left _ List.mem_cons_self)
  have pz : PinOk X.stack H1 s1 (a, oe) := ⟨g1, g2, fun hm => (List.mem_cons.mp (I1.stkSub a hm)).elim g3 g4, g5⟩
  refine ⟨I1.kIn, wpAny_call (codeAny_mono (F.go (X.suite a ((a, oe) :: pn)).A X.stack s1 H1 ⟨us, []⟩ us vs Q E0 (a, oe) ⟨room.dp, room.un⟩ pz hz.1 I1.env0 bnd rv q) fun r s' hq => ?_)⟩
  match r, hq with
  | .error er, hq => exact hq.elim
  | .ok (.ret u), hq => exact I1.after hq
end
end Fv

namespace Fv
open PySem PySem.Spec PyProof.Rows L2 L2H Evl StX
section
variable {X : Cx} {a : Addr} {oe : Obj} {cls : Value}
/-- isinstance(e, c), e an object of the class cls that is kept in mind: yes -/
theorem c_isP {K : PySem.W.Frag} (hm : (a, oe) ∈ X.pn) (hz : oe.cls = cls) (h : X.K = K := by rfl) : CallR X (.builtin "isinstance") (rIsY K cls a) := by
  subst h
  intro pins s σ H xs us Q I r q0
  obtain ⟨c, cv, rfl, hc, e, q⟩ := q0
  obtain ⟨u0, u1, rfl, ra, rc⟩ : ∃ u0 u1, us = [u0, u1] ∧ RelV (.ref a) u0 ∧ RelV c u1 := by
    cases r with
    | cons r1 r2 =>
      cases r2 with
      | cons r3 r4 => cases r4; exact ⟨_, _, rfl, r1, r3⟩
  obtain rfl : u0 = Value.ref a := ra
  obtain rfl := hc _ rc
  have got := (I.pin (a, oe) (List.mem_append_left _ hm)).1
  refine call_isinstance (S := fun _ R s => (X.K.In s.heap ∧ s.heap.get? a = some oe) ∧ ∀ tk, R (.ok (.ret (.bool true))) { s with toks := tk })
    (fun prog w A R s hs => isinstance_outer (isi_yes (Pz := fun h => h.get? a = some oe) (fun M h kin z => fun A Q E s k q => wpAny_typeOf_ref (k _ _ z) (by rw [hz]; exact q)) e 0 _ prog w A R s hs) (fun z => nomatch z)) ⟨⟨I.kIn, got⟩, fun tk => ⟨.bl true, H, I.tok tk, rfl, q⟩⟩
end
/-! ### try: body, except c as n: .., except d as n: .. where one of the clauses names what flies -/
def wAsL (K : PySem.W.Frag) (i : Nat) (D : Ends) : List (Value × (Addr → Value → Option Addr → TS)) → WX
  | [] => fun _ _ _ _ => False
  | (c, ts) :: r => fun cls d σ H => ∃ b, PySem.W.exmOne K cls c = some b ∧
      (b = true → ∀ a, H a = none → ts a cls d { nx := fun σ2 H2 => D.nx (σ2.set i none) H2, rt := D.rt, bk := fun σ2 H2 => D.bk (σ2.set i none) H2, ct := fun σ2 H2 => D.ct (σ2.set i none) H2 } (σ.set i (some (.ref a))) H) ∧ (b = false → wAsL K i D r cls d σ H)
inductive AsL (X : Cx) (n : Str) : List ExceptHandler → List (Value × (Addr → Value → Option Addr → TS)) → Prop
  | nil : AsL X n [] []
  | cons {y : Str} {c : Value} {ts : Addr → Value → Option Addr → TS} {s0 : Stmt} {ss : List Stmt} {p1 p2 : Pos} {hds : List ExceptHandler} {l : List (Value × (Addr → Value → Option Addr → TS))} (nm : Names X y c)
      (su : ∀ (a : Addr) (oe : Obj) (cls : Value) (d : Option Addr) (pn : List (Addr × Obj)), Zc cls d oe → (∃ vs, oe.data = .fields vs) → PSs (X.suite a ((a, oe) :: pn)) (s0 :: ss) (ts a cls d)) (r : AsL X n hds l) : AsL X n (.ExceptHandler (some (.Name y p1)) (some n) (s0 :: ss) p2 :: hds) ((c, ts) :: l)
section
variable {X : Cx} {n : Str} {i : Nat} {body : List Stmt} {h0 : ExceptHandler} {hds : List ExceptHandler} {l : List (Value × (Addr → Value → Option Addr → TS))} {pos : Pos} {tb : WX → TS}
theorem ps_try_asL (stk : X.stack = X.env :: X.outer) (fr : X.env.frame = some X.env.locals) (nd : X.N.Nodup) (ni : X.N[i]? = some n) (nl : X.env.kindOf n = some .local)
    (hb : ∀ (W : WX) (pn : List (Addr × Obj)) (xe : Value → Shared → Prop), Takes (X.tr pn xe) W → PassesOwn (model X.prog X.w) X.A X.env xe → PSs (X.tr pn xe) body (tb W)) (hh : AsL X n (h0 :: hds) l) :
    PS X (.Try body (h0 :: hds) [] [] pos) (fun D σ H => tb (wAsL X.K i D l) D σ H) := by
  constructor
  intro pins s σ H D I q0
  have ok := I.ok
  have frs0 : X.A.frames = some (X.env :: X.outer) := by rw [ok.frames, stk]
  have loc0 : Loc X.env.scope n := .inl nl
  apply wpAny_Try_except
  have fall : Takes (X.tr (X.pn ++ pins) (fun e t1 => wpAny (model X.prog X.w) X.A (noteFrame e X.env) (fun _ t2 => wpAny (model X.prog X.w) X.A (setFlight e none) (fun _ t3 => wpAny (model X.prog X.w) X.A (handleBy e X.env (h0 :: hds)) (SP X pins D) X.xe t3) X.xe t2) X.xe t1)) (wAsL X.K i D l) := by
    intro u s2 fly
    obtain ⟨a, B, sI, ps2, σ2, H2, cls, d, rfl, J0, keepB, up0, sky, free, os2, bare2, wish⟩ := fly
    have J : Inv X pins σ2 H2 sI := J0.ofTry ok
    rw [show (X.tr (X.pn ++ pins) _).stack = X.stack from rfl, stk] at sky
    show wpAny (model X.prog X.w) X.A (noteFrame (.ref a) X.env) _ _ _
    refine Sky.land Zc.steady frs0 fr sky fun g fg ug => ?_
    have Jg : Inv X pins σ2 H2 { s2 with heap := g } := J.landed keepB fg.1 (up0.trans ug) os2 bare2
    obtain ⟨og, vg, eg, zg, dg⟩ := fg.there
    have off : a ∉ frs (X.env :: X.outer) := fun m => by
      obtain ⟨_, o3, e3, nf⟩ := fg.2.2.1.mem m
      rw [eg] at e3; cases e3
      exact nf _ dg
    have offL : a ≠ X.env.locals := fun z => off (List.mem_filterMap.mpr ⟨X.env, List.mem_cons_self, by rw [fr, z]⟩)
    have offF : a ∉ X.fs := fun m => by
      obtain ⟨v, hv, z⟩ := List.mem_filterMap.mp m
      exact off (List.mem_filterMap.mpr ⟨v, List.mem_cons_of_mem _ hv, z⟩)
    have Sg := Jg.suite eg dg free offL offF
    have clauses : ∀ {hs2 : List ExceptHandler} {l2 : List (Value × (Addr → Value → Option Addr → TS))}, AsL X n hs2 l2 → wAsL X.K i D l2 cls d σ2 H2 → wpAny (model X.prog X.w) X.A (handleBy (.ref a) X.env hs2) (SP X pins D) X.xe { s2 with heap := g } := by
      intro hs2 l2 hk
      induction hk with
      | nil => exact fun z => z.elim
      | @cons y c ts s0 ss p1 p2 hds3 l3 nm su r ih =>
        rintro ⟨b, eb, yes, no⟩
        refine wpAny_handleBy_cons (codeAny_handlers_test ?_) (by intro z; cases z)
        have kind : PySem.W.Looks (model X.prog X.w) g (typeOf (.ref a)) cls := fun _ _ _ _ k z => wpAny_typeOf_ref (k _ _ eg) (by rw [zg.1]; exact z)
        have named : ∀ {Q2 : Value → Shared → Prop} {E2 : Value → Shared → Prop}, Q2 c { s2 with heap := g } → wpAny (model X.prog X.w) (X.A.mark (some (.ref a))) (eval (.Name y p1) X.env) Q2 E2 { s2 with heap := g } := fun {_ _} z => by
          obtain ⟨n1, n2, n3 | ⟨n3, n4, n5⟩⟩ := nm
          · exact ld_glob (X := X.suite a ((a, og) :: (X.pn ++ pins))) Sg n1 n3 z n2
          · exact ld_blt (X := X.suite a ((a, og) :: (X.pn ++ pins))) Sg n1 n3 n4 z n5 n2
        refine named ((PySem.W.exm_one (M := model X.prog X.w) Jg.kIn kind eb).here ?_)
        cases b with
        | false => exact ih (no rfl)
        | true =>
          refine codeAny_handlers_suite_as (HandSPX.lands_againZ fg fun g2 fg2 ug2 => ?_)
          have J2 : Inv X pins σ2 H2 { s2 with heap := g2 } := J.landed keepB fg2.1 ((up0.trans ug).trans ug2) os2 bare2
          obtain ⟨o2, v2, e2, z2, d2⟩ := fg2.there
          refine store_ok (X := X.suite a ((a, o2) :: (X.pn ++ pins))) (v := .ref a) (J2.suite e2 d2 free offL offF) nd ni loc0 rfl (fun s3 S3 => ?_) (.inr nl)
          refine wpAny_mono ((su a o2 cls d (X.pn ++ pins) z2 ⟨_, d2⟩).run [] s3 _ H2 _ S3 (yes rfl a free)) (fun fl s4 z => ?_) fun _ _ z => z.elim
          have gone : ∀ {σ4 : L2.St} {H4 : Hp} {Q4 : Shared → Prop}, Inv (X.suite a ((a, o2) :: (X.pn ++ pins))) [] σ4 H4 s4 → (∀ s5, Inv X pins (σ4.set i none) H4 s5 → Q4 s5) →
              wpAny (model X.prog X.w) X.A (do bindName X.env n .none; unbindBehindTheSuite X.env n p2) (fun _ s5 => Q4 s5) X.xe s4 := fun {_ _ _} S4 k => gone_ok (S4.unsuite ok) nd ni nl k
          cases fl with
          | next => obtain ⟨σ4, H4, S4, k⟩ := z; exact gone S4 fun _ J5 => ⟨_, _, J5, k⟩
          | brk => obtain ⟨σ4, H4, S4, k⟩ := z; exact gone S4 fun _ J5 => ⟨_, _, J5, k⟩
          | cont => obtain ⟨σ4, H4, S4, k⟩ := z; exact gone S4 fun _ J5 => ⟨_, _, J5, k⟩
          | ret u => obtain ⟨v4, σ4, H4, S4, r4, k⟩ := z; exact gone S4 fun _ J5 => ⟨_, _, _, J5, r4, k⟩
    exact clauses hh wish
  refine wpAny_mono ((hb _ _ _ fall PassesOwn.looking).run [] s σ H D (I.toTry _) q0) (fun fl s2 z => ?_) fun _ _ z => z
  cases fl with
  | next => obtain ⟨σ2, H2, J2, k⟩ := z; exact wpAny_execs_nil ⟨σ2, H2, J2.ofTry ok, k⟩
  | brk => obtain ⟨σ2, H2, J2, k⟩ := z; exact ⟨σ2, H2, J2.ofTry ok, k⟩
  | cont => obtain ⟨σ2, H2, J2, k⟩ := z; exact ⟨σ2, H2, J2.ofTry ok, k⟩
  | ret u => obtain ⟨v2, σ2, H2, J2, r2, k⟩ := z; exact ⟨v2, σ2, H2, J2.ofTry ok, r2, k⟩
end
end Fv

/-! a list of one's own, written in place -/
namespace Fv
open PySem PySem.Spec PyProof.Rows L2 Evl StX
section
variable {K : PySem.W.Frag} {pt : Option Pt} {σ : L2.St} {F F' F0 H0 H : Hp} {te ti ta tb : TE} {ts tr : TA} {t u : TT} {R R1 : PD} {d e z : PyData} {D : Ends} {tz tu tw : TS} {l : Addr} {ls : List PyData}
theorem RpAll.set : ∀ {ds : List PyData} {vs : List V} (j : Nat) {v : V} {d : PyData}, RpAll K F vs ds → Rp K F v d → RpAll K F (vs.set j v) (ds.set j d)
  | [], _, j, v, d, h, _ => by cases h; cases j <;> exact .nil
  | _ :: _, _, 0, v, d, h, hv => by
    cases h with
    | cons h1 h2 => exact .cons hv h2
  | _ :: _, _, j + 1, v, d, h, hv => by
    cases h with
    | cons h1 h2 => exact .cons h1 (RpAll.set j h2 hv)
theorem Gst.set (g0 : Good pt F0 H0) (h0 : H0 l = none) (g : Gst K pt F0 H0 l F H ls) {v : V} (j : Nat) (hv : Rp K F v d) : ∃ acc, H l = some (.lst acc) ∧ acc.length = ls.length ∧ Gst K pt F0 H0 l F (upd H l (.lst (acc.set j v))) (ls.set j d) := by
  obtain ⟨acc, e, r⟩ := g.ex
  exact ⟨acc, e, r.length, g.step.put g0 h0 g.off, g.off, _, upd_same, RpAll.set j r hv⟩
/-- x[i] = e -/
theorem t_setG {i j : Nat} (g0 : Good pt F0 H0) (h0 : H0 l = none) (g : Gst K pt F0 H0 l F H ls) (hi : σ[i]? = some (some (.ref l))) (h : EvG K pt te σ F R) (hj : EvG K pt ti σ F (Is (.int (j : Int)))) (lt : j < ls.length)
    (q : ∀ d F2 H2, R d → Gst K pt F0 H0 l F2 H2 (ls.set j d) → Ex F F2 → D.nx σ H2) : tAsg te (gSub (tVar i) ti rSetL) D σ H :=
  h H g.step.inn g.step.good _ fun d v F2 H2 hd s hv => ⟨.ref l, hi, hj.mono s.sub H2 s.inn s.good _ fun d2 v2 F3 H3 hd2 s3 hv2 => by
    subst hd2
    obtain rfl := rp_int hv2
    obtain ⟨acc, e2, hlen, g2⟩ := ((g.run g0 h0 s).run g0 h0 s3).set g0 h0 j (Rp.mono s3.sub _ _ hv)
    exact ⟨l, acc, (j : Int), j, rfl, rfl, e2, ixN_nat (by rw [hlen]; exact lt), q d F3 _ hd g2 (s.sub.trans s3.sub)⟩⟩
/-- if b and x[i] is None -/
theorem t_ifOwn {a i c j : Nat} {b : Bool} (g : Gst K pt F0 H0 l F H ls) (ha : σ[a]? = some (some (.bl b))) (hi : σ[i]? = some (some (.ref l))) (hc : σ[c]? = some (some (.int (j : Int)))) (hd : ls[j]? = some d) (h1 : (b && isNone d) = true → tu D σ H) (h2 : (b && isNone d) = false → tw D σ H) :
    tIfS (tAnd (tB (tVar a)) (tTest (tOp (fun x y H Q => y = .non ∧ Q (.bl (decide (x = .non))) H) (tOp (rIxL K) (tVar i) (tVar c)) (tC .non)))) tu tw D σ H := by
  refine ⟨.bl b, ha, b, rfl, ?_⟩
  cases b with
  | false => exact h2 rfl
  | true =>
    obtain ⟨acc, e, r⟩ := g.ex
    have hl : j < acc.length := by
      rw [r.length]; exact (List.getElem?_eq_some_iff.mp hd).1
    obtain ⟨d', hd', hr⟩ := r.get (List.getElem?_eq_getElem hl)
    rw [hd] at hd'
    obtain rfl := Option.some.inj hd'
    refine ⟨.ref l, hi, .int (j : Int), hc, ⟨l, acc, (j : Int), acc[j], rfl, rfl, sq_of e, atI_nat (List.getElem?_eq_getElem hl), rfl, ?_⟩⟩
    refine ⟨_, rfl, ?_⟩
    rw [rp_isN hr]
    cases hn : isNone d with
    | true => exact h1 (by rw [hn]; rfl)
    | false => exact h2 (by rw [hn]; rfl)
/-- x = list(e) -/
theorem t_listG {i : Nat} {ds : List PyData} {src : PyData} (s : Step pt F0 H0 F H) (hs : src = .list ds ∨ src = .tuple ds) (h : EvG K pt te σ F (Is src)) (q : ∀ l F2 H2, H0 l = none → Gst K pt F0 H0 l F2 H2 ds → Ex F F2 → tz D (σ.set i (some (.ref l))) H2) :
    tSeq (tAsg (tCB (rList K) (tCons te tNil)) (gName i)) tz D σ H := h H s.inn s.good _ fun d v F2 H2 hd s2 hv => by
  subst hd
  have sq : ∃ a xs, v = .ref a ∧ (SqL K H2 a xs ∨ SqT K H2 a xs) ∧ RpAll K F2 xs ds := by
    rcases hs with rfl | rfl
    · obtain ⟨a, xs, e, h1, h2⟩ := rp_lst hv
      exact ⟨a, xs, e, .inl (SqL.of (s2.inn _ _ h1)), h2⟩
    · obtain ⟨a, xs, e, h1, h2⟩ := rp_tup hv
      exact ⟨a, xs, e, .inr (tx s2.inn h1), h2⟩
  obtain ⟨a, xs, rfl, hq, hxs⟩ := sq
  refine ⟨a, xs, rfl, hq, fun l hl => ?_⟩
  have st := s.trans s2
  have f : F2 l = none := by
    cases e : F2 l with
    | none => rfl
    | some o => rw [s2.inn _ _ e] at hl; cases hl
  have h0 : H0 l = none := st.back l hl
  exact q l F2 _ h0 ⟨st.trans (.litter s2.inn s2.good hl), f, xs, upd_same, hxs⟩ s2.sub
end
end Fv

/-! an empty dict among data; lists of things of a kind -/
namespace Fv
open PySem PySem.Spec PyProof.Rows L2 Evl StX
section
variable {K : PySem.W.Frag} {pt : Option Pt} {σ : L2.St} {F F' F0 H0 H : Hp} {te ti ta tb : TE} {ts tr : TA} {d : PyData} {D : Ends} {tz : TS}
/-- isinstance({}, (list, tuple)) -/
theorem g_isi2D {i : Nat} {a : Addr} (h0 : σ[i]? = some (some (.ref a))) (hd : F a = some (.dK [])) : EvG K pt (tCB (rIsiT K) (tCons (tVar i) (tCons (tTup (tCons (tC (.ty "list")) (tCons (tC (.ty "tuple")) tNil))) tNil))) σ F (Is (.bool false)) := fun H1 e g Q q => by
  refine ⟨_, h0, sz_of (by show 2 ≤ 100000; decide), fun p hp => ?_⟩
  have s3 : Step pt F H1 (upd F p (.tup [.ty "list", .ty "tuple"])) (upd H1 p (.tup [.ty "list", .ty "tuple"])) := .laid e g hp
  have k1 : kitB "dict" "list" = some false := by decide +kernel
  have k2 : kitB "dict" "tuple" = some false := by decide +kernel
  refine ⟨_, p, _, _, [.type "list", .type "tuple"], false, rfl, upd_same, .cons (.ty "list") (.cons (.ty "tuple") .nil), .base (.dK (s3.inn _ _ (s3.sub _ _ hd))), ?_, q _ _ _ _ rfl s3 (.bl false)⟩
  exact kitAny_cons (kit_ty k1) (fun _ => kitAny_cons (kit_ty k2) (fun _ => kitAny_nil) (fun z => by cases z)) fun z => by cases z
/-- a kind of things that stays so -/
def Kept (Φ : V → Hp → Prop) : Prop := ∀ v F F', Ex F F' → Φ v F → Φ v F'
def EvsX (pt : Option Pt) (ts : TA) (σ : L2.St) (F : Hp) (Φ : V → Hp → Prop) (k : Nat) : Prop :=
  ∀ H1, Ex F H1 → Good pt F H1 → ∀ Q : List V → Hp → Prop, (∀ vs F2 H2, vs.length = k → (∀ v ∈ vs, Φ v F2) → Step pt F H1 F2 H2 → Q vs H2) → ts σ H1 Q
variable {Φ : V → Hp → Prop}
theorem x_of {R : PD} (h : EvG K pt te σ F R) (hR : ∀ v d F', R d → Rp K F' v d → Φ v F') : EvX pt te σ F Φ := fun H1 e g Q q => h H1 e g _ fun d v F2 H2 hd s hv => q v F2 H2 (hR v d F2 hd hv) s
theorem xs_nil : EvsX pt tNil σ F Φ 0 := fun H1 e g Q q => q [] F H1 rfl (fun v hv => by cases hv) (.refl e g)
theorem xs_cons {k : Nat} (hk : Kept Φ) (h : EvX pt te σ F Φ) (h2 : ∀ F', Ex F F' → EvsX pt tr σ F' Φ k) : EvsX pt (tCons te tr) σ F Φ (k + 1) := fun H1 e g Q q =>
  h H1 e g _ fun v F2 H2 hv s => h2 F2 s.sub H2 s.inn s.good _ fun vs F3 H3 hl ha s3 => q (v :: vs) F3 H3 (by rw [List.length_cons, hl]) (fun x hx => by
    rcases List.mem_cons.mp hx with z | z
    · rw [z]; exact hk _ _ _ s3.sub hv
    · exact ha x z) (s.trans s3)
/-- {} -/
theorem x_dict0 (hΦ : ∀ a F', F' a = some (.dK []) → Φ (.ref a) F') : EvX pt tDNewK σ F Φ := fun H1 e g Q q p hp => q (.ref p) _ _ (hΦ p _ upd_same) (.laid e g hp)
/-- one of a written list, at a drawn place -/
theorem x_pick {k : Nat} {c : Int} (hk : Kept Φ) (hz : k ≤ 1000) (h : EvsX pt ts σ F Φ k) (hb : ∀ F', Ex F F' → EvG K pt tb σ F' (fun d => ∃ j : Int, d = .int j ∧ 0 ≤ j ∧ j < c)) (hc : c ≤ (k : Int)) : EvX pt (tOp (rIxL K) (tLst ts) tb) σ F Φ := fun H1 e g Q q =>
  h H1 e g _ fun vs F2 H2 hl ha s => ⟨by rw [hl]; exact sz_of (Nat.le_trans hz (by decide)), fun p hp => by
    have s3 : Step pt F2 H2 (upd F2 p (.lst vs)) (upd H2 p (.lst vs)) := .laid s.inn s.good hp
    have st := s.trans s3
    refine hb _ st.sub _ st.inn st.good _ fun d v F4 H4 ⟨j, hd, j0, j1⟩ s4 hv => ?_
    subst hd
    obtain rfl := rp_int hv
    obtain ⟨i, rfl⟩ : ∃ i : Nat, j = (i : Int) := ⟨j.toNat, by omega⟩
    have hi : i < vs.length := by omega
    exact ⟨p, vs, (i : Int), vs[i], rfl, rfl, sq_of (s4.inn _ _ (s4.sub _ _ upd_same)), atI_nat (List.getElem?_eq_getElem hi), q _ F4 H4 (hk _ _ _ (s3.sub.trans s4.sub) (ha _ (List.getElem_mem hi))) (st.trans s4)⟩⟩
end
end Fv

/-! tests beside a list of one's own; parts -/
namespace Fv
open PySem PySem.Spec PyProof.Rows L2 Evl StX
section
variable {K : PySem.W.Frag} {pt : Option Pt} {σ : L2.St} {F F' F0 H0 H : Hp} {te ti ta tb : TE} {ts tr : TA} {t : TT} {d : PyData} {D : Ends} {tz tu tw : TS} {l : Addr} {ls : List PyData}
theorem t_if1G {b : Bool} (g0 : Good pt F0 H0) (h0 : H0 l = none) (g : Gst K pt F0 H0 l F H ls) (h : EtG pt t σ F (· = b)) (h1 : b = true → ∀ F2 H2, Gst K pt F0 H0 l F2 H2 ls → Ex F F2 → tu D σ H2) (h2 : b = false → ∀ F2 H2, Gst K pt F0 H0 l F2 H2 ls → Ex F F2 → tw D σ H2) : tIfS t tu tw D σ H :=
  h H g.step.inn g.step.good _ fun c F2 H2 hc s2 => by
    subst hc
    cases c with
    | true => exact h1 rfl F2 H2 (g.run g0 h0 s2) s2.sub
    | false => exact h2 rfl F2 H2 (g.run g0 h0 s2) s2.sub
theorem t_ifGJ {b : Bool} (J : L2.St → Hp → Prop) (g0 : Good pt F0 H0) (h0 : H0 l = none) (g : Gst K pt F0 H0 l F H ls) (h : EtG pt t σ F (· = b))
    (h1 : b = true → ∀ F2 H2, Gst K pt F0 H0 l F2 H2 ls → Ex F F2 → ∀ N : L2.St → Hp → Prop, (∀ σ3 F3 H3, J σ3 F3 → Step pt F0 H0 F3 H3 → Ex F F3 → N σ3 H3) → tu { D with nx := N } σ H2)
    (h2 : b = false → ∀ F2 H2, Gst K pt F0 H0 l F2 H2 ls → Ex F F2 → ∀ N : L2.St → Hp → Prop, (∀ σ3 F3 H3, J σ3 F3 → Step pt F0 H0 F3 H3 → Ex F F3 → N σ3 H3) → tw { D with nx := N } σ H2)
    (hj : ∀ σ3 F3 H3, J σ3 F3 → Step pt F0 H0 F3 H3 → Ex F F3 → tz D σ3 H3) : tSeq (tIfS t tu tw) tz D σ H :=
  t_if1G (D := { D with nx := tz D }) g0 h0 g h (fun e F2 H2 a b => h1 e F2 H2 a b _ hj) fun e F2 H2 a b => h2 e F2 H2 a b _ hj
theorem cut_to (xs : List V) (k : Nat) : cutV xs (some 0) (some (k : Int)) = xs.take k := by
  unfold cutV
  rw [show HT.sIx xs.length 0 (some (0 : Int)) = 0 by have := HT.sIx_nat xs.length 0 0; simpa using this, HT.sIx_nat, List.drop_zero, Nat.sub_zero]
  by_cases z : k ≤ xs.length
  · rw [Nat.min_eq_left z]
  · rw [Nat.min_eq_right (by omega), List.take_of_length_le (Nat.le_refl _), List.take_of_length_le (by omega)]
/-- xs[0:k] -/
theorem g_sl0 {ds : List PyData} {k : Nat} (h : EvG K pt te σ F (Is (.list ds))) (hk : EvG K pt ti σ F (Is (.int (k : Int)))) : EvG K pt (tSl (rSlL K) te (tPart (tC (.int 0))) (tPart ti)) σ F (Is (.list (ds.take k))) := fun H1 e g Q q =>
  h H1 e g _ fun d v F2 H2 hd s hv => by
    subst hd
    refine ⟨0, rfl, hk.mono s.sub H2 s.inn s.good _ fun d2 v2 F3 H3 hd2 s2 hv2 => ?_⟩
    subst hd2
    obtain rfl := rp_int hv2
    refine ⟨(k : Int), rfl, ?_⟩
    obtain ⟨a, xs, rfl, hl, ha⟩ := rp_lst hv
    refine ⟨a, xs, rfl, SqL.of (s2.inn _ _ (s2.sub _ _ hl)), fun p hp => ?_⟩
    rw [cut_to]
    have s3 : Step pt F3 H3 (upd F3 p (.lst (xs.take k))) (upd H3 p (.lst (xs.take k))) := .laid s2.inn s2.good hp
    exact q _ _ _ _ rfl ((s.trans s2).trans s3) (.lst upd_same (RpAll.mono (s2.sub.trans s3.sub) _ _ (RpAll.take k ha)))
/-- a part of a written text -/
theorem g_slTxt {x : Str} {k : Int} (hx : x.length ≤ 1000) (hk : EvG K pt ti σ F (Is (.int k))) : EvG K pt (tSl L2.rSlS (tC (.str x)) (tPart (tC (.int 0))) (tPart ti)) σ F (fun d => ∃ y, d = .str y) := fun H1 e g Q q => by
  refine ⟨0, rfl, hk H1 e g _ fun d2 v2 F3 H3 hd2 s2 hv2 => ?_⟩
  subst hd2
  obtain rfl := rp_int hv2
  exact ⟨k, rfl, x, rfl, Nat.le_trans hx (by decide), q _ _ F3 H3 ⟨_, rfl⟩ s2 (.str _)⟩
end
end Fv

/-! a list of one's own out of a comprehension; promises that may let an error out -/
namespace Fv
open PySem PySem.Spec PyProof.Rows L2 Evl StX
section
variable {K : PySem.W.Frag} {pt : Option Pt} {σ : L2.St} {F F' F0 H0 H : Hp} {te ti ta tb : TE} {ts tr : TA} {t : TT} {R : PD} {d : PyData} {D : Ends} {tz tu tw : TS} {wi : TI} {l : Addr} {ls : List PyData}
/-- x = [e for y in ..], x written in place later -/
theorem t_lcG {i j : Nat} {vs : List Nat} {ds : List PyData} (f : PyData → PyData) (s : Step pt F0 H0 F H) (hw : WiG K pt wi σ F (· = ds)) (hz : ds.length ≤ 50000) (hwp : ∀ x, wipe ((wipe σ vs).set j (some x)) vs = wipe σ vs)
    (he : ∀ d ∈ ds, ∀ F', Ex F F' → ∀ x, Rp K F' x d → EvG K pt te ((wipe σ vs).set j (some x)) F' (Is (f d)))
    (q : ∀ l F2 H2, H0 l = none → Gst K pt F0 H0 l F2 H2 (ds.map f) → Ex F F2 → tz D (σ.set i (some (.ref l))) H2) : tSeq (tAsg (tLc wi (gName j) tYes te vs) (gName i)) tz D σ H :=
  hw H s.inn s.good _ fun ds' J F1 H1 eds s1 Y => fun Dl hD => by
    subst eds
    have gi := s1.inn
    have gg := s1.good
    refine ⟨fun k m H2 => m = ds'.length - k ∧ k ≤ ds'.length ∧ Grow K pt F1 H1 Dl (fun l => l = (ds'.take k).map f) H2, ⟨ds'.length, by simp, Nat.zero_le _, .start gi gg hD (by simp)⟩, ?_⟩
    rintro k m H2 ⟨rfl, hk, w⟩
    obtain ⟨F2, l2, acc, s2, off, e2, r2, a2⟩ := id w
    have eH : Ex F1 H2 := s2.sub.trans s2.inn
    by_cases lt : k < ds'.length
    · refine .inr ⟨Y.go k H2 eH lt, Grow K pt F1 H1 Dl (fun l => l = (ds'.take (k + 1)).map f), fun H3 p3 => ⟨ds'.length - (k + 1), by omega, rfl, lt, p3⟩, fun x H3 y => ?_⟩
      obtain ⟨rfl, d, hd, hx⟩ := Y.yld k H2 x H3 eH lt y
      refine ⟨hwp x, w.turn gg hD (fun l' a' => by rw [a', List.length_map, List.length_take]; omega) (· = true) (fun _ _ => et_yes) (fun _ F4 e4 => he d (List.mem_of_getElem? hd) F4 (s1.sub.trans e4) x (Rp.mono e4 _ _ hx)) (fun _ l' x' a' ex => ?_) (fun z => by cases z)⟩
      rw [take_succ hd, List.map_append, a', show x' = f d from ex]; rfl
    · have hE : k = ds'.length := Nat.le_antisymm hk (Nat.le_of_not_lt lt)
      subst hE
      refine .inl ⟨Y.stop H2 eH, ?_⟩
      rw [List.take_length] at a2
      subst a2
      exact q Dl F2 H2 ((s.trans s1).back Dl hD) ⟨(s.trans s1).trans s2, off, acc, e2, r2⟩ (s1.sub.trans s2.sub)
/-- a test beside the list, which stays one's own -/
theorem t_ifGG {b : Bool} (J : L2.St → Hp → List PyData → Prop) (g0 : Good pt F0 H0) (h0 : H0 l = none) (g : Gst K pt F0 H0 l F H ls) (h : EtG pt t σ F (· = b))
    (h1 : b = true → ∀ F2 H2, Gst K pt F0 H0 l F2 H2 ls → Ex F F2 → ∀ N : L2.St → Hp → Prop, (∀ σ3 F3 H3 ls3, J σ3 F3 ls3 → Gst K pt F0 H0 l F3 H3 ls3 → Ex F F3 → N σ3 H3) → tu { D with nx := N } σ H2)
    (h2 : b = false → ∀ F2 H2, Gst K pt F0 H0 l F2 H2 ls → Ex F F2 → ∀ N : L2.St → Hp → Prop, (∀ σ3 F3 H3 ls3, J σ3 F3 ls3 → Gst K pt F0 H0 l F3 H3 ls3 → Ex F F3 → N σ3 H3) → tw { D with nx := N } σ H2)
    (hj : ∀ σ3 F3 H3 ls3, J σ3 F3 ls3 → Gst K pt F0 H0 l F3 H3 ls3 → Ex F F3 → tz D σ3 H3) : tSeq (tIfS t tu tw) tz D σ H :=
  t_if1G (D := { D with nx := tz D }) g0 h0 g h (fun e F2 H2 a b => h1 e F2 H2 a b _ hj) fun e F2 H2 a b => h2 e F2 H2 a b _ hj
/-- x[i] = e, e told where the list stands -/
theorem t_setH {i j : Nat} (g0 : Good pt F0 H0) (h0 : H0 l = none) (g : Gst K pt F0 H0 l F H ls) (hi : σ[i]? = some (some (.ref l))) (h : ∀ Q : VK, (∀ d v F2 H2, R d → Step pt F H F2 H2 → Rp K F2 v d → Q v H2) → te σ H Q) (hj : EvG K pt ti σ F (Is (.int (j : Int)))) (lt : j < ls.length)
    (q : ∀ d F2 H2, R d → Gst K pt F0 H0 l F2 H2 (ls.set j d) → Ex F F2 → D.nx σ H2) : tAsg te (gSub (tVar i) ti rSetL) D σ H :=
  h _ fun d v F2 H2 hd s hv => ⟨.ref l, hi, hj.mono s.sub H2 s.inn s.good _ fun d2 v2 F3 H3 hd2 s3 hv2 => by
    subst hd2
    obtain rfl := rp_int hv2
    obtain ⟨acc, e2, hlen, g2⟩ := ((g.run g0 h0 s).run g0 h0 s3).set g0 h0 j (Rp.mono s3.sub _ _ hv)
    exact ⟨l, acc, (j : Int), j, rfl, rfl, e2, ixN_nat (by rw [hlen]; exact lt), q d F3 _ hd g2 (s.sub.trans s3.sub)⟩⟩
/-- [x, own[i]][e], e drawn below 2 -/
theorem g_pickOwn {a o : Nat} {p : Int} {x y : PyData} {v : V} (g0 : Good pt F0 H0) (h0 : H0 l = none) (g : Gst K pt F0 H0 l F H ls) (ha : σ[a]? = some (some v)) (hv : Rp K F v x) (ho : σ[o]? = some (some (.ref l))) (hc : EvG K pt ti σ F (Is (.int p))) (pure : ∀ Q : VK, Q (.int p) H → ti σ H Q) (hy : atI ls p = some y)
    (hb : ∀ F', Ex F F' → EvG K pt tb σ F' (fun d => ∃ k : Int, d = .int k ∧ 0 ≤ k ∧ k < 2)) :
    ∀ Q : VK, (∀ d v F2 H2, (d = x ∨ d = y) → Step pt F H F2 H2 → Rp K F2 v d → Q v H2) → tOp (rIxL K) (tLst (tCons (tVar a) (tCons (tOp (rIxL K) (tVar o) ti) tNil))) tb σ H Q := fun Q q => by
  obtain ⟨acc, e, r⟩ := g.ex
  unfold atI at hy
  cases hx : ixN ls.length p with
  | none => rw [hx] at hy; cases hy
  | some j =>
    rw [hx] at hy
    have hyj : ls[j]? = some y := hy
    have hjl : j < acc.length := by rw [r.length]; exact (List.getElem?_eq_some_iff.mp hyj).1
    obtain ⟨y', hy', hr⟩ := r.get (List.getElem?_eq_getElem hjl)
    rw [hyj] at hy'
    obtain rfl := Option.some.inj hy'
    refine ⟨v, ha, .ref l, ho, pure _ ⟨l, acc, p, acc[j], rfl, rfl, sq_of e, by unfold atI; rw [r.length, hx]; exact List.getElem?_eq_getElem hjl, ?_⟩⟩
    refine ⟨sz_of (by simp), fun pp hp => ?_⟩
    have s3 : Step pt F H (upd F pp (.lst [v, acc[j]])) (upd H pp (.lst [v, acc[j]])) := .laid g.step.inn g.step.good hp
    refine hb _ s3.sub _ s3.inn s3.good _ fun d2 v2 F4 H4 ⟨k, hk, k0, k1⟩ s4 hv2 => ?_
    subst hk
    obtain rfl := rp_int hv2
    have up := s3.sub.trans s4.sub
    have hl4 : SqL K H4 pp [v, acc[j]] := sq_of (s4.inn _ _ (s4.sub _ _ upd_same))
    have : k = 0 ∨ k = 1 := by omega
    rcases this with rfl | rfl
    · exact ⟨pp, _, 0, v, rfl, rfl, hl4, rfl, q _ _ F4 H4 (.inl rfl) (s3.trans s4) (Rp.mono up _ _ hv)⟩
    · exact ⟨pp, _, 1, acc[j], rfl, rfl, hl4, rfl, q _ _ F4 H4 (.inr rfl) (s3.trans s4) (Rp.mono up _ _ hr)⟩
end
/-- a promise that lets nothing out is one that may -/
theorem FnOk.up {P : Program} {w : World} {K : PySem.W.Frag} {mg : Str → Option Value} {base : Heap} {CX : CXT} {j k : Nat} {f : Addr} {fd : FuncData} {ps : List Str} {sp : Sp} (h : FnOk P w K mg base CX0 j f fd ps sp) (hk : j ≤ k) : FnOk P w K mg base CX k f fd ps sp :=
  ⟨h.len, fun A out s H as us vs Q E r e0 b rv hs => codeAny_mono (h.run A out s H as us vs Q E (r.mono hk) e0 b rv hs) fun r s' hq => match r, hq with
    | .error _, hq => hq.elim
    | .ok (.ret _), hq => hq⟩
end Fv

/-! expressions that read a list of one's own, told where it stands -/
namespace Fv
open PySem PySem.Spec PyProof.Rows L2 Evl StX
def EvAt (K : PySem.W.Frag) (pt : Option Pt) (te : TE) (σ : L2.St) (F H : Hp) (R : PD) : Prop := ∀ Q : VK, (∀ d v F2 H2, R d → Step pt F H F2 H2 → Rp K F2 v d → Q v H2) → te σ H Q
def EvsAt (K : PySem.W.Frag) (pt : Option Pt) (ts : TA) (σ : L2.St) (F H : Hp) (R : List PyData → Prop) : Prop := ∀ Q : List V → Hp → Prop, (∀ ds vs F2 H2, R ds → Step pt F H F2 H2 → RpAll K F2 vs ds → Q vs H2) → ts σ H Q
section
variable {K : PySem.W.Frag} {pt : Option Pt} {σ : L2.St} {F F' F0 H0 H : Hp} {te ti ta tb : TE} {ts tr : TA} {R : PD} {d : PyData} {D : Ends} {tz : TS} {l : Addr} {ls ds : List PyData}
theorem at_tupOwn {o : Nat} (g : Gst K pt F0 H0 l F H ls) (ho : σ[o]? = some (some (.ref l))) : EvAt K pt (tCB (rTup K) (tCons (tVar o) tNil)) σ F H (Is (.tuple ls)) := fun Q q => by
  obtain ⟨acc, e, r⟩ := g.ex
  exact ⟨.ref l, ho, l, acc, rfl, .inl ⟨sq_of e, fun p hp => q _ (.ref p) _ _ rfl (.laid g.step.inn g.step.good hp) (.tup upd_same (RpAll.mono (Step.laid g.step.inn g.step.good hp (o := .tup acc)).sub _ _ r))⟩⟩
theorem at_cons (h : EvAt K pt te σ F H (Is d)) (h2 : ∀ F', Ex F F' → EvsG K pt tr σ F' (· = ds)) : EvsAt K pt (tCons te tr) σ F H (· = d :: ds) := fun Q q => h _ fun d' v F2 H2 hd s hv => by
  subst hd
  exact h2 F2 s.sub H2 s.inn s.good _ fun ds' vs F3 H3 hd3 s3 hvs => q _ (v :: vs) F3 H3 (by rw [show ds' = ds from hd3]) (s.trans s3) (.cons (Rp.mono s3.sub _ _ hv) hvs)
theorem at_consI {i : Int} (hg : Ex F H) (gd : Good pt F H) (h : EvsAt K pt tr σ F H (· = ds)) : EvsAt K pt (tCons (tC (.int i)) tr) σ F H (· = .int i :: ds) := fun Q q => h _ fun ds' vs F2 H2 hd s hvs => q _ (.int i :: vs) F2 H2 (by rw [show ds' = ds from hd]) s (.cons (.int i) hvs)
theorem at_one (h : EvAt K pt te σ F H (Is d)) : EvsAt K pt (tCons te tNil) σ F H (· = [d]) := at_cons h fun F' e => gs_nil
theorem at_tup (h : EvsAt K pt ts σ F H (· = ds)) (hz : ds.length ≤ 1000) : EvAt K pt (tTup ts) σ F H (Is (.tuple ds)) := fun Q q => h _ fun ds' vs F2 H2 hd s hvs => by
  have hd' : ds' = ds := hd
  subst hd'
  exact ⟨by rw [hvs.length]; exact sz_of (Nat.le_trans hz (by decide)), fun p hp => by
    have s3 : Step pt F2 H2 (upd F2 p (.tup vs)) (upd H2 p (.tup vs)) := .laid s.inn s.good hp
    exact q _ _ _ _ rfl (s.trans s3) (.tup upd_same (RpAll.mono s3.sub _ _ hvs))⟩
theorem t_asgAt {i : Nat} (g0 : Good pt F0 H0) (h0 : H0 l = none) (g : Gst K pt F0 H0 l F H ls) (h : EvAt K pt te σ F H R) (q : ∀ d v F2 H2, R d → Gst K pt F0 H0 l F2 H2 ls → Ex F F2 → Rp K F2 v d → tz D (σ.set i (some v)) H2) : tSeq (tAsg te (gName i)) tz D σ H :=
  h _ fun d v F2 H2 hd s hv => q d v F2 H2 hd (g.run g0 h0 s) s.sub hv
/-- an ordinary statement beside the list -/
theorem t_asgG {i : Nat} (g0 : Good pt F0 H0) (h0 : H0 l = none) (g : Gst K pt F0 H0 l F H ls) (h : EvG K pt te σ F R) (q : ∀ d v F2 H2, R d → Gst K pt F0 H0 l F2 H2 ls → Ex F F2 → Rp K F2 v d → tz D (σ.set i (some v)) H2) : tSeq (tAsg te (gName i)) tz D σ H :=
  t_asgAt g0 h0 g (fun Q k => h H g.step.inn g.step.good Q k) q
theorem t_asgG1 {i : Nat} (g0 : Good pt F0 H0) (h0 : H0 l = none) (g : Gst K pt F0 H0 l F H ls) (h : EvG K pt te σ F R) (q : ∀ d v F2 H2, R d → Gst K pt F0 H0 l F2 H2 ls → Ex F F2 → Rp K F2 v d → D.nx (σ.set i (some v)) H2) : tAsg te (gName i) D σ H :=
  h H g.step.inn g.step.good _ fun d v F2 H2 hd s hv => q d v F2 H2 hd (g.run g0 h0 s) s.sub hv
end
end Fv

/-! an error of one's own class whose maker stores nothing -/
namespace Fv
open PySem PySem.Spec PyProof.Rows L2 Evl StX
section
variable {X : Cx}
theorem made_none {pins : List (Addr × Obj)} {σ : L2.St} {H1 H2 : Hp} {Q : XK} {hp hp2 h2 : Heap} {g1 g2 : Array GenState} {d1 d2 : Drawn} {t1 t2 : Nat} {os1 os2 : OsState} {a C : Addr} (T : Raises X (.ref C)) (I1 : Inv X pins σ H1 ⟨hp, g1, d1, t1, os1⟩)
    (above : hp.objs.size ≤ a) (kp : ∀ b o, hp.get? b = some o → hp2.get? b = some o) (un : Un (frs X.stack) [] (upd H1 a (exo a C none)) H2 hp2 h2) (hok : HOk X.prog X.w H2 h2) (ho : os2 = os1) (bare : AllBare g2)
    (ea : H2 a = some (exo a C none)) (q : Q (.ref C) none (L2.del H2 a)) : MkP X pins σ Q (.ref a) ⟨h2, g2, d2, t2, os2⟩ := by
  obtain ⟨t0, hoe⟩ := exo_at hok ea
  have fresh : H1 a = none := I1.hok.fresh above
  obtain ⟨G, gs, gone⟩ := restrict h2 fun b => decide (b ≠ a)
  have same : ∀ b, b ≠ a → G.get? b = h2.get? b := fun b hb => gs b (decide_eq_true hb)
  have ga : G.get? a = none := gone a (by simp)
  have off : ∀ {b : Addr} {o : Obj}, hp.get? b = some o → b ≠ a := fun {b o} z => Nat.ne_of_lt (Nat.lt_of_lt_of_le (Heap.lt_size z) above)
  have laid : ∀ {b : Addr}, b ≠ a → H1 b = none → upd H1 a (exo a C none) b = none := fun {b} hb n => by rw [upd_ne hb]; exact n
  have U : Un (frs X.stack) [] H1 (L2.del H2 a) hp G :=
    { keep := fun b o z n hf _ => (same b (off z)).trans (un.keep b o (kp b o z) (laid (off z) n) hf (by simp))
      slot := fun b o z n hf _ => by
        rw [same b (off z)]
        exact un.slot b o (kp b o z) (laid (off z) n) hf (by simp)
      free := fun b o z n _ => (L2.del_ne (off z)).trans (un.free b o (kp b o z) (laid (off z) n) (by simp))
      there := fun b o z _ => by
        rw [same b (off z)]
        exact un.there b o (kp b o z) (by simp)
      tups := fun b xs z => (L2.del_ne (ne_of_none z fresh)).trans (un.tups b xs ((upd_ne (ne_of_none z fresh)).trans z))
      frzs := fun b o v z => (L2.del_ne (ne_of_none z fresh)).trans (un.frzs b o v ((upd_ne (ne_of_none z fresh)).trans z))
      tbls := fun b ps z => by
        rw [L2.del_ne (ne_of_none z fresh)]
        exact un.tbls b ps ((upd_ne (ne_of_none z fresh)).trans z) }
  have ok3 : HOk X.prog X.w (L2.del H2 a) G := fun b o z => by
    have hba : b ≠ a := fun e => by rw [e, L2.del_same] at z; cases z
    rw [L2.del_ne hba] at z
    have noa : ∀ {c : Addr}, H2 c = some (.own b) → c ≠ a := fun {c} hc => at_ne ea hc exo_own
    refine (hok b o z).stay (fun c v hc y => ?_) (fun c hc => (L2.del_ne (noa hc)).trans hc) fun c xs hc => (L2.del_ne (at_ne ea hc exo_tup)).trans hc
    rw [same c (hc.elim (fun e => e ▸ hba) fun e => noa e)]
    exact y
  have J : Inv X pins σ (L2.del H2 a) ⟨G, g2, d2, t2, os2⟩ := I1.call' (ch := []) ho U ok3 bare (fun b z => absurd z (by simp))
  refine ⟨a, _, _, ⟨G, g2, d2, t2, os2⟩, _, .ref C, none, rfl, J, fun b o z => ?_, ga, hoe, ⟨rfl, rfl⟩, rfl, rfl, L2.del_same, rfl, bare, T, q⟩
  by_cases hba : b = a
  · rw [hba, ga] at z; cases z
  · exact (same b hba).symm.trans z
/-- C() that stores nothing, made to be raised -/
def tMk0 (C : Addr) (sp : Sp) : L2.St → Hp → XK → Prop := fun _ H Q => ∀ a, H a = none → sp [.ref a] (upd H a (exo a C none)) (fun v H2 => v = .non ∧ H2 a = some (exo a C none) ∧ Q (.ref C) none (L2.del H2 a)) (fun _ _ _ => False)
theorem pmk_oex0 {CX : CXT} {x : Str} {C fI : Addr} {k : Nat} {fd : FuncData} {ps : List Str} {sp : Sp} {p pos : Pos} (T : OexC X.K C) (iC : PySem.W.findIn X.K (.ref C) "__init__" = some (some (.ref fI))) (tI : PySem.W.typeIn X.K (.ref fI) = some (.type "function"))
    (F1 : FnOk X.prog X.w X.K X.mg X.base CX k fI fd ps sp) (hr : Room (k + 1) X.A) (hb : Binds X.K fd ps []) (hx : Passes CX X (fun _ _ _ => False)) (hg : Gl X x) (hm : X.mg x = some (.ref C)) (hdb : (x == ("__debug__" : Str)) = false := by decide) :
    PMk X (.Call (.Name x p) [] [] pos) (tMk0 C sp) := by
  intro pins s σ H Q I h
  obtain ⟨nm, qq, N, bs, bm, sn, sub, ab, col, dd, k0, k1, k2, k3, k5, hC, hbm⟩ := T.cls
  refine wpAny_Call_Name_kw (ld_glob I hg hm ?_ hdb)
  refine PySem.W.callWith_K0 I.kIn T.kC ?_
  show wpAny _ _ (call (.ref C) []) _ _ _
  obtain ⟨hp, g, dr, tk, os⟩ := s
  have lo : hp.objs.size ≤ hp.objs.size + 1 := Nat.le_succ _
  have q0 := h (hp.objs.size + 1) (I.hok.fresh lo)
  have kk : ∀ b o, hp.get? b = some o → ((hp.push (PySem.W.kdv_tup [])).push (PySem.HandSPX.excO C hp.objs.size)).get? b = some o := fun b o e => Heap.get?_push_of_some _ (Heap.get?_push_of_some _ e)
  have got : ((hp.push (PySem.W.kdv_tup [])).push (PySem.HandSPX.excO C hp.objs.size)).get? (hp.objs.size + 1) = some (PySem.HandSPX.excO C hp.objs.size) := by heap_get
  have J : Inv X pins σ (upd H (hp.objs.size + 1) (exo (hp.objs.size + 1) C none)) ⟨(hp.push (PySem.W.kdv_tup [])).push (PySem.HandSPX.excO C hp.objs.size), g, dr, tk, os⟩ :=
    I.laid (t' := tk) (a := hp.objs.size + 1) (o := exo (hp.objs.size + 1) C none) (h' := (hp.push (PySem.W.kdv_tup [])).push (PySem.HandSPX.excO C hp.objs.size)) kk lo (exo_ok got)
  have rv : Vals [V.ref (hp.objs.size + 1)] [Value.ref (hp.objs.size + 1)] := .cons rfl .nil
  have ln : ([Value.ref (hp.objs.size + 1)] : List Value).length = ps.length := by
    rw [← F1.len _ _ _ _ q0]; rfl
  refine wpAny_call (PySem.HandSPX.call_own F.excBase_ValueError (fun Y => PySem.HandSPX.refsVE_contains Y bm hbm) (I.kIn _ _ hC) (PySem.W.looks_findIn I.kIn iC) (fun self => PySem.W.bind_fn I.kIn self tI) (by decide)
    (codeAny_mono (F1.run _ X.stack _ _ ⟨[Value.ref (hp.objs.size + 1)], []⟩ [Value.ref (hp.objs.size + 1)] _ _ (fun _ _ _ => False) (hr.make C [] []) (J.env0.make C [] []) (hb _ [Value.ref (hp.objs.size + 1)] J.kIn (by simpa using ln)) rv q0) fun r s2 z => ?_))
  match r, z with
  | .error er, z => exact hx pins σ _ _ er s2 J z
  | .ok (.ret u), z =>
    obtain ⟨v, H2, os2, bare2, un2, hok2, rv2, ev, ea, q2⟩ := z
    subst ev
    obtain ⟨h2, g2, d2, t2, os'⟩ := s2
    exact ⟨rv2, made_none (raises_own T.exC T.tyC) I lo kk un2 hok2 os2 bare2 ea q2⟩
end
end Fv

/-! a list of one's own, read for a while as if it were fixed -/
namespace Fv
open PySem PySem.Spec PyProof.Rows L2 Evl StX
section
variable {K : PySem.W.Frag} {pt : Option Pt} {σ : L2.St} {F F' F0 H0 H : Hp} {te ti ta tb : TE} {ts tr : TA} {t : TT} {R : PD} {d : PyData} {D : Ends} {tz : TS} {wi : TI} {l : Addr} {ls : List PyData}
theorem Gst.fix (g0 : Good pt F0 H0) (h0 : H0 l = none) (g : Gst K pt F0 H0 l F H ls) : ∃ Fp, Ex F Fp ∧ Ex Fp H ∧ Good pt Fp H ∧ Rp K Fp (.ref l) (.list ls) ∧ ∀ F2 H2, Step pt Fp H F2 H2 →
    ∃ F3, Gst K pt F0 H0 l F3 H2 ls ∧ Ex F F3 ∧ (∀ v ns, Rp K F2 v (dT ns) → Rp K F3 v (dT ns)) ∧ ∀ v i, Rp K F2 v (.int i) → v = .int i := by
  obtain ⟨acc, e, r⟩ := id g.ex
  obtain ⟨Fp, sp, ep, rp⟩ := g.done g0 h0
  refine ⟨Fp, ep, sp.inn, sp.good, rp, fun F2 H2 s => ?_⟩
  have st := sp.trans s
  obtain ⟨acc2, e2, hl2⟩ : ∃ acc2, F2 l = some (.lst acc2) ∧ acc2 = acc := by
    obtain ⟨a, xs, ea, hx, _⟩ := rp_lst rp
    cases ea
    have h1 := sp.inn _ _ hx
    rw [e] at h1
    exact ⟨xs, s.sub _ _ hx, by cases h1; rfl⟩
  subst hl2
  have keepF : Ex F (L2.del F2 l) := fun a o h => by
    have z : a ≠ l := fun z => by rw [z, g.off] at h; cases h
    rw [L2.del_ne z]; exact s.sub _ _ (ep _ _ h)
  refine ⟨L2.del F2 l, ⟨⟨g.step.sub.trans keepF, fun a o h => ?_, st.keep, fun q hq => ⟨?_, (st.good q hq).2⟩, fun a h1 h2 => ?_⟩, L2.del_same, acc2, s.inn _ _ e2, RpAll.mono keepF _ _ r⟩, keepF, fun v ns hv => ?_, fun v i hv => rp_int hv⟩
  · by_cases z : a = l
    · rw [z, L2.del_same] at h; cases h
    · rw [L2.del_ne z] at h; exact s.inn _ _ h
  · by_cases z : q.p = l
    · rw [z, L2.del_same]
    · rw [L2.del_ne z]; exact (st.good q hq).1
  · by_cases z : a = l
    · rw [z, L2.del_same]
    · rw [L2.del_ne z]; exact st.new a h1 h2
  · obtain ⟨a, xs, rfl, hx, ha⟩ := rp_tup hv
    have e3 := rpAll_ints ha
    subst e3
    have z : a ≠ l := fun z => by rw [z, e2] at hx; cases hx
    exact .tup (by rw [L2.del_ne z]; exact hx) (rpAll_of_ints ns)
/-- x = e, where e reads the list and is flat -/
theorem t_asgFix {i : Nat} {ns : List Int} (g0 : Good pt F0 H0) (h0 : H0 l = none) (g : Gst K pt F0 H0 l F H ls) (h : ∀ Fp, Ex F Fp → Rp K Fp (.ref l) (.list ls) → EvG K pt te σ Fp (Is (dT ns))) (q : ∀ v F2 H2, Gst K pt F0 H0 l F2 H2 ls → Ex F F2 → Rp K F2 v (dT ns) → tz D (σ.set i (some v)) H2) : tSeq (tAsg te (gName i)) tz D σ H := by
  obtain ⟨Fp, e1, e2, gd, r, back⟩ := g.fix g0 h0
  exact h Fp e1 r H e2 gd _ fun d v F2 H2 hd s hv => by
    obtain ⟨F3, g3, e3, b1, _⟩ := back F2 H2 s
    exact q v F3 H2 g3 e3 (b1 v ns (by rw [← show d = dT ns from hd]; exact hv))
/-- x = [e for y in ..], e drawn -/
theorem t_lcGR {i j : Nat} {vs : List Nat} {Re : PD} (s : Step pt F0 H0 F H) {RS : List PyData → Prop} (hw : WiG K pt wi σ F RS) (hz : ∀ ds, RS ds → ds.length ≤ 50000) (hwp : ∀ x, wipe ((wipe σ vs).set j (some x)) vs = wipe σ vs)
    (he : ∀ F', Ex F F' → ∀ x, EvG K pt te ((wipe σ vs).set j (some x)) F' Re)
    (q : ∀ l F2 H2 ls ds, H0 l = none → RS ds → ls.length = ds.length → (∀ d ∈ ls, Re d) → Gst K pt F0 H0 l F2 H2 ls → Ex F F2 → tz D (σ.set i (some (.ref l))) H2) : tSeq (tAsg (tLc wi (gName j) tYes te vs) (gName i)) tz D σ H :=
  hw H s.inn s.good _ fun ds' J F1 H1 hds s1 Y => fun Dl hD => by
    have gi := s1.inn
    have gg := s1.good
    have few := hz ds' hds
    refine ⟨fun k m H2 => m = ds'.length - k ∧ k ≤ ds'.length ∧ Grow K pt F1 H1 Dl (fun l => l.length = k ∧ ∀ d ∈ l, Re d) H2, ⟨ds'.length, by simp, Nat.zero_le _, .start gi gg hD ⟨rfl, fun d hd => by cases hd⟩⟩, ?_⟩
    rintro k m H2 ⟨rfl, hk, w⟩
    obtain ⟨F2, l2, acc, s2, off, e2, r2, a2⟩ := id w
    have eH : Ex F1 H2 := s2.sub.trans s2.inn
    by_cases lt : k < ds'.length
    · refine .inr ⟨Y.go k H2 eH lt, Grow K pt F1 H1 Dl (fun l => l.length = k + 1 ∧ ∀ d ∈ l, Re d), fun H3 p3 => ⟨ds'.length - (k + 1), by omega, rfl, lt, p3⟩, fun x H3 y => ?_⟩
      obtain ⟨rfl, d, hd, hx⟩ := Y.yld k H2 x H3 eH lt y
      refine ⟨hwp x, w.turn gg hD (fun l' a' => by rw [a'.1]; omega) (· = true) (fun _ _ => et_yes) (fun _ F4 e4 => he F4 (s1.sub.trans e4) x) (fun _ l' x' a' ex => ⟨by rw [List.length_append, a'.1]; rfl, fun d hd => ?_⟩) (fun z => by cases z)⟩
      rcases List.mem_append.mp hd with z | z
      · exact a'.2 d z
      · rw [List.mem_singleton.mp z]; exact ex
    · have hE : k = ds'.length := Nat.le_antisymm hk (Nat.le_of_not_lt lt)
      subst hE
      exact .inl ⟨Y.stop H2 eH, q Dl F2 H2 l2 ds' ((s.trans s1).back Dl hD) hds a2.1 a2.2 ⟨(s.trans s1).trans s2, off, acc, e2, r2⟩ (s1.sub.trans s2.sub)⟩
theorem RpAll.insert {ds : List PyData} {vs : List V} {v : V} (j : Nat) (h : RpAll K F vs ds) (hv : Rp K F v d) : RpAll K F (vs.take j ++ [v] ++ vs.drop j) (ds.take j ++ [d] ++ ds.drop j) := by
  have drop : ∀ {ds : List PyData} {vs : List V} (i : Nat), RpAll K F vs ds → RpAll K F (vs.drop i) (ds.drop i) := by
    intro ds
    induction ds with
    | nil => intro vs i h; cases h; simp; exact .nil
    | cons d ds ih =>
      intro vs i h
      cases h with
      | cons h1 h2 =>
        cases i with
        | zero => exact .cons h1 h2
        | succ i => exact ih i h2
  exact RpAll.append (RpAll.append (RpAll.take j h) (.one hv)) (drop j h)
end
end Fv

namespace Fv
open PySem PySem.Spec PyProof.Rows L2 Evl StX
abbrev rInsG : V → List V → Hp → VK → Prop := fun x vs H Q => ∃ (a : Addr) (ys : List V) (j : Int) (z : V), x = .ref a ∧ vs = [.int j, z] ∧ H a = some (.lst ys) ∧ ys.length < sizeLine ∧ 0 ≤ j ∧ j < 2 ^ 63 ∧ Q .non (upd H a (.lst (ys.take j.toNat ++ [z] ++ ys.drop j.toNat)))
section
variable {K : PySem.W.Frag} {pt : Option Pt} {σ : L2.St} {F F' F0 H0 H : Hp} {te : TE} {d : PyData} {D : Ends} {l : Addr} {ls : List PyData} {wi : TI} {RS RS2 : List PyData → Prop}
theorem WiG.imp (h : WiG K pt wi σ F RS) (hi : ∀ ds, RS ds → RS2 ds) : WiG K pt wi σ F RS2 := fun H1 e g RR q => h H1 e g RR fun ds J F2 H2 hr s Y => q ds J F2 H2 (hi ds hr) s Y
theorem et_any (h : EvG K pt te σ F (fun d => ∃ b, d = .bool b)) : EtG pt (tTest te) σ F (fun _ => True) := fun H1 e g Q q => h H1 e g _ fun d v F2 H2 ⟨b, hd⟩ s hv => by
  subst hd
  exact ⟨b, rp_bool hv, q b F2 H2 trivial s⟩
theorem t_ifGN {t : TT} {tu tw tz : TS} (J : L2.St → Hp → Prop) (g0 : Good pt F0 H0) (h0 : H0 l = none) (g : Gst K pt F0 H0 l F H ls) (h : EtG pt t σ F (fun _ => True))
    (h1 : ∀ F2 H2, Gst K pt F0 H0 l F2 H2 ls → Ex F F2 → ∀ N : L2.St → Hp → Prop, (∀ σ3 F3 H3, J σ3 F3 → Step pt F0 H0 F3 H3 → Ex F F3 → N σ3 H3) → tu { D with nx := N } σ H2)
    (h2 : ∀ F2 H2, Gst K pt F0 H0 l F2 H2 ls → Ex F F2 → ∀ N : L2.St → Hp → Prop, (∀ σ3 F3 H3, J σ3 F3 → Step pt F0 H0 F3 H3 → Ex F F3 → N σ3 H3) → tw { D with nx := N } σ H2)
    (hj : ∀ σ3 F3 H3, J σ3 F3 → Step pt F0 H0 F3 H3 → Ex F F3 → tz D σ3 H3) : tSeq (tIfS t tu tw) tz D σ H :=
  h H g.step.inn g.step.good _ fun c F2 H2 _ s2 => by
    cases c with
    | true => exact h1 F2 H2 (g.run g0 h0 s2) s2.sub _ hj
    | false => exact h2 F2 H2 (g.run g0 h0 s2) s2.sub _ hj
/-- x.insert(e, y) -/
theorem t_insG {i c : Nat} {v : V} (g0 : Good pt F0 H0) (h0 : H0 l = none) (g : Gst K pt F0 H0 l F H ls) (hi : σ[i]? = some (some (.ref l))) (hc : σ[c]? = some (some v)) (hv : Rp K F v d)
    (h : ∀ Fp, Ex F Fp → Rp K Fp (.ref l) (.list ls) → EvG K pt te σ Fp (fun x => ∃ j : Int, x = .int j ∧ 0 ≤ j ∧ j < 1000)) (few : ls.length < 100000)
    (q : ∀ j F2 H2, Gst K pt F0 H0 l F2 H2 (ls.take j ++ [d] ++ ls.drop j) → Ex F F2 → D.nx σ H2) : tDrop (tBM K "list" rInsG (tVar i) (tCons te (tCons (tVar c) tNil))) D σ H := by
  obtain ⟨acc, e, r⟩ := id g.ex
  obtain ⟨Fp, e1, e2, gd, rp, back⟩ := g.fix g0 h0
  refine ⟨.ref l, hi, .inl ⟨rfl, acc, sq_of e⟩, h Fp e1 rp H e2 gd _ fun x u F2 H2 ⟨j, hj, j0, j1⟩ s hu => ?_⟩
  subst hj
  obtain rfl := rp_int hu
  obtain ⟨F3, g3, e3, _, _⟩ := back F2 H2 s
  obtain ⟨acc3, a3, r3⟩ := id g3.ex
  exact ⟨v, hc, l, acc3, j, v, rfl, rfl, a3, sz_lt (by rw [r3.length]; exact few), j0, by omega, q j.toNat F3 _ ⟨g3.step.put g0 h0 g3.off, g3.off, _, upd_same, RpAll.insert j.toNat r3 (Rp.mono e3 _ _ hv)⟩ e3⟩
end
end Fv

/-! the same, where its context is told to be None -/
namespace Fv
open PySem PySem.Spec PyProof.Rows L2 Evl StX
section
variable {X : Cx}
theorem made_noneN {pins : List (Addr × Obj)} {σ : L2.St} {H1 H2 : Hp} {Q : XK} {hp hp2 h2 : Heap} {g1 g2 : Array GenState} {d1 d2 : Drawn} {t1 t2 : Nat} {os1 os2 : OsState} {a C : Addr} (T : Raises X (.ref C)) (I1 : Inv X pins σ H1 ⟨hp, g1, d1, t1, os1⟩)
    (above : hp.objs.size ≤ a) (kp : ∀ b o, hp.get? b = some o → hp2.get? b = some o) (un : Un (frs X.stack) [] (upd H1 a (exo a C none)) H2 hp2 h2) (hok : HOk X.prog X.w H2 h2) (ho : os2 = os1) (bare : AllBare g2)
    (ea : H2 a = some (exo a C none)) (q : Q (.ref C) none (L2.del H2 a)) : L2N.MkP X pins σ Q (.ref a) ⟨h2, g2, d2, t2, os2⟩ := by
  obtain ⟨t0, hoe⟩ := exo_at hok ea
  have fresh : H1 a = none := I1.hok.fresh above
  obtain ⟨G, gs, gone⟩ := restrict h2 fun b => decide (b ≠ a)
  have same : ∀ b, b ≠ a → G.get? b = h2.get? b := fun b hb => gs b (decide_eq_true hb)
  have ga : G.get? a = none := gone a (by simp)
  have off : ∀ {b : Addr} {o : Obj}, hp.get? b = some o → b ≠ a := fun {b o} z => Nat.ne_of_lt (Nat.lt_of_lt_of_le (Heap.lt_size z) above)
  have laid : ∀ {b : Addr}, b ≠ a → H1 b = none → upd H1 a (exo a C none) b = none := fun {b} hb n => by rw [upd_ne hb]; exact n
  have U : Un (frs X.stack) [] H1 (L2.del H2 a) hp G :=
    { keep := fun b o z n hf _ => (same b (off z)).trans (un.keep b o (kp b o z) (laid (off z) n) hf (by simp))
      slot := fun b o z n hf _ => by
        rw [same b (off z)]
        exact un.slot b o (kp b o z) (laid (off z) n) hf (by simp)
      free := fun b o z n _ => (L2.del_ne (off z)).trans (un.free b o (kp b o z) (laid (off z) n) (by simp))
      there := fun b o z _ => by
        rw [same b (off z)]
        exact un.there b o (kp b o z) (by simp)
      tups := fun b xs z => (L2.del_ne (ne_of_none z fresh)).trans (un.tups b xs ((upd_ne (ne_of_none z fresh)).trans z))
      frzs := fun b o v z => (L2.del_ne (ne_of_none z fresh)).trans (un.frzs b o v ((upd_ne (ne_of_none z fresh)).trans z))
      tbls := fun b ps z => by
        rw [L2.del_ne (ne_of_none z fresh)]
        exact un.tbls b ps ((upd_ne (ne_of_none z fresh)).trans z) }
  have ok3 : HOk X.prog X.w (L2.del H2 a) G := fun b o z => by
    have hba : b ≠ a := fun e => by rw [e, L2.del_same] at z; cases z
    rw [L2.del_ne hba] at z
    have noa : ∀ {c : Addr}, H2 c = some (.own b) → c ≠ a := fun {c} hc => at_ne ea hc exo_own
    refine (hok b o z).stay (fun c v hc y => ?_) (fun c hc => (L2.del_ne (noa hc)).trans hc) fun c xs hc => (L2.del_ne (at_ne ea hc exo_tup)).trans hc
    rw [same c (hc.elim (fun e => e ▸ hba) fun e => noa e)]
    exact y
  have J : Inv X pins σ (L2.del H2 a) ⟨G, g2, d2, t2, os2⟩ := I1.call' (ch := []) ho U ok3 bare (fun b z => absurd z (by simp))
  refine ⟨a, _, _, ⟨G, g2, d2, t2, os2⟩, _, .ref C, none, rfl, J, fun b o z => ?_, ga, hoe, ⟨rfl, rfl, fun vs z => by cases z; rfl⟩, rfl, rfl, L2.del_same, rfl, bare, T, q⟩
  by_cases hba : b = a
  · rw [hba, ga] at z; cases z
  · exact (same b hba).symm.trans z
theorem pmk_oex0N {CX : CXT} {x : Str} {C fI : Addr} {k : Nat} {fd : FuncData} {ps : List Str} {sp : Sp} {p pos : Pos} (T : OexC X.K C) (iC : PySem.W.findIn X.K (.ref C) "__init__" = some (some (.ref fI))) (tI : PySem.W.typeIn X.K (.ref fI) = some (.type "function"))
    (F1 : FnOk X.prog X.w X.K X.mg X.base CX k fI fd ps sp) (hr : Room (k + 1) X.A) (hb : Binds X.K fd ps []) (hx : Passes CX X (fun _ _ _ => False)) (hg : Gl X x) (hm : X.mg x = some (.ref C)) (hdb : (x == ("__debug__" : Str)) = false := by decide) :
 L2N.PMk X (.Call (.Name x p) [] [] pos) (tMk0 C sp) := by
  intro pins s σ H Q I h
  obtain ⟨nm, qq, N, bs, bm, sn, sub, ab, col, dd, k0, k1, k2, k3, k5, hC, hbm⟩ := T.cls
  refine wpAny_Call_Name_kw (ld_glob I hg hm ?_ hdb)
  refine PySem.W.callWith_K0 I.kIn T.kC ?_
  show wpAny _ _ (call (.ref C) []) _ _ _
  obtain ⟨hp, g, dr, tk, os⟩ := s
  have lo : hp.objs.size ≤ hp.objs.size + 1 := Nat.le_succ _
  have q0 := h (hp.objs.size + 1) (I.hok.fresh lo)
  have kk : ∀ b o, hp.get? b = some o → ((hp.push (PySem.W.kdv_tup [])).push (PySem.HandSPX.excO C hp.objs.size)).get? b = some o := fun b o e => Heap.get?_push_of_some _ (Heap.get?_push_of_some _ e)
  have got : ((hp.push (PySem.W.kdv_tup [])).push (PySem.HandSPX.excO C hp.objs.size)).get? (hp.objs.size + 1) = some (PySem.HandSPX.excO C hp.objs.size) := by heap_get
  have J : Inv X pins σ (upd H (hp.objs.size + 1) (exo (hp.objs.size + 1) C none)) ⟨(hp.push (PySem.W.kdv_tup [])).push (PySem.HandSPX.excO C hp.objs.size), g, dr, tk, os⟩ :=
    I.laid (t' := tk) (a := hp.objs.size + 1) (o := exo (hp.objs.size + 1) C none) (h' := (hp.push (PySem.W.kdv_tup [])).push (PySem.HandSPX.excO C hp.objs.size)) kk lo (exo_ok got)
  have rv : Vals [V.ref (hp.objs.size + 1)] [Value.ref (hp.objs.size + 1)] := .cons rfl .nil
  have ln : ([Value.ref (hp.objs.size + 1)] : List Value).length = ps.length := by
    rw [← F1.len _ _ _ _ q0]; rfl
  refine wpAny_call (PySem.HandSPX.call_own F.excBase_ValueError (fun Y => PySem.HandSPX.refsVE_contains Y bm hbm) (I.kIn _ _ hC) (PySem.W.looks_findIn I.kIn iC) (fun self => PySem.W.bind_fn I.kIn self tI) (by decide)
    (codeAny_mono (F1.run _ X.stack _ _ ⟨[Value.ref (hp.objs.size + 1)], []⟩ [Value.ref (hp.objs.size + 1)] _ _ (fun _ _ _ => False) (hr.make C [] []) (J.env0.make C [] []) (hb _ [Value.ref (hp.objs.size + 1)] J.kIn (by simpa using ln)) rv q0) fun r s2 z => ?_))
  match r, z with
  | .error er, z => exact hx pins σ _ _ er s2 J z
  | .ok (.ret u), z =>
    obtain ⟨v, H2, os2, bare2, un2, hok2, rv2, ev, ea, q2⟩ := z
    subst ev
    obtain ⟨h2, g2, d2, t2, os'⟩ := s2
    exact ⟨rv2, made_noneN (raises_own T.exC T.tyC) I lo kk un2 hok2 os2 bare2 ea q2⟩
end
end Fv

/-! instances made, static methods called, where an error may fly: what is wanted of it knows the slots -/
namespace Fv
open PySem PySem.Spec PyProof.Rows L2 Evl StX
def tMakeS (C : Addr) (sp : Sp) (E : L2.St → XK) (t : TA) : TE := fun σ H Q => t σ H fun vs H1 => ∀ x dx, H1 x = none → H1 dx = none → dx ≠ x → sp (.ref x :: vs) (upd (upd H1 dx (.own x)) x (.ins C dx [])) (fun v H2 => v = .non ∧ Q (.ref x) H2) (E σ)
section
variable {X : Cx} {CX : CXT} {k : Nat} {f C : Addr} {fd : FuncData} {ps : List Str} {sp : Sp} {E : L2.St → XK} {x : Str} {p pos : Pos} {e : Expr} {es : List Expr} {t : TA}
theorem pe_makeS (M : Mk X.K C f) (F : FnOk X.prog X.w X.K X.mg X.base CX k f fd ps sp) (hr : Room (k + 1) X.A) (gl : Gl X x) (hm : X.mg x = some (.ref C)) (hb : Binds X.K fd ps []) (hx : ∀ σ, PassesAt CX X σ (E σ)) (ha : PA X (e :: es) t)
    (h1 : (x == ("__debug__" : Str)) = false := by decide) (h2 : starEach (e :: es) X.env = (false, eval e X.env) :: starEach es X.env := by rfl) (h3 : (backTo pos (starEach es X.env)).any (·.1) = false := by rfl) : PE X (.Call (.Name x p) (e :: es) [] pos) (tMakeS C sp E t) := by
  constructor
  intro pins s σ H Q I h
  refine wpAny_Call_Name_kw (ld_glob I gl hm (PySem.W.callWith_K (h₀ := X.base) I.ok.mod.kin M.kp (thn (ha.run pos pins s σ H _ I h) fun us s1 z => ?_) h2 h3) h1)
  obtain ⟨vs, H1, I1, rv, q⟩ := z
  refine ⟨I1.kIn, ?_⟩
  have q0 := q (s1.heap.objs.size + 1) s1.heap.objs.size (I1.hok.fresh (Nat.le_succ _)) (I1.hok.fresh (Nat.le_refl _)) (Nat.ne_of_lt (Nat.lt_succ_self _))
  have J := Inv.made (C := C) I1
  have r2 : Vals (V.ref (s1.heap.objs.size + 1) :: vs) (Value.ref (s1.heap.objs.size + 1) :: us) := .cons rfl rv
  have hl : (Value.ref (s1.heap.objs.size + 1) :: us ++ []).length = ps.length := by
    rw [List.append_nil, ← F.len _ _ _ _ q0]; exact r2.length.symm
  have bnd := hb _ (Value.ref (s1.heap.objs.size + 1) :: us) J.kIn hl
  rw [List.append_nil] at bnd
  refine wpAny_call (make_map (f := f) I1.kIn M.makes M.init (beq_iff_eq.mp M.fn) (codeAny_mono (F.run _ X.stack _ _ ⟨Value.ref (s1.heap.objs.size + 1) :: us, []⟩ (Value.ref (s1.heap.objs.size + 1) :: us) _ _ (E σ) (hr.make C us []) (J.env0.make C us []) bnd r2 q0) fun r s2 z => ?_))
  match r, z with
  | .error er, z => exact hx σ pins _ _ er s2 J z
  | .ok (.ret u), z =>
    obtain ⟨v, H2, I3, rv3, ev, q3⟩ := J.after z
    subst ev
    exact ⟨rv3, ⟨V.ref (s1.heap.objs.size + 1), H2, I3, rfl, q3⟩⟩
theorem pe_smethS {p g : Addr} {mc : Value} {m : Str} {px apos : Pos} {pl : Sem Bool} (gl : Gl X x) (hm : X.mg x = some (.ref C)) (r : ClX.CRead X.K C mc) (c : SMet X.K C mc m p g) (F : FnOk X.prog X.w X.K X.mg X.base CX k g fd ps sp) (hr : Room k X.A) (hb : Binds X.K fd ps []) (hx : ∀ σ, PassesAt CX X σ (E σ)) (ha : PA X (e :: es) t)
    (h1 : (x == ("__debug__" : Str)) = false := by decide) (h2 : starEach (e :: es) X.env = (false, eval e X.env) :: starEach es X.env := by rfl) (h3 : (backTo pos (starEach es X.env)).any (·.1) = false := by rfl)
    (ht : eval (.Call (.Attribute (.Name x px) m apos) (e :: es) [] pos) X.env = (do
      let ov ← eval (.Name x px) X.env
      standAt apos.atName
      let (f, first) ← holding [ov] (getMethod ov m pl)
      callWith pos f first (backTo pos (starEach (e :: es) X.env)) (backToKw pos (keywordEach [] X.env))) := by rfl) :
    PE X (.Call (.Attribute (.Name x px) m apos) (e :: es) [] pos) (tCallS sp E t) := by
  constructor
  intro pins s σ H Q I q
  obtain ⟨rest, rec_⟩ := c.rc
  refine PySem.W.methodCall_KW (pl := pl) (ld_glob I gl hm (PySem.W.method_cls I.kIn r.ga (PySem.W.cls_bind I.kIn r.rd c.at_ (wpAny_call (PySem.W.sm_get (s := { s with toks := s.toks + 1 }) I.kIn rec_ (PySem.W.handed_on rfl ?_))))) h1) ht
  exact PySem.W.callWith_K (h₀ := X.base) I.ok.mod.kin c.kp (thn (ha.run pos pins _ σ H _ (I.tok (s.toks + 1)) q) fun us s1 ⟨vs, H1, I1, rr, q1⟩ => ⟨I1.kIn, run_fnS F hr hb (hx σ) I1 rr q1⟩) h2 h3
def tMethE (C : Addr) (m : Str) (sp : Sp) (E : L2.St → XK) (ta : TE) (t : TA) : TE := fun σ H Q => ta σ H fun x H1 => ∃ a dx fs, x = .ref a ∧ H1 a = some (.ins C dx fs) ∧ fs.lookup m = none ∧ t σ H1 fun vs H2 => sp (x :: vs) H2 Q (E σ)
theorem pe_methE {m : Str} {o : Expr} {ta : TE} {apos : Pos} {pl : Sem Bool} (he : PE X o ta) (c : Cls X.K C) (hm : Meth X.K C m f) (F : FnOk X.prog X.w X.K X.mg X.base CX k f fd ps sp) (hr : Room k X.A) (hb : Binds X.K fd ps []) (hx : ∀ σ, PassesAt CX X σ (E σ)) (ha : PA X (e :: es) t)
    (h2 : starEach (e :: es) X.env = (false, eval e X.env) :: starEach es X.env := by rfl) (h3 : (backTo pos (starEach es X.env)).any (·.1) = false := by rfl)
    (ht : eval (.Call (.Attribute o m apos) (e :: es) [] pos) X.env = (do
      let ov ← eval o X.env
      standAt apos.atName
      let (f, first) ← holding [ov] (getMethod ov m pl)
      callWith pos f first (backTo pos (starEach (e :: es) X.env)) (backToKw pos (keywordEach [] X.env))) := by rfl) :
    PE X (.Call (.Attribute o m apos) (e :: es) [] pos) (tMethE C m sp E ta t) := by
  constructor
  intro pins s σ H Q I h
  refine PySem.W.methodCall_KW (pl := pl) (thn (he.run pins s σ H _ I h) fun u s1 z => ?_) ht
  obtain ⟨x, H1, I1, rx, a, dx, fs, rfl, ea, l, q⟩ := z
  obtain rfl : u = Value.ref a := rx
  exact getmeth_ok I1 ea c hm l (PySem.W.callWith_K (first := [.ref a]) (h₀ := X.base) I.ok.mod.kin hm.kp (thn (ha.run pos pins s1 σ H1 _ I1 q) fun us s2 ⟨vs, H2, I2, r, q2⟩ => ⟨I2.kIn, run_fnS (us := .ref a :: us) (vs := .ref a :: vs) F hr hb (hx σ) I2 (.cons rfl r) q2⟩) h2 h3)
end
end Fv

/-! more of what reads one's own list where it stands; a list that is known by a property -/
namespace Fv
open PySem PySem.Spec PyProof.Rows L2 Evl StX
section
variable {K : PySem.W.Frag} {pt : Option Pt} {σ : L2.St} {F F' F0 H0 H : Hp} {te ti ta tb : TE} {ts tr : TA} {t : TT} {R R1 R2 : PD} {d e y : PyData} {D : Ends} {tz : TS} {l : Addr} {ls ds : List PyData} {wi : TI} {r : L2.R2}
theorem w_listE {RS : List PyData → Prop} (h : EvG K pt te σ F (fun d => ∃ ds, d = .list ds ∧ RS ds)) : WiG K pt (iList K te) σ F RS := fun H1 i g RR q =>
  h H1 i g _ fun d v F2 H2 hd s hv => by
    obtain ⟨ds, rfl, hds⟩ := hd
    have := w_listI (K := K) (pt := pt) (te := fun _ H Q => Q v H) (σ := σ) (F := F2) (ds := ds) (fun H1 i g Q q => q _ v F2 H1 rfl (.refl i g) hv) H2 s.inn s.good RR fun ds' J F3 H3 hd3 s3 Y => q ds' J F3 H3 (by rw [show ds' = ds from hd3]; exact hds) (s.trans s3) Y
    exact this
theorem t_lcGM {i j : Nat} {vs : List Nat} (f : PyData → PyData) (s : Step pt F0 H0 F H) {RS : List PyData → Prop} (hw : WiG K pt wi σ F RS) (hz : ∀ ds, RS ds → ds.length ≤ 50000) (hwp : ∀ x, wipe ((wipe σ vs).set j (some x)) vs = wipe σ vs)
    (he : ∀ ds, RS ds → ∀ d ∈ ds, ∀ F', Ex F F' → ∀ x, Rp K F' x d → EvG K pt te ((wipe σ vs).set j (some x)) F' (Is (f d)))
    (q : ∀ l F2 H2 ds, H0 l = none → RS ds → Gst K pt F0 H0 l F2 H2 (ds.map f) → Ex F F2 → tz D (σ.set i (some (.ref l))) H2) : tSeq (tAsg (tLc wi (gName j) tYes te vs) (gName i)) tz D σ H :=
  hw H s.inn s.good _ fun ds' J F1 H1 eds s1 Y => fun Dl hD => by
    have gi := s1.inn
    have gg := s1.good
    have few := hz ds' eds
    refine ⟨fun k m H2 => m = ds'.length - k ∧ k ≤ ds'.length ∧ Grow K pt F1 H1 Dl (fun l => l = (ds'.take k).map f) H2, ⟨ds'.length, by simp, Nat.zero_le _, .start gi gg hD (by simp)⟩, ?_⟩
    rintro k m H2 ⟨rfl, hk, w⟩
    obtain ⟨F2, l2, acc, s2, off, e2, r2, a2⟩ := id w
    have eH : Ex F1 H2 := s2.sub.trans s2.inn
    by_cases lt : k < ds'.length
    · refine .inr ⟨Y.go k H2 eH lt, Grow K pt F1 H1 Dl (fun l => l = (ds'.take (k + 1)).map f), fun H3 p3 => ⟨ds'.length - (k + 1), by omega, rfl, lt, p3⟩, fun x H3 y => ?_⟩
      obtain ⟨rfl, d, hd, hx⟩ := Y.yld k H2 x H3 eH lt y
      refine ⟨hwp x, w.turn gg hD (fun l' a' => by rw [a', List.length_map, List.length_take]; omega) (· = true) (fun _ _ => et_yes) (fun _ F4 e4 => he ds' eds d (List.mem_of_getElem? hd) F4 (s1.sub.trans e4) x (Rp.mono e4 _ _ hx)) (fun _ l' x' a' ex => ?_) (fun z => by cases z)⟩
      rw [take_succ hd, List.map_append, a', show x' = f d from ex]; rfl
    · have hE : k = ds'.length := Nat.le_antisymm hk (Nat.le_of_not_lt lt)
      subst hE
      refine .inl ⟨Y.stop H2 eH, ?_⟩
      rw [List.take_length] at a2
      subst a2
      exact q Dl F2 H2 ds' ((s.trans s1).back Dl hD) eds ⟨(s.trans s1).trans s2, off, acc, e2, r2⟩ (s1.sub.trans s2.sub)
/-- x = e, where e reads the list and is a number -/
theorem t_asgFixI {i : Nat} {R : Int → Prop} (g0 : Good pt F0 H0) (h0 : H0 l = none) (g : Gst K pt F0 H0 l F H ls) (h : ∀ Fp, Ex F Fp → Rp K Fp (.ref l) (.list ls) → EvG K pt te σ Fp (fun d => ∃ k, d = .int k ∧ R k)) (q : ∀ k F2 H2, R k → Gst K pt F0 H0 l F2 H2 ls → Ex F F2 → tz D (σ.set i (some (.int k))) H2) : tSeq (tAsg te (gName i)) tz D σ H := by
  obtain ⟨Fp, e1, e2, gd, r, back⟩ := g.fix g0 h0
  exact h Fp e1 r H e2 gd _ fun d v F2 H2 hd s hv => by
    obtain ⟨F3, g3, e3, b1, b2⟩ := back F2 H2 s
    obtain ⟨k, rfl, hk⟩ := hd
    obtain rfl := b2 v k hv
    exact q k F3 H2 hk g3 e3
theorem at_ixOwn {o c j : Nat} (g : Gst K pt F0 H0 l F H ls) (ho : σ[o]? = some (some (.ref l))) (hc : σ[c]? = some (some (.int (j : Int)))) (hy : ls[j]? = some y) : EvAt K pt (tOp (rIxL K) (tVar o) (tVar c)) σ F H (Is y) := fun Q q => by
  obtain ⟨acc, e, r⟩ := g.ex
  have hjl : j < acc.length := by rw [r.length]; exact (List.getElem?_eq_some_iff.mp hy).1
  obtain ⟨y', hy', hr⟩ := r.get (List.getElem?_eq_getElem hjl)
  rw [hy] at hy'
  obtain rfl := Option.some.inj hy'
  exact ⟨.ref l, ho, .int j, hc, l, acc, (j : Int), acc[j], rfl, rfl, sq_of e, by unfold atI; rw [ixN_nat hjl]; exact List.getElem?_eq_getElem hjl, q _ _ F H rfl (.refl g.step.inn g.step.good) hr⟩
theorem at_opR (ha : EvAt K pt ta σ F H R1) (hb : ∀ F', Ex F F' → EvG K pt tb σ F' R2) (hr : ∀ d e, R1 d → R2 e → RvG K r d e R) : EvAt K pt (tOp r ta tb) σ F H R := fun Q q =>
  ha _ fun d v F2 H2 hd s hv => hb F2 s.sub H2 s.inn s.good _ fun e u F3 H3 he s3 hu =>
    hr d e hd he F3 H3 v u s3.inn (Rp.mono s3.sub _ _ hv) hu Q fun z x F4 H4 hz s4 hx => q z x F4 H4 hz ((s.trans s3).trans (s4.lift s3.good)) hx
theorem at_consG (g0 : Good pt F0 H0) (h0 : H0 l = none) (g : Gst K pt F0 H0 l F H ls) (h : EvG K pt te σ F (Is d)) (h2 : ∀ F2 H2, Gst K pt F0 H0 l F2 H2 ls → Ex F F2 → EvsAt K pt tr σ F2 H2 (· = ds)) : EvsAt K pt (tCons te tr) σ F H (· = d :: ds) := fun Q q => h H g.step.inn g.step.good _ fun d' v F2 H2 hd s hv => by
  subst hd
  exact h2 F2 H2 (g.run g0 h0 s) s.sub _ fun ds' vs F3 H3 hd3 s3 hvs => q _ (v :: vs) F3 H3 (by rw [show ds' = ds from hd3]) (s.trans s3) (.cons (Rp.mono s3.sub _ _ hv) hvs)
theorem at_lst (h : EvsAt K pt ts σ F H (· = ds)) (hz : ds.length ≤ 1000) : EvAt K pt (tLst ts) σ F H (Is (.list ds)) := fun Q q => h _ fun ds' vs F2 H2 hd s hvs => by
  have hd' : ds' = ds := hd
  subst hd'
  exact ⟨by rw [hvs.length]; exact sz_of (Nat.le_trans hz (by decide)), fun p hp => by
    have s3 : Step pt F2 H2 (upd F2 p (.lst vs)) (upd H2 p (.lst vs)) := .laid s.inn s.good hp
    exact q _ _ _ _ rfl (s.trans s3) (.lst upd_same (RpAll.mono s3.sub _ _ hvs))⟩
theorem at_pick {c : Int} (ha : EvAt K pt ta σ F H (Is (.list ds))) (hb : ∀ F', Ex F F' → EvG K pt tb σ F' (fun d => ∃ k : Int, d = .int k ∧ 0 ≤ k ∧ k < c)) (hc : c ≤ (ds.length : Int)) (hP : ∀ d ∈ ds, R d) : EvAt K pt (tOp (rIxL K) ta tb) σ F H R := at_opR ha hb fun d e hd he => by
  obtain ⟨k, rfl, k0, k1⟩ := he
  subst hd
  obtain ⟨j, rfl⟩ : ∃ j : Nat, k = (j : Int) := ⟨k.toNat, by omega⟩
  have hj : j < ds.length := by omega
  intro F H x y i hx hy Q q
  exact rv_ixL (d := ds[j]) (by unfold atI; rw [ixN_nat hj]; exact List.getElem?_eq_getElem hj) F H x y i hx hy Q fun z v F2 H2 hz s hv => q z v F2 H2 (by rw [show z = ds[j] from hz]; exact hP _ (List.getElem_mem hj)) s hv
theorem rpAll_rep : ∀ (k : Nat) {ds : List PyData} {vs : List V}, RpAll K F vs ds → RpAll K F (List.replicate k vs).flatten (List.replicate k ds).flatten
  | 0, _, _, _ => by simp; exact .nil
  | k + 1, ds, vs, h => by
    rw [List.replicate_succ, List.replicate_succ, List.flatten_cons, List.flatten_cons]
    exact h.append (rpAll_rep k h)
theorem rv_rep {ds : List PyData} {k : Nat} (hz : ds.length * k ≤ 100000) (hk : k ≤ 1000) : RvG K rRep (.list ds) (.int (k : Int)) (Is (.list (List.replicate k ds).flatten)) := fun F H x y e hx hy Q q => by
  obtain ⟨a, xs, rfl, hl, ha⟩ := rp_lst hx
  obtain rfl := rp_int hy
  refine ⟨a, (k : Int), xs, rfl, rfl, e _ _ hl, by omega, by omega, by rw [ha.length]; exact sz_of hz, fun p hp => ?_⟩
  have s : Step none F H (upd F p (.lst (List.replicate k xs).flatten)) (upd H p (.lst (List.replicate k xs).flatten)) := .laid e .nil hp
  exact q _ _ _ _ rfl s (.lst upd_same (RpAll.mono s.sub _ _ (rpAll_rep k ha)))
end
end Fv

namespace K3
open PySem PySem.Spec PyProof.Rows L2 Fv Evl
def topS (i : Nat) : Stmt := PySem.Challenge.pw_firmvalues_k03_first_refusals_of_inputs.main.body.getD i (.Pass ⟨0, 0, 0, 0⟩)
structure Tx (mg : Str → Option Value) : Prop where
  isinstance : mg "isinstance" = none
  list : mg "list" = none
  tuple : mg "tuple" = none
  bool : mg "bool" = none
  int : mg "int" = none
  str : mg "str" = none
  all : mg "all" = none
  any : mg "any" = none
  range : mg "range" = none
  sorted : mg "sorted" = none
  set : mg "set" = none
  max : mg "max" = none
  len : mg "len" = none
  min : mg "min" = none
  repr : mg "repr" = none
abbrev s_is_whole : Stmt := topS 9
theorem sc_is_whole : FnScope ["thing", "low", "high"] ["thing", "low", "high"] (defScope s_is_whole) := ⟨rfl, rfl, rfl, by decide +kernel, rfl, by decide +kernel, by decide +kernel⟩
abbrev s_is_sequence : Stmt := topS 10
theorem sc_is_sequence : FnScope ["thing"] ["thing"] (defScope s_is_sequence) := ⟨rfl, rfl, rfl, by decide +kernel, rfl, by decide +kernel, by decide +kernel⟩
abbrev s_check_lot : Stmt := topS 18
theorem sc_check_lot : FnScope ["houses", "lot", "house"] ["houses", "lot"] (defScope s_check_lot) := ⟨rfl, rfl, rfl, by decide +kernel, rfl, by decide +kernel, by decide +kernel⟩
abbrev s_lot_within : Stmt := topS 19
theorem sc_lot_within : FnScope ["one", "other", "house"] ["one", "other"] (defScope s_lot_within) := ⟨rfl, rfl, rfl, by decide +kernel, rfl, by decide +kernel, by decide +kernel⟩
abbrev s_lots_of_size : Stmt := topS 20
theorem sc_lots_of_size : FnScope ["houses", "size", "lots", "_", "lot", "house"] ["houses", "size"] (defScope s_lots_of_size) := ⟨rfl, rfl, rfl, by decide +kernel, rfl, by decide +kernel, by decide +kernel⟩
/-- is_whole has two defaults -/
abbrev FunW (K : PySem.W.Frag) (f : Addr) (fd : FuncData) : Prop := L2.FunD K "is_whole" "is_whole" (defArgs s_is_whole) (defBody s_is_whole) (defScope s_is_whole) [.non, .non] [] f fd
theorem okD {P : Program} {w : World} {K : PySem.W.Frag} {mg : Str → Option Value} {base : Heap} {x qual : Str} {params : Arguments} {body : List Stmt} {scope : Scope} {dvs : List V} {kws : List (Str × V)} {f : Addr} {fd : FuncData} {N ps : List Str} {k : Nat} {sp : Sp} (F : L2.FunD K x qual params body scope dvs kws f fd) (S : FnScope N ps scope) (len : ∀ vs H Q E, sp vs H Q E → vs.length = ps.length)
    (hbody : ∀ (cdv : Value) (A : Around) (outer : List Env) (s : Shared) (H : Hp) (vs : List V) (Q : VK) (E : XK), Room k (A.deeper (envOfC qual scope s.heap.objs.size f cdv)) → sp vs H Q E →
      ∃ t, PSs (cxOf CX0 P w K mg base N qual scope f cdv A outer s H E).nox body t ∧ t { nx := fun _ H' => Q .non H', rt := Q } (start N vs) H) : FnOk P w K mg base CX0 (k + 1) f fd ps sp :=
  F.ok S len fun cdv A outer s H vs Q E hr h => by
    obtain ⟨t, h1, q⟩ := hbody cdv A outer s H vs Q E hr h
    exact ⟨t, h1.nox, q⟩
def isL : PyData → Bool
  | .list _ => true
  | _ => false
def isT : PyData → Bool
  | .tuple _ => true
  | _ => false
def isB : PyData → Bool
  | .bool _ => true
  | _ => false
def isI : PyData → Bool
  | .bool _ => true
  | .int _ => true
  | _ => false
theorem kit_list : ∀ d : PyData, kitB (tyD d) "list" = some (isL d)
  | .none => by decide +kernel
  | .bool _ => by show kitB "bool" "list" = some false; decide +kernel
  | .int _ => by show kitB "int" "list" = some false; decide +kernel
  | .str _ => by show kitB "str" "list" = some false; decide +kernel
  | .list _ => by show kitB "list" "list" = some true; decide +kernel
  | .tuple _ => by show kitB "tuple" "list" = some false; decide +kernel
  | .dict _ => by show kitB "dict" "list" = some false; decide +kernel
theorem kit_tuple : ∀ d : PyData, kitB (tyD d) "tuple" = some (isT d)
  | .none => by decide +kernel
  | .bool _ => by show kitB "bool" "tuple" = some false; decide +kernel
  | .int _ => by show kitB "int" "tuple" = some false; decide +kernel
  | .str _ => by show kitB "str" "tuple" = some false; decide +kernel
  | .list _ => by show kitB "list" "tuple" = some false; decide +kernel
  | .tuple _ => by show kitB "tuple" "tuple" = some true; decide +kernel
  | .dict _ => by show kitB "dict" "tuple" = some false; decide +kernel
theorem kit_bool : ∀ d : PyData, kitB (tyD d) "bool" = some (isB d)
  | .none => by decide +kernel
  | .bool _ => by show kitB "bool" "bool" = some true; decide +kernel
  | .int _ => by show kitB "int" "bool" = some false; decide +kernel
  | .str _ => by show kitB "str" "bool" = some false; decide +kernel
  | .list _ => by show kitB "list" "bool" = some false; decide +kernel
  | .tuple _ => by show kitB "tuple" "bool" = some false; decide +kernel
  | .dict _ => by show kitB "dict" "bool" = some false; decide +kernel
theorem kit_int : ∀ d : PyData, kitB (tyD d) "int" = some (isI d)
  | .none => by decide +kernel
  | .bool _ => by show kitB "bool" "int" = some true; decide +kernel
  | .int _ => by show kitB "int" "int" = some true; decide +kernel
  | .str _ => by show kitB "str" "int" = some false; decide +kernel
  | .list _ => by show kitB "list" "int" = some false; decide +kernel
  | .tuple _ => by show kitB "tuple" "int" = some false; decide +kernel
  | .dict _ => by show kitB "dict" "int" = some false; decide +kernel
/-- None or a whole number -/
def oD : Option Int → PyData
  | none => .none
  | some i => .int i
def loOk (i : Int) : Option Int → Bool
  | none => true
  | some l => decide (l ≤ i)
def hiOk (i : Int) : Option Int → Bool
  | none => true
  | some h => decide (i ≤ h)
def isWhole (lo hi : Option Int) : PyData → Bool
  | .int i => loOk i lo && hiOk i hi
  | _ => false
section
variable {P : Program} {w : World} {K : PySem.W.Frag} {mg : Str → Option Value} {base : Heap}
theorem rpAll1 {F : Hp} {vs : List V} {d : PyData} (h : RpAll K F vs [d]) : ∃ v, vs = [v] ∧ Rp K F v d := by
  cases h with
  | cons h1 h2 => cases h2; exact ⟨_, rfl, h1⟩
theorem rpAll2 {F : Hp} {vs : List V} {d e : PyData} (h : RpAll K F vs [d, e]) : ∃ v x, vs = [v, x] ∧ Rp K F v d ∧ Rp K F x e := by
  cases h with
  | cons h1 h2 =>
    obtain ⟨x, rfl, hx⟩ := rpAll1 h2
    exact ⟨_, x, rfl, h1, hx⟩
theorem rpAll3 {F : Hp} {vs : List V} {d e g : PyData} (h : RpAll K F vs [d, e, g]) : ∃ v x y, vs = [v, x, y] ∧ Rp K F v d ∧ Rp K F x e ∧ Rp K F y g := by
  cases h with
  | cons h1 h2 =>
    obtain ⟨x, y, rfl, hx, hy⟩ := rpAll2 h2
    exact ⟨_, x, y, rfl, h1, hx, hy⟩
/-! is_sequence -/
abbrev spSeq (K : PySem.W.Frag) : Sp := PSp K (fun d : PyData => [d]) (fun _ => True) (fun d => .bool (isL d || isT d))
theorem ok_seq {f : Addr} {fd : FuncData} (Fn : Fun K "is_sequence" "is_sequence" s_is_sequence f fd) (T : Tx mg) : FnOk P w K mg base CX0 1 f fd ["thing"] (spSeq K) := by
  refine Fn.ok sc_is_sequence (PSp.len (fun _ => rfl)) (fun cdv A outer s H vs Q E hr h => ?_)
  obtain ⟨d, F, _, e, ha, q⟩ := h
  obtain ⟨v, rfl, hv⟩ := rpAll1 ha
  exact ⟨_, (pss_one (ps_ret (pe_callB (c_isiT (K := K)) (by rfl) T.isinstance (by decide +kernel) (pa_cons (pv 0) (pa_cons (pe_tup (pa_cons (pe_bltn (v := .ty "list") (by rfl) T.list (by decide +kernel) rfl) (pa_cons (pe_bltn (v := .ty "tuple") (by rfl) T.tuple (by decide +kernel) rfl) pa_nil))) pa_nil))))), t_retI (Step.refl e .nil) (g_isi2 (g_var rfl hv) (kit_list d) (kit_tuple d)) q⟩
/-! is_whole -/
abbrev spWhole (K : PySem.W.Frag) : Sp := PSp K (fun i : PyData × Option Int × Option Int => [i.1, oD i.2.1, oD i.2.2]) (fun _ => True) (fun i => .bool (isWhole i.2.1 i.2.2 i.1))
theorem ok_whole {f : Addr} {fd : FuncData} (Fn : FunW K f fd) (T : Tx mg) : FnOk P w K mg base CX0 1 f fd ["thing", "low", "high"] (spWhole K) := by
  refine okD Fn sc_is_whole (PSp.len (fun _ => rfl)) (fun cdv A outer s H vs Q E hr h => ?_)
  obtain ⟨⟨d, lo, hi⟩, F, _, e, ha, q⟩ := h
  obtain ⟨v, x, y, rfl, hv, hx, hy⟩ := rpAll3 ha
  refine ⟨_, (pss_cons (ps_if (PW.pt (pw_or (pt_val (pe_callB (c_isi (K := K)) (by rfl) T.isinstance (by decide +kernel) (pa_cons (pv 0) (pa_cons (pe_bltn (v := .ty "bool") (by rfl) T.bool (by decide +kernel) rfl) pa_nil)))) (pw_or1 (pt_not (pt_val (pe_callB (c_isi (K := K)) (by rfl) T.isinstance (by decide +kernel) (pa_cons (pv 0) (pa_cons (pe_bltn (v := .ty "int") (by rfl) T.int (by decide +kernel) rfl) pa_nil)))))))) (pss_one (ps_ret pe_bl)) pss_nil)
    (pss_one (ps_ret (pe_and (pe_or (pe_cmpR op_isN (pv 1) pe_non (nomark _)) (pe_one (pe_cmpR op_ge (pv 0) (pv 1) (nomark _)))) (pe_one (pe_or (pe_cmpR op_isN (pv 2) pe_non (nomark _)) (pe_one (pe_cmpR op_le (pv 0) (pv 2) (nomark _))))))))), ?_⟩
  refine t_when (b := isB d || !isI d) (Step.refl e .nil) (et_or (et_B (g_isi (g_var rfl hv) (kit_bool d))) fun _ => et_not (et_B (g_isi (g_var rfl hv) (kit_int d)))) (fun hb F2 H2 s2 e2 => ?_) (fun hb F2 H2 s2 e2 => ?_)
  · refine t_retI (K := K) s2 g_bl fun v F3 H3 s3 hv3 => q v F3 H3 s3 ?_
    have : isWhole lo hi d = false := by cases d <;> simp_all [isB, isI, isWhole]
    show Rp K F3 v (.bool (isWhole lo hi d))
    rw [this]; exact hv3
  · obtain ⟨i, rfl⟩ : ∃ i, d = .int i := by cases d <;> simp_all [isB, isI]
    have v1 := Rp.mono e2 _ _ hv
    have x1 := Rp.mono e2 _ _ hx
    have y1 := Rp.mono e2 _ _ hy
    refine t_retI s2 (g_andV (a := loOk i lo) (b := hiOk i hi) ?_ fun _ => ?_) q
    · refine (g_orV (a := isNone (oD lo)) (b := loOk i lo) (g_op (g_var rfl x1) g_non fun _ _ h1 h2 => h1 ▸ h2 ▸ rv_isN) fun hn => ?_).is ?_
      · cases lo with
        | none => cases hn
        | some l => exact g_op (g_var rfl v1) (g_var rfl x1) fun _ _ h1 h2 => h1 ▸ h2 ▸ rv_bl (g := fun i j => decide (j ≤ i))
      · cases lo <;> simp [oD, isNone, loOk]
    · refine (g_orV (a := isNone (oD hi)) (b := hiOk i hi) (g_op (g_var rfl y1) g_non fun _ _ h1 h2 => h1 ▸ h2 ▸ rv_isN) fun hn => ?_).is ?_
      · cases hi with
        | none => cases hn
        | some l => exact g_op (g_var rfl v1) (g_var rfl y1) fun _ _ h1 h2 => h1 ▸ h2 ▸ rv_bl (g := fun i j => decide (i ≤ j))
      · cases hi <;> simp [oD, isNone, hiOk]
/-! lot_within -/
abbrev spWithin (K : PySem.W.Frag) : Sp := PSp K (fun i : List Int × List Int => [dT i.1, dT i.2]) (fun i => i.1.length ≤ 50000) (fun i => .bool (i.1.all fun x => decide (x ∈ i.2)))
theorem ok_within {f : Addr} {fd : FuncData} (Fn : Fun K "lot_within" "lot_within" s_lot_within f fd) (T : Tx mg) : FnOk P w K mg base CX0 1 f fd ["one", "other"] (spWithin K) := by
  refine Fn.ok sc_lot_within (PSp.len (fun _ => rfl)) (fun cdv A outer s H vs Q E hr h => ?_)
  obtain ⟨⟨a, b⟩, F, hz, e, ha, q⟩ := h
  obtain ⟨v, x, rfl, hv, hx⟩ := rpAll2 ha
  refine ⟨_, (pss_one (ps_ret (pe_callB (c_all (K := K)) (by rfl) T.all (by decide +kernel) (pa_cons (pe_lc (own := [("house", 2)]) (g := gName 2) rfl sc_lot_within.nd (i_tup (K := K) (pv 0)) (blkOk_by (own := [("house", 2)]) (N := ["one", "other", "house"]) (sc := (defScope s_lot_within)) (by decide +kernel)) (fun _ _ _ _ _ => pg_name (i := 2) sc_lot_within.nd rfl (by first | exact Or.inl rfl | exact Or.inr rfl)) (fun _ _ _ _ _ => pts_nil) (fun _ _ _ _ _ => (pe_cmpR (o_in (K := K)) (pv 2) (pv 1) (by rfl)))) pa_nil)))), ?_⟩
  exact t_retI (Step.refl e .nil) (g_cbI (gs_one (g_lcEM PyData.int a (fun i => .bool (decide (i ∈ b))) (w_tupI (g_var rfl hv)) hz (fun _ => rfl) fun i hi F' e' y hy =>
    g_op (g_var rfl hy) (g_var rfl (Rp.mono e' _ _ hx)) fun d1 d2 h1 h2 => h1 ▸ h2 ▸ rv_inT)) (rc_allM a _)) q
/-! check_lot -/
abbrev spLot (K : PySem.W.Frag) : Sp := PSp K (fun i : Nat × List Int => [.int i.1, dI i.2]) (fun i => i.2.length ≤ 60 ∧ ∀ k ∈ i.2, 0 ≤ k ∧ k < (i.1 : Int)) (fun i => dT (lotOf i.1 i.2))
theorem ok_lot {f fS fW : Addr} {fd fdS fdW : FuncData} (Fn : Fun K "check_lot" "check_lot" s_check_lot f fd) (T : Tx mg)
    (F_is_sequence : Fun K "is_sequence" "is_sequence" s_is_sequence fS fdS) (b_is_sequence : Binds K fdS ["thing"] []) (g_is_sequence : mg "is_sequence" = some (.ref fS))
    (F_is_whole : FunW K fW fdW) (b_is_whole : Binds K fdW ["thing", "low", "high"] []) (g_is_whole : mg "is_whole" = some (.ref fW)) :
    FnOk P w K mg base CX0 2 f fd ["houses", "lot"] (spLot K) := by
  have G_is_sequence : FnOk P w K mg base CX0 1 fS fdS ["thing"] (spSeq K) := ok_seq F_is_sequence T
  have G_is_whole : FnOk P w K mg base CX0 1 fW fdW ["thing", "low", "high"] (spWhole K) := ok_whole F_is_whole T
  refine Fn.ok sc_check_lot (PSp.len (fun _ => rfl)) (fun cdv A outer s H vs Q E hr h => ?_)
  obtain ⟨⟨n, ns⟩, F, ⟨hz, hb⟩, e, ha, q⟩ := h
  obtain ⟨v, x, rfl, hv, hx⟩ := rpAll2 ha
  refine ⟨_, (pss_cons (ps_if (PW.pt (pw_or (pt_not (pt_val (pe_call G_is_sequence (hr.mono (by decide)) (by rfl) g_is_sequence F_is_sequence.kp b_is_sequence .nil pass0 (pa_cons (pv 1) pa_nil)))) (pw_or1 (pt_not (pt_val (pe_callB (c_all (K := K)) (by rfl) T.all (by decide +kernel) (pa_cons (pe_lc (own := [("house", 2)]) (g := gName 2) rfl sc_check_lot.nd (i_list (K := K) (pv 1)) (blkOk_by (own := [("house", 2)]) (N := ["houses", "lot", "house"]) (sc := (defScope s_check_lot)) (by decide +kernel)) (fun _ _ _ _ _ => pg_name (i := 2) sc_check_lot.nd rfl (by first | exact Or.inl rfl | exact Or.inr rfl)) (fun _ _ _ _ _ => pts_nil) (fun _ _ _ _ _ => (pe_call G_is_whole (hr.mono (by decide)) (by rfl) g_is_whole F_is_whole.kp b_is_whole .nil pass0 (pa_cons (pv 2) (pa_cons pe_int (pa_cons (pe_op op_sub (pv 0) pe_int) pa_nil)))))) pa_nil))))))) (pss_one ps_never) pss_nil)
    (pss_one (ps_ret (pe_callTy (c_tup (K := K)) (by rfl) T.tuple (by decide +kernel) (pa_cons (pe_callB (c_sortedSet (w := w)) (by rfl) T.sorted (by decide +kernel) (pa_cons (pe_callTy (c_setL (K := K) (w := w)) (by rfl) T.set (by decide +kernel) (pa_cons (pv 1) pa_nil)) pa_nil)) pa_nil))))), ?_⟩
  have hall : (ns.all fun k => isWhole (some 0) (some ((n : Int) - 1)) (.int k)) = true := by
    rw [List.all_eq_true]
    intro k hk
    have := hb k hk
    simp only [isWhole, loOk, hiOk, Bool.and_eq_true, decide_eq_true_eq]
    simp only at this
    omega
  refine t_skip (Step.refl e .nil) ((et_or (a := false) (b := false) ((et_not (b := true) (et_B (g_call (dI ns) (gs_one (g_var rfl hx)) rfl trivial))).is rfl) fun _ => ?_).is rfl) (fun F2 H2 s2 e2 => ?_)
  · refine (et_not (b := true) ?_).is rfl
    refine (et_B (g_cbI (gs_one (g_lcEM PyData.int ns (fun k => .bool (isWhole (some 0) (some ((n : Int) - 1)) (.int k))) (w_listI (g_var rfl hx)) (Nat.le_trans hz (by decide)) (fun _ => rfl) fun k hk F' e' y hy => ?_)) (rc_allM ns _))).is hall
    exact g_call (PyData.int k, some 0, some ((n : Int) - 1)) (gs_three (g_var rfl hy) g_int (g_op (g_var rfl (Rp.mono e' _ _ hv)) g_int fun _ _ h1 h2 => h1 ▸ h2 ▸ rv_sub)) rfl trivial
  · refine t_retI s2 (g_cb (g_consR (g_sortedSetL (g_var rfl (Rp.mono e2 _ _ hx)) hz)) fun ds hds => ?_) q
    obtain ⟨d, rfl, ms, rfl, hp, hm⟩ := hds
    have := sorted_is hp hm hb
    subst this
    exact rc_tupL
end
end K3

namespace K3
open PySem PySem.Spec PyProof.Rows L2 Fv Evl
abbrev s_lots_by_size : Stmt := topS 21
theorem sc_lots_by_size : FnScope ["houses", "size", "lot"] ["houses"] (defScope s_lots_by_size) := ⟨rfl, rfl, rfl, by decide +kernel, rfl, by decide +kernel, by decide +kernel⟩
/-- the houses 0 .. n - 1 -/
def hs (n : Nat) : List Int := (List.range n).map Int.ofNat
theorem rng_hs (n : Nat) : rng 0 n = (hs n).map PyData.int := by
  unfold rng hs
  rw [List.map_map]
  refine List.map_congr_left fun k _ => ?_
  simp
def growLots (n : Nat) (lots : List (List Int)) : List (List Int) := lots.flatMap fun l => ((hs n).filter fun h => decide (maxOf (-1) l < h)).map fun h => l ++ [h]
def lotsOf (n : Nat) : Nat → List (List Int)
  | 0 => [[]]
  | k + 1 => growLots n (lotsOf n k)
theorem lots_few : ∀ n ∈ List.range 6, ∀ k ∈ List.range 6, (lotsOf n k).length ≤ 300 ∧ ∀ l ∈ lotsOf n k, l.length ≤ 60 := by decide +kernel
section
variable {P : Program} {w : World} {K : PySem.W.Frag} {mg : Str → Option Value} {base : Heap}
abbrev spSize (K : PySem.W.Frag) : Sp := PSp K (fun i : Nat × Nat => [.int i.1, .int i.2]) (fun i => i.1 ≤ 5 ∧ i.2 ≤ 5) (fun i => dTT (lotsOf i.1 i.2))
theorem ok_size {f : Addr} {fd : FuncData} (Fn : Fun K "lots_of_size" "lots_of_size" s_lots_of_size f fd) (T : Tx mg) : FnOk P w K mg base CX0 1 f fd ["houses", "size"] (spSize K) := by
  refine Fn.ok sc_lots_of_size (PSp.len (fun _ => rfl)) (fun cdv A outer s H vs Q E hr h => ?_)
  obtain ⟨⟨n, k⟩, F, ⟨hn, hk⟩, e, ha, q⟩ := h
  simp only at hn hk
  obtain ⟨v, x, rfl, hv, hx⟩ := rpAll2 ha
  refine ⟨_, (pss_cons (ps_set (i := 2) sc_lots_of_size.nd rfl (by first | exact Or.inl rfl | exact Or.inr rfl) (pe_lst (pa_cons (pe_tup pa_nil) pa_nil)))
    (pss_cons (ps_for PassesOwn.never rfl (pi_range1 (by rfl) T.range (pa_cons (pv 1) pa_nil)) (pg_name (i := 3) sc_lots_of_size.nd rfl (by first | exact Or.inl rfl | exact Or.inr rfl)) (pss_one (ps_setLc2 (i := 2) (own := [("lot", 4), ("house", 5)]) (vs1 := [5]) (g := gName 4) (g1 := gName 5) rfl sc_lots_of_size.nd rfl rfl (sw_true rfl rfl rfl (by decide +kernel)) (i_list (K := K) (pv 2)) (blkOk_by (own := [("lot", 4), ("house", 5)]) (N := ["houses", "size", "lots", "_", "lot", "house"]) (sc := (defScope s_lots_of_size)) (by decide +kernel)) (by decide) (fun _ _ _ _ _ => pg_name (i := 4) sc_lots_of_size.nd rfl (by first | exact Or.inl rfl | exact Or.inr rfl)) (fun _ _ _ _ _ => pts_nil) (fun _ _ _ _ _ => (pi_range1 (by rfl) T.range (pa_cons (pv 0) pa_nil))) (fun _ _ _ _ _ => pg_name (i := 5) sc_lots_of_size.nd rfl (by first | exact Or.inl rfl | exact Or.inr rfl)) (fun _ _ _ _ _ => (pts_one (pt_cmpR op_gt (pv 5) (pe_callBK (c_maxD (K := K) (hu3 hr)) (by rfl) T.max (by decide +kernel) (pa_cons (pv 4) pa_nil) (pk_cons (pe_un un_neg pe_int) pk_nil)) (nomark _)))) (fun _ _ _ _ _ => (pe_op (o_catA (K := K)) (pv 4) (pe_tup (pa_cons (pv 5) pa_nil)))))))
    (pss_one (ps_ret (pe_callTy (c_tup (K := K)) (by rfl) T.tuple (by decide +kernel) (pa_cons (pv 2) pa_nil)))))), ?_⟩
  refine t_asgI (K := K) (Step.refl e .nil) (g_lstI (gs_one (g_tupI gs_nil (by simp))) (by simp)) fun y F1 H1 s1 e1 hy => ?_
  refine t_for (K := K) s1 (w_rng1I (n := k) (gs_one (g_var rfl (Rp.mono e1 _ _ hx))) (by omega) (by omega)) (fun i σ' F' => ∃ y u, σ' = [some v, some x, some y, u, none, none] ∧ Rp K F' y (dLT (lotsOf n i)) ∧ i ≤ k) (fun F2 e2 => ⟨y, none, rfl, Rp.mono e2 _ _ hy, Nat.zero_le _⟩) (fun i d hd σ' F' H' z hI s' e' hz N hN => ?_) (fun σ' F' H' hI s' e' => ?_)
  · obtain ⟨y', u, rfl, hy', hi⟩ := hI
    have hik : i < k := by
      have := (List.getElem?_eq_some_iff.mp hd).1
      rw [rng_len] at this
      simpa using this
    have hf := lots_few n (by rw [List.mem_range]; omega) i (by rw [List.mem_range]; omega)
    have hv' : Rp K F' v (.int n) := Rp.mono (e1.trans e') _ _ hv
    refine t_asg1 (K := K) s' (g_lc2E dT PyData.int (lotsOf n i) (fun _ => hs n) (fun l h => decide (maxOf (-1) l < h)) (fun l h => dT (l ++ [h])) (w_listI (g_var rfl hy')) hf.1 (fun _ _ => by simp [hs]; omega) (fun _ => rfl) (fun _ _ => rfl) (fun l hl F2 e2 v1 hv1 => ?_) (fun l hl h hh F2 e2 v1 u1 hv1 hu1 => ?_) (fun l hl h hh hp F2 e2 v1 u1 hv1 hu1 => ?_)) fun d2 v2 F3 H3 hd2 s3 e3 hv3 => hN _ F3 H3 ⟨v2, some z, rfl, ?_, hik⟩ s3 e3
    · rw [← rng_hs]
      exact w_rng1I (n := n) (gs_one (g_var rfl (Rp.mono e2 _ _ hv'))) (by omega) (by omega)
    · exact et_of (g_op (g_var rfl hu1) (g_maxD (g_var rfl hv1) (g_un1 g_int)) fun _ _ h1 h2 => h1 ▸ h2 ▸ rv_bl (g := fun i j => decide (j < i)))
    · exact g_op (g_var rfl hv1) (g_tupI (gs_one (g_var rfl hu1)) (by simp)) fun _ _ h1 h2 => h1 ▸ h2 ▸ (by
        have := rv_catA (K := K) (ds := l.map PyData.int) (es := [.int h]) (by have := hf.2 l hl; simp; omega)
        simpa [dT] using this)
    · have : d2 = dLT (lotsOf n (i + 1)) := by
        rw [show d2 = _ from hd2]
        simp [dLT, lotsOf, growLots, List.map_flatMap, Function.comp_def]
      rw [← this]; exact hv3
  · obtain ⟨y', u, rfl, hy', hi⟩ := hI
    rw [rng_len] at hy'
    exact t_retI s' (g_cbI (gs_one (g_var rfl hy')) (rc_tupL (ds := (lotsOf n (k : Int).toNat).map dT))) (by simpa using q)
end
end K3

namespace K3
open PySem PySem.Spec PyProof.Rows L2 Fv Evl
abbrev s_checked_lots : Stmt := topS 22
theorem sc_checked_lots : FnScope ["houses", "lots", "checked", "index", "lot"] ["houses", "lots"] (defScope s_checked_lots) := ⟨rfl, rfl, rfl, by decide +kernel, rfl, by decide +kernel, by decide +kernel⟩
def allLots (n : Nat) : List (List Int) := (List.range (n + 1)).flatMap (lotsOf n)
theorem all_few : ∀ n ∈ List.range 6, (allLots n).length ≤ 300 ∧ ∀ l ∈ allLots n, l.length ≤ 60 := by decide +kernel
section
variable {P : Program} {w : World} {K : PySem.W.Frag} {mg : Str → Option Value} {base : Heap}
abbrev spAll (K : PySem.W.Frag) : Sp := PSp K (fun n : Nat => [.int n]) (fun n => n ≤ 5) (fun n => dLT (allLots n))
theorem ok_bySize {f fS : Addr} {fd fdS : FuncData} (Fn : Fun K "_lots_by_size" "_lots_by_size" s_lots_by_size f fd) (T : Tx mg)
    (F_lots_of_size : Fun K "lots_of_size" "lots_of_size" s_lots_of_size fS fdS) (b_lots_of_size : Binds K fdS ["houses", "size"] []) (g_lots_of_size : mg "lots_of_size" = some (.ref fS)) :
    FnOk P w K mg base CX0 2 f fd ["houses"] (spAll K) := by
  have G_lots_of_size : FnOk P w K mg base CX0 1 fS fdS ["houses", "size"] (spSize K) := ok_size F_lots_of_size T
  refine Fn.ok sc_lots_by_size (PSp.len (fun _ => rfl)) (fun cdv A outer s H vs Q E hr h => ?_)
  obtain ⟨n, F, hn, e, ha, q⟩ := h
  obtain ⟨v, rfl, hv⟩ := rpAll1 ha
  refine ⟨_, (pss_one (ps_ret (pe_lc2 (own := [("size", 1), ("lot", 2)]) (vs1 := [2]) (g := gName 1) (g1 := gName 2) rfl sc_lots_by_size.nd (pi_range1 (by rfl) T.range (pa_cons (pe_op op_add (pv 0) pe_int) pa_nil)) (blkOk_by (own := [("size", 1), ("lot", 2)]) (N := ["houses", "size", "lot"]) (sc := (defScope s_lots_by_size)) (by decide +kernel)) (by decide) (fun _ _ _ _ _ => pg_name (i := 1) sc_lots_by_size.nd rfl (by first | exact Or.inl rfl | exact Or.inr rfl)) (fun _ _ _ _ _ => pts_nil) (fun _ _ _ _ _ => (i_tup (K := K) (pe_call G_lots_of_size (hr.mono (by decide)) (by rfl) g_lots_of_size F_lots_of_size.kp b_lots_of_size .nil pass0 (pa_cons (pv 0) (pa_cons (pv 1) pa_nil))))) (fun _ _ _ _ _ => pg_name (i := 2) sc_lots_by_size.nd rfl (by first | exact Or.inl rfl | exact Or.inr rfl)) (fun _ _ _ _ _ => pts_nil) (fun _ _ _ _ _ => (pv 2))))), ?_⟩
  have hsz : ∀ k ∈ List.range (n + 1), k ≤ 5 := fun k hk => by rw [List.mem_range] at hk; omega
  have eR : rng 0 ((n : Int) + 1).toNat = (List.range (n + 1)).map fun k : Nat => PyData.int k := by
    unfold rng
    rw [show ((n : Int) + 1).toNat = n + 1 by omega]
    refine List.map_congr_left fun k _ => ?_
    simp
  refine t_retI (Step.refl e .nil) ((g_lc2E (fun k : Nat => PyData.int k) dT (List.range (n + 1)) (lotsOf n) (fun _ _ => true) (fun _ l => dT l) ?_ (by simp; omega) (fun k hk => (lots_few n (by rw [List.mem_range]; omega) k (by rw [List.mem_range]; have := hsz k hk; omega)).1) (fun _ => rfl) (fun _ _ => rfl) (fun k hk F2 e2 v1 hv1 => ?_) (fun _ _ _ _ _ _ _ _ _ _ => et_yes) (fun k hk l hl _ F2 e2 v1 u1 hv1 hu1 => g_var rfl hu1)).is ?_) q
  · rw [← eR]
    exact w_rng1I (n := (n : Int) + 1) (gs_one (g_op (g_var rfl hv) g_int fun _ _ h1 h2 => h1 ▸ h2 ▸ rv_add)) (by omega) (by omega)
  · exact w_tupI (g_call (n, k) (gs_two (g_var rfl (Rp.mono e2 _ _ hv)) (g_var rfl hv1)) rfl ⟨hn, hsz k hk⟩)
  · show PyData.list _ = PyData.list ((allLots n).map dT)
    unfold allLots
    rw [List.map_flatMap]
    refine congrArg PyData.list (congrArg (fun f => List.flatMap f (List.range (n + 1))) (funext fun k => ?_))
    show List.map _ (List.filter (fun _ => true) (lotsOf n k)) = _
    rw [show (lotsOf n k).filter (fun _ => true) = lotsOf n k from List.filter_eq_self.mpr (fun _ _ => rfl)]
/-- a list or a tuple of lots -/
inductive LotsD : PyData → List (List Int) → Prop
  | l (ls : List (List Int)) : LotsD (.list (ls.map dI)) ls
  | t (ls : List (List Int)) : LotsD (.tuple (ls.map dI)) ls
theorem LotsD.seq {d : PyData} {ls : List (List Int)} (h : LotsD d ls) : d = .list (ls.map dI) ∨ d = .tuple (ls.map dI) := by
  cases h
  · exact .inl rfl
  · exact .inr rfl
def GoodLots (n : Nat) (ls : List (List Int)) : Prop := ls.length ≤ 60 ∧ ∀ l ∈ ls, l.length ≤ 60 ∧ (∀ k ∈ l, 0 ≤ k ∧ k < (n : Int)) ∧ (lotOf n l).length ≠ n
abbrev spChecked (K : PySem.W.Frag) : Sp := PSp K (fun i : Nat × PyData × List (List Int) => [.int i.1, i.2.1]) (fun i => i.1 ≤ 5 ∧ LotsD i.2.1 i.2.2 ∧ GoodLots i.1 i.2.2) (fun i => dLT (i.2.2.map (lotOf i.1)))
theorem ok_checked {f fS fW fL : Addr} {fd fdS fdW fdL : FuncData} (Fn : Fun K "_checked_lots" "_checked_lots" s_checked_lots f fd) (T : Tx mg)
    (F_is_sequence : Fun K "is_sequence" "is_sequence" s_is_sequence fS fdS) (b_is_sequence : Binds K fdS ["thing"] []) (g_is_sequence : mg "is_sequence" = some (.ref fS))
    (F_is_whole : FunW K fW fdW) (b_is_whole : Binds K fdW ["thing", "low", "high"] []) (g_is_whole : mg "is_whole" = some (.ref fW))
    (F_check_lot : Fun K "check_lot" "check_lot" s_check_lot fL fdL) (b_check_lot : Binds K fdL ["houses", "lot"] []) (g_check_lot : mg "check_lot" = some (.ref fL)) :
    FnOk P w K mg base CX0 3 f fd ["houses", "lots"] (spChecked K) := by
  have G_check_lot : FnOk P w K mg base CX0 2 fL fdL ["houses", "lot"] (spLot K) := ok_lot F_check_lot T F_is_sequence b_is_sequence g_is_sequence F_is_whole b_is_whole g_is_whole
  refine Fn.ok sc_checked_lots (PSp.len (fun _ => rfl)) (fun cdv A outer s H vs Q E hr h => ?_)
  obtain ⟨⟨n, src, ls⟩, F, ⟨hn, hsrc, hz, hls⟩, e, ha, q⟩ := h
  simp only at hn hsrc hz hls
  obtain ⟨v, x, rfl, hv, hx⟩ := rpAll2 ha
  refine ⟨_, (pss_cons (ps_set (i := 2) sc_checked_lots.nd rfl (by first | exact Or.inl rfl | exact Or.inr rfl) (pe_lst pa_nil))
    (pss_cons (ps_for PassesOwn.never rfl (pi_range1 (by rfl) T.range (pa_cons (pe_callB (c_len (K := K)) (by rfl) T.len (by decide +kernel) (pa_cons (pv 1) pa_nil)) pa_nil)) (pg_name (i := 3) sc_checked_lots.nd rfl (by first | exact Or.inl rfl | exact Or.inr rfl)) (pss_cons (ps_try_thru0 (pss_one (ps_set (i := 4) sc_checked_lots.nd rfl (by first | exact Or.inl rfl | exact Or.inr rfl) (pe_call G_check_lot (hr.mono (by decide)) (by rfl) g_check_lot F_check_lot.kp b_check_lot .nil pass0 (pa_cons (pv 0) (pa_cons (pe_ix (o_ix (K := K)) (pv 1) (pv 3) (fun _ _ => rfl)) pa_nil))))))
    (pss_cons (ps_if (pt_cmpR op_eq (pe_callB (c_len (K := K)) (by rfl) T.len (by decide +kernel) (pa_cons (pv 4) pa_nil)) (pv 0) (nomark _)) (pss_one ps_never) pss_nil)
    (pss_one (ps_expr (pe_bm PySem.F.plainAttrs_list PySem.F.slot_list_append PySem.F.type_list_append mt_append (pv 2) (pa_cons (pv 4) pa_nil)))))))
    (pss_one (ps_ret (pv 2))))), ?_⟩
  have g0 : Good none F H := .nil
  refine t_newL (K := K) (Step.refl e .nil) (fun l h0 hl g => ?_) (fun _ h => h)
  have hx' : Rp K F x src := hx
  refine t_forG (K := K) (ds := rng 0 (ls.length : Int).toNat) g0 h0 g (w_rng1I (n := (ls.length : Int)) (gs_one ((g_cbI (gs_one (g_var rfl hx')) (rc_lenS hsrc.seq)).is (by simp))) (by omega) (by omega))
    (fun i σ' F' l' => (∃ y z, σ' = [some v, some x, some (.ref l), y, z]) ∧ l' = (ls.take i).map fun m => dT (lotOf n m)) (fun F2 e2 => ⟨⟨none, none, rfl⟩, by simp⟩) (fun i d hd σ' F' H' u l' hI g' e' hu N hN => ?_) (fun σ' F' H' l' hI g' e' => ?_)
  · obtain ⟨⟨y, z, rfl⟩, rfl⟩ := hI
    have hil : i < ls.length := by
      have := (List.getElem?_eq_some_iff.mp hd).1
      rw [rng_len] at this
      simpa using this
    have ed : d = .int (i : Int) := by
      rw [rng_get (by simpa using hil)] at hd
      have := Option.some.inj hd
      rw [← this]; simp
    subst ed
    have hm : ls[i] ∈ ls := List.getElem_mem hil
    obtain ⟨hm1, hm2, hm3⟩ := hls _ hm
    have hat : atI (ls.map dI) (i : Int) = some (dI ls[i]) := atI_nat (by rw [List.getElem?_map, List.getElem?_eq_getElem hil]; rfl)
    -- lot = check_lot(houses, lots[index])
    refine t_asg (K := K) (Step.refl g'.step.inn .nil) (g_call (n, ls[i]) (gs_two (g_var rfl (Rp.mono e' _ _ hv)) (g_op (g_var rfl (Rp.mono e' _ _ hx')) (g_var rfl hu) fun _ _ h1 h2 => h1 ▸ h2 ▸ rv_ix hsrc.seq hat)) rfl ⟨hm1, hm2⟩) fun d2 v2 F2 H2 hd2 s2 e2 hv2 => ?_
    subst hd2
    have g2 := g'.run g0 h0 s2
    -- if len(lot) == houses
    refine t_skip (Step.refl g2.step.inn .nil) ((et_of (K := K) (b := decide ((((lotOf n ls[i]).map PyData.int).length : Int) = (n : Int))) (g_op (g_cbI (gs_one (g_var rfl hv2)) rc_lenT) (g_var rfl (Rp.mono (e'.trans e2) _ _ hv)) fun _ _ h1 h2 => by subst h1 h2; exact rv_eqI)).is ?_) fun F3 H3 s3 e3 => ?_
    · simp only [List.length_map, decide_eq_false_iff_not]
      intro z
      exact hm3 (by omega)
    · refine t_app (K := K) g0 h0 (g2.run g0 h0 s3) rfl (g_var rfl (Rp.mono e3 _ _ hv2)) (by simp; omega) fun d4 F4 H4 hd4 g4 e4 => ?_
      subst hd4
      refine hN _ F4 H4 _ ⟨⟨_, _, rfl⟩, ?_⟩ g4 ((e2.trans e3).trans e4)
      rw [take_succA (List.getElem?_eq_getElem hil), List.map_append]
      rfl
  · obtain ⟨⟨y, z, rfl⟩, rfl⟩ := hI
    obtain ⟨F2, s2, e2, r2⟩ := g'.done g0 h0
    refine t_retI (K := K) s2 (g_var rfl r2) fun v3 F3 H3 s3 hv3 => q v3 F3 H3 s3 ?_
    rw [rng_len] at hv3
    simpa [dLT, Function.comp_def] using hv3
end
end K3

namespace K3
open PySem PySem.Spec PyProof.Rows L2 Fv Evl StX
abbrev s_Falls___init__ : Stmt := inClass (topS 23) 0
theorem sc_Falls___init__ : FnScope ["self", "houses", "lots", "given", "let", "lot", "other", "greatest"] ["self", "houses", "lots"] (defScope s_Falls___init__) := ⟨rfl, rfl, rfl, by decide +kernel, rfl, by decide +kernel, by decide +kernel⟩
/-- the lots that a family lets, its greatest ones -/
def within (a b : List Int) : Bool := a.all fun x => decide (x ∈ b)
def letOf (n : Nat) (ls : List (List Int)) : List (List Int) := (allLots n).filter fun l => ([] :: ls.map (lotOf n)).any fun o => within l o
def greatOf (n : Nat) (ls : List (List Int)) : List (List Int) := (letOf n ls).filter fun l => !((letOf n ls).any fun o => (!decide (l = o)) && within l o)
theorem all_once : ∀ n ∈ List.range 6, (allLots n).Nodup ∧ [] ∈ allLots n := by decide +kernel
theorem let_few {n : Nat} (hn : n ≤ 5) (ls : List (List Int)) : (letOf n ls).length ≤ 300 ∧ ∀ l ∈ letOf n ls, l.length ≤ 60 := by
  have h := all_few n (by rw [List.mem_range]; omega)
  exact ⟨Nat.le_trans (List.length_filter_le _ _) h.1, fun l hl => h.2 l (List.mem_filter.mp hl).1⟩
theorem great_few {n : Nat} (hn : n ≤ 5) (ls : List (List Int)) : (greatOf n ls).length ≤ 300 := Nat.le_trans (List.length_filter_le _ _) (let_few hn ls).1
theorem let_nil {n : Nat} (hn : n ≤ 5) (ls : List (List Int)) : [] ∈ letOf n ls := List.mem_filter.mpr ⟨(all_once n (by rw [List.mem_range]; omega)).2, by simp [within]⟩
theorem great_kinds {n : Nat} (hn : n ≤ 5) (ls : List (List Int)) : (∀ l ∈ greatOf n ls, l ≠ []) ∨ greatOf n ls = [[]] := by
  by_cases h : [] ∈ greatOf n ls
  · right
    have nd : (letOf n ls).Nodup := (all_once n (by rw [List.mem_range]; omega)).1.filter _
    have h1 := (List.mem_filter.mp h).2
    have only : ∀ o ∈ letOf n ls, o = [] := fun o ho => by
      simp only [Bool.not_eq_true', List.any_eq_false, Bool.and_eq_true, not_and] at h1
      have := h1 o ho
      by_cases z : o = []
      · exact z
      · exact absurd (by simp [within] : within [] o = true) (this (by simp; exact fun w => z w))
    have e1 : letOf n ls = [[]] := by
      cases e : letOf n ls with
      | nil => have := let_nil hn ls; rw [e] at this; simp at this
      | cons a r =>
        rw [e] at only nd
        have ha := only a (by simp)
        subst ha
        cases r with
        | nil => rfl
        | cons b r2 =>
          have hb := only b (by simp)
          subst hb
          simp at nd
    unfold greatOf
    rw [e1]
    simp [within]
  · left
    intro l hl z
    exact h (z ▸ hl)
/-- an instance of Falls for the lots ls over n houses -/
structure Fam (K : PySem.W.Frag) (C : Addr) (F : Hp) (x : Addr) (n : Nat) (ls : List (List Int)) : Prop where
  ex : ∃ dx lt d, F x = some (.ins C dx [("n", .int n), ("lots", lt), ("_let", .ref d)]) ∧ F dx = some (.own x) ∧ Rp K F lt (dTT (sortL (greatOf n ls))) ∧ F d = some (.dT (letD (letOf n ls)))
theorem Fam.mono {K : PySem.W.Frag} {C : Addr} {F F' : Hp} {x : Addr} {n : Nat} {ls : List (List Int)} (h : Fam K C F x n ls) (e : Ex F F') : Fam K C F' x n ls := by
  obtain ⟨dx, lt, d, h1, h2, h3, h4⟩ := h.ex
  exact ⟨dx, lt, d, e _ _ h1, e _ _ h2, Rp.mono e _ _ h3, e _ _ h4⟩
/-- the class as the text has it -/
structure FallsC (K : PySem.W.Frag) (C : Addr) : Prop where
  cl : Cls K C
  nN : NoAttr K C "n"
  nL : NoAttr K C "lots"
  nF : NoAttr K C "_let"
section
variable {P : Program} {w : World} {K : PySem.W.Frag} {mg : Str → Option Value} {base : Heap}
def spInit (K : PySem.W.Frag) (C : Addr) : Sp := fun vs H Q _ => ∃ x dx n src ls F v, vs = [.ref x, .int (n : Nat), v] ∧ H x = some (.ins C dx []) ∧ H dx = some (.own x) ∧ dx ≠ x ∧ F x = none ∧ F dx = none ∧ Ex F H ∧ Rp K F v src ∧
  LotsD src ls ∧ (2 ≤ n ∧ n ≤ 5) ∧ GoodLots n ls ∧ ls.length ≤ 32 ∧ ∀ F2 H2, Step none F (Fv.del (Fv.del H x) dx) F2 H2 → Fam K C F2 x n ls → Q .non H2
theorem ok_init {f fS fW fL fC fI fB fZ C : Addr} {fd fdS fdW fdL fdC fdI fdB fdZ : FuncData} (Fn : Fun K "__init__" "Falls.__init__" s_Falls___init__ f fd) (T : Tx mg) (FC : FallsC K C) {tM : Tok} (c_MOST_LOTS : mg "MOST_LOTS" = some (.int 32 tM))
    (F_is_sequence : Fun K "is_sequence" "is_sequence" s_is_sequence fS fdS) (b_is_sequence : Binds K fdS ["thing"] []) (g_is_sequence : mg "is_sequence" = some (.ref fS))
    (F_is_whole : FunW K fW fdW) (b_is_whole : Binds K fdW ["thing", "low", "high"] []) (g_is_whole : mg "is_whole" = some (.ref fW))
    (F_check_lot : Fun K "check_lot" "check_lot" s_check_lot fL fdL) (b_check_lot : Binds K fdL ["houses", "lot"] []) (g_check_lot : mg "check_lot" = some (.ref fL))
    (F_checked_lots : Fun K "_checked_lots" "_checked_lots" s_checked_lots fC fdC) (b_checked_lots : Binds K fdC ["houses", "lots"] []) (g_checked_lots : mg "_checked_lots" = some (.ref fC))
    (F_lot_within : Fun K "lot_within" "lot_within" s_lot_within fI fdI) (b_lot_within : Binds K fdI ["one", "other"] []) (g_lot_within : mg "lot_within" = some (.ref fI))
    (F_lots_of_size : Fun K "lots_of_size" "lots_of_size" s_lots_of_size fZ fdZ) (b_lots_of_size : Binds K fdZ ["houses", "size"] []) (g_lots_of_size : mg "lots_of_size" = some (.ref fZ))
    (F_lots_by_size : Fun K "_lots_by_size" "_lots_by_size" s_lots_by_size fB fdB) (b_lots_by_size : Binds K fdB ["houses"] []) (g_lots_by_size : mg "_lots_by_size" = some (.ref fB)) :
    FnOk P w K mg base CX0 4 f fd ["self", "houses", "lots"] (spInit K C) := by
  have G_is_sequence : FnOk P w K mg base CX0 1 fS fdS ["thing"] (spSeq K) := ok_seq F_is_sequence T
  have G_is_whole : FnOk P w K mg base CX0 1 fW fdW ["thing", "low", "high"] (spWhole K) := ok_whole F_is_whole T
  have G_checked_lots : FnOk P w K mg base CX0 3 fC fdC ["houses", "lots"] (spChecked K) := ok_checked F_checked_lots T F_is_sequence b_is_sequence g_is_sequence F_is_whole b_is_whole g_is_whole F_check_lot b_check_lot g_check_lot
  have G_lot_within : FnOk P w K mg base CX0 1 fI fdI ["one", "other"] (spWithin K) := ok_within F_lot_within T
  have G_lots_by_size : FnOk P w K mg base CX0 2 fB fdB ["houses"] (spAll K) := ok_bySize F_lots_by_size T F_lots_of_size b_lots_of_size g_lots_of_size
  refine Fn.ok sc_Falls___init__ (fun vs H Q E ⟨_, _, _, _, _, _, _, h, _⟩ => by rw [h]; rfl) (fun cdv A outer s H vs Q E hr h => ?_)
  obtain ⟨x, dx, n, src, ls, F, v, rfl, hox, hodx, hne, fx, fdx, e, hv, hsrc, ⟨hn2, hn5⟩, hgood, hfew, q⟩ := h
  refine ⟨_, (pss_cons (ps_if (pt_not (pt_val (pe_call G_is_whole (hr.mono (by decide)) (by rfl) g_is_whole F_is_whole.kp b_is_whole .nil pass0 (pa_cons (pv 1) (pa_cons pe_int (pa_cons pe_int pa_nil)))))) (pss_one ps_never) pss_nil)
    (pss_cons (ps_if (PW.pt (pw_or (pt_not (pt_val (pe_call G_is_sequence (hr.mono (by decide)) (by rfl) g_is_sequence F_is_sequence.kp b_is_sequence .nil pass0 (pa_cons (pv 2) pa_nil)))) (pw_or1 (pt_cmpR op_gt (pe_callB (c_len (K := K)) (by rfl) T.len (by decide +kernel) (pa_cons (pv 2) pa_nil)) (pe_glob (v := .int 32) (by rfl) c_MOST_LOTS ⟨_, rfl⟩) (nomark _))))) (pss_one ps_never) pss_nil)
    (pss_cons (ps_set (i := 3) sc_Falls___init__.nd rfl (by first | exact Or.inl rfl | exact Or.inr rfl) (pe_lst (pa_cons (pe_tup pa_nil) (a_star (K := K) (pe_call G_checked_lots (hr.mono (by decide)) (by rfl) g_checked_lots F_checked_lots.kp b_checked_lots .nil pass0 (pa_cons (pv 1) (pa_cons (pv 2) pa_nil))) pa_nil))))
    (pss_cons (ps_set (i := 4) sc_Falls___init__.nd rfl (by first | exact Or.inl rfl | exact Or.inr rfl) (pe_lc (own := [("lot", 5)]) (g := gName 5) rfl sc_Falls___init__.nd (i_list (K := K) (pe_call G_lots_by_size (hr.mono (by decide)) (by rfl) g_lots_by_size F_lots_by_size.kp b_lots_by_size .nil pass0 (pa_cons (pv 1) pa_nil))) (blkOk_by (own := [("lot", 5)]) (N := ["self", "houses", "lots", "given", "let", "lot", "other", "greatest"]) (sc := (defScope s_Falls___init__)) (by decide +kernel)) (fun _ _ _ _ _ => pg_name (i := 5) sc_Falls___init__.nd rfl (by first | exact Or.inl rfl | exact Or.inr rfl)) (fun _ _ _ _ _ => (pts_one (pt_val (pe_callB (c_any (K := K)) (by rfl) T.any (by decide +kernel) (pa_cons (pe_lc (own := [("other", 6)]) (g := gName 6) rfl sc_Falls___init__.nd (i_list (K := K) (pv 3)) (blkOk_by (own := [("other", 6)]) (N := ["self", "houses", "lots", "given", "let", "lot", "other", "greatest"]) (by rfl)) (fun _ _ _ _ _ => pg_name (i := 6) sc_Falls___init__.nd rfl (by first | exact Or.inl rfl | exact Or.inr rfl)) (fun _ _ _ _ _ => pts_nil) (fun _ _ _ _ _ => (pe_call G_lot_within (hr.mono (by decide)) (by rfl) g_lot_within F_lot_within.kp b_lot_within .nil pass0 (pa_cons (pv 5) (pa_cons (pv 6) pa_nil))))) pa_nil))))) (fun _ _ _ _ _ => (pv 5))))
    (pss_cons (ps_setLc (i := 7) (own := [("lot", 5)]) (g := gName 5) rfl sc_Falls___init__.nd rfl rfl (sw_true rfl rfl rfl (by decide +kernel)) (i_list (K := K) (pv 4)) (blkOk_by (own := [("lot", 5)]) (N := ["self", "houses", "lots", "given", "let", "lot", "other", "greatest"]) (sc := (defScope s_Falls___init__)) (by decide +kernel)) (fun _ _ _ _ _ => pg_name (i := 5) sc_Falls___init__.nd rfl (by first | exact Or.inl rfl | exact Or.inr rfl)) (fun _ _ _ _ _ => (pts_one (pt_not (pt_val (pe_callB (c_any (K := K)) (by rfl) T.any (by decide +kernel) (pa_cons (pe_lc (own := [("other", 6)]) (g := gName 6) rfl sc_Falls___init__.nd (i_list (K := K) (pv 4)) (blkOk_by (own := [("other", 6)]) (N := ["self", "houses", "lots", "given", "let", "lot", "other", "greatest"]) (by rfl)) (fun _ _ _ _ _ => pg_name (i := 6) sc_Falls___init__.nd rfl (by first | exact Or.inl rfl | exact Or.inr rfl)) (fun _ _ _ _ _ => pts_nil) (fun _ _ _ _ _ => (pe_and (pe_cmpR (o_neD (K := K) hr.units) (pv 5) (pv 6) (nomark _)) (pe_one (pe_call G_lot_within (hr.mono (by decide)) (by rfl) g_lot_within F_lot_within.kp b_lot_within .nil pass0 (pa_cons (pv 5) (pa_cons (pv 6) pa_nil))))))) pa_nil)))))) (fun _ _ _ _ _ => (pv 5)))
    (pss_cons (ps_fld (pv 0) (pv 1) rfl)
    (pss_cons (ps_fld (pv 0) (pe_callTy (c_tup (K := K)) (by rfl) T.tuple (by decide +kernel) (pa_cons (pe_callB (c_sortLL (K := K) (hu65 hr)) (by rfl) T.sorted (by decide +kernel) (pa_cons (pv 7) pa_nil)) pa_nil)) rfl)
    (pss_one (ps_fld (pv 0) (pe_dcT (own := [("lot", 5)]) (g := gName 5) rfl (hu_of hr) sc_Falls___init__.nd (i_list (K := K) (pv 4)) (blkOk_by (own := [("lot", 5)]) (N := ["self", "houses", "lots", "given", "let", "lot", "other", "greatest"]) (sc := (defScope s_Falls___init__)) (by decide +kernel)) (fun _ _ _ _ _ => pg_name (i := 5) sc_Falls___init__.nd rfl (by first | exact Or.inl rfl | exact Or.inr rfl)) (fun _ _ _ _ _ => pts_nil) (fun _ _ _ _ _ => (pv 5)) (fun _ _ _ _ _ => pe_bl)) rfl))))))))), ?_⟩
  have h0x : Fv.del (Fv.del H x) dx x = none := by rw [Fv.del_ne hne.symm, Fv.del_same]
  have h0d : Fv.del (Fv.del H x) dx dx = none := Fv.del_same
  have hz : (ls.map dI).length ≤ 32 := by rw [List.length_map]; exact hfew
  -- the first tests
  refine t_skip (Step.refl e .nil) ((et_not (b := true) ((et_B (g_call (.int n, some 2, some 5) (gs_three (g_var (v := .int n) rfl (.int _)) g_int g_int) rfl trivial)).is ?_)).is rfl) fun F1 H1 s1 e1 => ?_
  · simp only [isWhole, loOk, hiOk, Bool.and_eq_true, decide_eq_true_eq]; omega
  refine t_skip s1 ((et_or (a := false) (b := false) ((et_not (b := true) ((et_B (g_call src (gs_one (g_var rfl (Rp.mono e1 _ _ hv))) rfl trivial)).is ?_)).is rfl) fun _ => ((et_of (K := K) (g_op (g_cbI (gs_one (g_var rfl (Rp.mono e1 _ _ hv))) (rc_lenS hsrc.seq)) g_int fun _ _ h1 h2 => by subst h1 h2; exact rv_bl (g := fun i j => decide (j < i)))).is ?_)).is rfl) fun F2 H2 s2 e2 => ?_
  · cases hsrc <;> rfl
  · simp only [decide_eq_false_iff_not]; omega
  -- given
  have e12 := e1.trans e2
  refine t_asgI (K := K) s2 (g_lstI (gs_consI (g_tupI gs_nil (by simp)) (gs_star (.inl rfl) (g_call (n, src, ls) (gs_two (g_var (v := .int n) rfl (.int _)) (g_var rfl (Rp.mono e12 _ _ hv))) rfl ⟨hn5, hsrc, hgood⟩) gs_nil)) (by simp; omega)) fun gv F3 H3 s3 e3 hg => ?_
  have hg' : Rp K F3 gv (dLT ([] :: ls.map (lotOf n))) := by simpa [dLT, dT] using hg
  have few := all_few n (by rw [List.mem_range]; omega)
  have lf := let_few hn5 ls
  -- let
  refine t_asgI (K := K) s3 (g_lcE dT (allLots n) (fun l => ([] :: ls.map (lotOf n)).any fun o => within l o) dT (w_listI (g_call n (gs_one (g_var (v := .int n) rfl (.int _))) rfl hn5)) (by omega) (fun _ => rfl) (fun l hl F' e' u hu => ?_) (fun l hl _ F' e' u hu => g_var rfl hu)) fun lv F4 H4 s4 e4 hlv => ?_
  · exact et_B (g_cbI (gs_one (g_lcEM dT ([] :: ls.map (lotOf n)) (fun o => .bool (within l o)) (w_listI (g_var rfl (Rp.mono e' _ _ hg'))) (by simp; omega) (fun _ => rfl) fun o ho F'' e'' y hy =>
      g_call (l, o) (gs_two (g_var rfl (Rp.mono e'' _ _ hu)) (g_var rfl hy)) rfl (by have := few.2 l hl; simp only; omega))) (rc_anyM _ (within l)))
  have hlv' : Rp K F4 lv (dLT (letOf n ls)) := hlv
  -- greatest
  refine t_asgI (K := K) s4 (g_lcE dT (letOf n ls) (fun l => !((letOf n ls).any fun o => (!decide (l = o)) && within l o)) dT (w_listI (g_var rfl hlv')) (by omega) (fun _ => rfl) (fun l hl F' e' u hu => ?_) (fun l hl _ F' e' u hu => g_var rfl hu)) fun mv F5 H5 s5 e5 hmv => ?_
  · exact et_not (et_B (g_cbI (gs_one (g_lcEM dT (letOf n ls) (fun o => .bool ((!decide (l = o)) && within l o)) (w_listI (g_var rfl (Rp.mono e' _ _ hlv'))) (by omega) (fun _ => rfl) fun o ho F'' e'' y hy =>
      g_andV (g_op (g_var rfl (Rp.mono e'' _ _ hu)) (g_var rfl hy) fun _ _ h1 h2 => by subst h1 h2; exact rv_neT) fun _ => g_call (l, o) (gs_two (g_var rfl (Rp.mono e'' _ _ hu)) (g_var rfl hy)) rfl (by have := lf.2 l hl; simp only; omega))) (rc_anyM _ fun o => (!decide (l = o)) && within l o)))
  have hmv' : Rp K F5 mv (dLT (greatOf n ls)) := hmv
  -- what the instance has been through
  have f5x : F5 x = none := s5.new x fx (by rw [hox]; simp)
  have h5x : H5 x = some (.ins C dx []) := s5.keep.ex x _ hox
  have b0 : Fv.del H x x = none := Fv.del_same
  refine t_fld (K := K) ((Step.own1 e x).trans s5) b0 f5x rfl h5x FC.cl FC.nN (by decide) (EvG.toX (g_var (K := K) (d := .int n) (v := .int n) rfl (.int _))) fun v6 F6 H6 hv6 s6 e6 f6x h6x => ?_
  have hv6' := rp_int hv6
  subst hv6'
  refine t_fld (K := K) s6 b0 f6x rfl h6x FC.cl FC.nL (by show 1 < 1000; decide) (EvG.toX (g_cbI (gs_one (g_sortLL (g_var rfl (Rp.mono e6 _ _ hmv')) (great_kinds hn5 ls))) rc_tupL)) fun v7 F7 H7 hv7 s7 e7 f7x h7x => ?_
  refine t_fld1 (K := K) s7 b0 f7x rfl h7x FC.cl FC.nF (by show 2 < 1000; decide) (x_dcT (K := K) (w_listI (g_var rfl (Rp.mono ((e5.trans e6).trans e7) _ _ hlv'))) lf.1 (fun _ => rfl) (fun l hl F' e' u hu => g_var rfl hu) (fun _ _ _ => g_bl)) fun v8 F8 H8 hv8 s8 e8 f8x h8x => ?_
  obtain ⟨D, rfl, hD⟩ := hv8
  have hdx : (Fv.del H x) dx = some (.own x) := by rw [Fv.del_ne hne]; exact hodx
  have f8d : F8 dx = none := s8.new dx fdx (by rw [hdx]; simp)
  have h8d : H8 dx = some (.own x) := s8.keep.ex dx _ hdx
  have s9 : Step none F (Fv.del (Fv.del H x) dx) (upd F8 dx (.own x)) H8 := (s8.less Fv.del_ex).add f8d h8d Fv.del_same
  have f9x : upd F8 dx (.own x) x = none := by rw [upd_ne hne.symm]; exact f8x
  have s10 := s9.add (a := x) f9x h8x (by rw [Fv.del_ne hne.symm, Fv.del_same])
  have ee : Ex F8 (upd (upd F8 dx (.own x)) x (.ins C dx (putF "_let" (.ref D) (putF "lots" v7 (putF "n" (.int n) []))))) := (Ex.new f8d).trans (Ex.new f9x)
  refine q _ H8 s10 ⟨dx, v7, D, upd_same, ?_, Rp.mono (e8.trans ee) _ _ hv7, ee _ _ hD⟩
  rw [upd_ne hne]; exact upd_same
end
end K3

namespace K3
open PySem PySem.Spec PyProof.Rows L2 Fv Evl StX
abbrev s_Falls_lets : Stmt := inClass (topS 23) 4
theorem sc_Falls_lets : FnScope ["self", "lot"] ["self", "lot"] (defScope s_Falls_lets) := ⟨rfl, rfl, rfl, by decide +kernel, rfl, by decide +kernel, by decide +kernel⟩
theorem hs_mem {n : Nat} {k : Int} : k ∈ hs n ↔ 0 ≤ k ∧ k < (n : Int) := by
  unfold hs
  rw [List.mem_map]
  constructor
  · rintro ⟨j, hj, rfl⟩
    rw [List.mem_range] at hj
    simp only [Int.ofNat_eq_natCast]; omega
  · rintro ⟨h1, h2⟩
    exact ⟨k.toNat, by rw [List.mem_range]; omega, by simp only [Int.ofNat_eq_natCast]; omega⟩
theorem hs_len (n : Nat) : (hs n).length = n := by simp [hs]
def coN (n : Nat) (lot : List Int) : List Int := (hs n).filter fun h => !decide (h ∈ lot)
def famLots (n : Nat) (ls : List (List Int)) : List (List Int) := sortL (greatOf n ls)
def sureOf (n : Nat) (L : List (List Int)) : List Int := (hs n).filter fun h => !(L.any fun l => decide (h ∈ l))
def coverAt (n : Nat) (L : List (List Int)) (i : Nat) : Option (List Int × List Int) := ((L.drop (i + 1)).find? fun o => within (hs n) (L.getD i [] ++ o)).map fun o => (L.getD i [], o)
def coverOf (n : Nat) (L : List (List Int)) : Option (List Int × List Int) := (List.range L.length).findSome? (coverAt n L)
def coverD : Option (List Int × List Int) → PyData
  | none => .none
  | some (a, b) => .tuple [dT a, dT b]
theorem famLots_few {n : Nat} (hn : n ≤ 5) (ls : List (List Int)) : (famLots n ls).length ≤ 300 ∧ ∀ l ∈ famLots n ls, l.length ≤ 60 := by
  have p := sortL_perm (greatOf n ls)
  refine ⟨by unfold famLots; rw [p.length_eq]; exact great_few hn ls, fun l hl => ?_⟩
  have : l ∈ greatOf n ls := p.mem_iff.mp hl
  exact (let_few hn ls).2 l (List.mem_filter.mp this).1
section
variable {P : Program} {w : World} {K : PySem.W.Frag} {mg : Str → Option Value} {base : Heap}
theorem x_make {pt : Option Pt} {σ : L2.St} {F : Hp} {ts : TA} {C : Addr} {E : XK} {n : Nat} {src : PyData} {ls : List (List Int)} (h : EvsG K pt ts σ F (· = [.int (n : Int), src])) (h1 : LotsD src ls) (h2 : 2 ≤ n ∧ n ≤ 5) (h3 : GoodLots n ls) (h4 : ls.length ≤ 32) :
    EvX pt (tMake C (spInit K C) [] E ts) σ F (fun v F2 => ∃ x, v = .ref x ∧ Fam K C F2 x n ls) := fun H1 i g Q q =>
  h H1 i g _ fun ds vs F2 H2 hd s hv => by
    subst hd
    obtain ⟨a, v, rfl, ha, hv⟩ := rpAll2 hv
    rw [rp_int ha]
    intro x dx hx hdx hne
    have fr : ∀ {a : Addr}, H2 a = none → F2 a = none := fun {a} h => by
      cases w : F2 a with
      | none => rfl
      | some o => rw [s.inn _ _ w] at h; cases h
    have n1 : (upd H2 dx (.own x)) x = none := by rw [upd_ne hne.symm]; exact hx
    have e1 : Ex H2 (upd (upd H2 dx (.own x)) x (.ins C dx [])) := (Ex.new hdx).trans (Ex.new n1)
    refine ⟨x, dx, n, src, ls, F2, v, rfl, upd_same, by rw [upd_ne hne]; exact upd_same, hne, fr hx, fr hdx, s.inn.trans e1, hv, h1, h2, h3, h4, fun F3 H3 s3 fam => ⟨rfl, ?_⟩⟩
    have back : Fv.del (Fv.del (upd (upd H2 dx (.own x)) x (.ins C dx [])) x) dx = H2 := by
      funext b
      by_cases z : b = dx
      · rw [z, Fv.del_same, hdx]
      · rw [Fv.del_ne z]
        by_cases y : b = x
        · rw [y, Fv.del_same, hx]
        · rw [Fv.del_ne y, upd_ne y, upd_ne z]
    rw [back] at s3
    exact q _ F3 H3 ⟨x, rfl, fam⟩ (s.trans (s3.lift s.good))
/-- a promise about an instance -/
def spFam {ι : Type} (K : PySem.W.Frag) (C : Addr) (A : ι → List PyData) (f : Nat → List (List Int) → ι → PyData) (P : Nat → ι → Prop) : Sp := fun vs H Q _ => ∃ x n ls i F as, vs = .ref x :: as ∧ n ≤ 5 ∧ P n i ∧ Ex F H ∧ Fam K C F x n ls ∧ RpAll K F as (A i) ∧
  ∀ v F2 H2, Step none F H F2 H2 → Rp K F2 v (f n ls i) → Q v H2
abbrev spFLets (K : PySem.W.Frag) (C : Addr) : Sp := spFam K C (fun l : List Int => [dT l]) (fun n ls l => .bool (decide (lotOf n l ∈ letOf n ls))) (fun n l => l.length ≤ 60 ∧ ∀ k ∈ l, 0 ≤ k ∧ k < (n : Int))
theorem ok_flets {f C : Addr} {fd : FuncData} (Fn : Fun K "lets" "Falls.lets" s_Falls_lets f fd) (T : Tx mg) (FC : FallsC K C) : FnOk P w K mg base CX0 1 f fd ["self", "lot"] (spFLets K C) := by
  refine Fn.ok sc_Falls_lets (fun vs H Q E ⟨_, _, _, _, _, _, h, _, _, _, _, r, _⟩ => by rw [h, List.length_cons, r.length]; rfl) (fun cdv A outer s H vs Q E hr h => ?_)
  obtain ⟨x, n, ls, lot, F, as, rfl, hn, ⟨hz, hb⟩, e, fam, ha, q⟩ := h
  obtain ⟨v, rfl, hv⟩ := rpAll1 ha
  obtain ⟨dx, lt, d, o1, o2, o3, o4⟩ := fam.ex
  refine ⟨_, (pss_one (ps_ret (pe_cmp (pc_din (hu_of hr) (pe_callTy (c_tup (K := K)) (by rfl) T.tuple (by decide +kernel) (pa_cons (pe_callB (c_sortedSet (w := w)) (by rfl) T.sorted (by decide +kernel) (pa_cons (pe_callTy (c_setT (K := K) (w := w)) (by rfl) T.set (by decide +kernel) (pa_cons (pv 1) pa_nil)) pa_nil)) pa_nil)) (e_fld (K := K) (pv 0) rfl)) rfl))), ?_⟩
  refine t_retI (K := K) (Step.refl e .nil) (g_din (m := lotOf n lot) (ls := letOf n ls) (g_cb (g_consR (g_sortedSet (g_var rfl hv) hz)) fun ds hds => ?_) fun F' e' => x_fld rfl (e' _ _ o1) FC.cl FC.nF rfl fun F'' e'' => ⟨d, rfl, e'' _ _ (e' _ _ o4)⟩) q
  obtain ⟨d, rfl, ms, rfl, hp, hm⟩ := hds
  have := sorted_is hp hm hb
  subst this
  exact rc_tupL
end
end K3

namespace K3
open PySem PySem.Spec PyProof.Rows L2 Fv Evl StX
abbrev s_law_pot : Stmt := topS 28
theorem sc_law_pot : FnScope ["_law_script", "_law_salt", "_law_cell"] ["_law_script", "_law_salt"] (defScope s_law_pot) := ⟨rfl, rfl, rfl, by decide +kernel, rfl, by decide +kernel, by decide +kernel⟩
abbrev s_law_draw : Stmt := topS 25
theorem sc_law_draw : FnScope ["_law_pot_here", "_law_many", "_law_cell", "_law_digit"] ["_law_pot_here", "_law_many"] (defScope s_law_draw) := ⟨rfl, rfl, rfl, by decide +kernel, rfl, by decide +kernel, by decide +kernel⟩
section
variable {P : Program} {w : World} {K : PySem.W.Frag} {mg : Str → Option Value} {base : Heap}
abbrev spDraw (K : PySem.W.Frag) : Sp := spP K (fun m => 1 ≤ m ∧ m < 10000000000000000000000000000001) (fun m d => ∃ k : Int, d = .int k ∧ 0 ≤ k ∧ k < m)
theorem cm {i j : Int} (h0 : 0 ≤ i) (h1 : i < 2147483647) : CMul i j := .inl ⟨by omega, by omega⟩
theorem ok_draw {f : Addr} {fd : FuncData} (Fn : Fun K "_law_draw" "_law_draw" s_law_draw f fd) (T : Tx mg) : FnOk P w K mg base CX0 1 f fd ["_law_pot_here", "_law_many"] (spDraw K) := by
  refine Fn.ok sc_law_draw spP.len (fun cdv A outer s H vs Q E hr h => ?_)
  obtain ⟨q, m, F, rfl, ⟨m1, m2⟩, e, g, k0⟩ := h
  have k : ∀ k F2 H2, 0 ≤ k → k < m → Step (some q) F H F2 H2 → Q (.int k) H2 := fun k F2 H2 h1 h2 s => k0 _ _ F2 H2 ⟨k, rfl, h1, h2⟩ s (.int k)
  refine ⟨_, (pss_cons (ps_if (PW.pt (pw_and (pt_cmpR op_eq (pe_ix (o_ixL (K := K)) (pv 0) pe_int (fun _ _ => rfl)) pe_int (nomark _)) (pw_and1 (pt_cmpR op_lt (pe_ix (o_ixL (K := K)) (pv 0) pe_int (fun _ _ => rfl)) (pe_callB (c_len (K := K)) (by rfl) T.len (by decide +kernel) (pa_cons (pe_ix (o_ixL (K := K)) (pv 0) pe_int (fun _ _ => rfl)) pa_nil)) (nomark _))))) (pss_cons (ps_set (i := 2) sc_law_draw.nd rfl (by first | exact Or.inl rfl | exact Or.inr rfl) (pe_ix (o_ixL (K := K)) (pe_ix (o_ixL (K := K)) (pv 0) pe_int (fun _ _ => rfl)) (pe_ix (o_ixL (K := K)) (pv 0) pe_int (fun _ _ => rfl)) (fun _ _ => rfl)))
    (pss_cons (ps_asg (pe_op op_add (pe_ix (o_ixL (K := K)) (pv 0) pe_int (fun _ _ => rfl)) pe_int) (pg_sub (pv 0) pe_int set_list))
    (pss_one (ps_if (pt_cmpR op_ge (pv 2) pe_int (nomark _)) (pss_one (ps_asg (pv 2) (pg_sub (pv 0) pe_int set_list))) (pss_one (ps_asg (pe_op op_modN (pe_op op_add (pe_op op_add (pe_op op_mul (pe_ix (o_ixL (K := K)) (pv 0) pe_int (fun _ _ => rfl)) pe_int) (pe_op op_mul (pe_op op_modN (pe_callTy call_int1 (by rfl) T.int (by decide +kernel) (pa_cons (pv 2) pa_nil)) pe_int) pe_int)) pe_int) pe_int) (pg_sub (pv 0) pe_int set_list))))))) pss_nil)
    (pss_cons (ps_if (pt_cmpR op_gt (pe_ix (o_ixL (K := K)) (pv 0) pe_int (fun _ _ => rfl)) pe_int (nomark _)) (pss_cons (ps_set (i := 3) sc_law_draw.nd rfl (by first | exact Or.inl rfl | exact Or.inr rfl) (pe_op op_modN (pe_callTy call_int1 (by rfl) T.int (by decide +kernel) (pa_cons (pe_ix (o_ixL (K := K)) (pv 0) pe_int (fun _ _ => rfl)) pa_nil)) (pv 1)))
    (pss_cons (ps_asg (pe_op op_fdivW (pe_ix (o_ixL (K := K)) (pv 0) pe_int (fun _ _ => rfl)) (pv 1)) (pg_sub (pv 0) pe_int set_list))
    (pss_one (ps_ret (pv 3))))) pss_nil)
    (pss_cons (ps_asg (pe_op op_modN (pe_op op_add (pe_op op_mul (pe_ix (o_ixL (K := K)) (pv 0) pe_int (fun _ _ => rfl)) pe_int) pe_int) pe_int) (pg_sub (pv 0) pe_int set_list))
    (pss_one (ps_ret (pe_op op_modN (pe_op op_fdivN (pe_callTy call_int1 (by rfl) T.int (by decide +kernel) (pa_cons (pe_op op_modN (pe_op op_mul (pe_ix (o_ixL (K := K)) (pv 0) pe_int (fun _ _ => rfl)) pe_int) pe_int) pa_nil)) pe_int) (pv 1))))))), ?_⟩
  have get : ∀ {σ : L2.St} {H' : Hp} {a b c : Int}, σ[0]? = some (some (.ref q.p)) → Pot H' q a b c → ∀ {i : Int} {v : V}, atI [V.int a, .int b, .int c, .ref q.l] i = some v → EvC (tOp (rIxL K) (tVar 0) (tC (.int i))) σ H' v := fun h p _ _ hi => ec_ixL (ec_var h) ec_int p.at_ hi
  obtain ⟨a, b, c, p⟩ := Pot.of (g q rfl).2
  let J : L2.St → Hp → Prop := fun σ' H' => ∃ a b c x y, σ' = [some (.ref q.p), some (.int m), x, y] ∧ Pot H' q a b c ∧ Step (some q) F H F H'
  have mk : ∀ {H' : Hp} {a b c : Int}, Pot H' q a b c → Step (some q) F H F H' → ∀ {a' b' c' : Int}, 0 ≤ a' → 0 ≤ b' → b' < 2147483647 → 0 ≤ c' → c' ≤ q.ns.length → Pot (upd H' q.p (.lst [.int a', .int b', .int c', .ref q.l])) q a' b' c' ∧ Step (some q) F H F (upd H' q.p (.lst [.int a', .int b', .int c', .ref q.l])) := fun p s _ _ _ h1 h2 h3 h4 h5 => by
    have p' := p.put h1 h2 h3 h4 h5
    exact ⟨p', s.trans (Step.pot s.inn s.good p'.pot)⟩
  have s0 : Step (some q) F H F H := Step.refl e g
  refine ts_when J (b := decide (a = 0) && decide (c < (q.ns.map V.int).length)) (etc_and (etc_of (ec_eq (get rfl p rfl) ec_int)) fun _ => etc_of (ec_I0 (g := fun i j => .bl (decide (i < j))) (get rfl p rfl) (ec_len (get rfl p rfl) p.ls))) (fun hb N hN => ?_) (fun _ => ⟨a, b, c, none, none, rfl, p, s0⟩) (fun σ' H' hJ => ?_)
  · simp only [Bool.and_eq_true, decide_eq_true_eq, List.length_map] at hb
    obtain ⟨_, hc⟩ := hb
    have c0 := p.c0
    obtain ⟨j, rfl⟩ : ∃ j : Nat, c = (j : Int) := ⟨c.toNat, by omega⟩
    have hj : j < q.ns.length := by omega
    have hcell : atI (q.ns.map V.int) (j : Int) = some (.int q.ns[j]) := atI_nat (by rw [List.getElem?_map, List.getElem?_eq_getElem hj]; rfl)
    refine ts_asg (ec_ixL (get rfl p rfl) (get rfl p rfl) p.ls hcell) ?_
    -- pot[2] = pot[2] + 1
    obtain ⟨p1, s1⟩ := mk p s0 (a' := a) (b' := b) (c' := (j : Int) + 1) p.a0 p.b0 p.b1 (by omega) (by omega)
    refine ts_put (q := q) (j := 2) (ec_I0 (g := fun i j => .int (i + j)) (get rfl p rfl) ec_int) rfl p.at_ rfl ?_
    show tIfS _ _ _ _ _ (upd H q.p (.lst [.int a, .int b, .int ((j : Int) + 1), .ref q.l]))
    refine ts_if1 (etc_of (ec_I0 (g := fun i j => .bl (decide (j ≤ i))) (ec_var rfl) ec_int)) (fun hb2 => ?_) (fun hb2 => ?_)
    · simp only [decide_eq_true_eq] at hb2
      obtain ⟨p2, s2⟩ := mk p1 s1 (a' := q.ns[j]) (b' := b) (c' := (j : Int) + 1) (by omega) p.b0 p.b1 (by omega) (by omega)
      refine ts_put1 (q := q) (j := 0) (ec_var rfl) rfl p1.at_ rfl ?_
      exact hN _ _ ⟨_, _, _, _, _, rfl, p2, s2⟩
    · obtain ⟨z1, z2⟩ := fm0 (b * 48271 + (q.ns[j]).fmod 1000003 * 69621 + 77) (j := 2147483647) (by decide)
      obtain ⟨p2, s2⟩ := mk p1 s1 (a' := a) (c' := (j : Int) + 1) p.a0 z1 z2 (by omega) (by omega)
      have e1 : EvC _ _ _ _ := ec_I (C := CMul) (g := fun i j => .int (i * j)) (get (σ := [some (.ref q.p), some (.int m), some (.int q.ns[j]), none]) rfl p1 (i := 1) rfl) (ec_int (i := 48271)) (cm p.b0 p.b1)
      have e2 : EvC _ _ _ _ := ec_I (C := CMul) (g := fun i j => .int (i * j)) (ec_I (C := fun _ j => j ≠ 0) (g := fun i j => .int (i.fmod j)) (ec_int1 (ec_var (σ := [some (.ref q.p), some (.int m), some (.int q.ns[j]), none]) (i := 2) (H := upd H q.p (.lst [.int a, .int b, .int ((j : Int) + 1), .ref q.l])) rfl)) (ec_int (i := 1000003)) (by decide)) (ec_int (i := 69621)) (cm (fm0 _ (by decide)).1 (Int.lt_trans (fm0 _ (by decide)).2 (by decide)))
      refine ts_put1 (q := q) (j := 1) (ec_I (C := fun _ j => j ≠ 0) (g := fun i j => .int (i.fmod j)) (ec_I0 (g := fun i j => .int (i + j)) (ec_I0 (g := fun i j => .int (i + j)) e1 e2) ec_int) ec_int (show (2147483647 : Int) ≠ 0 by decide)) rfl p1.at_ rfl ?_
      exact hN _ _ ⟨_, _, _, _, _, rfl, p2, s2⟩
  · obtain ⟨a, b, c, x, y, rfl, p, s⟩ := hJ
    have m0 : m ≠ 0 := by omega
    refine ts_if (etc_of (ec_I0 (g := fun i j => .bl (decide (j < i))) (get rfl p rfl) ec_int)) (fun hb => ?_) (fun hb => ?_)
    · obtain ⟨z1, z2⟩ := fm0 a (j := m) (by omega)
      refine ts_asg (ec_I (C := fun _ j => j ≠ 0) (g := fun i j => .int (i.fmod j)) (ec_int1 (get rfl p rfl)) (ec_var rfl) m0) ?_
      obtain ⟨p1, s1⟩ := mk p s (a' := a / m) (b' := b) (c' := c) (Int.ediv_nonneg p.a0 (by omega)) p.b0 p.b1 p.c0 p.c1
      refine ts_put (q := q) (j := 0) (ec_I (C := CDivW) (g := fun i j => .int (i / j)) (get rfl p rfl) (ec_var rfl) ⟨by omega, by
        have h1 : m.natAbs < 2 ^ 110 := by
          have : (2 : Nat) ^ 110 = 1298074214633706907132624082305024 := by decide
          omega
        have := PySem.Flt.log2_lt_of (by decide) h1
        omega⟩) rfl p.at_ rfl ?_
      exact ts_ret (ec_var rfl) (k _ _ _ z1 z2 s1)
    · obtain ⟨z1, z2⟩ := fm0 (b * 48271 + 1013904223) (j := 2147483647) (by decide)
      obtain ⟨p1, s1⟩ := mk p s (a' := a) (c' := c) p.a0 z1 z2 p.c0 p.c1
      refine ts_put (q := q) (j := 1) (ec_I (C := fun _ j => j ≠ 0) (g := fun i j => .int (i.fmod j)) (ec_I0 (g := fun i j => .int (i + j)) (ec_I (C := CMul) (g := fun i j => .int (i * j)) (get rfl p rfl) ec_int (cm p.b0 p.b1)) ec_int) ec_int (show (2147483647 : Int) ≠ 0 by decide)) rfl p.at_ rfl ?_
      obtain ⟨y1, y2⟩ := fm0 ((((b * 48271 + 1013904223).fmod 2147483647 * 16807).fmod 2147483629).fdiv 5) (j := m) (by omega)
      refine ts_ret (ec_I (C := fun _ j => j ≠ 0) (g := fun i j => .int (i.fmod j)) (ec_I (C := CDivN) (g := fun i j => .int (i.fdiv j)) (ec_int1 (ec_I (C := fun _ j => j ≠ 0) (g := fun i j => .int (i.fmod j)) (ec_I (C := CMul) (g := fun i j => .int (i * j)) (get rfl p1 rfl) ec_int (cm p1.b0 p1.b1)) ec_int (show (2147483629 : Int) ≠ 0 by decide))) ec_int (show CDivN _ 5 from ⟨by decide, by decide⟩)) (ec_var rfl) m0) (k _ _ _ y1 y2 s1)
def spPot (K : PySem.W.Frag) : Sp := fun vs H Q _ => ∃ (a : Addr) (ns : List Int) (c : Int) (F : Hp), vs = [.ref a, .int c] ∧ SqL K F a (ns.map V.int) ∧ 0 ≤ c ∧ c < 2147483647 ∧ Ex F H ∧
  ∀ (q : Pt) F2 H2, Step none F H F2 H2 → Good (some q) F2 H2 → H q.p = none → Q (.ref q.p) H2
theorem ok_pot {f : Addr} {fd : FuncData} (Fn : Fun K "_law_pot" "_law_pot" s_law_pot f fd) (T : Tx mg) : FnOk P w K mg base CX0 1 f fd ["_law_script", "_law_salt"] (spPot K) := by
  refine Fn.ok sc_law_pot (fun vs H Q E ⟨_, _, _, _, h, _⟩ => by rw [h]; rfl) (fun cdv A outer s H vs Q E hr h => ?_)
  obtain ⟨a, ns, c, F, rfl, hl, c0, c1, e, k⟩ := h
  refine ⟨_, (pss_one (ps_ret (pe_lst (pa_cons pe_int (pa_cons (pv 1) (pa_cons pe_int (pa_cons (pe_lc (own := [("_law_cell", 2)]) (g := gName 2) rfl sc_law_pot.nd (i_list (K := K) (pe_slice (s_list (K := K)) (pv 0) (po_some pe_int) (po_some pe_int))) (blkOk_by (own := [("_law_cell", 2)]) (N := ["_law_script", "_law_salt", "_law_cell"]) (sc := (defScope s_law_pot)) (by decide +kernel)) (fun _ _ _ _ _ => pg_name (i := 2) sc_law_pot.nd rfl (by first | exact Or.inl rfl | exact Or.inr rfl)) (fun _ _ _ _ _ => pts_nil) (fun _ _ _ _ _ => (pe_callTy call_int1 (by rfl) T.int (by decide +kernel) (pa_cons (pv 2) pa_nil)))) pa_nil))))))), ?_⟩
  have hz : (ns.take 60).length ≤ 60 := by rw [List.length_take]; omega
  refine t_retLst (K := K) (Step.refl e .nil) (gs_consI (K := K) g_int (gs_consI (g_var (v := .int c) (d := .int c) rfl (.int c)) (gs_consI g_int (gs_one (g_lcEM PyData.int (ns.take 60) PyData.int (w_listI (g_slS (i := 0) rfl hl)) (by omega) (fun _ => rfl) fun i hi F' e' y hy => g_cbI (gs_one (g_var rfl hy)) rc_int1))))) fun vs F2 H2 s hv => ?_
  obtain ⟨v4, rfl, hv4⟩ : ∃ v4, vs = [.int 0, .int c, .int 0, v4] ∧ Rp K F2 v4 (.list ((ns.take 60).map .int)) := by
    cases hv with
    | cons a1 b1 =>
      cases b1 with
      | cons a2 b2 =>
        cases b2 with
        | cons a3 b3 =>
          cases b3 with
          | cons a4 b4 =>
            cases b4
            rw [rp_int a1, rp_int a2, rp_int a3]
            exact ⟨_, rfl, a4⟩
  obtain ⟨l, xs, rfl, hl4, hxs⟩ := rp_lst hv4
  have := rpAll_ints hxs
  subst this
  refine ⟨by show 4 ≤ _; decide, fun p hp => ?_⟩
  have hlp : l ≠ p := fun z => by rw [z] at hl4; have := s.inn _ _ hl4; rw [hp] at this; cases this
  have fp : F2 p = none := by
    cases z : F2 p with
    | none => rfl
    | some o => have := s.inn _ _ z; rw [hp] at this; cases this
  refine k ⟨p, l, ns.take 60⟩ F2 _ ?_ ?_ (s.back p hp)
  · exact ⟨s.sub, s.inn.trans (Ex.new hp), s.keep.trans (Keep.of (Ex.new hp)), .nil, s.new⟩
  · intro q hq
    obtain rfl := Option.some.inj hq
    refine ⟨fp, hlp, ?_, hz, 0, c, 0, upd_same, Int.le_refl _, c0, c1, Int.le_refl _, by omega⟩
    show upd H2 p _ l = _
    rw [upd_ne hlp]; exact s.inn _ _ hl4
end
end K3

namespace Fv
open PySem PySem.Spec PyProof.Rows L2 Evl StX
theorem rv_neI {K : PySem.W.Frag} {i j : Int} : RvG K rNe (.int i) (.int j) (Is (.bool (!decide (i = j)))) := rv_val fun F H x y _ hx hy => by
  rw [rp_int hx, rp_int hy]
  refine ⟨.bl (!decide (V.int i = V.int j)), fun Q q => ⟨rfl, q⟩, ?_⟩
  have : decide (V.int i = V.int j) = decide (i = j) := by by_cases h : i = j <;> simp [h]
  rw [this]; exact .bl _
end Fv
namespace K3
open PySem PySem.Spec PyProof.Rows L2 Fv Evl StX
abbrev s_law_lot : Stmt := topS 26
theorem sc_law_lot : FnScope ["_law_pot_here", "_law_n", "_law_bits", "_law_house"] ["_law_pot_here", "_law_n"] (defScope s_law_lot) := ⟨rfl, rfl, rfl, by decide +kernel, rfl, by decide +kernel, by decide +kernel⟩
abbrev s_law_lots : Stmt := topS 27
theorem sc_law_lots : FnScope ["_law_pot_here", "_law_n", "_law_word", "_law_singles", "_law_house", "_law_k", "_law_sure", "_law_rows", "_law_lot_here", "_law_cut"] ["_law_pot_here", "_law_n"] (defScope s_law_lots) := ⟨rfl, rfl, rfl, by decide +kernel, rfl, by decide +kernel, by decide +kernel⟩
def OneGood (n : Nat) (l : List Int) : Prop := l.length ≤ 60 ∧ (∀ k ∈ l, 0 ≤ k ∧ k < (n : Int)) ∧ (lotOf n l).length ≠ n
theorem not_all {n : Nat} {l : List Int} {k : Int} (h0 : 0 ≤ k) (h1 : k < n) (h : k ∉ l) : (lotOf n l).length ≠ n := by
  have hl : ((List.range n).map Int.ofNat).length = n := by simp
  intro e
  rw [← hl] at e
  unfold lotOf at e
  rw [hl] at e
  have e2 : (((List.range n).map Int.ofNat).filter fun k => decide (k ∈ l)).length = ((List.range n).map Int.ofNat).length := by rw [hl]; exact e
  rw [List.length_filter_eq_length_iff] at e2
  have := e2 k (by rw [List.mem_map]; exact ⟨k.toNat, by rw [List.mem_range]; omega, by simp only [Int.ofNat_eq_natCast]; omega⟩)
  simp at this; exact h this
def bitLot (n : Nat) (bits : Int) : List Int := (hs n).filter fun h => (Builtin.bitAnd (bits / 2 ^ h.toNat) 1 != 0)
theorem bits_good : ∀ n ∈ List.range 6, ∀ b ∈ List.range (2 ^ n - 1), (bitLot n b).length ≤ 60 ∧ (∀ k ∈ bitLot n b, 0 ≤ k ∧ k < (n : Int)) ∧ (lotOf n (bitLot n b)).length ≠ n := by decide +kernel
section
variable {P : Program} {w : World} {K : PySem.W.Frag} {mg : Str → Option Value} {base : Heap}
/-- n as the law has it -/
abbrev NOk (m : Int) : Prop := 2 ≤ m ∧ m ≤ 5
abbrev RO (n : Nat) : PD := fun d => ∃ l, d = dT l ∧ OneGood n l
abbrev RL (n c : Nat) : PD := fun d => ∃ ls, d = dLT ls ∧ (∀ l ∈ ls, OneGood n l) ∧ ls.length ≤ c
abbrev RL1 (n c : Nat) : PD := fun d => ∃ ls, d = dLT ls ∧ (∀ l ∈ ls, OneGood n l) ∧ ls.length ≤ c ∧ 1 ≤ ls.length
abbrev spLawLot (K : PySem.W.Frag) : Sp := spP K NOk (fun m => RO m.toNat)
theorem ok_law_lot {f fD : Addr} {fd fdD : FuncData} (Fn : Fun K "_law_lot" "_law_lot" s_law_lot f fd) (T : Tx mg)
    (F_law_draw : Fun K "_law_draw" "_law_draw" s_law_draw fD fdD) (b_law_draw : Binds K fdD ["_law_pot_here", "_law_many"] []) (g_law_draw : mg "_law_draw" = some (.ref fD)) : FnOk P w K mg base CX0 2 f fd ["_law_pot_here", "_law_n"] (spLawLot K) := by
  have G_law_draw : FnOk P w K mg base CX0 1 fD fdD ["_law_pot_here", "_law_many"] (spDraw K) := ok_draw F_law_draw T
  refine Fn.ok sc_law_lot spP.len (fun cdv A outer s H vs Q E hr h => ?_)
  obtain ⟨q, m, F, rfl, ⟨m1, m2⟩, e, g, k⟩ := h
  obtain ⟨n, rfl⟩ : ∃ n : Nat, m = (n : Int) := ⟨m.toNat, by omega⟩
  refine ⟨_, (pss_cons (ps_set (i := 2) sc_law_lot.nd rfl (by first | exact Or.inl rfl | exact Or.inr rfl) (pe_call G_law_draw (hr.mono (by decide)) (by rfl) g_law_draw F_law_draw.kp b_law_draw .nil pass0 (pa_cons (pv 0) (pa_cons (pe_op op_sub (pe_op op_shl pe_int (pv 1)) pe_int) pa_nil))))
    (pss_one (ps_ret (pe_callTy (c_tup (K := K)) (by rfl) T.tuple (by decide +kernel) (pa_cons (pe_lc (own := [("_law_house", 3)]) (g := gName 3) rfl sc_law_lot.nd (pi_range1 (by rfl) T.range (pa_cons (pv 1) pa_nil)) (blkOk_by (own := [("_law_house", 3)]) (N := ["_law_pot_here", "_law_n", "_law_bits", "_law_house"]) (sc := (defScope s_law_lot)) (by decide +kernel)) (fun _ _ _ _ _ => pg_name (i := 3) sc_law_lot.nd rfl (by first | exact Or.inl rfl | exact Or.inr rfl)) (fun _ _ _ _ _ => (pts_one (e_truth (K := K) (pe_op op_and (pe_op op_shr (pv 2) (pv 3)) pe_int)))) (fun _ _ _ _ _ => (pv 3))) pa_nil))))), ?_⟩
  have p1 : (1 : Int) ≤ 2 ^ n - 1 ∧ (2 : Int) ^ n - 1 < 10000000000000000000000000000001 := by
    have : n = 2 ∨ n = 3 ∨ n = 4 ∨ n = 5 := by omega
    rcases this with rfl | rfl | rfl | rfl <;> decide
  refine t_asg (K := K) (Step.refl e g) (g_callP (m := 2 ^ n - 1) rfl (g_op (g_op g_int (g_var (v := .int n) (d := .int n) rfl (.int _)) fun _ _ h1 h2 => by subst h1 h2; exact rv_shl (by omega)) g_int fun _ _ h1 h2 => by subst h1 h2; exact rv_sub) p1) fun d v F1 H1 hd s1 e1 hv => ?_
  obtain ⟨b, rfl, b0, b1⟩ := hd
  obtain ⟨b, rfl⟩ : ∃ b' : Nat, b = (b' : Int) := ⟨b.toNat, by omega⟩
  refine t_retI (K := K) s1 (g_cbI (gs_one (g_lcE PyData.int (hs n) (fun h => (Builtin.bitAnd ((b : Int) / 2 ^ h.toNat) 1 != 0)) PyData.int ?_ (by rw [hs_len]; omega) (fun _ => rfl) (fun h hh F' e' u hu => ?_) (fun h _ _ F' e' u hu => g_var rfl hu))) rc_tupL) fun v F2 H2 s2 hv => k _ v F2 H2 ⟨bitLot n b, rfl, ?_⟩ s2 hv
  · have := w_rng1I (K := K) (pt := some q) (σ := [some (.ref q.p), some (.int n), some v, none]) (F := F1) (n := (n : Int)) (gs_one (g_var (v := .int n) (i := 1) rfl (.int _))) (by omega) (by omega)
    rw [show (n : Int).toNat = n by omega, rng_hs] at this
    exact this
  · exact et_truI (g_op (g_op (g_var rfl (Rp.mono e' _ _ hv)) (g_var rfl hu) fun _ _ h1 h2 => by subst h1 h2; exact rv_shr (hs_mem.mp hh).1) g_int fun _ _ h1 h2 => by subst h1 h2; exact rv_and)
  · have hb : b < 2 ^ n - 1 := by
      have : ((2 ^ n : Nat) : Int) = 2 ^ n := by simp
      omega
    rw [show (n : Int).toNat = n by omega]
    exact bits_good n (by rw [List.mem_range]; omega) b (List.mem_range.mpr hb)
/-! lists of good lots -/
variable {pt : Option Pt} {σ : L2.St} {F : Hp} {te ta tb : TE} {ts tr : TA} {n a b : Nat}
theorem OneGood.to (h : EvG K pt te σ F (RO n)) : True := trivial
abbrev RLs (n c : Nat) : List PyData → Prop := fun ds => ∃ ls : List (List Int), ds = ls.map dT ∧ (∀ l ∈ ls, OneGood n l) ∧ ls.length ≤ c
theorem gs_nilR : EvsG K pt tNil σ F (RLs n 0) := fun H1 i g Q q => gs_nil (K := K) H1 i g Q fun ds vs F2 H2 hd s hv => q ds vs F2 H2 ⟨[], by rw [hd]; rfl, by simp, by simp⟩ s hv
theorem gs_consRO (h : EvG K pt te σ F (RO n)) (h2 : EvsG K pt ts σ F (RLs n a)) : EvsG K pt (tCons te ts) σ F (RLs n (a + 1)) := fun H1 i g Q q => gs_cons h h2 H1 i g Q fun ds vs F2 H2 hd s hv => by
  obtain ⟨d, ds', rfl, ⟨l, rfl, hl⟩, ls, rfl, hls, hz⟩ := hd
  refine q _ vs F2 H2 ⟨l :: ls, rfl, fun x hx => ?_, by simp; omega⟩ s hv
  rcases List.mem_cons.mp hx with rfl | m
  · exact hl
  · exact hls x m
theorem g_lstRL (h : EvsG K pt ts σ F (RLs n a)) (hz : a ≤ 100) : EvG K pt (tLst ts) σ F (RL n a) := (g_lst h fun ds ⟨ls, e, _, hl⟩ => by rw [e, List.length_map]; omega).imp fun d ⟨ds, e, ls, e2, hg, hl⟩ => ⟨ls, by rw [e, e2], hg, hl⟩
theorem g_catRL (ha : EvG K pt ta σ F (RL n a)) (hb : EvG K pt tb σ F (RL n b)) (hz : a + b ≤ 100) : EvG K pt (tOp rCat ta tb) σ F (RL n (a + b)) := g_op ha hb fun d e ⟨ls, e1, g1, l1⟩ ⟨ms, e2, g2, l2⟩ => by
  subst e1 e2
  intro F H x y i hx hy Q q
  refine rv_cat (by simp; omega) F H x y i hx hy Q fun z v F2 H2 hz' s hv => q z v F2 H2 ⟨ls ++ ms, by rw [show z = _ from hz']; exact congrArg PyData.list List.map_append.symm, fun l hl => ?_, by simp; omega⟩ s hv
  rcases List.mem_append.mp hl with m | m
  · exact g1 l m
  · exact g2 l m
theorem g_catRL1 (ha : EvG K pt ta σ F (RL1 n a)) (hb : EvG K pt tb σ F (RL n b)) (hz : a + b ≤ 100) : EvG K pt (tOp rCat ta tb) σ F (RL1 n (a + b)) := g_op ha hb fun d e ⟨ls, e1, g1, l1, l1'⟩ ⟨ms, e2, g2, l2⟩ => by
  subst e1 e2
  intro F H x y i hx hy Q q
  refine rv_cat (by simp; omega) F H x y i hx hy Q fun z v F2 H2 hz' s hv => q z v F2 H2 ⟨ls ++ ms, by rw [show z = _ from hz']; exact congrArg PyData.list List.map_append.symm, fun l hl => ?_, by simp; omega, by simp; omega⟩ s hv
  rcases List.mem_append.mp hl with m | m
  · exact g1 l m
  · exact g2 l m
theorem rlI1 {ls : List (List Int)} (h : EvG K pt te σ F (Is (dLT ls))) (hg : ∀ l ∈ ls, OneGood n l) (hz : ls.length ≤ a) (h1 : 1 ≤ ls.length) : EvG K pt te σ F (RL1 n a) := h.imp fun d e => ⟨ls, e, hg, hz, h1⟩
theorem RL1.less {d : PyData} {c : Nat} (h : RL1 n c d) : RL n c d := by
  obtain ⟨ls, h1, h2, h3, _⟩ := h
  exact ⟨ls, h1, h2, h3⟩
theorem roI {l : List Int} (h : EvG K pt te σ F (Is (dT l))) (hg : OneGood n l) : EvG K pt te σ F (RO n) := h.imp fun d e => ⟨l, e, hg⟩
theorem rlI {ls : List (List Int)} (h : EvG K pt te σ F (Is (dLT ls))) (hg : ∀ l ∈ ls, OneGood n l) (hz : ls.length ≤ a) : EvG K pt te σ F (RL n a) := h.imp fun d e => ⟨ls, e, hg, hz⟩
theorem w_hs {i : Nat} (h : σ[i]? = some (some (.int (n : Int)))) (hn : NOk (n : Int)) : WiG K pt (iRng1 (tCons (tVar i) tNil)) σ F (· = (hs n).map .int) := by
  have := w_rng1I (K := K) (pt := pt) (σ := σ) (F := F) (n := (n : Int)) (gs_one (g_var (v := .int n) (i := i) h (.int _))) (by omega) (by omega)
  rw [show (n : Int).toNat = n by omega, rng_hs] at this
  exact this
theorem w_rngD {c : Int} (hc : c ≤ 100) (h : EvG K pt te σ F (fun d => ∃ k : Int, d = .int k ∧ 0 ≤ k ∧ k < c)) : WiG K pt (iRng1 (tCons (tOp (rI0 fun i j => .int (i + j)) (tC (.int 1)) te) tNil)) σ F (fun l => l.length ≤ c.toNat ∧ 1 ≤ l.length) := fun H1 i g RR q =>
  w_rng1 (R0 := fun ds => ∃ k : Int, ds = [.int (1 + k)] ∧ 0 ≤ k ∧ k < c) (fun H1 i g Q q => g_consR (R := fun d => ∃ k : Int, d = .int (1 + k) ∧ 0 ≤ k ∧ k < c) (g_op g_int h fun d e hd ⟨k, he, k0, k1⟩ => by
      subst hd he
      intro F H x y i hx hy Q q
      exact rv_add F H x y i hx hy Q fun z v F2 H2 hz s hv => q z v F2 H2 ⟨k, hz, k0, k1⟩ s hv) H1 i g Q fun ds vs F2 H2 ⟨d, hd, k, hk, k0, k1⟩ s hv => q ds vs F2 H2 ⟨k, by rw [hd, hk], k0, k1⟩ s hv)
    (fun ds ⟨k, e, k0, k1⟩ => ⟨_, e, by omega, by omega⟩) H1 i g RR fun ds J F2 H2 ⟨n, ⟨k, e, k0, k1⟩, hl⟩ => q ds J F2 H2 (by
      show ds.length ≤ c.toNat ∧ 1 ≤ ds.length
      rw [hl, rng_len]
      have : n = 1 + k := by simpa using e
      omega)
def singles (n : Nat) : List (List Int) := (hs n).map fun h => [h]
theorem singles_good (h : 2 ≤ n) : (∀ l ∈ singles n, OneGood n l) ∧ (singles n).length ≤ n ∧ 1 ≤ (singles n).length := by
  refine ⟨fun l hl => ?_, by simp [singles, hs_len], by simp [singles, hs_len]; omega⟩
  obtain ⟨k, hk, rfl⟩ := List.mem_map.mp hl
  have := hs_mem.mp hk
  refine ⟨by simp, by simp; omega, ?_⟩
  by_cases z : k = 0
  · exact not_all (k := 1) (by omega) (by omega) (by simp [z])
  · exact not_all (k := 0) (by omega) (by omega) (by simpa using fun e => z e.symm)
abbrev spLawLots (K : PySem.W.Frag) : Sp := spP K NOk (fun m => RL1 m.toNat 20)
theorem ok_law_lots {f fD fL : Addr} {fd fdD fdL : FuncData} (Fn : Fun K "_law_lots" "_law_lots" s_law_lots f fd) (T : Tx mg)
    (F_law_draw : Fun K "_law_draw" "_law_draw" s_law_draw fD fdD) (b_law_draw : Binds K fdD ["_law_pot_here", "_law_many"] []) (g_law_draw : mg "_law_draw" = some (.ref fD))
    (F_law_lot : Fun K "_law_lot" "_law_lot" s_law_lot fL fdL) (b_law_lot : Binds K fdL ["_law_pot_here", "_law_n"] []) (g_law_lot : mg "_law_lot" = some (.ref fL)) : FnOk P w K mg base CX0 3 f fd ["_law_pot_here", "_law_n"] (spLawLots K) := by
  have G_law_draw : FnOk P w K mg base CX0 1 fD fdD ["_law_pot_here", "_law_many"] (spDraw K) := ok_draw F_law_draw T
  have G_law_lot : FnOk P w K mg base CX0 2 fL fdL ["_law_pot_here", "_law_n"] (spLawLot K) := ok_law_lot F_law_lot T F_law_draw b_law_draw g_law_draw
  refine Fn.ok sc_law_lots spP.len (fun cdv A outer s H vs Q E hr h => ?_)
  obtain ⟨q, m, F, rfl, ⟨m1, m2⟩, e, g, k0⟩ := h
  obtain ⟨n, rfl⟩ : ∃ n : Nat, m = (n : Int) := ⟨m.toNat, by omega⟩
  have k : ∀ d v F2 H2, RL1 n 20 d → Step (some q) F H F2 H2 → Rp K F2 v d → Q v H2 := k0
  have hn : NOk (n : Int) := ⟨m1, m2⟩
  have toN : (n : Int).toNat = n := by omega
  refine ⟨_, (pss_cons (ps_set (i := 2) sc_law_lots.nd rfl (by first | exact Or.inl rfl | exact Or.inr rfl) (pe_call G_law_draw (hr.mono (by decide)) (by rfl) g_law_draw F_law_draw.kp b_law_draw .nil pass0 (pa_cons (pv 0) (pa_cons pe_int pa_nil))))
    (pss_cons (ps_setLc (i := 3) (own := [("_law_house", 4)]) (g := gName 4) rfl sc_law_lots.nd rfl rfl (sw_true rfl rfl rfl (by decide +kernel)) (pi_range1 (by rfl) T.range (pa_cons (pv 1) pa_nil)) (blkOk_by (own := [("_law_house", 4)]) (N := ["_law_pot_here", "_law_n", "_law_word", "_law_singles", "_law_house", "_law_k", "_law_sure", "_law_rows", "_law_lot_here", "_law_cut"]) (sc := (defScope s_law_lots)) (by decide +kernel)) (fun _ _ _ _ _ => pg_name (i := 4) sc_law_lots.nd rfl (by first | exact Or.inl rfl | exact Or.inr rfl)) (fun _ _ _ _ _ => pts_nil) (fun _ _ _ _ _ => (pe_tup (pa_cons (pv 4) pa_nil))))
    (pss_cons (ps_if (pt_cmpR op_lt (pv 2) pe_int (nomark _)) (pss_one (ps_ret (pv 3))) pss_nil)
    (pss_cons (ps_if (pt_cmpR op_eq (pv 2) pe_int (nomark _)) (pss_one (ps_ret (pe_lc (own := [("_law_k", 5)]) (g := gName 5) rfl sc_law_lots.nd (pi_range1 (by rfl) T.range (pa_cons (pe_op op_add pe_int (pe_call G_law_draw (hr.mono (by decide)) (by rfl) g_law_draw F_law_draw.kp b_law_draw .nil pass0 (pa_cons (pv 0) (pa_cons pe_int pa_nil)))) pa_nil)) (blkOk_by (own := [("_law_k", 5)]) (N := ["_law_pot_here", "_law_n", "_law_word", "_law_singles", "_law_house", "_law_k", "_law_sure", "_law_rows", "_law_lot_here", "_law_cut"]) (sc := (defScope s_law_lots)) (by decide +kernel)) (fun _ _ _ _ _ => pg_name (i := 5) sc_law_lots.nd rfl (by first | exact Or.inl rfl | exact Or.inr rfl)) (fun _ _ _ _ _ => pts_nil) (fun _ _ _ _ _ => (pe_call G_law_lot (hr.mono (by decide)) (by rfl) g_law_lot F_law_lot.kp b_law_lot .nil pass0 (pa_cons (pv 0) (pa_cons (pv 1) pa_nil))))))) pss_nil)
    (pss_cons (ps_if (pt_cmpR op_eq (pv 2) pe_int (nomark _)) (pss_one (ps_ret (pe_op op_cat (pv 3) (pe_lc (own := [("_law_k", 5)]) (g := gName 5) rfl sc_law_lots.nd (pi_range1 (by rfl) T.range (pa_cons (pe_op op_add pe_int (pe_call G_law_draw (hr.mono (by decide)) (by rfl) g_law_draw F_law_draw.kp b_law_draw .nil pass0 (pa_cons (pv 0) (pa_cons pe_int pa_nil)))) pa_nil)) (blkOk_by (own := [("_law_k", 5)]) (N := ["_law_pot_here", "_law_n", "_law_word", "_law_singles", "_law_house", "_law_k", "_law_sure", "_law_rows", "_law_lot_here", "_law_cut"]) (sc := (defScope s_law_lots)) (by decide +kernel)) (fun _ _ _ _ _ => pg_name (i := 5) sc_law_lots.nd rfl (by first | exact Or.inl rfl | exact Or.inr rfl)) (fun _ _ _ _ _ => pts_nil) (fun _ _ _ _ _ => (pe_call G_law_lot (hr.mono (by decide)) (by rfl) g_law_lot F_law_lot.kp b_law_lot .nil pass0 (pa_cons (pv 0) (pa_cons (pv 1) pa_nil)))))))) pss_nil)
    (pss_cons (ps_if (pt_cmpR op_eq (pv 2) pe_int (nomark _)) (pss_cons (ps_set (i := 6) sc_law_lots.nd rfl (by first | exact Or.inl rfl | exact Or.inr rfl) (pe_call G_law_draw (hr.mono (by decide)) (by rfl) g_law_draw F_law_draw.kp b_law_draw .nil pass0 (pa_cons (pv 0) (pa_cons (pv 1) pa_nil))))
    (pss_cons (ps_set (i := 7) sc_law_lots.nd rfl (by first | exact Or.inl rfl | exact Or.inr rfl) (pe_op op_cat (pv 3) (pe_lst (pa_cons (pe_call G_law_lot (hr.mono (by decide)) (by rfl) g_law_lot F_law_lot.kp b_law_lot .nil pass0 (pa_cons (pv 0) (pa_cons (pv 1) pa_nil))) (pa_cons (pe_call G_law_lot (hr.mono (by decide)) (by rfl) g_law_lot F_law_lot.kp b_law_lot .nil pass0 (pa_cons (pv 0) (pa_cons (pv 1) pa_nil))) pa_nil)))))
    (pss_one (ps_ret (pe_lc (own := [("_law_lot_here", 8)]) (g := gName 8) rfl sc_law_lots.nd (i_list (K := K) (pv 7)) (blkOk_by (own := [("_law_lot_here", 8)]) (N := ["_law_pot_here", "_law_n", "_law_word", "_law_singles", "_law_house", "_law_k", "_law_sure", "_law_rows", "_law_lot_here", "_law_cut"]) (sc := (defScope s_law_lots)) (by decide +kernel)) (fun _ _ _ _ _ => pg_name (i := 8) sc_law_lots.nd rfl (by first | exact Or.inl rfl | exact Or.inr rfl)) (fun _ _ _ _ _ => pts_nil) (fun _ _ _ _ _ => (pe_callTy (c_tup (K := K)) (by rfl) T.tuple (by decide +kernel) (pa_cons (pe_lc (own := [("_law_house", 4)]) (g := gName 4) rfl sc_law_lots.nd (i_tup (K := K) (pv 8)) (blkOk_by (own := [("_law_house", 4)]) (N := ["_law_pot_here", "_law_n", "_law_word", "_law_singles", "_law_house", "_law_k", "_law_sure", "_law_rows", "_law_lot_here", "_law_cut"]) (by rfl)) (fun _ _ _ _ _ => pg_name (i := 4) sc_law_lots.nd rfl (by first | exact Or.inl rfl | exact Or.inr rfl)) (fun _ _ _ _ _ => (pts_one (pt_cmpR op_ne (pv 4) (pv 6) (nomark _)))) (fun _ _ _ _ _ => (pv 4))) pa_nil)))))))) pss_nil)
    (pss_cons (ps_set (i := 9) sc_law_lots.nd rfl (by first | exact Or.inl rfl | exact Or.inr rfl) (pe_op op_add (pe_call G_law_draw (hr.mono (by decide)) (by rfl) g_law_draw F_law_draw.kp b_law_draw .nil pass0 (pa_cons (pv 0) (pa_cons (pe_op op_sub (pv 1) pe_int) pa_nil))) pe_int))
    (pss_one (ps_ret (pe_op op_cat (pv 3) (pe_lst (pa_cons (pe_tupRg rfl (by rfl) T.tuple (prg_1 (by rfl) T.range (pv 9))) (pa_cons (pe_tupRg rfl (by rfl) T.tuple (prg_2 (by rfl) T.range (pv 9) (pv 1))) (pa_cons (pe_call G_law_lot (hr.mono (by decide)) (by rfl) g_law_lot F_law_lot.kp b_law_lot .nil pass0 (pa_cons (pv 0) (pa_cons (pv 1) pa_nil))) pa_nil)))))))))))))), ?_⟩
  have lot : ∀ {F' : Hp} {σ' : L2.St} {E' : XK}, σ'[0]? = some (some (.ref q.p)) → σ'[1]? = some (some (.int n)) → EvG K (some q) (tCall (spLawLot K) [] E' (tCons (tVar 0) (tCons (tVar 1) tNil))) σ' F' (RO n) := fun {F' σ' E'} h0 h1 =>
    (g_callP (E := E') (F := F') (P := NOk) (R := fun m => RO m.toNat) (m := n) h0 (g_var (v := .int n) (d := .int n) h1 (.int _)) hn).imp fun d hd => by
      obtain ⟨l, h1, h2⟩ := hd
      exact ⟨l, h1, by rw [toN] at h2; exact h2⟩
  -- the word
  refine t_asg (K := K) (Step.refl e g) (g_callP (m := 6) rfl g_int (by decide)) fun d v F1 H1 hd s1 e1 hv => ?_
  obtain ⟨b, rfl, b0, b1⟩ := hd
  -- singles
  refine t_asgI (K := K) s1 (g_lcEM PyData.int (hs n) (fun h => dT [h]) (w_hs rfl hn) (by rw [hs_len]; omega) (fun _ => rfl) fun h hh F' e' u hu => g_tupI (gs_one (g_var rfl hu)) (by simp)) fun sv F2 H2 s2 e2 hsv => ?_
  obtain rfl := rp_int hv
  have hsv' : Rp K F2 sv (dLT (singles n)) := by unfold singles dLT; rw [List.map_map]; exact hsv
  obtain ⟨sg, sl, sl1⟩ := singles_good (n := n) (by omega)
  have lots : ∀ {F' : Hp} {σ' : L2.St} {j c : Nat} {te : TE} {te' : TE} {vs : List Nat}, (c : Int) ≤ 100 → EvG K (some q) te' σ' F' (fun d => ∃ k : Int, d = .int k ∧ 0 ≤ k ∧ k < (c : Int)) → (∀ x, wipe ((wipe σ' vs).set j (some x)) vs = wipe σ' vs) → (∀ F'' v, EvG K (some q) te ((wipe σ' vs).set j (some v)) F'' (RO n)) →
      EvG K (some q) (tLc (iRng1 (tCons (tOp (rI0 fun i j => .int (i + j)) (tC (.int 1)) te') tNil)) (gName j) tYes te vs) σ' F' (RL1 n c) := fun {F' σ' j c te te' vs} hc h hw he =>
    (g_lcR (α := Unit) dT (OneGood n) (w_rngD hc h) (fun ds hd => by omega) hw fun F'' _ v => he F'' v).imp fun d ⟨ds, ys, hds, hd, hl, hg⟩ => ⟨ys, hd, hg, by have : ds.length ≤ (c : Int).toNat ∧ 1 ≤ ds.length := hds; omega, by have : ds.length ≤ (c : Int).toNat ∧ 1 ≤ ds.length := hds; omega⟩
  -- word < 2
  refine t_when s2 (et_of (K := K) (g_op (g_var rfl (.int b)) g_int fun _ _ h1 h2 => by subst h1 h2; exact rv_bl (g := fun i j => decide (i < j)))) (fun _ F3 H3 s3 e3 => ?_) (fun _ F3 H3 s3 e3 => ?_)
  · exact t_ret s3 (rlI1 (g_var rfl (Rp.mono e3 _ _ hsv')) sg (a := 20) (by omega) sl1) fun d v F4 H4 hd s4 hv => k d v F4 H4 hd s4 hv
  -- word == 2
  refine t_when s3 (et_of (K := K) (g_op (g_var rfl (.int b)) g_int fun _ _ h1 h2 => by subst h1 h2; exact rv_eqI)) (fun _ F4 H4 s4 e4 => ?_) (fun _ F4 H4 s4 e4 => ?_)
  · exact t_ret s4 (lots (c := 4) (by decide) (g_callP (m := 4) rfl g_int (by decide)) (fun _ => rfl) fun F'' v => lot rfl rfl) fun d v F5 H5 ⟨ls, h1, h2, h3, h4⟩ s5 hv => k d v F5 H5 ⟨ls, h1, h2, by omega, h4⟩ s5 hv
  -- word == 3
  refine t_when s4 (et_of (K := K) (g_op (g_var rfl (.int b)) g_int fun _ _ h1 h2 => by subst h1 h2; exact rv_eqI)) (fun _ F5 H5 s5 e5 => ?_) (fun _ F5 H5 s5 e5 => ?_)
  · exact t_ret s5 (g_catRL1 (a := n) (b := 3) (rlI1 (g_var rfl (Rp.mono ((e3.trans e4).trans e5) _ _ hsv')) sg sl sl1) ((lots (c := 3) (by decide) (g_callP (m := 3) rfl g_int (by decide)) (fun _ => rfl) fun F'' v => lot rfl rfl).imp fun d hd => RL1.less hd) (by omega)) fun d v F6 H6 ⟨ls, h1, h2, h3, h4⟩ s6 hv => k d v F6 H6 ⟨ls, h1, h2, by omega, h4⟩ s6 hv
  -- word == 4
  refine t_when s5 (et_of (K := K) (g_op (g_var rfl (.int b)) g_int fun _ _ h1 h2 => by subst h1 h2; exact rv_eqI)) (fun _ F6 H6 s6 e6 => ?_) (fun _ F6 H6 s6 e6 => ?_)
  · -- the sure house
    refine t_asg (K := K) s6 (g_callP (m := n) rfl (g_var (v := .int n) (d := .int n) rfl (.int _)) ⟨by omega, by omega⟩) fun d v F7 H7 hd s7 e7 hv => ?_
    obtain ⟨c, rfl, c0, c1⟩ := hd
    obtain rfl := rp_int hv
    refine t_asg (K := K) s7 (g_catRL1 (a := n) (b := 2) (rlI1 (g_var rfl (Rp.mono (((e3.trans e4).trans e5).trans (e6.trans e7)) _ _ hsv')) sg sl sl1) (g_lstRL (gs_consRO (lot rfl rfl) (gs_consRO (lot rfl rfl) gs_nilR)) (by decide)) (by omega)) fun d v F8 H8 hd s8 e8 hv => ?_
    obtain ⟨ls, rfl, hg, hl, hl1⟩ := hd
    refine t_retI (K := K) s8 (g_lcEM dT ls (fun l => dT (l.filter fun h => !decide (h = c))) (w_listI (g_var rfl hv)) (by omega) (fun _ => rfl) fun l hl F' e' y hy => g_cbI (gs_one (g_lcE PyData.int l (fun h => !decide (h = c)) PyData.int (w_tupI (g_var rfl hy)) (by have := (hg l hl).1; omega) (fun _ => rfl) (fun h hh F'' e'' u hu => ?_) (fun h _ _ F'' e'' u hu => g_var rfl hu))) rc_tupL) fun v F9 H9 s9 hv9 => k _ v F9 H9 ⟨ls.map fun l => l.filter fun h => !decide (h = c), ?_, ?_, ?_, ?_⟩ s9 hv9
    · exact et_of (g_op (g_var rfl hu) (g_var (v := .int c) (d := .int c) rfl (.int c)) fun _ _ h1 h2 => by subst h1 h2; exact rv_neI)
    · unfold dLT; rw [List.map_map]; rfl
    · intro l hl
      obtain ⟨l0, hl0, rfl⟩ := List.mem_map.mp hl
      obtain ⟨g1, g2, g3⟩ := hg l0 hl0
      exact ⟨Nat.le_trans (List.length_filter_le _ _) g1, fun x hx => g2 x (List.mem_filter.mp hx).1, not_all c0 c1 (by simp)⟩
    · rw [List.length_map]; omega
    · rw [List.length_map]; omega
  · -- a cut
    refine t_asg (K := K) (R := fun d => ∃ c : Int, d = .int (c + 1) ∧ 0 ≤ c ∧ c < n - 1) s6 (g_op (g_callP (m := n - 1) rfl (g_op (g_var (v := .int n) (d := .int n) rfl (.int _)) g_int fun _ _ h1 h2 => by subst h1 h2; exact rv_sub) ⟨by omega, by omega⟩) g_int fun d e hd he => ?_) fun d v F7 H7 hd s7 e7 hv => ?_
    · obtain ⟨c, rfl, c0, c1⟩ := hd
      subst he
      intro F H x y i hx hy Q q
      exact rv_add F H x y i hx hy Q fun z v F2 H2 hz s hv => q z v F2 H2 ⟨c, hz, c0, c1⟩ s hv
    obtain ⟨c, rfl, c0, c1⟩ := hd
    obtain rfl := rp_int hv
    obtain ⟨j, rfl⟩ : ∃ j : Nat, c = (j : Int) := ⟨c.toNat, by omega⟩
    refine t_ret s7 (g_catRL1 (a := n) (b := 3) (rlI1 (g_var rfl (Rp.mono (((e3.trans e4).trans e5).trans (e6.trans e7)) _ _ hsv')) sg sl sl1) (g_lstRL (gs_consRO (roI (l := hs (j + 1)) ((g_tupR1 (g_var (v := .int ((j : Int) + 1)) (d := .int ((j : Int) + 1)) rfl (.int _)) (by omega) (by omega)).is ?_) ?_) (gs_consRO (roI (l := (List.range (n - (j + 1))).map fun i : Nat => ((j + 1 : Nat) : Int) + (i : Int)) ((g_tupR2 (g_var (v := .int ((j : Int) + 1)) (d := .int ((j : Int) + 1)) rfl (.int _)) (g_var (v := .int n) (d := .int n) rfl (.int _)) (by omega) (by omega) (by omega) (by omega)).is ?_) ?_) (gs_consRO (lot rfl rfl) gs_nilR))) (by decide)) (by omega)) fun d v F8 H8 ⟨ls, h1, h2, h3, h4⟩ s8 hv => k d v F8 H8 ⟨ls, h1, h2, by omega, h4⟩ s8 hv
    · rw [show ((j : Int) + 1).toNat = j + 1 by omega, rng_hs]
    · refine ⟨by rw [hs_len]; omega, fun x hx => ?_, not_all (k := (n : Int) - 1) (by omega) (by omega) fun hx => ?_⟩
      · have := hs_mem.mp hx; omega
      · have := hs_mem.mp hx; omega
    · rw [show ((n : Int) - ((j : Int) + 1)).toNat = n - (j + 1) by omega]
      unfold rng dT
      rw [List.map_map]
      rfl
    · refine ⟨by simp; omega, fun x hx => ?_, not_all (k := 0) (by omega) (by omega) fun hx => ?_⟩
      · obtain ⟨i, hi, rfl⟩ := List.mem_map.mp hx
        have := List.mem_range.mp hi; omega
      · obtain ⟨i, hi, e⟩ := List.mem_map.mp hx
        omega
end
end K3

namespace K3
open PySem PySem.Spec PyProof.Rows L2 Fv Evl StX
abbrev s_BadInput___init__ : Stmt := inClass (topS 3) 0
theorem sc_BadInput___init__ : FnScope ["self", "what", "house"] ["self", "what", "house"] (defScope s_BadInput___init__) := ⟨rfl, rfl, rfl, by decide +kernel, rfl, by decide +kernel, by decide +kernel⟩
abbrev s_BadView___init__ : Stmt := inClass (topS 4) 0
theorem sc_BadView___init__ : FnScope ["self", "what", "house"] ["self", "what", "house"] (defScope s_BadView___init__) := ⟨rfl, rfl, rfl, by decide +kernel, rfl, by decide +kernel, by decide +kernel⟩
abbrev s_BadLeading___init__ : Stmt := inClass (topS 5) 0
theorem sc_BadLeading___init__ : FnScope ["self", "what"] ["self", "what"] (defScope s_BadLeading___init__) := ⟨rfl, rfl, rfl, by decide +kernel, rfl, by decide +kernel, by decide +kernel⟩
abbrev s_BadFalls___init__ : Stmt := inClass (topS 7) 0
theorem sc_BadFalls___init__ : FnScope ["self", "what", "at"] ["self", "what", "at"] (defScope s_BadFalls___init__) := ⟨rfl, rfl, rfl, by decide +kernel, rfl, by decide +kernel, by decide +kernel⟩
abbrev s_BadLot___init__ : Stmt := inClass (topS 6) 0
theorem sc_BadLot___init__ : FnScope ["self"] ["self"] (defScope s_BadLot___init__) := ⟨rfl, rfl, rfl, by decide +kernel, rfl, by decide +kernel, by decide +kernel⟩
/-- FirmError, at CF -/
structure FirmC (K : PySem.W.Frag) (mg : Str → Option Value) (CF : Addr) (mc : Value) : Prop where
  g : mg "FirmError" = some (.ref CF)
  r : ClX.CRead K CF mc
  v : PySem.W.findCls K (.ref CF) mc "__init__" = some (.val (.builtin "ValueError.__init__"))
/-- an error class nm of the text, at C, its maker at fI, with the fields fl -/
structure ErrC (K : PySem.W.Frag) (mg : Str → Option Value) (CF C fI : Addr) (nm : Str) (fl : List Str) : Prop where
  T : OexC K C
  iC : PySem.W.findIn K (.ref C) "__init__" = some (some (.ref fI))
  tI : PySem.W.typeIn K (.ref fI) = some (.type "function")
  no : ∀ f ∈ fl, PySem.W.findIn K (.ref C) f = some none
  g : mg nm = some (.ref C)
  xf : XfC K C
  self : PySem.W.exmOne K (.ref C) (.ref C) = some true
  up : PySem.W.kitOne K (.ref C) (.ref CF) = some true
  kv : PySem.W.kitOne K (.ref C) (.type "ValueError") = some true
section
variable {P : Program} {w : World} {K : PySem.W.Frag} {mg : Str → Option Value} {base : Heap} {CF C fI : Addr} {mc : Value}
/-- a maker of two fields: a text of few signs, a small number -/
def spI2 (C : Addr) (f1 f2 : Str) : Sp := fun vs H Q _ => ∃ (a : Addr) (x : Str) (i : Int), vs = [.ref a, .str x, .int i] ∧ x.length ≤ 100 ∧ i.natAbs ≤ 1000 ∧ H a = some (exo a C none) ∧
  ∀ dx, H dx = none → dx ≠ a → Q .non (upd (upd (upd H dx (exd dx [(f1, .str x)])) a (exo a C (some dx))) dx (exd dx [(f2, .int i), (f1, .str x)]))
theorem small_log {i : Int} (h : i.natAbs ≤ 1000) : i.natAbs.log2 < 1920 := by
  have : i.natAbs.log2 ≤ (2 ^ 10).log2 := by
    rcases Nat.eq_zero_or_pos i.natAbs with z | z
    · rw [z]; decide
    · exact (Nat.le_log2 (by decide)).mpr (Nat.le_trans (Nat.log2_self_le (by omega)) (by omega))
  have e : (2 ^ 10).log2 = 10 := by decide
  omega
theorem small_text : ∀ n ∈ List.range 1001, (toString (n : Int)).length ≤ 10 ∧ (toString (-(n : Int))).length ≤ 10 := by decide +kernel
theorem joined {σ : L2.St} {H : Hp} {i j : Nat} {a b x : Str} {n : Int} {Q : Str → Hp → Prop} (hx : x.length ≤ 100) (hn : n.natAbs ≤ 1000) (h1 : σ[i]? = some (some (.str x))) (h2 : σ[j]? = some (some (.int n))) (ha : a.length ≤ 100) (hb : b.length ≤ 100) (q : ∀ out, Q out H) :
    tJs [tC (.str a), tFmt (tVar i), tC (.str b), tFmt (tVar j)] Str.empty σ H Q := by
  have e1 : (100000 : Nat) ≤ sizeLine := by decide
  have hl : (Str.ofString (toString n)).length ≤ 20 := by
    rw [PySem.ofString_length]
    exact Nat.le_trans (PySem.int_text_length_le10 (k := 4) (by decide) (by omega)) (by decide)
  have z : Str.empty.length = 0 := rfl
  refine ⟨a, rfl, ?_, _, h1, .inl ⟨x, rfl, by omega, x, rfl, ?_, b, rfl, ?_, _, h2, .inr ⟨n, rfl, small_log hn, _, rfl, ?_, q _⟩⟩⟩
  all_goals simp only [Str.length_append, z]
  all_goals omega
theorem ok_input {fd : FuncData} (Fn : Fun K "__init__" "BadInput.__init__" s_BadInput___init__ fI fd) (FC : FirmC K mg CF mc) (EC : ErrC K mg CF C fI "BadInput" ["what", "house"]) : FnOk P w K mg base CX0 1 fI fd ["self", "what", "house"] (spI2 C "what" "house") := by
  refine Fn.ok sc_BadInput___init__ (fun vs H Q E ⟨_, _, _, h, _⟩ => by rw [h]; rfl) (fun cdv A outer s H vs Q E hr h => ?_)
  obtain ⟨a, x, i, rfl, hx, hi, ho, q⟩ := h
  refine ⟨_, (pss_cons (ps_expr (pe_fminit (by rfl) FC.g FC.r FC.v (pa_cons (pv 0) (pa_cons (pe_joined (PJ.cons pe_str (PJ.cons (pe_fmt (pv 1)) (PJ.cons pe_str (PJ.cons (pe_fmt (pv 2)) PJ.nil))))) pa_nil)))) (pss_cons (ps_ost (pv 0) (pv 1)) (pss_one (ps_ost (pv 0) (pv 2))))), ?_⟩
  refine ⟨_, rfl, ?_⟩
  show tJs _ _ _ _ _
  refine joined (i := 1) (j := 2) hx hi ?_ ?_ ?_ ?_ fun out => ?_
  · rfl
  · rfl
  · decide
  · decide
  · exact ⟨a, C, _, rfl, by simp, EC.T, ho, _, rfl, _, rfl, a, C, rfl, EC.T, EC.no _ (by simp), .inl ⟨ho, fun dx h1 h2 => ⟨_, rfl, _, rfl, a, C, rfl, EC.T, EC.no _ (by simp), .inr ⟨dx, _, upd_same, by rw [upd_ne h2]; exact upd_same, by simp, q dx h1 h2⟩⟩⟩⟩
theorem ok_view {fd : FuncData} (Fn : Fun K "__init__" "BadView.__init__" s_BadView___init__ fI fd) (FC : FirmC K mg CF mc) (EC : ErrC K mg CF C fI "BadView" ["what", "house"]) : FnOk P w K mg base CX0 1 fI fd ["self", "what", "house"] (spI2 C "what" "house") := by
  refine Fn.ok sc_BadView___init__ (fun vs H Q E ⟨_, _, _, h, _⟩ => by rw [h]; rfl) (fun cdv A outer s H vs Q E hr h => ?_)
  obtain ⟨a, x, i, rfl, hx, hi, ho, q⟩ := h
  refine ⟨_, (pss_cons (ps_expr (pe_fminit (by rfl) FC.g FC.r FC.v (pa_cons (pv 0) (pa_cons (pe_joined (PJ.cons pe_str (PJ.cons (pe_fmt (pv 1)) (PJ.cons pe_str (PJ.cons (pe_fmt (pv 2)) PJ.nil))))) pa_nil)))) (pss_cons (ps_ost (pv 0) (pv 1)) (pss_one (ps_ost (pv 0) (pv 2))))), ?_⟩
  refine ⟨_, rfl, ?_⟩
  show tJs _ _ _ _ _
  refine joined (i := 1) (j := 2) hx hi ?_ ?_ ?_ ?_ fun out => ?_
  · rfl
  · rfl
  · decide
  · decide
  · exact ⟨a, C, _, rfl, by simp, EC.T, ho, _, rfl, _, rfl, a, C, rfl, EC.T, EC.no _ (by simp), .inl ⟨ho, fun dx h1 h2 => ⟨_, rfl, _, rfl, a, C, rfl, EC.T, EC.no _ (by simp), .inr ⟨dx, _, upd_same, by rw [upd_ne h2]; exact upd_same, by simp, q dx h1 h2⟩⟩⟩⟩
theorem ok_bfalls {fd : FuncData} (Fn : Fun K "__init__" "BadFalls.__init__" s_BadFalls___init__ fI fd) (FC : FirmC K mg CF mc) (EC : ErrC K mg CF C fI "BadFalls" ["what", "at"]) : FnOk P w K mg base CX0 1 fI fd ["self", "what", "at"] (spI2 C "what" "at") := by
  refine Fn.ok sc_BadFalls___init__ (fun vs H Q E ⟨_, _, _, h, _⟩ => by rw [h]; rfl) (fun cdv A outer s H vs Q E hr h => ?_)
  obtain ⟨a, x, i, rfl, hx, hi, ho, q⟩ := h
  refine ⟨_, (pss_cons (ps_expr (pe_fminit (by rfl) FC.g FC.r FC.v (pa_cons (pv 0) (pa_cons (pe_joined (PJ.cons pe_str (PJ.cons (pe_fmt (pv 1)) (PJ.cons pe_str (PJ.cons (pe_fmt (pv 2)) PJ.nil))))) pa_nil)))) (pss_cons (ps_ost (pv 0) (pv 1)) (pss_one (ps_ost (pv 0) (pv 2))))), ?_⟩
  refine ⟨_, rfl, ?_⟩
  show tJs _ _ _ _ _
  refine joined (i := 1) (j := 2) hx hi ?_ ?_ ?_ ?_ fun out => ?_
  · rfl
  · rfl
  · decide
  · decide
  · exact ⟨a, C, _, rfl, by simp, EC.T, ho, _, rfl, _, rfl, a, C, rfl, EC.T, EC.no _ (by simp), .inl ⟨ho, fun dx h1 h2 => ⟨_, rfl, _, rfl, a, C, rfl, EC.T, EC.no _ (by simp), .inr ⟨dx, _, upd_same, by rw [upd_ne h2]; exact upd_same, by simp, q dx h1 h2⟩⟩⟩⟩
/-- a maker of one field -/
def spI1 (C : Addr) (f1 : Str) : Sp := fun vs H Q _ => ∃ (a : Addr) (x : Str), vs = [.ref a, .str x] ∧ x.length ≤ 100 ∧ H a = some (exo a C none) ∧
  ∀ dx, H dx = none → dx ≠ a → Q .non (upd (upd H dx (exd dx [(f1, .str x)])) a (exo a C (some dx)))
theorem ok_leadE {fd : FuncData} (Fn : Fun K "__init__" "BadLeading.__init__" s_BadLeading___init__ fI fd) (FC : FirmC K mg CF mc) (EC : ErrC K mg CF C fI "BadLeading" ["what"]) : FnOk P w K mg base CX0 1 fI fd ["self", "what"] (spI1 C "what") := by
  refine Fn.ok sc_BadLeading___init__ (fun vs H Q E ⟨_, _, h, _⟩ => by rw [h]; rfl) (fun cdv A outer s H vs Q E hr h => ?_)
  obtain ⟨a, x, rfl, hx, ho, q⟩ := h
  have e1 : (100000 : Nat) ≤ sizeLine := by decide
  have z : Str.empty.length = 0 := rfl
  have z2 : (Str.ofString "no leading: ").length ≤ 100 := by decide
  refine ⟨_, (pss_cons (ps_expr (pe_fminit (by rfl) FC.g FC.r FC.v (pa_cons (pv 0) (pa_cons (pe_joined (PJ.cons pe_str (PJ.cons (pe_fmt (pv 1)) PJ.nil))) pa_nil)))) (pss_one (ps_ost (pv 0) (pv 1)))), ?_⟩
  refine ⟨_, rfl, ?_⟩
  show tJs _ _ _ _ _
  refine ⟨_, rfl, ?_, _, rfl, .inl ⟨x, rfl, by omega, x, rfl, ?_, ?_⟩⟩
  · rw [Str.length_append, z]; omega
  · rw [Str.length_append, Str.length_append, z]; omega
  · exact ⟨a, C, _, rfl, by simp, EC.T, ho, _, rfl, _, rfl, a, C, rfl, EC.T, EC.no _ (by simp), .inl ⟨ho, fun dx h1 h2 => q dx h1 h2⟩⟩
end
end K3

namespace Fv
open PySem PySem.Spec PyProof.Rows L2 Evl StX
theorem FnOk.or {P : Program} {w : World} {K : PySem.W.Frag} {mg : Str → Option Value} {base : Heap} {CX : CXT} {k : Nat} {f : Addr} {fd : FuncData} {ps : List Str} {s1 s2 : Sp} (h1 : FnOk P w K mg base CX k f fd ps s1) (h2 : FnOk P w K mg base CX k f fd ps s2) : FnOk P w K mg base CX k f fd ps (fun vs H Q E => s1 vs H Q E ∨ s2 vs H Q E) :=
  ⟨fun vs H Q E h => h.elim (h1.len vs H Q E) (h2.len vs H Q E), fun A out s H as us vs Q E r e0 b rv h => h.elim (h1.run A out s H as us vs Q E r e0 b rv) (h2.run A out s H as us vs Q E r e0 b rv)⟩
end Fv
namespace K3
open PySem PySem.Spec PyProof.Rows L2 Fv Evl StX
abbrev s_check_entry : Stmt := topS 13
theorem sc_check_entry : FnScope ["houses", "values", "entry", "house"] ["houses", "values", "entry"] (defScope s_check_entry) := ⟨rfl, rfl, rfl, by decide +kernel, rfl, by decide +kernel, by decide +kernel⟩
abbrev s_check_view : Stmt := topS 14
theorem sc_check_view : FnScope ["houses", "values", "view", "house"] ["houses", "values", "view"] (defScope s_check_view) := ⟨rfl, rfl, rfl, by decide +kernel, rfl, by decide +kernel, by decide +kernel⟩
def SeqD (d : PyData) (ds : List PyData) : Prop := d = .list ds ∨ d = .tuple ds
/-- d is no row of n cells that are all ok: the word, the place -/
inductive RowBad (n : Nat) (ok : PyData → Bool) : PyData → Str → Nat → Prop
  | kind (d : PyData) (h : (isL d || isT d) = false) : RowBad n ok d "length" 0
  | len (d : PyData) (ds : List PyData) (h : SeqD d ds) (hl : ds.length ≠ n) (hz : ds.length ≤ 1000) : RowBad n ok d "length" 0
  | val (d : PyData) (ds : List PyData) (i : Nat) (h : SeqD d ds) (hl : ds.length = n) (hi : i < ds.length) (hj : ∀ j (q : j < i), ok (ds[j]'(by omega)) = true) (hb : ok ds[i] = false) : RowBad n ok d "value" i
def okE (m : Nat) (d : PyData) : Bool := isWhole (some 0) (some ((m : Int) - 1)) d
def okV (m : Nat) (d : PyData) : Bool := isNone d || okE m d
section
variable {P : Program} {w : World} {K : PySem.W.Frag} {mg : Str → Option Value} {base : Heap} {CF C fI : Addr} {mc : Value}
variable {pt : Option Pt} {σ : L2.St} {F F0 H0 H : Hp} {te ta tb : TE} {ts tr : TA} {D : Ends} {tz : TS}
theorem kindB {d : PyData} {ds : List PyData} (h : SeqD d ds) : (isL d || isT d) = true := by rcases h with rfl | rfl <;> rfl
/-- a new error of two fields flies -/
theorem r_mk2 {f1 f2 x : Str} {i : Int} {Q : XK} (e : Ex F H) (h : EvsG K none ts σ F (· = [.str x, .int i])) (hx : x.length ≤ 100) (hi : i.natAbs ≤ 1000) (q : ∀ F2 H2 dx, Step none F H F2 H2 → F2 dx = some (.xd [(f2, .int i), (f1, .str x)]) → Q (.ref C) (some dx) H2) :
    tMkO C (spI2 C f1 f2) [] ts σ H Q := h H e .nil _ fun ds vs F2 H2 hd st hv => by
  subst hd
  obtain ⟨v1, v2, rfl, h1, h2⟩ := rpAll2 hv
  obtain rfl := rp_str h1
  obtain rfl := rp_int h2
  refine ⟨by simp, fun a ha => ⟨a, x, i, rfl, hx, hi, upd_same, fun dx h1 h2 => ⟨rfl, dx, _, ?_, upd_same, ?_, ?_⟩⟩⟩
  · rw [upd_ne (Ne.symm h2)]; exact upd_same
  · rw [upd_ne h2] at h1; exact h1
  · rw [upd_ne h2] at h1
    have eh : ∀ (y z : HO) (fs : List (Str × V)), upd (L2.del (upd (upd (upd (upd H2 a y) dx z) a (exo a C (some dx))) dx (exd dx fs)) a) dx (.xd fs) = upd H2 dx (.xd fs) := fun y z fs => by
      funext b
      by_cases zz : b = dx
      · rw [zz, upd_same, upd_same]
      · rw [upd_ne zz, upd_ne zz]
        by_cases yy : b = a
        · rw [yy, L2.del_same, ha]
        · rw [L2.del_ne yy, upd_ne zz, upd_ne yy, upd_ne zz, upd_ne yy]
    rw [eh]
    have s3 : Step none F2 H2 (upd F2 dx (.xd [(f2, .int i), (f1, .str x)])) (upd H2 dx (.xd [(f2, .int i), (f1, .str x)])) := .laid st.inn .nil h1
    exact q _ _ dx (st.trans s3) upd_same
/-- is_sequence, of data or of an empty dict -/
def spSeqD (K : PySem.W.Frag) : Sp := fun vs H Q _ => ∃ (a : Addr) (F : Hp), vs = [.ref a] ∧ Ex F H ∧ F a = some (.dK []) ∧ ∀ u F2 H2, Step none F H F2 H2 → Rp K F2 u (.bool false) → Q u H2
def spSeqU (K : PySem.W.Frag) : Sp := fun vs H Q E => spSeq K vs H Q E ∨ spSeqD K vs H Q E
theorem ok_seqU {f : Addr} {fd : FuncData} (Fn : Fun K "is_sequence" "is_sequence" s_is_sequence f fd) (T : Tx mg) : FnOk P w K mg base CX0 1 f fd ["thing"] (spSeqU K) := by
  refine FnOk.or (ok_seq Fn T) (Fn.ok sc_is_sequence (fun vs H Q E ⟨_, _, h, _⟩ => by rw [h]; rfl) (fun cdv A outer s H vs Q E hr h => ?_))
  obtain ⟨a, F, rfl, e, hd, q⟩ := h
  exact ⟨_, (pss_one (ps_ret (pe_callB (c_isiT (K := K)) (by rfl) T.isinstance (by decide +kernel) (pa_cons (pv 0) (pa_cons (pe_tup (pa_cons (pe_bltn (v := .ty "list") (by rfl) T.list (by decide +kernel) rfl) (pa_cons (pe_bltn (v := .ty "tuple") (by rfl) T.tuple (by decide +kernel) rfl) pa_nil))) pa_nil))))), t_retI (K := K) (Step.refl e .nil) (g_isi2D rfl hd) q⟩
theorem g_seq {E : XK} (d : PyData) (h : EvG K pt te σ F (Is d)) : EvG K pt (tCall (spSeqU K) [] E (tCons te tNil)) σ F (Is (.bool (isL d || isT d))) := fun H1 e g Q q =>
  h H1 e g _ fun d' v F2 H2 hd s hv => by
    subst hd
    exact .inl ⟨d', F2, trivial, s.inn, .cons hv .nil, fun v F3 H3 s3 hv3 => q _ v F3 H3 rfl (s.trans (s3.lift s.good)) hv3⟩
theorem g_seqD {E : XK} {i : Nat} {a : Addr} (h0 : σ[i]? = some (some (.ref a))) (hd : F a = some (.dK [])) : EvG K pt (tCall (spSeqU K) [] E (tCons (tVar i) tNil)) σ F (Is (.bool false)) := fun H1 e g Q q =>
  ⟨_, h0, .inr ⟨a, F, rfl, e, hd, fun u F2 H2 s hu => q _ u F2 H2 rfl (s.lift g) hu⟩⟩
/-- what is no row: data, or an empty dict -/
def BadV (K : PySem.W.Frag) (F : Hp) (n : Nat) (ok : PyData → Bool) (v : V) (w : Str) (i : Nat) : Prop := (∃ d, Rp K F v d ∧ RowBad n ok d w i) ∨ ∃ a, v = .ref a ∧ F a = some (.dK []) ∧ w = "length" ∧ i = 0
theorem BadV.mono {F' : Hp} {n : Nat} {ok : PyData → Bool} {v : V} {w : Str} {i : Nat} (e : Ex F F') (h : BadV K F n ok v w i) : BadV K F' n ok v w i := by
  rcases h with ⟨d, h1, h2⟩ | ⟨a, h1, h2, h3⟩
  · exact .inl ⟨d, Rp.mono e _ _ h1, h2⟩
  · exact .inr ⟨a, h1, e _ _ h2, h3⟩
def spBadE (K : PySem.W.Frag) (C : Addr) (ok : Nat → PyData → Bool) : Sp := fun vs H _ E => ∃ (n m : Nat) (v : V) (w : Str) (i : Nat) (F : Hp), vs = [.int n, .int m, v] ∧ n ≤ 5 ∧ m ≤ 5 ∧ BadV K F n (ok m) v w i ∧ Ex F H ∧
  ∀ F2 H2 dd, Step none F H F2 H2 → F2 dd = some (.xd [("house", .int i), ("what", .str w)]) → E (.ref C) (some dd) H2
theorem ok_entryX {f fS fW : Addr} {fd fdS fdW fdI : FuncData} (Fn : Fun K "check_entry" "check_entry" s_check_entry f fd) (T : Tx mg) (FC : FirmC K mg CF mc) (E_BadInput : ErrC K mg CF C fI "BadInput" ["what", "house"])
    (FI : Fun K "__init__" "BadInput.__init__" s_BadInput___init__ fI fdI) (bI_BadInput : Binds K fdI ["self", "what", "house"] [])
    (F_is_sequence : Fun K "is_sequence" "is_sequence" s_is_sequence fS fdS) (b_is_sequence : Binds K fdS ["thing"] []) (g_is_sequence : mg "is_sequence" = some (.ref fS))
    (F_is_whole : FunW K fW fdW) (b_is_whole : Binds K fdW ["thing", "low", "high"] []) (g_is_whole : mg "is_whole" = some (.ref fW)) : FnOk P w K mg base (L2.CX P w) 3 f fd ["houses", "values", "entry"] (spBadE K C okE) := by
  have GI_BadInput : FnOk P w K mg base CX0 1 fI fdI ["self", "what", "house"] (spI2 C "what" "house") := ok_input FI FC E_BadInput
  have G_is_sequence : FnOk P w K mg base CX0 1 fS fdS ["thing"] (spSeqU K) := ok_seqU F_is_sequence T
  have G_is_whole : FnOk P w K mg base CX0 1 fW fdW ["thing", "low", "high"] (spWhole K) := ok_whole F_is_whole T
  refine Fn.okX sc_check_entry (fun vs H Q E ⟨_, _, _, _, _, _, h, _⟩ => by rw [h]; rfl) (fun cdv A outer s H vs Q E hr h => ?_)
  obtain ⟨n, m, v, w0, i, F, rfl, hn, hm, hb0, e, q⟩ := h
  refine ⟨_, (pss_cons (ps_if (PW.pt (pw_or (pt_not (pt_val (pe_call G_is_sequence (hr.mono (by decide)) (by rfl) g_is_sequence F_is_sequence.kp b_is_sequence .nil pass0 (pa_cons (pv 2) pa_nil)))) (pw_or1 (pt_cmpR op_ne (pe_callB (c_len (K := K)) (by rfl) T.len (by decide +kernel) (pa_cons (pv 2) pa_nil)) (pv 0) (nomark _))))) (pss_one (ps_raise rfl (takes_of rfl rfl rfl rfl) (pmk_oex E_BadInput.T E_BadInput.iC E_BadInput.tI GI_BadInput (hr.mono (by decide)) bI_BadInput .nil pass0 (by rfl) E_BadInput.g (pa_cons pe_str (pa_cons pe_int pa_nil))))) pss_nil)
    (pss_cons (ps_for (passes_of rfl) rfl (pi_range1 (by rfl) T.range (pa_cons (pv 0) pa_nil)) (pg_name (i := 3) sc_check_entry.nd rfl (by first | exact Or.inl rfl | exact Or.inr rfl)) (pss_one (ps_if (pt_not (pt_val (pe_call G_is_whole (hr.mono (by decide)) (by rfl) g_is_whole F_is_whole.kp b_is_whole .nil pass0 (pa_cons (pe_ix (o_ix (K := K)) (pv 2) (pv 3) (fun _ _ => rfl)) (pa_cons pe_int (pa_cons (pe_op op_sub (pv 1) pe_int) pa_nil)))))) (pss_one (ps_raise rfl (takes_of rfl rfl rfl rfl) (pmk_oex E_BadInput.T E_BadInput.iC E_BadInput.tI GI_BadInput (hr.mono (by decide)) bI_BadInput .nil pass0 (by rfl) E_BadInput.g (pa_cons pe_str (pa_cons (pv 3) pa_nil))))) pss_nil)))
    (pss_one (ps_ret (pe_callTy (c_tup (K := K)) (by rfl) T.tuple (by decide +kernel) (pa_cons (pv 2) pa_nil)))))), ?_⟩
  rcases hb0 with ⟨d, hv, hb⟩ | ⟨a, rfl, hd, rfl, rfl⟩
  case inr =>
    refine t_when (b := true) (Step.refl e .nil) ((et_or (a := true) (b := true) ((et_not (b := false) (et_B (g_seqD rfl hd))).is rfl) (fun z => by cases z)).is rfl) (fun _ F2 H2 s2 e2 => ?_) (fun z => by cases z)
    exact r_mk2 (K := K) s2.inn (gs_two g_str g_int) (by decide) (by decide) fun F3 H3 dx s3 h3 => q F3 H3 dx (s2.trans s3) h3
  cases hb with
  | kind h =>
    refine t_when (b := true) (Step.refl e .nil) ((et_or (a := true) (b := true) ((et_not (b := false) (et_B ((g_seq d (g_var rfl hv)).is (by rw [h])))).is rfl) (fun z => by cases z)).is rfl) (fun _ F2 H2 s2 e2 => ?_) (fun z => by cases z)
    exact r_mk2 (K := K) s2.inn (gs_two g_str g_int) (by decide) (by decide) fun F3 H3 dx s3 h3 => q F3 H3 dx (s2.trans s3) h3
  | len ds h hl hz =>
    refine t_when (b := true) (Step.refl e .nil) ((et_or (a := false) (b := true) ((et_not (b := true) (et_B ((g_seq d (g_var rfl hv)).is (by rw [kindB h])))).is rfl) fun _ => (et_of (g_opI (g_cbI (gs_one (g_var rfl hv)) (rc_lenS h)) (g_var (v := .int n) rfl (.int _)) rv_neI)).is (by
      have : (ds.length : Int) ≠ (n : Int) := by omega
      simp [this])).is rfl) (fun _ F2 H2 s2 e2 => ?_) (fun z => by cases z)
    exact r_mk2 (K := K) s2.inn (gs_two g_str g_int) (by decide) (by decide) fun F3 H3 dx s3 h3 => q F3 H3 dx (s2.trans s3) h3
  | val ds i h hl hi hj hb =>
    refine t_skip (Step.refl e .nil) ((et_or (a := false) (b := false) ((et_not (b := true) (et_B ((g_seq d (g_var rfl hv)).is (by rw [kindB h])))).is rfl) fun _ => (et_of (g_opI (g_cbI (gs_one (g_var rfl hv)) (rc_lenS h)) (g_var (v := .int n) rfl (.int _)) rv_neI)).is (by simp [hl])).is rfl) fun F2 H2 s2 e2 => ?_
    refine t_for (K := K) (ds := rng 0 n) s2 (w_rng1I (n := (n : Int)) (gs_one (g_var (v := .int n) rfl (.int _))) (by omega) (by omega)) (fun k σ' F' => k ≤ i ∧ ∃ z, σ' = [some (.int n), some (.int m), some v, z]) (fun F2 e2 => ⟨Nat.zero_le _, none, rfl⟩) (fun k d' hd σ' F' H' u hI s' e' hu N hN => ?_) (fun σ' F' H' hI s' e' => ?_)
    · obtain ⟨hki, z, rfl⟩ := hI
      have hkn : k < n := by omega
      rw [rng_get hkn] at hd
      obtain rfl := Option.some.inj hd
      have ix : atI ds (0 + (k : Int)) = some (ds[k]'(by omega)) := by
        rw [Int.zero_add]; exact atI_nat (List.getElem?_eq_getElem _)
      have tst : EtG none (tNot (tB (tCall (spWhole K) [] E0 (tCons (tOp (rIx K) (tVar 2) (tVar 3)) (tCons (tC (.int 0)) (tCons (tOp rSub (tVar 1) (tC (.int 1))) tNil)))))) [some (.int n), some (.int m), some v, some u] F' (· = !okE m (ds[k]'(by omega))) :=
        et_not (et_B (g_call (ds[k]'(by omega), some 0, some ((m : Int) - 1)) (gs_three (g_opI (g_var rfl (Rp.mono (e2.trans e') _ _ hv)) (g_var rfl hu) (rv_ix h ix)) g_int (g_opI (g_var (v := .int m) (d := .int m) rfl (.int _)) g_int rv_sub)) rfl trivial))
      by_cases hlt : k < i
      · refine t_if1 (b := false) s' (tst.is (by rw [hj k hlt]; rfl)) (fun z => by cases z) (fun _ F3 H3 s3 e3 => hN _ F3 H3 ⟨by omega, _, rfl⟩ s3 e3)
      · have hk : k = i := by omega
        subst hk
        refine t_if1 (b := true) s' (tst.is (by rw [hb]; rfl)) (fun _ F3 H3 s3 e3 => ?_) (fun z => by cases z)
        exact r_mk2 (K := K) (i := (k : Int)) s3.inn (gs_two g_str ((g_var rfl (Rp.mono e3 _ _ hu)).is (by rw [Int.zero_add]))) (by decide) (by omega) fun F4 H4 dx s4 h4 => q F4 H4 dx (s3.trans s4) h4
    · obtain ⟨hki, _⟩ := hI
      rw [rng_len] at hki
      omega
theorem ok_viewX {f fS fW : Addr} {fd fdS fdW fdI : FuncData} (Fn : Fun K "check_view" "check_view" s_check_view f fd) (T : Tx mg) (FC : FirmC K mg CF mc) (E_BadView : ErrC K mg CF C fI "BadView" ["what", "house"])
    (FI : Fun K "__init__" "BadView.__init__" s_BadView___init__ fI fdI) (bI_BadView : Binds K fdI ["self", "what", "house"] [])
    (F_is_sequence : Fun K "is_sequence" "is_sequence" s_is_sequence fS fdS) (b_is_sequence : Binds K fdS ["thing"] []) (g_is_sequence : mg "is_sequence" = some (.ref fS))
    (F_is_whole : FunW K fW fdW) (b_is_whole : Binds K fdW ["thing", "low", "high"] []) (g_is_whole : mg "is_whole" = some (.ref fW)) : FnOk P w K mg base (L2.CX P w) 3 f fd ["houses", "values", "view"] (spBadE K C okV) := by
  have GI_BadView : FnOk P w K mg base CX0 1 fI fdI ["self", "what", "house"] (spI2 C "what" "house") := ok_view FI FC E_BadView
  have G_is_sequence : FnOk P w K mg base CX0 1 fS fdS ["thing"] (spSeqU K) := ok_seqU F_is_sequence T
  have G_is_whole : FnOk P w K mg base CX0 1 fW fdW ["thing", "low", "high"] (spWhole K) := ok_whole F_is_whole T
  refine Fn.okX sc_check_view (fun vs H Q E ⟨_, _, _, _, _, _, h, _⟩ => by rw [h]; rfl) (fun cdv A outer s H vs Q E hr h => ?_)
  obtain ⟨n, m, v, w0, i, F, rfl, hn, hm, hb0, e, q⟩ := h
  refine ⟨_, (pss_cons (ps_if (PW.pt (pw_or (pt_not (pt_val (pe_call G_is_sequence (hr.mono (by decide)) (by rfl) g_is_sequence F_is_sequence.kp b_is_sequence .nil pass0 (pa_cons (pv 2) pa_nil)))) (pw_or1 (pt_cmpR op_ne (pe_callB (c_len (K := K)) (by rfl) T.len (by decide +kernel) (pa_cons (pv 2) pa_nil)) (pv 0) (nomark _))))) (pss_one (ps_raise rfl (takes_of rfl rfl rfl rfl) (pmk_oex E_BadView.T E_BadView.iC E_BadView.tI GI_BadView (hr.mono (by decide)) bI_BadView .nil pass0 (by rfl) E_BadView.g (pa_cons pe_str (pa_cons pe_int pa_nil))))) pss_nil)
    (pss_cons (ps_for (passes_of rfl) rfl (pi_range1 (by rfl) T.range (pa_cons (pv 0) pa_nil)) (pg_name (i := 3) sc_check_view.nd rfl (by first | exact Or.inl rfl | exact Or.inr rfl)) (pss_one (ps_if (PW.pt (pw_and (pt_cmpR op_notN (pe_ix (o_ix (K := K)) (pv 2) (pv 3) (fun _ _ => rfl)) pe_non (nomark _)) (pw_and1 (pt_not (pt_val (pe_call G_is_whole (hr.mono (by decide)) (by rfl) g_is_whole F_is_whole.kp b_is_whole .nil pass0 (pa_cons (pe_ix (o_ix (K := K)) (pv 2) (pv 3) (fun _ _ => rfl)) (pa_cons pe_int (pa_cons (pe_op op_sub (pv 1) pe_int) pa_nil))))))))) (pss_one (ps_raise rfl (takes_of rfl rfl rfl rfl) (pmk_oex E_BadView.T E_BadView.iC E_BadView.tI GI_BadView (hr.mono (by decide)) bI_BadView .nil pass0 (by rfl) E_BadView.g (pa_cons pe_str (pa_cons (pv 3) pa_nil))))) pss_nil)))
    (pss_one (ps_ret (pe_callTy (c_tup (K := K)) (by rfl) T.tuple (by decide +kernel) (pa_cons (pv 2) pa_nil)))))), ?_⟩
  rcases hb0 with ⟨d, hv, hb⟩ | ⟨a, rfl, hd, rfl, rfl⟩
  case inr =>
    refine t_when (b := true) (Step.refl e .nil) ((et_or (a := true) (b := true) ((et_not (b := false) (et_B (g_seqD rfl hd))).is rfl) (fun z => by cases z)).is rfl) (fun _ F2 H2 s2 e2 => ?_) (fun z => by cases z)
    exact r_mk2 (K := K) s2.inn (gs_two g_str g_int) (by decide) (by decide) fun F3 H3 dx s3 h3 => q F3 H3 dx (s2.trans s3) h3
  cases hb with
  | kind h =>
    refine t_when (b := true) (Step.refl e .nil) ((et_or (a := true) (b := true) ((et_not (b := false) (et_B ((g_seq d (g_var rfl hv)).is (by rw [h])))).is rfl) (fun z => by cases z)).is rfl) (fun _ F2 H2 s2 e2 => ?_) (fun z => by cases z)
    exact r_mk2 (K := K) s2.inn (gs_two g_str g_int) (by decide) (by decide) fun F3 H3 dx s3 h3 => q F3 H3 dx (s2.trans s3) h3
  | len ds h hl hz =>
    refine t_when (b := true) (Step.refl e .nil) ((et_or (a := false) (b := true) ((et_not (b := true) (et_B ((g_seq d (g_var rfl hv)).is (by rw [kindB h])))).is rfl) fun _ => (et_of (g_opI (g_cbI (gs_one (g_var rfl hv)) (rc_lenS h)) (g_var (v := .int n) rfl (.int _)) rv_neI)).is (by
      have : (ds.length : Int) ≠ (n : Int) := by omega
      simp [this])).is rfl) (fun _ F2 H2 s2 e2 => ?_) (fun z => by cases z)
    exact r_mk2 (K := K) s2.inn (gs_two g_str g_int) (by decide) (by decide) fun F3 H3 dx s3 h3 => q F3 H3 dx (s2.trans s3) h3
  | val ds i h hl hi hj hb =>
    refine t_skip (Step.refl e .nil) ((et_or (a := false) (b := false) ((et_not (b := true) (et_B ((g_seq d (g_var rfl hv)).is (by rw [kindB h])))).is rfl) fun _ => (et_of (g_opI (g_cbI (gs_one (g_var rfl hv)) (rc_lenS h)) (g_var (v := .int n) rfl (.int _)) rv_neI)).is (by simp [hl])).is rfl) fun F2 H2 s2 e2 => ?_
    refine t_for (K := K) (ds := rng 0 n) s2 (w_rng1I (n := (n : Int)) (gs_one (g_var (v := .int n) rfl (.int _))) (by omega) (by omega)) (fun k σ' F' => k ≤ i ∧ ∃ z, σ' = [some (.int n), some (.int m), some v, z]) (fun F2 e2 => ⟨Nat.zero_le _, none, rfl⟩) (fun k d' hd σ' F' H' u hI s' e' hu N hN => ?_) (fun σ' F' H' hI s' e' => ?_)
    · obtain ⟨hki, z, rfl⟩ := hI
      have hkn : k < n := by omega
      rw [rng_get hkn] at hd
      obtain rfl := Option.some.inj hd
      have ix : atI ds (0 + (k : Int)) = some (ds[k]'(by omega)) := by
        rw [Int.zero_add]; exact atI_nat (List.getElem?_eq_getElem _)
      have ixv : ∀ {F' : Hp}, Ex F F' → ∀ {u : V}, Rp K F' u (.int (0 + (k : Int))) → EvG K none (tOp (rIx K) (tVar 2) (tVar 3)) [some (.int n), some (.int m), some v, some u] F' (Is (ds[k]'(by omega))) := fun e2 _ hu => g_opI (g_var rfl (Rp.mono e2 _ _ hv)) (g_var rfl hu) (rv_ix h ix)
      have tst : EtG none (tAnd (tTest (tOp (fun x y H Q => y = .non ∧ Q (.bl (!decide (x = .non))) H) (tOp (rIx K) (tVar 2) (tVar 3)) (tC .non))) (tNot (tB (tCall (spWhole K) [] E0 (tCons (tOp (rIx K) (tVar 2) (tVar 3)) (tCons (tC (.int 0)) (tCons (tOp rSub (tVar 1) (tC (.int 1))) tNil))))))) [some (.int n), some (.int m), some v, some u] F' (· = !okV m (ds[k]'(by omega))) :=
        (et_and (a := !isNone (ds[k]'(by omega))) (b := !okE m (ds[k]'(by omega))) ((et_of (g_opI (ixv (e2.trans e') hu) g_non rv_notN)).is (by cases ds[k]'(by omega) <;> rfl)) fun _ => et_not (et_B (g_call (ds[k]'(by omega), some 0, some ((m : Int) - 1)) (gs_three (ixv (e2.trans e') hu) g_int (g_opI (g_var (v := .int m) (d := .int m) rfl (.int _)) g_int rv_sub)) rfl trivial))).is (by unfold okV; rw [Bool.not_or])
      by_cases hlt : k < i
      · refine t_if1 (b := false) s' (tst.is (by rw [hj k hlt]; rfl)) (fun z => by cases z) (fun _ F3 H3 s3 e3 => hN _ F3 H3 ⟨by omega, _, rfl⟩ s3 e3)
      · have hk : k = i := by omega
        subst hk
        refine t_if1 (b := true) s' (tst.is (by rw [hb]; rfl)) (fun _ F3 H3 s3 e3 => ?_) (fun z => by cases z)
        exact r_mk2 (K := K) (i := (k : Int)) s3.inn (gs_two g_str ((g_var rfl (Rp.mono e3 _ _ hu)).is (by rw [Int.zero_add]))) (by decide) (by omega) fun F4 H4 dx s4 h4 => q F4 H4 dx (s3.trans s4) h4
    · obtain ⟨hki, _⟩ := hI
      rw [rng_len] at hki
      omega
end
end K3

namespace Fv
open PySem PySem.Spec PyProof.Rows L2 L2H Evl StX
section
variable {K : PySem.W.Frag} {pt : Option Pt} {σ : L2.St} {F : Hp} {te : TE} {d : PyData} {a C dd : Addr} {cls : Value}
theorem g_isY {i : Nat} {c : V} {cv : Value} (h0 : σ[i]? = some (some (.ref a))) (hc : ∀ u, RelV c u → u = cv) (hk : PySem.W.kitOne K cls cv = some true) : EvG K pt (tCB (rIsY K cls a) (tCons (tVar i) (tCons (tC c) tNil))) σ F (Is (.bool true)) := fun H1 e g Q q =>
  ⟨_, h0, c, cv, rfl, hc, hk, q _ _ F H1 rfl (.refl e g) (.bl true)⟩
theorem g_xf {i : Nat} {n : Str} {fs : List (Str × V)} {v : V} (h0 : σ[i]? = some (some (.ref a))) (hd : F dd = some (.xd fs)) (hl : fs.lookup n = some v) (hv : Rp K F v d) : EvG K pt (tXf a (.ref C) (some dd) C n (tVar i)) σ F (Is d) := fun H1 e g Q q =>
  ⟨_, h0, rfl, rfl, dd, fs, v, rfl, e _ _ hd, hl, q _ v F H1 rfl (.refl e g) hv⟩
end
end Fv
namespace K3
open PySem PySem.Spec PyProof.Rows L2 L2H Fv Evl StX
abbrev s_law_told : Stmt := topS 30
theorem sc_law_told : FnScope ["_law_why", "_law_base"] ["_law_why", "_law_base"] (defScope s_law_told) := ⟨rfl, rfl, rfl, by decide +kernel, rfl, by decide +kernel, by decide +kernel⟩
abbrev s_law_check : Stmt := topS 31
theorem sc_law_check : FnScope ["_law_n", "_law_m", "_law_row", "_law_views", "_law_found", "_law_why"] ["_law_n", "_law_m", "_law_row", "_law_views"] (defScope s_law_check) := ⟨rfl, rfl, rfl, by decide +kernel, rfl, by decide +kernel, by decide +kernel⟩
section
variable {P : Program} {w : World} {K : PySem.W.Frag} {mg : Str → Option Value} {base : Heap} {CF CV CI fV fI : Addr} {mc : Value}
variable {pt : Option Pt} {σ : L2.St} {F F0 H0 H : Hp} {te ta tb : TE} {ts tr : TA} {D : Ends} {tz : TS}
def spTold (K : PySem.W.Frag) (CF : Addr) (cls : Value) (a : Addr) : Sp := fun vs H Q _ => ∃ (v : V) (d : PyData) (F : Hp), vs = [.ref a, v] ∧ PySem.W.kitOne K cls (.ref CF) = some true ∧ PySem.W.kitOne K cls (.type "ValueError") = some true ∧ Ex F H ∧ Rp K F v d ∧
  ∀ u F2 H2, Step none F H F2 H2 → Rp K F2 u d → Q u H2
theorem ok_told {f : Addr} {fd : FuncData} (Fn : Fun K "_law_told" "_law_told" s_law_told f fd) (T : Tx mg) (zV : mg "ValueError" = none) (FC : FirmC K mg CF mc) (cls : Value) : FnT P w K mg base 1 f fd ["_law_why", "_law_base"] cls (spTold K CF cls) := by
  obtain ⟨oc, od, kV, doc, pm, an, cdv, ct, osl, rfl, lk, hc⟩ := Fn.ex
  refine fnT_mk lk hc sc_law_told (fun a vs H Q E ⟨_, _, _, h, _⟩ => by rw [h]; rfl) fun A out s H vs Q E z hz room h => ?_
  obtain ⟨v, d, F, rfl, k1, k2, e, hv, q⟩ := h
  refine ⟨_, (pss_one (ps_ret (pe_ifExp (PW.pt (pw_and (pt_val (pe_callB (c_isP (K := K) (a := z.1) (oe := z.2) (cls := cls) (by exact List.mem_cons_self) hz) (by rfl) T.isinstance (by decide +kernel) (pa_cons (pv 0) (pa_cons (pe_glob (v := .ref CF) (by rfl) FC.g rfl) pa_nil))))
    (pw_and1 (pt_val (pe_callB (c_isP (K := K) (a := z.1) (oe := z.2) (cls := cls) (by exact List.mem_cons_self) hz) (by rfl) T.isinstance (by decide +kernel) (pa_cons (pv 0) (pa_cons (pe_bltn (v := .ty "ValueError") (by rfl) zV (by decide +kernel) rfl) pa_nil))))))) (pv 1) pe_non))), ?_⟩
  exact t_retI (K := K) (Step.refl e .nil) (g_if (R := Is d) (b := true) ((et_and (a := true) (b := true) (et_B (g_isY (c := .ref CF) (cv := .ref CF) rfl (fun u r => r) k1)) fun _ => et_B (g_isY (c := .ty "ValueError") (cv := .type "ValueError") rfl (fun u r => r) k2)).is rfl) (fun _ => g_var rfl hv) (fun z => by cases z)) q
end
end K3

namespace K3
open PySem PySem.Spec PyProof.Rows L2 L2H Fv Evl StX
section
variable {P : Program} {w : World} {K : PySem.W.Frag} {mg : Str → Option Value} {base : Heap} {CF CV CI gV gI : Addr} {mc : Value}
variable {pt : Option Pt} {σ : L2.St} {F F0 H0 H : Hp} {te ta tb : TE} {ts tr : TA} {D : Ends} {tz : TS}
abbrev spGoodE (K : PySem.W.Frag) : Sp := PSp K (fun i : Nat × Nat × List Int => [.int i.1, .int i.2.1, dI i.2.2]) (fun i => i.1 ≤ 5 ∧ i.2.1 ≤ 5 ∧ i.2.2.length = i.1 ∧ ∀ k ∈ i.2.2, 0 ≤ k ∧ k < (i.2.1 : Int)) (fun i => dT i.2.2)
theorem ok_gentry {f fS fW : Addr} {fd fdS fdW : FuncData} (Fn : Fun K "check_entry" "check_entry" s_check_entry f fd) (T : Tx mg)
    (F_is_sequence : Fun K "is_sequence" "is_sequence" s_is_sequence fS fdS) (b_is_sequence : Binds K fdS ["thing"] []) (g_is_sequence : mg "is_sequence" = some (.ref fS))
    (F_is_whole : FunW K fW fdW) (b_is_whole : Binds K fdW ["thing", "low", "high"] []) (g_is_whole : mg "is_whole" = some (.ref fW)) : FnOk P w K mg base CX0 2 f fd ["houses", "values", "entry"] (spGoodE K) := by
  have G_is_sequence : FnOk P w K mg base CX0 1 fS fdS ["thing"] (spSeq K) := ok_seq F_is_sequence T
  have G_is_whole : FnOk P w K mg base CX0 1 fW fdW ["thing", "low", "high"] (spWhole K) := ok_whole F_is_whole T
  refine Fn.ok sc_check_entry (PSp.len (fun _ => rfl)) (fun cdv A outer s H vs Q E hr h => ?_)
  obtain ⟨⟨n, m, row⟩, F, ⟨hn, hm, hl, hk⟩, e, ha, q⟩ := h
  simp only at hn hm hl hk
  obtain ⟨v1, v2, v, rfl, h1, h2, hv⟩ := rpAll3 ha
  obtain rfl := rp_int h1
  obtain rfl := rp_int h2
  have sq : dI row = .list (row.map PyData.int) ∨ dI row = .tuple (row.map PyData.int) := .inl rfl
  refine ⟨_, (pss_cons (ps_if (PW.pt (pw_or (pt_not (pt_val (pe_call G_is_sequence (hr.mono (by decide)) (by rfl) g_is_sequence F_is_sequence.kp b_is_sequence .nil pass0 (pa_cons (pv 2) pa_nil)))) (pw_or1 (pt_cmpR op_ne (pe_callB (c_len (K := K)) (by rfl) T.len (by decide +kernel) (pa_cons (pv 2) pa_nil)) (pv 0) (nomark _))))) (pss_one ps_never) pss_nil)
    (pss_cons (ps_for PassesOwn.never rfl (pi_range1 (by rfl) T.range (pa_cons (pv 0) pa_nil)) (pg_name (i := 3) sc_check_entry.nd rfl (by first | exact Or.inl rfl | exact Or.inr rfl)) (pss_one (ps_if (pt_not (pt_val (pe_call G_is_whole (hr.mono (by decide)) (by rfl) g_is_whole F_is_whole.kp b_is_whole .nil pass0 (pa_cons (pe_ix (o_ix (K := K)) (pv 2) (pv 3) (fun _ _ => rfl)) (pa_cons pe_int (pa_cons (pe_op op_sub (pv 1) pe_int) pa_nil)))))) (pss_one ps_never) pss_nil)))
    (pss_one (ps_ret (pe_callTy (c_tup (K := K)) (by rfl) T.tuple (by decide +kernel) (pa_cons (pv 2) pa_nil)))))), ?_⟩
  refine t_skip (Step.refl e .nil) ((et_or (a := false) (b := false) ((et_not (b := true) (et_B (g_call (dI row) (gs_one (g_var rfl hv)) rfl trivial))).is rfl) fun _ => (et_of (g_opI (g_cbI (gs_one (g_var rfl hv)) (rc_lenS sq)) (g_var (v := .int n) rfl (.int _)) rv_neI)).is (by simp [hl])).is rfl) fun F2 H2 s2 e2 => ?_
  refine t_for (K := K) (ds := rng 0 n) s2 (w_rng1I (n := (n : Int)) (gs_one (g_var (v := .int n) rfl (.int _))) (by omega) (by omega)) (fun k σ' F' => ∃ z, σ' = [some (.int n), some (.int m), some v, z]) (fun F2 e2 => ⟨none, rfl⟩) (fun k d' hd σ' F' H' u hI s' e' hu N hN => ?_) (fun σ' F' H' hI s' e' => ?_)
  · obtain ⟨z, rfl⟩ := hI
    have hkn : k < n := by
      obtain ⟨hi, _⟩ := List.getElem?_eq_some_iff.mp hd
      rw [rng_len] at hi; exact hi
    rw [rng_get hkn] at hd
    obtain rfl := Option.some.inj hd
    have hkr : k < row.length := by omega
    have ix : atI (row.map PyData.int) (0 + (k : Int)) = some (.int row[k]) := by
      rw [Int.zero_add]; exact atI_nat (by rw [List.getElem?_map, List.getElem?_eq_getElem hkr]; rfl)
    obtain ⟨r0, r1⟩ := hk row[k] (List.getElem_mem hkr)
    have ok : okE m (.int row[k]) = true := by
      simp only [okE, isWhole, loOk, hiOk, Bool.and_eq_true, decide_eq_true_eq]
      omega
    have ixv : ∀ {F' : Hp}, Ex F F' → ∀ {u : V}, Rp K F' u (.int (0 + (k : Int))) → EvG K none (tOp (rIx K) (tVar 2) (tVar 3)) [some (.int n), some (.int m), some v, some u] F' (Is (.int row[k])) := fun e2 _ hu => g_opI (g_var rfl (Rp.mono e2 _ _ hv)) (g_var rfl hu) (rv_ix sq ix)
    have whole : EtG none (tNot (tB (tCall (spWhole K) [] E0 (tCons (tOp (rIx K) (tVar 2) (tVar 3)) (tCons (tC (.int 0)) (tCons (tOp rSub (tVar 1) (tC (.int 1))) tNil)))))) [some (.int n), some (.int m), some v, some u] F' (· = false) :=
      (et_not (et_B (g_call (.int row[k], some 0, some ((m : Int) - 1)) (gs_three (ixv (e2.trans e') hu) g_int (g_opI (g_var (v := .int m) (d := .int m) rfl (.int _)) g_int rv_sub)) rfl trivial))).is (by show (!okE m (.int row[k])) = false; rw [ok]; rfl)
    exact t_if1 (b := false) s' whole (fun z => by cases z) (fun _ F3 H3 s3 e3 => hN _ F3 H3 ⟨_, rfl⟩ s3 e3)
  · obtain ⟨z, rfl⟩ := hI
    exact t_retI (K := K) s' (g_cbI (gs_one (g_var rfl (Rp.mono (e2.trans e') _ _ hv))) rc_tupL) q
theorem ok_gview {f fS fW : Addr} {fd fdS fdW : FuncData} (Fn : Fun K "check_view" "check_view" s_check_view f fd) (T : Tx mg)
    (F_is_sequence : Fun K "is_sequence" "is_sequence" s_is_sequence fS fdS) (b_is_sequence : Binds K fdS ["thing"] []) (g_is_sequence : mg "is_sequence" = some (.ref fS))
    (F_is_whole : FunW K fW fdW) (b_is_whole : Binds K fdW ["thing", "low", "high"] []) (g_is_whole : mg "is_whole" = some (.ref fW)) : FnOk P w K mg base CX0 2 f fd ["houses", "values", "view"] (spGoodE K) := by
  have G_is_sequence : FnOk P w K mg base CX0 1 fS fdS ["thing"] (spSeq K) := ok_seq F_is_sequence T
  have G_is_whole : FnOk P w K mg base CX0 1 fW fdW ["thing", "low", "high"] (spWhole K) := ok_whole F_is_whole T
  refine Fn.ok sc_check_view (PSp.len (fun _ => rfl)) (fun cdv A outer s H vs Q E hr h => ?_)
  obtain ⟨⟨n, m, row⟩, F, ⟨hn, hm, hl, hk⟩, e, ha, q⟩ := h
  simp only at hn hm hl hk
  obtain ⟨v1, v2, v, rfl, h1, h2, hv⟩ := rpAll3 ha
  obtain rfl := rp_int h1
  obtain rfl := rp_int h2
  have sq : dI row = .list (row.map PyData.int) ∨ dI row = .tuple (row.map PyData.int) := .inl rfl
  refine ⟨_, (pss_cons (ps_if (PW.pt (pw_or (pt_not (pt_val (pe_call G_is_sequence (hr.mono (by decide)) (by rfl) g_is_sequence F_is_sequence.kp b_is_sequence .nil pass0 (pa_cons (pv 2) pa_nil)))) (pw_or1 (pt_cmpR op_ne (pe_callB (c_len (K := K)) (by rfl) T.len (by decide +kernel) (pa_cons (pv 2) pa_nil)) (pv 0) (nomark _))))) (pss_one ps_never) pss_nil)
    (pss_cons (ps_for PassesOwn.never rfl (pi_range1 (by rfl) T.range (pa_cons (pv 0) pa_nil)) (pg_name (i := 3) sc_check_view.nd rfl (by first | exact Or.inl rfl | exact Or.inr rfl)) (pss_one (ps_if (PW.pt (pw_and (pt_cmpR op_notN (pe_ix (o_ix (K := K)) (pv 2) (pv 3) (fun _ _ => rfl)) pe_non (nomark _)) (pw_and1 (pt_not (pt_val (pe_call G_is_whole (hr.mono (by decide)) (by rfl) g_is_whole F_is_whole.kp b_is_whole .nil pass0 (pa_cons (pe_ix (o_ix (K := K)) (pv 2) (pv 3) (fun _ _ => rfl)) (pa_cons pe_int (pa_cons (pe_op op_sub (pv 1) pe_int) pa_nil))))))))) (pss_one ps_never) pss_nil)))
    (pss_one (ps_ret (pe_callTy (c_tup (K := K)) (by rfl) T.tuple (by decide +kernel) (pa_cons (pv 2) pa_nil)))))), ?_⟩
  refine t_skip (Step.refl e .nil) ((et_or (a := false) (b := false) ((et_not (b := true) (et_B (g_call (dI row) (gs_one (g_var rfl hv)) rfl trivial))).is rfl) fun _ => (et_of (g_opI (g_cbI (gs_one (g_var rfl hv)) (rc_lenS sq)) (g_var (v := .int n) rfl (.int _)) rv_neI)).is (by simp [hl])).is rfl) fun F2 H2 s2 e2 => ?_
  refine t_for (K := K) (ds := rng 0 n) s2 (w_rng1I (n := (n : Int)) (gs_one (g_var (v := .int n) rfl (.int _))) (by omega) (by omega)) (fun k σ' F' => ∃ z, σ' = [some (.int n), some (.int m), some v, z]) (fun F2 e2 => ⟨none, rfl⟩) (fun k d' hd σ' F' H' u hI s' e' hu N hN => ?_) (fun σ' F' H' hI s' e' => ?_)
  · obtain ⟨z, rfl⟩ := hI
    have hkn : k < n := by
      obtain ⟨hi, _⟩ := List.getElem?_eq_some_iff.mp hd
      rw [rng_len] at hi; exact hi
    rw [rng_get hkn] at hd
    obtain rfl := Option.some.inj hd
    have hkr : k < row.length := by omega
    have ix : atI (row.map PyData.int) (0 + (k : Int)) = some (.int row[k]) := by
      rw [Int.zero_add]; exact atI_nat (by rw [List.getElem?_map, List.getElem?_eq_getElem hkr]; rfl)
    obtain ⟨r0, r1⟩ := hk row[k] (List.getElem_mem hkr)
    have ok : okE m (.int row[k]) = true := by
      simp only [okE, isWhole, loOk, hiOk, Bool.and_eq_true, decide_eq_true_eq]
      omega
    have ixv : ∀ {F' : Hp}, Ex F F' → ∀ {u : V}, Rp K F' u (.int (0 + (k : Int))) → EvG K none (tOp (rIx K) (tVar 2) (tVar 3)) [some (.int n), some (.int m), some v, some u] F' (Is (.int row[k])) := fun e2 _ hu => g_opI (g_var rfl (Rp.mono e2 _ _ hv)) (g_var rfl hu) (rv_ix sq ix)
    have whole : EtG none (tNot (tB (tCall (spWhole K) [] E0 (tCons (tOp (rIx K) (tVar 2) (tVar 3)) (tCons (tC (.int 0)) (tCons (tOp rSub (tVar 1) (tC (.int 1))) tNil)))))) [some (.int n), some (.int m), some v, some u] F' (· = false) :=
      (et_not (et_B (g_call (.int row[k], some 0, some ((m : Int) - 1)) (gs_three (ixv (e2.trans e') hu) g_int (g_opI (g_var (v := .int m) (d := .int m) rfl (.int _)) g_int rv_sub)) rfl trivial))).is (by show (!okE m (.int row[k])) = false; rw [ok]; rfl)
    exact t_if1 (b := false) s' ((et_and (a := true) (b := false) ((et_of (g_opI (ixv (e2.trans e') hu) g_non rv_notN)).is rfl) fun _ => whole).is rfl) (fun z => by cases z) (fun _ F3 H3 s3 e3 => hN _ F3 H3 ⟨_, rfl⟩ s3 e3)
  · obtain ⟨z, rfl⟩ := hI
    exact t_retI (K := K) s' (g_cbI (gs_one (g_var rfl (Rp.mono (e2.trans e') _ _ hv))) rc_tupL) q

end
end K3

namespace K3
open PySem PySem.Spec PyProof.Rows L2 L2H Fv Evl StX
section
variable {P : Program} {w : World} {K : PySem.W.Frag} {mg : Str → Option Value} {base : Heap} {CF CV CI iV iI : Addr} {mc : Value}
variable {pt : Option Pt} {σ : L2.St} {F F0 H0 H : Hp} {te ta tb : TE} {ts tr : TA} {D : Ends} {tz : TS}
/-- what is refused here: the word of the class, what, where -/
def told (views : Bool) (w : Str) (i : Nat) : PyData := .tuple [.str (if views then "view" else "input"), .str w, .int i]
def spCheckG (K : PySem.W.Frag) : Sp := fun vs H Q _ => ∃ (n m : Nat) (row : List Int) (b : Bool) (v : V) (F : Hp), vs = [.int n, .int m, v, .bl b] ∧ (n ≤ 5 ∧ m ≤ 5 ∧ row.length = n ∧ ∀ k ∈ row, 0 ≤ k ∧ k < (m : Int)) ∧ Ex F H ∧ Rp K F v (dI row) ∧ ∀ u F2 H2, Step none F H F2 H2 → Rp K F2 u (dT row) → Q u H2
def spCheckB (K : PySem.W.Frag) : Sp := fun vs H Q _ => ∃ (n m : Nat) (b : Bool) (v : V) (x : Str) (i : Nat) (F : Hp), vs = [.int n, .int m, v, .bl b] ∧ (n ≤ 5 ∧ m ≤ 5) ∧ BadV K F n (if b then okV m else okE m) v x i ∧ Ex F H ∧ ∀ u F2 H2, Step none F H F2 H2 → Rp K F2 u (told b x i) → Q u H2
theorem ok_checkG {f fV fE : Addr} {fd fdV fdE : FuncData} (Fn : Fun K "_law_check" "_law_check" s_law_check f fd) (T : Tx mg)
    (F_check_view : Fun K "check_view" "check_view" s_check_view fV fdV) (b_check_view : Binds K fdV ["houses", "values", "view"] []) (g_check_view : mg "check_view" = some (.ref fV)) (G_check_view : FnOk P w K mg base CX0 2 fV fdV ["houses", "values", "view"] (spGoodE K))
    (F_check_entry : Fun K "check_entry" "check_entry" s_check_entry fE fdE) (b_check_entry : Binds K fdE ["houses", "values", "entry"] []) (g_check_entry : mg "check_entry" = some (.ref fE)) (G_check_entry : FnOk P w K mg base CX0 2 fE fdE ["houses", "values", "entry"] (spGoodE K)) :
    FnOk P w K mg base CX0 4 f fd ["_law_n", "_law_m", "_law_row", "_law_views"] (spCheckG K) := by
  refine Fn.ok sc_law_check (fun vs H Q E ⟨_, _, _, _, _, _, h, _⟩ => by rw [h]; rfl) (fun cdv A outer s H vs Q E hr h => ?_)
  obtain ⟨n, m, row, b, v, F, rfl, hp, e, hv, q⟩ := h
  refine ⟨_, (pss_cons (ps_set (i := 4) sc_law_check.nd rfl (by first | exact Or.inl rfl | exact Or.inr rfl) pe_non)
    (pss_cons (ps_try_thru0 (pss_one (ps_set (i := 4) sc_law_check.nd rfl (by first | exact Or.inl rfl | exact Or.inr rfl) (pe_ifExp (pt_val (pv 3)) (pe_call G_check_view (hr.mono (by decide)) (by rfl) g_check_view F_check_view.kp b_check_view .nil pass0 (pa_cons (pv 0) (pa_cons (pv 1) (pa_cons (pv 2) pa_nil)))) (pe_call G_check_entry (hr.mono (by decide)) (by rfl) g_check_entry F_check_entry.kp b_check_entry .nil pass0 (pa_cons (pv 0) (pa_cons (pv 1) (pa_cons (pv 2) pa_nil))))))))
    (pss_one (ps_ret (pv 4))))), ?_⟩
  refine t_asgI (K := K) (d := .none) (Step.refl e .nil) g_non fun v0 F2 H2 s2 e2 hv0 => ?_
  have args : ∀ {σ' : L2.St}, σ'[0]? = some (some (.int n)) → σ'[1]? = some (some (.int m)) → σ'[2]? = some (some v) → EvsG K none (tCons (tVar 0) (tCons (tVar 1) (tCons (tVar 2) tNil))) σ' F2 (· = [.int n, .int m, dI row]) := fun a1 a2 a3 => gs_three (g_var (v := .int n) a1 (.int _)) (g_var (v := .int m) a2 (.int _)) (g_var a3 (Rp.mono e2 _ _ hv))
  refine t_asgI (K := K) (d := dT row) s2 (g_if (b := b) (et_B (K := K) (g_var (v := .bl b) rfl (.bl _))) (fun _ => g_call (n, m, row) (args rfl rfl rfl) rfl hp) fun _ => g_call (n, m, row) (args rfl rfl rfl) rfl hp) fun v1 F3 H3 s3 e3 hv1 => ?_
  exact t_retI (K := K) s3 (g_var rfl hv1) q
theorem t_asgIf {b : Bool} {i : Nat} {t : TT} (s : Step pt F0 H0 F H) (h : EtG pt t σ F (· = b)) (h1 : b = true → ∀ F2 H2, Step pt F0 H0 F2 H2 → Ex F F2 → ta σ H2 fun v H3 => D.nx (σ.set i (some v)) H3) (h2 : b = false → ∀ F2 H2, Step pt F0 H0 F2 H2 → Ex F F2 → tb σ H2 fun v H3 => D.nx (σ.set i (some v)) H3) :
    tAsg (tIf t ta tb) (gName i) D σ H := h H s.inn s.good _ fun c F2 H2 hc s2 => by
  subst hc
  cases c with
  | true => exact h1 rfl F2 H2 (s.trans s2) s2.sub
  | false => exact h2 rfl F2 H2 (s.trans s2) s2.sub
theorem g_told {E : XK} {i : Nat} {a : Addr} {cls : Value} {d : PyData} (h0 : σ[i]? = some (some (.ref a))) (k1 : PySem.W.kitOne K cls (.ref CF) = some true) (k2 : PySem.W.kitOne K cls (.type "ValueError") = some true) (h : EvG K pt te σ F (Is d)) : EvG K pt (tCall (spTold K CF cls a) [] E (tCons (tVar i) (tCons te tNil))) σ F (Is d) := fun H1 e g Q q =>
  ⟨_, h0, h H1 e g _ fun d' v F2 H2 hd s hv => by
    have hd' : d' = d := hd
    subst hd'
    exact ⟨v, d', F2, rfl, k1, k2, s.inn, hv, fun u F3 H3 s3 hu => q _ u F3 H3 rfl (s.trans (s3.lift s.good)) hu⟩⟩
theorem check_tells {C dd a : Addr} {iC : Addr} {nm : Str} {wd x : Str} {i : Nat} {Q : VK} (EC : ErrC K mg CF C iC nm ["what", "house"]) (s : Step none F0 H0 F H) (hd : F dd = some (.xd [("house", .int i), ("what", .str x)])) (hσ : σ.length = 6)
    (q : ∀ u F2 H2, Step none F0 H0 F2 H2 → Rp K F2 u (.tuple [.str wd, .str x, .int i]) → Q u H2) {D : Ends} (hD : ∀ σ H, D.nx σ H = tRet (tVar 4) { nx := fun _ H' => Q .non H', rt := Q } (σ.set 5 none) H) :
    tAsg (tCall (spTold K CF (.ref C) a) [] E0 (tCons (tVar 5) (tCons (tTup (tCons (tC (.str wd)) (tCons (tXf a (.ref C) (some dd) C "what" (tVar 5)) (tCons (tXf a (.ref C) (some dd) C "house" (tVar 5)) tNil)))) tNil))) (gName 4) D (σ.set 5 (some (.ref a))) H := by
  have h5 : (σ.set 5 (some (V.ref a)))[5]? = some (some (V.ref a)) := by
    rw [List.getElem?_set]; simp [hσ]
  refine t_asg1 (K := K) (R := Is (.tuple [.str wd, .str x, .int i])) s (g_told h5 EC.up EC.kv (g_tupI (gs_three g_str (g_xf (v := .str x) h5 hd rfl (.str x)) (g_xf (v := .int i) h5 hd rfl (.int _))) (by simp))) fun d v F2 H2 hd2 s2 e2 hv => ?_
  subst hd2
  rw [hD]
  refine t_retI (K := K) s2 (g_var (v := v) ?_ hv) q
  rw [List.getElem?_set_ne (by decide), List.getElem?_set]; simp [hσ]
theorem ok_checkB {f fV fE fT : Addr} {fd fdV fdE fdT : FuncData} (Fn : Fun K "_law_check" "_law_check" s_law_check f fd) (T : Tx mg) (EV : ErrC K mg CF CV iV "BadView" ["what", "house"]) (EI : ErrC K mg CF CI iI "BadInput" ["what", "house"]) (apart : PySem.W.exmOne K (.ref CI) (.ref CV) = some false)
    (F_check_view : Fun K "check_view" "check_view" s_check_view fV fdV) (b_check_view : Binds K fdV ["houses", "values", "view"] []) (g_check_view : mg "check_view" = some (.ref fV)) (GX_check_view : FnOk P w K mg base (L2.CX P w) 3 fV fdV ["houses", "values", "view"] (spBadE K CV okV))
    (F_check_entry : Fun K "check_entry" "check_entry" s_check_entry fE fdE) (b_check_entry : Binds K fdE ["houses", "values", "entry"] []) (g_check_entry : mg "check_entry" = some (.ref fE)) (GX_check_entry : FnOk P w K mg base (L2.CX P w) 3 fE fdE ["houses", "values", "entry"] (spBadE K CI okE))
    (F_law_told : Fun K "_law_told" "_law_told" s_law_told fT fdT) (b_law_told : Binds K fdT ["_law_why", "_law_base"] []) (g_law_told : mg "_law_told" = some (.ref fT)) (GT_law_told : ∀ cls, FnT P w K mg base 1 fT fdT ["_law_why", "_law_base"] cls (spTold K CF cls)) :
    FnOk P w K mg base CX0 4 f fd ["_law_n", "_law_m", "_law_row", "_law_views"] (spCheckB K) := by
  refine Fn.ok sc_law_check (fun vs H Q E ⟨_, _, _, _, _, _, _, h, _⟩ => by rw [h]; rfl) (fun cdv A outer s H vs Q E hr h => ?_)
  obtain ⟨n, m, b, v, x, i, F, rfl, ⟨hn, hm⟩, hb, e, q⟩ := h
  refine ⟨_, (pss_cons (ps_set (i := 4) sc_law_check.nd rfl (by first | exact Or.inl rfl | exact Or.inr rfl) pe_non)
    (pss_cons (ps_try_asL (i := 5) rfl rfl sc_law_check.nd rfl rfl
      (fun W pn xe tkW po => (pss_one (ps_set (i := 4) sc_law_check.nd rfl (by first | exact Or.inl rfl | exact Or.inr rfl) (pe_ifExp (pt_val (pv 3))
        (pe_callS GX_check_view (hr.mono (by decide)) (by rfl) g_check_view F_check_view.kp b_check_view (fun σ => passAt tkW σ) (pa_cons (pv 0) (pa_cons (pv 1) (pa_cons (pv 2) pa_nil))))
        (pe_callS GX_check_entry (hr.mono (by decide)) (by rfl) g_check_entry F_check_entry.kp b_check_entry (fun σ => passAt tkW σ) (pa_cons (pv 0) (pa_cons (pv 1) (pa_cons (pv 2) pa_nil))))))))
      (.cons ⟨by rfl, by decide, .inl EV.g⟩ (fun a oe cls d pn hz hf => (pss_one (ps_set (i := 4) sc_law_check.nd rfl (by first | exact Or.inl rfl | exact Or.inr rfl) (pe_callT hz (GT_law_told cls) (roomH_of (hr.mono (by decide))) (by rfl) g_law_told F_law_told.kp b_law_told
          (pa_cons (pv 5) (pa_cons (pe_tup (pa_cons pe_str (pa_cons (pe_xf EV.xf (EV.no "what" (by simp)) hz hf (pv 5)) (pa_cons (pe_xf EV.xf (EV.no "house" (by simp)) hz hf (pv 5)) pa_nil)))) pa_nil))))))
        (.cons ⟨by rfl, by decide, .inl EI.g⟩ (fun a oe cls d pn hz hf => (pss_one (ps_set (i := 4) sc_law_check.nd rfl (by first | exact Or.inl rfl | exact Or.inr rfl) (pe_callT hz (GT_law_told cls) (roomH_of (hr.mono (by decide))) (by rfl) g_law_told F_law_told.kp b_law_told
          (pa_cons (pv 5) (pa_cons (pe_tup (pa_cons pe_str (pa_cons (pe_xf EI.xf (EI.no "what" (by simp)) hz hf (pv 5)) (pa_cons (pe_xf EI.xf (EI.no "house" (by simp)) hz hf (pv 5)) pa_nil)))) pa_nil)))))) .nil)))
      (pss_one (ps_ret (pv 4))))), ?_⟩
  refine t_asgI (K := K) (d := .none) (Step.refl e .nil) g_non fun v0 F2 H2 s2 e2 hv0 => ?_
  show tAsg (tIf (tB (tVar 3)) _ _) (gName 4) _ _ _
  refine t_asgIf (b := b) s2 (et_B (K := K) (g_var (v := .bl b) rfl (.bl _))) (fun hc F3 H3 s3 e3 => ?_) fun hc F3 H3 s3 e3 => ?_
  · subst hc
    exact ⟨_, rfl, _, rfl, _, rfl, n, m, v, x, i, F3, rfl, hn, hm, hb.mono (e2.trans e3), s3.inn, fun F4 H4 dd s4 hdd => ⟨true, EV.self, fun _ a ha => check_tells EV (s3.trans s4) hdd rfl q fun _ _ => rfl, fun z => by cases z⟩⟩
  · subst hc
    exact ⟨_, rfl, _, rfl, _, rfl, n, m, v, x, i, F3, rfl, hn, hm, hb.mono (e2.trans e3), s3.inn, fun F4 H4 dd s4 hdd => ⟨false, apart, (fun z => by cases z), fun _ => ⟨true, EI.self, fun _ a ha => check_tells EI (s3.trans s4) hdd rfl q fun _ _ => rfl, fun z => by cases z⟩⟩⟩
end
end K3

namespace K3
open PySem PySem.Spec PyProof.Rows L2 L2H Fv Evl StX
abbrev s_law_odd : Stmt := topS 29
theorem sc_law_odd : FnScope ["_law_pot_here", "_law_many"] ["_law_pot_here", "_law_many"] (defScope s_law_odd) := ⟨rfl, rfl, rfl, by decide +kernel, rfl, by decide +kernel, by decide +kernel⟩
section
variable {P : Program} {w : World} {K : PySem.W.Frag} {mg : Str → Option Value} {base : Heap}
variable {pt : Option Pt} {σ : L2.St} {F F0 H0 H : Hp} {te ta tb : TE} {ts tr : TA} {D : Ends} {tz : TS}
theorem rv_pow9 : RvG K (rI CPow fun i j => .int (i ^ j.toNat)) (.int 10) (.int 9) (Is (.int 1000000000)) := fun F H x y i hx hy Q q => rv_I (f := fun i j => .int (i ^ j.toNat)) (C := CPow) (show CPow 10 9 from ⟨by decide, by decide, by decide⟩) (fun F => .int _) F H x y i hx hy Q fun z v F2 H2 hz s hv => q z v F2 H2 (by rw [show z = _ from hz]; rfl) s hv
/-- what is no number from 0 to m - 1 -/
def odds (m : Nat) : List PyData := [.int m, .int (-1), .bool true, .str "0", .none, .int ((m : Int) + 1000000000), .tuple [.int 0], .int ((m : Int) + 1)]
abbrev spOdd (K : PySem.W.Frag) : Sp := spQ K (fun m : Nat => [.int m]) (fun m => m ≤ 100) (fun m d => d ∈ odds m)
theorem gs_int {i : Int} {ds : List PyData} (h : EvsG K pt tr σ F (· = ds)) : EvsG K pt (tCons (tC (.int i)) tr) σ F (· = .int i :: ds) := gs_consI g_int h
theorem ok_odd {f fD : Addr} {fd fdD : FuncData} (Fn : Fun K "_law_odd" "_law_odd" s_law_odd f fd) (T : Tx mg)
    (F_law_draw : Fun K "_law_draw" "_law_draw" s_law_draw fD fdD) (b_law_draw : Binds K fdD ["_law_pot_here", "_law_many"] []) (g_law_draw : mg "_law_draw" = some (.ref fD)) : FnOk P w K mg base CX0 2 f fd ["_law_pot_here", "_law_many"] (spOdd K) := by
  have G_law_draw : FnOk P w K mg base CX0 1 fD fdD ["_law_pot_here", "_law_many"] (spDraw K) := ok_draw F_law_draw T
  refine Fn.ok sc_law_odd (spQ.len (n := 1) (fun _ => rfl)) (fun cdv A outer s H vs Q E hr h => ?_)
  obtain ⟨q, m, F, as, rfl, hm, e, g, ha, k⟩ := h
  obtain ⟨v, rfl, hv⟩ := rpAll1 ha
  obtain rfl := rp_int hv
  refine ⟨_, (pss_one (ps_ret (pe_ix (o_ixL (K := K)) (pe_lst (pa_cons (pv 1) (pa_cons (pe_un un_neg pe_int) (pa_cons pe_bl (pa_cons pe_str (pa_cons pe_non (pa_cons (pe_op op_add (pv 1) (pe_op op_pow pe_int pe_int)) (pa_cons (pe_tup (pa_cons pe_int pa_nil)) (pa_cons (pe_op op_add (pv 1) pe_int) pa_nil))))))))) (pe_call G_law_draw (hr.mono (by decide)) (by rfl) g_law_draw F_law_draw.kp b_law_draw .nil pass0 (pa_cons (pv 0) (pa_cons pe_int pa_nil))) (fun _ _ => rfl)))), ?_⟩
  have gm : ∀ {σ' : L2.St}, σ'[1]? = some (some (.int m)) → EvG K (some q) (tVar 1) σ' F (Is (.int m)) := fun h => g_var (v := .int m) h (.int _)
  refine t_ret (K := K) (R := fun d => d ∈ odds m) (Step.refl e g) (g_pick (ds := odds m) (c := 8) (g_lstI (gs_consI (gm rfl) (gs_consI (g_un1 g_int) (gs_consI g_bl (gs_consI g_str (gs_consI g_non (gs_consI (g_opI (gm rfl) (g_opI g_int g_int rv_pow9) rv_add) (gs_consI (g_tupI (gs_one g_int) (by decide)) (gs_one (g_opI (gm rfl) g_int rv_add))))))))) (by simp [odds])) (g_callP (m := 8) rfl g_int (by decide)) (by simp [odds]) fun d hd => hd) fun d v F2 H2 hd s2 hv2 => k d v F2 H2 hd s2 hv2
theorem odd_bad {m : Nat} {d : PyData} (h : d ∈ odds m) : okE m d = false := by
  simp only [odds, List.mem_cons, List.not_mem_nil, or_false] at h
  rcases h with rfl | rfl | rfl | rfl | rfl | rfl | rfl | rfl
  all_goals simp [okE, isWhole, loOk, hiOk]
  all_goals omega
end
end K3

namespace K3
open PySem PySem.Spec PyProof.Rows L2 L2H Fv Evl StX
abbrev s_law_entry_asked : Stmt := topS 32
theorem sc_law_entry_asked : FnScope ["_law_pot_here", "_law_n", "_law_m", "_law_views", "_law_row", "_law_k", "_law_bad", "_law_due", "_law_word", "_law_name", "_law_first", "_law_second", "_law_place"] ["_law_pot_here", "_law_n", "_law_m", "_law_views"] (defScope s_law_entry_asked) := ⟨rfl, rfl, rfl, by decide +kernel, rfl, by decide +kernel, by decide +kernel⟩
section
variable {P : Program} {w : World} {K : PySem.W.Frag} {mg : Str → Option Value} {base : Heap}
variable {pt : Option Pt} {σ : L2.St} {F F0 H0 H : Hp} {te ta tb : TE} {ts tr : TA} {D : Ends} {tz : TS}
def spCheck (K : PySem.W.Frag) : Sp := fun vs H Q E => spCheckG K vs H Q E ∨ spCheckB K vs H Q E
abbrev Drawn (c : Int) : PD := fun d => ∃ k : Int, d = .int k ∧ 0 ≤ k ∧ k < c
def okW (b : Bool) (m : Nat) : PyData → Bool := if b then okV m else okE m
theorem g_checkB {E : XK} {n m i0 i1 i2 i3 : Nat} {b : Bool} {v : V} {x : Str} {i : Nat} (h0 : σ[i0]? = some (some (.int n))) (h1 : σ[i1]? = some (some (.int m))) (h2 : σ[i2]? = some (some v)) (h3 : σ[i3]? = some (some (.bl b))) (hn : n ≤ 5 ∧ m ≤ 5) (hb : BadV K F n (okW b m) v x i) :
    EvG K pt (tCall (spCheck K) [] E (tCons (tVar i0) (tCons (tVar i1) (tCons (tVar i2) (tCons (tVar i3) tNil))))) σ F (Is (told b x i)) := fun H1 e g Q q =>
  ⟨_, h0, _, h1, _, h2, _, h3, .inr ⟨n, m, b, v, x, i, F, rfl, hn, hb, e, fun u F2 H2 s hu => q _ u F2 H2 rfl (s.lift g) hu⟩⟩
theorem g_checkG {E : XK} {n m i0 i1 i2 i3 : Nat} {b : Bool} {v : V} {row : List Int} (h0 : σ[i0]? = some (some (.int n))) (h1 : σ[i1]? = some (some (.int m))) (h2 : σ[i2]? = some (some v)) (h3 : σ[i3]? = some (some (.bl b))) (hp : n ≤ 5 ∧ m ≤ 5 ∧ row.length = n ∧ ∀ k ∈ row, 0 ≤ k ∧ k < (m : Int)) (hv : Rp K F v (dI row)) :
    EvG K pt (tCall (spCheck K) [] E (tCons (tVar i0) (tCons (tVar i1) (tCons (tVar i2) (tCons (tVar i3) tNil))))) σ F (Is (dT row)) := fun H1 e g Q q =>
  ⟨_, h0, _, h1, _, h2, _, h3, .inl ⟨n, m, row, b, v, F, rfl, hp, e, hv, fun u F2 H2 s hu => q _ u F2 H2 rfl (s.lift g) hu⟩⟩
theorem told_eq (b : Bool) (x : Str) (i : Nat) (hx : x = "length" ∨ x = "value") : PyData.eqv (told b x i) (told b x i) = true ∧ SeqAt.shaped (told b x i) = true := by
  refine ⟨by unfold told; simp [PyData.eqv, PyData.eqvAll], shaped_of ?_ ?_⟩
  · unfold told
    have h1 : (PyData.str (if b then "view" else "input")).canLay0 = true := by cases b <;> decide +kernel
    have h2 : (PyData.str x).canLay0 = true := by rcases hx with rfl | rfl <;> decide +kernel
    have h3 : (PyData.int (i : Int)).canLay0 = true := rfl
    simp only [PyData.canLay0, PyData.canLayAll0, Bool.and_true, Bool.and_eq_true] at h1 h2 h3 ⊢
    exact ⟨h1, h2⟩
  · unfold told
    simp only [PyData.depth, PyData.depthAll]
    omega
def LenBad (K : PySem.W.Frag) (n : Nat) (ok : PyData → Bool) : V → Hp → Prop := fun v F => BadV K F n ok v "length" 0
theorem lenBad_kept {n : Nat} {ok : PyData → Bool} : Kept (LenBad K n ok) := fun v F F' e h => h.mono e
theorem ok_falls {b : Bool} {m : Nat} {d : PyData} (h1 : okE m d = false) (h2 : (b && isNone d) = false) : okW b m d = false := by
  unfold okW
  cases b with
  | true => rw [if_pos rfl]; unfold okV; rw [h1]; simpa using h2
  | false => rw [if_neg (by simp)]; exact h1
theorem ok_of {b : Bool} {m : Nat} {d : PyData} (h1 : okE m d = true) : okW b m d = true := by
  unfold okW
  cases b with
  | true => rw [if_pos rfl]; unfold okV; rw [h1]; simp
  | false => rw [if_neg (by simp)]; exact h1
theorem ok_int {b : Bool} {m : Nat} {i : Int} (h : 0 ≤ i ∧ i < (m : Int)) : okW b m (.int i) = true := ok_of (by
  simp only [okE, isWhole, loOk, hiOk, Bool.and_eq_true, decide_eq_true_eq]
  omega)
theorem ok_m {b : Bool} {m : Nat} : okW b m (.int m) = false := ok_falls (by
  simp only [okE, isWhole, loOk, hiOk, Bool.and_eq_false_iff, decide_eq_false_iff_not]
  omega) (by cases b <;> rfl)
abbrev spAskedE (K : PySem.W.Frag) : Sp := spQ K (fun i : Nat × Nat × Bool => [.int i.1, .int i.2.1, .bool i.2.2]) (fun i => (2 ≤ i.1 ∧ i.1 ≤ 5) ∧ 1 ≤ i.2.1 ∧ i.2.1 ≤ 4) (fun _ => Is (.bool true))
theorem ok_entryAsked {f fD fO fC : Addr} {fd fdD fdO fdC : FuncData} (Fn : Fun K "_law_entry_asked" "_law_entry_asked" s_law_entry_asked f fd) (T : Tx mg)
    (F_law_draw : Fun K "_law_draw" "_law_draw" s_law_draw fD fdD) (b_law_draw : Binds K fdD ["_law_pot_here", "_law_many"] []) (g_law_draw : mg "_law_draw" = some (.ref fD))
    (F_law_odd : Fun K "_law_odd" "_law_odd" s_law_odd fO fdO) (b_law_odd : Binds K fdO ["_law_pot_here", "_law_many"] []) (g_law_odd : mg "_law_odd" = some (.ref fO)) (G_law_odd : FnOk P w K mg base CX0 2 fO fdO ["_law_pot_here", "_law_many"] (spOdd K))
    (F_law_check : Fun K "_law_check" "_law_check" s_law_check fC fdC) (b_law_check : Binds K fdC ["_law_n", "_law_m", "_law_row", "_law_views"] []) (g_law_check : mg "_law_check" = some (.ref fC)) (G_law_check : FnOk P w K mg base CX0 4 fC fdC ["_law_n", "_law_m", "_law_row", "_law_views"] (spCheck K)) :
    FnOk P w K mg base CX0 5 f fd ["_law_pot_here", "_law_n", "_law_m", "_law_views"] (spAskedE K) := by
  have G_law_draw : FnOk P w K mg base CX0 1 fD fdD ["_law_pot_here", "_law_many"] (spDraw K) := ok_draw F_law_draw T
  refine Fn.ok sc_law_entry_asked (spQ.len (n := 3) (fun _ => rfl)) (fun cdv A outer s H vs Q E hr h => ?_)
  obtain ⟨q, ⟨n, m, b⟩, F, as, rfl, ⟨⟨n2, n5⟩, m1, m4⟩, e, g, ha, k0⟩ := h
  simp only at n2 n5 m1 m4
  obtain ⟨v1, v2, v3, rfl, h1, h2, h3⟩ := rpAll3 ha
  obtain rfl := rp_int h1
  obtain rfl := rp_int h2
  obtain rfl := rp_bool h3
  have k : ∀ v F2 H2, Step (some q) F H F2 H2 → Rp K F2 v (.bool true) → Q v H2 := fun v F2 H2 s hv => k0 _ v F2 H2 rfl s hv
  refine ⟨_, (pss_cons (ps_setLc (i := 4) (own := [("_law_k", 5)]) (g := gName 5) rfl sc_law_entry_asked.nd rfl rfl (sw_true rfl rfl rfl (by decide +kernel)) (pi_range1 (by rfl) T.range (pa_cons (pv 1) pa_nil)) (blkOk_by (own := [("_law_k", 5)]) (N := ["_law_pot_here", "_law_n", "_law_m", "_law_views", "_law_row", "_law_k", "_law_bad", "_law_due", "_law_word", "_law_name", "_law_first", "_law_second", "_law_place"]) (sc := (defScope s_law_entry_asked)) (by decide +kernel)) (fun _ _ _ _ _ => pg_name (i := 5) sc_law_entry_asked.nd rfl (by first | exact Or.inl rfl | exact Or.inr rfl)) (fun _ _ _ _ _ => pts_nil) (fun _ _ _ _ _ => (pe_call G_law_draw (hr.mono (by decide)) (by rfl) g_law_draw F_law_draw.kp b_law_draw .nil pass0 (pa_cons (pv 0) (pa_cons (pv 2) pa_nil)))))
    (pss_cons (ps_set (i := 6) sc_law_entry_asked.nd rfl (by first | exact Or.inl rfl | exact Or.inr rfl) (pe_callTy (c_list (K := K)) (by rfl) T.list (by decide +kernel) (pa_cons (pv 4) pa_nil)))
    (pss_cons (ps_set (i := 7) sc_law_entry_asked.nd rfl (by first | exact Or.inl rfl | exact Or.inr rfl) (pe_callTy (c_tup (K := K)) (by rfl) T.tuple (by decide +kernel) (pa_cons (pv 4) pa_nil)))
    (pss_cons (ps_set (i := 8) sc_law_entry_asked.nd rfl (by first | exact Or.inl rfl | exact Or.inr rfl) (pe_call G_law_draw (hr.mono (by decide)) (by rfl) g_law_draw F_law_draw.kp b_law_draw .nil pass0 (pa_cons (pv 0) (pa_cons pe_int pa_nil))))
    (pss_cons (ps_set (i := 9) sc_law_entry_asked.nd rfl (by first | exact Or.inl rfl | exact Or.inr rfl) (pe_ifExp (pt_val (pv 3)) pe_str pe_str))
    (pss_cons (ps_if (pt_cmpR op_eq (pv 8) pe_int (nomark _)) (pss_cons (ps_set (i := 6) sc_law_entry_asked.nd rfl (by first | exact Or.inl rfl | exact Or.inr rfl) (pe_ix (o_ixL (K := K)) (pe_lst (pa_cons (pe_slice (s_list (K := K)) (pv 6) (po_some pe_int) (po_some (pe_op op_sub (pv 1) pe_int))) (pa_cons (pe_op op_cat (pv 6) (pe_lst (pa_cons pe_int pa_nil))) (pa_cons pe_non (pa_cons (pe_slice L2.sl_str pe_str (po_some pe_int) (po_some (pv 1))) (pa_cons pe_dnewK (pa_cons (pe_op (o_catA (K := K)) (pe_callTy (c_tup (K := K)) (by rfl) T.tuple (by decide +kernel) (pa_cons (pv 6) pa_nil)) (pe_tup (pa_cons pe_int pa_nil))) pa_nil))))))) (pe_call G_law_draw (hr.mono (by decide)) (by rfl) g_law_draw F_law_draw.kp b_law_draw .nil pass0 (pa_cons (pv 0) (pa_cons pe_int pa_nil))) (fun _ _ => rfl)))
    (pss_one (ps_set (i := 7) sc_law_entry_asked.nd rfl (by first | exact Or.inl rfl | exact Or.inr rfl) (pe_tup (pa_cons (pv 9) (pa_cons pe_str (pa_cons pe_int pa_nil))))))) (pss_one (ps_if (pt_cmpR op_lt (pv 8) pe_int (nomark _)) (pss_cons (ps_set (i := 10) sc_law_entry_asked.nd rfl (by first | exact Or.inl rfl | exact Or.inr rfl) (pe_call G_law_draw (hr.mono (by decide)) (by rfl) g_law_draw F_law_draw.kp b_law_draw .nil pass0 (pa_cons (pv 0) (pa_cons (pv 1) pa_nil))))
    (pss_cons (ps_set (i := 11) sc_law_entry_asked.nd rfl (by first | exact Or.inl rfl | exact Or.inr rfl) (pe_op op_add (pv 10) (pe_call G_law_draw (hr.mono (by decide)) (by rfl) g_law_draw F_law_draw.kp b_law_draw .nil pass0 (pa_cons (pv 0) (pa_cons (pe_op op_sub (pv 1) (pv 10)) pa_nil)))))
    (pss_cons (ps_for PassesOwn.never rfl (i_tup (K := K) (pe_tup (pa_cons (pv 11) (pa_cons (pv 10) pa_nil)))) (pg_name (i := 12) sc_law_entry_asked.nd rfl (by first | exact Or.inl rfl | exact Or.inr rfl)) (pss_cons (ps_asg (pe_call G_law_odd (hr.mono (by decide)) (by rfl) g_law_odd F_law_odd.kp b_law_odd .nil pass0 (pa_cons (pv 0) (pa_cons (pv 2) pa_nil))) (pg_sub (pv 6) (pv 12) set_list))
    (pss_one (ps_if (PW.pt (pw_and (pt_val (pv 3)) (pw_and1 (pt_cmpR op_isN (pe_ix (o_ixL (K := K)) (pv 6) (pv 12) (fun _ _ => rfl)) pe_non (nomark _))))) (pss_one (ps_asg (pv 2) (pg_sub (pv 6) (pv 12) set_list))) pss_nil))))
    (pss_one (ps_set (i := 7) sc_law_entry_asked.nd rfl (by first | exact Or.inl rfl | exact Or.inr rfl) (pe_tup (pa_cons (pv 9) (pa_cons pe_str (pa_cons (pv 10) pa_nil))))))))) pss_nil)))
    (pss_cons (ps_if (pt_cmpR (o_neD (K := K) hr.units) (pe_call G_law_check (hr.mono (by decide)) (by rfl) g_law_check F_law_check.kp b_law_check .nil pass0 (pa_cons (pv 1) (pa_cons (pv 2) (pa_cons (pv 6) (pa_cons (pv 3) pa_nil))))) (pv 7) (nomark _)) (pss_one (ps_ret pe_bl)) pss_nil)
    (pss_one (ps_ret (pe_cmpR (o_eqD (K := K) hr.units) (pe_call G_law_check (hr.mono (by decide)) (by rfl) g_law_check F_law_check.kp b_law_check .nil pass0 (pa_cons (pv 1) (pa_cons (pv 2) (pa_cons (pv 4) (pa_cons (pv 3) pa_nil))))) (pe_callTy (c_tup (K := K)) (by rfl) T.tuple (by decide +kernel) (pa_cons (pv 4) pa_nil)) (nomark _))))))))))), ?_⟩
  have gn : ∀ {σ' : L2.St} {F' : Hp}, σ'[1]? = some (some (.int n)) → EvG K (some q) (tVar 1) σ' F' (Is (.int n)) := fun h => g_var (v := .int n) h (.int _)
  have gm : ∀ {σ' : L2.St} {F' : Hp}, σ'[2]? = some (some (.int m)) → EvG K (some q) (tVar 2) σ' F' (Is (.int m)) := fun h => g_var (v := .int m) h (.int _)
  -- the row
  refine t_asg (K := K) (R := fun d => ∃ r : List Int, d = dI r ∧ r.length = n ∧ ∀ k ∈ r, 0 ≤ k ∧ k < (m : Int)) (Step.refl e g) ((g_lcR (α := Unit) PyData.int (fun k => 0 ≤ k ∧ k < (m : Int)) (w_range (n := n) (gn rfl) (by omega)) (fun ds h => by rw [h, List.length_map, List.length_range]; omega) (fun _ => rfl) fun F' e' u =>
    (g_callP (m := (m : Int)) rfl (gm rfl) ⟨by omega, by omega⟩).imp fun d ⟨j, hj, j0, j1⟩ => ⟨j, hj, j0, j1⟩).imp fun d ⟨ds, ys, hds, hd, hl, hp⟩ => ⟨ys, hd, by rw [hl, show ds = _ from hds, List.length_map, List.length_range], hp⟩) fun d rv F1 H1 hd s1 e1 hrv => ?_
  obtain ⟨r, rfl, rl, rk⟩ := hd
  have g0 : Good (some q) F1 H1 := s1.good
  -- a list of its own
  refine t_listG (K := K) (ds := r.map .int) (Step.refl s1.inn s1.good) (.inl rfl) (g_var rfl hrv) fun l F2 H2 h0 g2 e2 => ?_
  refine t_asgI (K := K) (d := dT r) (Step.refl g2.step.inn g2.step.good) (g_cbI (gs_one (g_var rfl (Rp.mono e2 _ _ hrv))) rc_tupL) fun dv F3 H3 s3 e3 hdv => ?_
  have g3 := g2.run g0 h0 s3
  refine t_asg (K := K) (R := Drawn 4) (Step.refl g3.step.inn g3.step.good) (g_callP (m := 4) rfl g_int (by decide)) fun d wv F4 H4 hd s4 e4 hwv => ?_
  obtain ⟨wd, rfl, w0, w4⟩ := hd
  obtain rfl := rp_int hwv
  have g4 := g3.run g0 h0 s4
  refine t_asgI (K := K) (d := .str (if b then "view" else "input")) (Step.refl g4.step.inn g4.step.good) (g_if (b := b) (et_B (K := K) (g_var (v := .bl b) rfl (.bl _))) (fun hb => by rw [hb]; exact g_str) fun hb => by rw [hb]; exact g_str) fun nv F5 H5 s5 e5 hnv => ?_
  obtain rfl := rp_str hnv
  have g5 := g4.run g0 h0 s5
  have up5 := (e2.trans e3).trans (e4.trans e5)
  refine t_ifGJ (K := K) (fun σ' F' => ∃ bv dv z10 z11 z12, σ' = [some (.ref q.p), some (.int n), some (.int m), some (.bl b), some rv, none, some bv, some dv, some (.int wd), some (.str (if b then "view" else "input")), z10, z11, z12] ∧
      ((∃ (x : Str) (i : Nat), (x = "length" ∨ x = "value") ∧ BadV K F' n (okW b m) bv x i ∧ Rp K F' dv (told b x i)) ∨ (Rp K F' bv (dI r) ∧ Rp K F' dv (dT r)))) g0 h0 g5
    (et_of (K := K) (g_opI (g_var (v := .int wd) (d := .int wd) rfl (.int _)) g_int rv_eqI)) (fun hb F6 H6 g6 e6 N hN => ?_) (fun hb F6 H6 g6 e6 N hN => ?_) (fun σ' F6 H6 hJ s6 e6 => ?_)
  · -- no row at all
    obtain ⟨F7, s7, e7, r7⟩ := g6.done g0 h0
    have lb : ∀ {F' : Hp}, Ex F7 F' → ∀ {σ' : L2.St}, σ'[6]? = some (some (.ref l)) → EvG K (some q) (tVar 6) σ' F' (Is (dI r)) := fun e2 _ h => g_var h (Rp.mono e2 _ _ r7)
    refine t_asgX s7 (x_pick (K := K) (Φ := LenBad K n (okW b m)) (k := 6) (c := 6) lenBad_kept (by decide)
      (xs_cons lenBad_kept (x_of (g_sl0 (k := n - 1) (lb (Ex.refl _) rfl) ((g_opI (gn rfl) g_int rv_sub).is (congrArg PyData.int (by omega)))) fun v d F' hd hv => by
          subst hd
          exact .inl ⟨_, hv, .len _ _ (.inl rfl) (by simp; omega) (by simp; omega)⟩) fun F8 e8 =>
        xs_cons lenBad_kept (x_of (g_opI (lb e8 rfl) (g_lstI (gs_one g_int) (by decide)) (rv_cat (by simp; omega))) fun v d F' hd hv => by
          subst hd
          exact .inl ⟨_, hv, .len _ _ (.inl rfl) (by simp; omega) (by simp; omega)⟩) fun F9 e9 =>
        xs_cons lenBad_kept (x_of g_non fun v d F' hd hv => by
          subst hd
          exact .inl ⟨_, hv, .kind _ rfl⟩) fun F10 e10 =>
        xs_cons lenBad_kept (x_of (g_slTxt (K := K) (by decide) (gn rfl)) fun v d F' ⟨y, hd⟩ hv => by
          subst hd
          exact .inl ⟨_, hv, .kind _ rfl⟩) fun F11 e11 =>
        xs_cons lenBad_kept (x_dict0 fun a F' h => .inr ⟨a, rfl, h, rfl, rfl⟩) fun F12 e12 =>
        xs_cons lenBad_kept (x_of (g_opI (g_cbI (gs_one (lb (((e8.trans e9).trans (e10.trans e11)).trans e12) rfl)) rc_tupL) (g_tupI (gs_one g_int) (by decide)) (rv_catA (by simp; omega))) fun v d F' hd hv => by
          subst hd
          exact .inl ⟨_, hv, .len _ _ (.inr rfl) (by simp; omega) (by simp; omega)⟩) fun F13 e13 => xs_nil)
      (fun F' e' => g_callP (m := 6) rfl g_int (by decide)) (by decide)) fun bv F8 H8 hbv s8 e8 => ?_
    refine t_asg1 (K := K) (R := Is (told b "length" 0)) s8 ((g_tupI (gs_three (g_var (v := .str (if b then "view" else "input")) rfl (.str _)) g_str g_int) (by simp)).is rfl) fun d v F9 H9 hd s9 e9 hv => ?_
    subst hd
    exact hN _ F9 H9 ⟨bv, v, none, none, none, rfl, .inl ⟨"length", 0, .inl rfl, hbv.mono e9, hv⟩⟩ s9 ((e6.trans e7).trans (e8.trans e9))
  · refine t_if1G (K := K) g0 h0 g6 (et_of (K := K) (g_opI (g_var (v := .int wd) (d := .int wd) rfl (.int _)) g_int (rv_bl (g := fun i j => decide (i < j))))) (fun hb2 F7 H7 g7 e7 => ?_) (fun hb2 F7 H7 g7 e7 => ?_)
    · -- two places are spoilt
      refine t_asg (K := K) (R := Drawn n) (Step.refl g7.step.inn g7.step.good) (g_callP (m := (n : Int)) rfl (gn rfl) ⟨by omega, by omega⟩) fun d fv F8 H8 hd s8 e8 hfv => ?_
      obtain ⟨f', rfl, f0, f1⟩ := hd
      obtain rfl := rp_int hfv
      obtain ⟨f, rfl⟩ : ∃ f : Nat, f' = (f : Int) := ⟨f'.toNat, by omega⟩
      have g8 := g7.run g0 h0 s8
      have gf : ∀ {σ' : L2.St} {F' : Hp}, σ'[10]? = some (some (.int f)) → EvG K (some q) (tVar 10) σ' F' (Is (.int f)) := fun h => g_var (v := .int f) h (.int _)
      refine t_asg (K := K) (R := fun d => ∃ s : Nat, d = .int s ∧ f ≤ s ∧ s < n) (Step.refl g8.step.inn g8.step.good) (g_op (gf rfl) (g_callP (m := (n : Int) - (f : Int)) rfl (g_opI (gn rfl) (gf rfl) rv_sub) ⟨by omega, by omega⟩) fun d e h1 h2 => ?_) fun d sv F9 H9 hd s9 e9 hsv => ?_
      · obtain ⟨j, rfl, j0, j1⟩ := h2
        subst h1
        intro F H x y i hx hy Q q
        exact rv_add F H x y i hx hy Q fun z v F2 H2 hz s hv => q z v F2 H2 ⟨(f + j.toNat), by rw [show z = _ from hz]; exact congrArg PyData.int (by omega), by omega, by omega⟩ s hv
      obtain ⟨sp, rfl, sf, sn⟩ := hd
      obtain rfl := rp_int hsv
      have g9 := g8.run g0 h0 s9
      refine t_forG (K := K) (ds := [.int sp, .int f]) g0 h0 g9 (w_tupI (g_tupI (gs_two (g_var (v := .int sp) rfl (.int _)) (gf rfl)) (by simp)))
        (fun i σ' F' ls' => (∃ z12, σ' = [some (.ref q.p), some (.int n), some (.int m), some (.bl b), some rv, none, some (.ref l), some dv, some (.int wd), some (.str (if b then "view" else "input")), some (.int f), some (.int sp), z12]) ∧
          ls'.length = n ∧ (∀ j, j < f → ls'[j]? = (r.map PyData.int)[j]?) ∧ (i = 2 → ∃ d, ls'[f]? = some d ∧ okW b m d = false))
        (fun F2 e2 => ⟨⟨_, rfl⟩, by rw [List.length_map, rl], fun j hj => rfl, fun z => by cases z⟩) (fun i d hd σ' F' H' u ls' hI g' e' hu N' hN' => ?_) (fun σ' F' H' ls' hI g' e' => ?_)
      · obtain ⟨⟨z12, rfl⟩, hlen, hpre, _⟩ := hI
        obtain ⟨p, rfl, hp1, hp2, hp3⟩ : ∃ p : Nat, d = .int p ∧ f ≤ p ∧ p < n ∧ (i + 1 = 2 → p = f) := by
          match i, hd with
          | 0, hd => exact ⟨sp, (Option.some.inj hd).symm, sf, sn, fun z => by omega⟩
          | 1, hd => exact ⟨f, (Option.some.inj hd).symm, Nat.le_refl _, by omega, fun _ => rfl⟩
        obtain rfl := rp_int hu
        have fin : ∀ (L : List PyData) (e : PyData), L.length = n → (∀ j, j < f → L[j]? = (r.map PyData.int)[j]?) → okW b m e = false → (L.set p e).length = n ∧ (∀ j, j < f → (L.set p e)[j]? = (r.map PyData.int)[j]?) ∧ (i + 1 = 2 → ∃ d, (L.set p e)[f]? = some d ∧ okW b m d = false) := fun L e h1 h2 h3 => by
          refine ⟨by rw [List.length_set, h1], fun j hj => ?_, fun z => ⟨e, ?_, h3⟩⟩
          · rw [List.getElem?_set_ne (by omega)]; exact h2 j hj
          · rw [← hp3 z, List.getElem?_set_self (by omega)]
        show tAsg _ (gSub (tVar 6) (tVar 12) rSetL) _ _ _
        refine t_setG (K := K) (R := fun d => d ∈ odds m) (j := p) g0 h0 g' rfl (g_callQ m rfl (gs_one (gm rfl)) rfl (by omega)) (g_var (v := .int p) rfl (.int _)) (by omega) fun d F3 H3 hd3 g3' e3' => ?_
        have bad := odd_bad hd3
        refine t_ifOwn (K := K) (b := b) (j := p) (d := d) g3' rfl rfl rfl (by rw [List.getElem?_set_self (by omega)]) (fun hn => ?_) fun hn => ?_
        · refine t_setG (K := K) (R := Is (.int m)) (j := p) g0 h0 g3' rfl (gm rfl) (g_var (v := .int p) rfl (.int _)) (by rw [List.length_set]; omega) fun d4 F4 H4 hd4 g4' e4' => ?_
          subst hd4
          refine hN' _ F4 H4 _ ⟨⟨_, rfl⟩, fin (ls'.set p d) (.int m) (by rw [List.length_set, hlen]) (fun j hj => by rw [List.getElem?_set_ne (by omega)]; exact hpre j hj) ok_m⟩ g4' (e3'.trans e4')
        · exact hN' _ F3 H3 _ ⟨⟨_, rfl⟩, fin ls' d hlen hpre (ok_falls bad hn)⟩ g3' e3'
      · obtain ⟨⟨z12, rfl⟩, hlen, hpre, hbad⟩ := hI
        obtain ⟨d, hd, hno⟩ := hbad rfl
        refine t_asg1 (K := K) (R := Is (told b "value" f)) (Step.refl g'.step.inn g'.step.good) ((g_tupI (gs_three (g_var (v := .str (if b then "view" else "input")) rfl (.str _)) g_str (gf rfl)) (by simp)).is rfl) fun d2 v F10 H10 hd2 s10 e10 hv => ?_
        subst hd2
        obtain ⟨F11, s11, e11, r11⟩ := (g'.run g0 h0 s10).done g0 h0
        obtain ⟨hfl, hfe⟩ := List.getElem?_eq_some_iff.mp hd
        refine hN _ F11 H10 ⟨_, v, _, _, _, rfl, .inl ⟨"value", f, .inr rfl, .inl ⟨_, r11, .val _ ls' f (.inl rfl) hlen hfl (fun j hj => ?_) (by rw [hfe]; exact hno)⟩, Rp.mono e11 _ _ hv⟩⟩ s11 (((e6.trans e7).trans (e8.trans e9)).trans (e'.trans (e10.trans e11)))
        have hjr : j < r.length := by omega
        have h1 := hpre j hj
        rw [List.getElem?_map, List.getElem?_eq_getElem hjr, List.getElem?_eq_getElem (by omega)] at h1
        rw [Option.some.inj h1]
        exact ok_int (rk _ (List.getElem_mem hjr))
    · -- nothing is spoilt
      obtain ⟨F8, s8, e8, r8⟩ := g7.done g0 h0
      exact hN _ F8 H7 ⟨_, dv, none, none, none, rfl, .inr ⟨r8, Rp.mono ((e4.trans e5).trans ((e6.trans e7).trans e8)) _ _ hdv⟩⟩ s8 ((e6.trans e7).trans e8)
  · obtain ⟨bv, dv', z10, z11, z12, rfl, hout⟩ := hJ
    have hrv6 : Rp K F6 rv (dI r) := Rp.mono (up5.trans e6) _ _ hrv
    have last : ∀ {F7 H7 : Hp}, Step (some q) F1 H1 F7 H7 → Ex F6 F7 → tRet (tOp (rEqD K) (tCall (spCheck K) [] E0 (tCons (tVar 1) (tCons (tVar 2) (tCons (tVar 4) (tCons (tVar 3) tNil))))) (tCB (rTup K) (tCons (tVar 4) tNil))) { nx := fun _ H' => Q .non H', rt := Q } [some (.ref q.p), some (.int n), some (.int m), some (.bl b), some rv, none, some bv, some dv', some (.int wd), some (.str (if b then "view" else "input")), z10, z11, z12] H7 := fun {F7 H7} s7 e7 =>
      t_retI (K := K) s7 ((g_opI (g_checkG rfl rfl rfl rfl ⟨n5, by omega, rl, rk⟩ (Rp.mono e7 _ _ hrv6)) (g_cbI (gs_one (g_var rfl (Rp.mono e7 _ _ hrv6))) rc_tupL) (rv_eqD (shaped_dT r) (shaped_dT r))).is (by rw [eqv_dT]; simp)) fun v F8 H8 s8 hv => k v F8 H8 (s1.trans s8) hv
    rcases hout with ⟨x, i, hx, hbad, hdv'⟩ | ⟨hbv, hdv'⟩
    · obtain ⟨t1, t2⟩ := told_eq b x i hx
      refine t_skip s6 ((et_of (K := K) (g_opI (g_checkB rfl rfl rfl rfl ⟨n5, by omega⟩ hbad) (g_var rfl hdv') (rv_neD t2 t2))).is (by rw [t1]; rfl)) fun F7 H7 s7 e7 => last s7 e7
    · refine t_skip s6 ((et_of (K := K) (g_opI (g_checkG rfl rfl rfl rfl ⟨n5, by omega, rl, rk⟩ hbv) (g_var rfl hdv') (rv_neD (shaped_dT r) (shaped_dT r)))).is (by rw [eqv_dT]; simp)) fun F7 H7 s7 e7 => last s7 e7
end
end K3

namespace Fv
open PySem PySem.Spec PyProof.Rows L2 Evl StX
theorem c_sortedI {X : Cx} {K : PySem.W.Frag} (h : X.K = K := by rfl) : CallR X (.builtin "sorted") (rSortedI K) := by subst h; exact cr_sortedI
end Fv
namespace K3
open PySem PySem.Spec PyProof.Rows L2 L2H Fv Evl StX
abbrev s_is_whole_row : Stmt := topS 11
theorem sc_is_whole_row : FnScope ["thing", "item"] ["thing"] (defScope s_is_whole_row) := ⟨rfl, rfl, rfl, by decide +kernel, rfl, by decide +kernel, by decide +kernel⟩
abbrev s_holds_each_once : Stmt := topS 12
theorem sc_holds_each_once : FnScope ["thing", "many"] ["thing", "many"] (defScope s_holds_each_once) := ⟨rfl, rfl, rfl, by decide +kernel, rfl, by decide +kernel, by decide +kernel⟩
abbrev s_check_leading : Stmt := topS 15
theorem sc_check_leading : FnScope ["houses", "values", "order", "names"] ["houses", "values", "order", "names"] (defScope s_check_leading) := ⟨rfl, rfl, rfl, by decide +kernel, rfl, by decide +kernel, by decide +kernel⟩
def whole (d : PyData) : Bool := isWhole none none d
def rowB : PyData → Bool
  | .list ds => ds.all whole
  | _ => false
def intOf : PyData → Int
  | .int i => i
  | _ => 0
def permB (k : Nat) : PyData → Bool
  | .list ds => decide ((ds.map intOf).Perm (hs k))
  | _ => false
def holdsB (d : PyData) (k : Nat) : Bool := rowB d && permB k d
def fewD : PyData → Prop
  | .list ds => ds.length ≤ 100
  | .tuple _ => False
  | _ => True
theorem whole_int {d : PyData} (h : whole d = true) : d = .int (intOf d) := by
  cases d <;> simp_all [whole, isWhole, intOf]
theorem ints_of : ∀ ds : List PyData, ds.all whole = true → ds = (ds.map intOf).map PyData.int
  | [], _ => rfl
  | d :: ds, h => by
    rw [List.all_cons, Bool.and_eq_true] at h
    rw [List.map_cons, List.map_cons, ← whole_int h.1, ← ints_of ds h.2]
theorem eqv_dI (ns ms : List Int) : PyData.eqv (dI ns) (dI ms) = decide (ns = ms) := by
  have := eqv_dT ns ms
  simp only [dT, dI, PyData.eqv] at this ⊢
  exact this
section
variable {P : Program} {w : World} {K : PySem.W.Frag} {mg : Str → Option Value} {base : Heap} {CF C fI : Addr} {mc : Value}
variable {pt : Option Pt} {σ : L2.St} {F F0 H0 H : Hp} {te ta tb : TE} {ts tr : TA} {D : Ends} {tz : TS}
theorem g_whole1 {E : XK} {d : PyData} (h : EvG K pt te σ F (Is d)) : EvG K pt (tCall (spWhole K) [.non, .non] E (tCons te tNil)) σ F (Is (.bool (whole d))) := fun H1 e g Q q => h H1 e g _ fun d' v F2 H2 hd s hv => by
  subst hd
  exact ⟨(d', none, none), F2, trivial, s.inn, .cons hv (.cons .non (.cons .non .nil)), fun v F3 H3 s3 hv3 => q _ v F3 H3 rfl (s.trans (s3.lift s.good)) hv3⟩
theorem g_listRg {m : Nat} (h : EvG K pt te σ F (Is (.int (m : Int)))) (hm : m ≤ 1000) : EvG K pt (tLstRg (tRg1 te)) σ F (Is (dI (hs m))) := fun H1 i g Q q =>
  h H1 i g _ fun d v F2 H2 hd s hv => by
    subst hd
    refine ⟨m, rp_int hv, .of_le (Int.le_refl _) (by omega) (by omega) (by omega), fun p hp => ?_⟩
    have s3 : Step pt F2 H2 (upd F2 p (.lst (rgV 0 m))) (upd H2 p (.lst (rgV 0 m))) := .laid s.inn s.good hp
    refine q _ _ _ _ rfl (s.trans s3) (.lst upd_same ?_)
    have := rgV_rng (K := K) 0 (m : Int) (upd F2 p (.lst (rgV 0 m)))
    rw [Int.sub_zero, show ((m : Nat) : Int).toNat = m by omega, rng_hs] at this
    exact this
theorem rc_sortedI {ns : List Int} : RcG K (rSortedI K) [dI ns] (fun d => ∃ ns' : List Int, d = dI ns' ∧ ns'.Perm ns ∧ ns'.Pairwise (· ≤ ·)) := fun F H vs e h Q q => by
  cases h with
  | cons h1 h2 =>
    cases h2
    obtain ⟨a, xs, rfl, hl, ha⟩ := rp_lst h1
    have e1 := rpAll_ints ha
    subst e1
    exact ⟨a, ns, rfl, SqL.of (e _ _ hl), fun ns' p p1 p2 hp => q _ _ _ _ ⟨ns', rfl, p1, p2⟩ (.laid e .nil hp) (.lst upd_same (rpAll_of_ints ns'))⟩
theorem asc_hs (n : Nat) : (hs n).Pairwise (· < ·) := pw_range n
theorem sorted_iff {xs ys : List Int} {k : Nat} (p : ys.Perm xs) (s : ys.Pairwise (· ≤ ·)) : decide (ys = hs k) = decide (xs.Perm (hs k)) := by
  rw [decide_eq_decide]
  constructor
  · rintro rfl; exact p.symm
  · intro h
    exact (p.trans h).eq_of_pairwise (fun a b _ _ h1 h2 => Int.le_antisymm h1 h2) s ((asc_hs k).imp fun h => Int.le_of_lt h)
theorem rpAll4 {F : Hp} {vs : List V} {d e g j : PyData} (h : RpAll K F vs [d, e, g, j]) : ∃ v x y z, vs = [v, x, y, z] ∧ Rp K F v d ∧ Rp K F x e ∧ Rp K F y g ∧ Rp K F z j := by
  cases h with
  | cons h1 h2 =>
    obtain ⟨x, y, z, rfl, hx, hy, hz⟩ := rpAll3 h2
    exact ⟨_, x, y, z, rfl, h1, hx, hy, hz⟩
abbrev spRow (K : PySem.W.Frag) : Sp := PSp K (fun d : PyData => [d]) (fun d => fewD d) (fun d => .bool (rowB d))
theorem ok_row {f fS fW : Addr} {fd fdS fdW : FuncData} (Fn : Fun K "is_whole_row" "is_whole_row" s_is_whole_row f fd) (T : Tx mg)
    (F_is_sequence : Fun K "is_sequence" "is_sequence" s_is_sequence fS fdS) (b_is_sequence : Binds K fdS ["thing"] []) (g_is_sequence : mg "is_sequence" = some (.ref fS))
    (F_is_whole : FunW K fW fdW) (g_is_whole : mg "is_whole" = some (.ref fW)) : FnOk P w K mg base CX0 2 f fd ["thing"] (spRow K) := by
  have G_is_sequence : FnOk P w K mg base CX0 1 fS fdS ["thing"] (spSeq K) := ok_seq F_is_sequence T
  have G_is_whole : FnOk P w K mg base CX0 1 fW fdW ["thing", "low", "high"] (spWhole K) := ok_whole F_is_whole T
  obtain ⟨ds1, v1_is_whole, b1_is_whole⟩ := L2.FunD.binds1 F_is_whole (ps := ["thing", "low", "high"]) 1 0 (by simp) rfl fun T kV doc pm an cdv ct us its hl hi => match us, its, hl, hi with | [_], [_, _], _, _ => ⟨_, rfl, rfl⟩
  refine Fn.ok sc_is_whole_row (PSp.len (fun _ => rfl)) (fun cdv A outer s H vs Q E hr h => ?_)
  obtain ⟨d, F, hf, e, ha, q⟩ := h
  obtain ⟨v, rfl, hv⟩ := rpAll1 ha
  refine ⟨_, (pss_one (ps_ret (pe_and (pe_call G_is_sequence (hr.mono (by decide)) (by rfl) g_is_sequence F_is_sequence.kp b_is_sequence .nil pass0 (pa_cons (pv 0) pa_nil)) (pe_one (pe_callB (c_all (K := K)) (by rfl) T.all (by decide +kernel) (pa_cons (pe_lc (own := [("item", 1)]) (g := gName 1) rfl sc_is_whole_row.nd (i_list (K := K) (pv 0)) (blkOk_by (own := [("item", 1)]) (N := ["thing", "item"]) (sc := (defScope s_is_whole_row)) (by decide +kernel)) (fun _ _ _ _ _ => pg_name (i := 1) sc_is_whole_row.nd rfl (by first | exact Or.inl rfl | exact Or.inr rfl)) (fun _ _ _ _ _ => pts_nil) (fun _ _ _ _ _ => (pe_call G_is_whole (hr.mono (by decide)) (by rfl) g_is_whole F_is_whole.kp b1_is_whole v1_is_whole pass0 (pa_cons (pv 1) pa_nil)))) pa_nil)))))), ?_⟩
  refine t_retI (K := K) (Step.refl e .nil) ((g_andV (a := isL d || isT d) (b := rowB d) (g_call d (gs_one (g_var rfl hv)) rfl trivial) fun hb => ?_).is ?_) q
  · obtain ⟨ds, rfl⟩ : ∃ ds, d = .list ds := by
      cases d <;> simp_all [isL, isT, fewD]
    exact g_cbI (gs_one ((g_lcEM (fun d => d) ds (fun d => .bool (whole d)) (w_listI ((g_var rfl hv).is (by rw [List.map_id']))) (Nat.le_trans hf (by decide)) (fun _ => rfl) fun x hx F' e' y hy => g_whole1 (g_var rfl hy)))) (rc_allM ds whole)
  · cases d <;> simp [isL, isT, rowB]
abbrev spHolds (K : PySem.W.Frag) : Sp := PSp K (fun i : PyData × Nat => [i.1, .int i.2]) (fun i => fewD i.1 ∧ i.2 ≤ 100) (fun i => .bool (holdsB i.1 i.2))
theorem ok_holds {f fR : Addr} {fd fdR : FuncData} (Fn : Fun K "holds_each_once" "holds_each_once" s_holds_each_once f fd) (T : Tx mg)
    (F_is_whole_row : Fun K "is_whole_row" "is_whole_row" s_is_whole_row fR fdR) (b_is_whole_row : Binds K fdR ["thing"] []) (g_is_whole_row : mg "is_whole_row" = some (.ref fR)) (G_is_whole_row : FnOk P w K mg base CX0 2 fR fdR ["thing"] (spRow K)) : FnOk P w K mg base CX0 3 f fd ["thing", "many"] (spHolds K) := by
  refine Fn.ok sc_holds_each_once (PSp.len (fun _ => rfl)) (fun cdv A outer s H vs Q E hr h => ?_)
  obtain ⟨⟨d, k⟩, F, ⟨hf, hk⟩, e, ha, q⟩ := h
  simp only at hf hk
  obtain ⟨v, x, rfl, hv, hx⟩ := rpAll2 ha
  obtain rfl := rp_int hx
  refine ⟨_, (pss_one (ps_ret (pe_and (pe_call G_is_whole_row (hr.mono (by decide)) (by rfl) g_is_whole_row F_is_whole_row.kp b_is_whole_row .nil pass0 (pa_cons (pv 0) pa_nil)) (pe_one (pe_cmpR (o_eqD (K := K) hr.units) (pe_callB (c_sortedI (K := K)) (by rfl) T.sorted (by decide +kernel) (pa_cons (pv 0) pa_nil)) (pe_listRg rfl (by rfl) T.list (prg_1 (by rfl) T.range (pv 1))) (nomark _)))))), ?_⟩
  refine t_retI (K := K) (Step.refl e .nil) (g_andV (a := rowB d) (b := permB k d) (g_call d (gs_one (g_var rfl hv)) rfl hf) fun hb => ?_) q
  obtain ⟨ds, rfl⟩ : ∃ ds, d = .list ds := by
    cases d <;> simp_all [rowB]
  obtain ⟨xs, rfl⟩ : ∃ xs : List Int, ds = xs.map PyData.int := ⟨ds.map intOf, ints_of ds hb⟩
  have hp : permB k (.list (xs.map PyData.int)) = decide (xs.Perm (hs k)) := by
    show decide (((xs.map PyData.int).map intOf).Perm (hs k)) = _
    rw [List.map_map, show (intOf ∘ PyData.int) = id from rfl, List.map_id]
  rw [hp]
  exact g_op (R1 := fun d => ∃ ns' : List Int, d = dI ns' ∧ ns'.Perm xs ∧ ns'.Pairwise (· ≤ ·)) (S2 := Is (dI (hs k))) (g_cbI (gs_one (g_var rfl hv)) rc_sortedI) (g_listRg (g_var (v := .int k) rfl (.int _)) (by omega)) fun d e h1 h2 => by
    obtain ⟨ns', rfl, p1, p2⟩ := h1
    subst h2
    have := rv_eqD (K := K) (shaped_dI ns') (shaped_dI (hs k))
    rw [eqv_dI, sorted_iff p1 p2] at this
    exact this
/-! ### leadings -/
abbrev spLeadG (K : PySem.W.Frag) : Sp := PSp K (fun i : Nat × Nat × List PyData × List PyData => [.int i.1, .int i.2.1, .list i.2.2.1, .list i.2.2.2]) (fun i => (i.1 ≤ 100 ∧ i.2.1 ≤ 100 ∧ i.2.2.1.length ≤ 100 ∧ i.2.2.2.length ≤ 100) ∧ holdsB (.list i.2.2.1) i.1 = true ∧ holdsB (.list i.2.2.2) i.2.1 = true) (fun i => .tuple [.tuple i.2.2.1, .tuple i.2.2.2])
theorem ok_leadG {f fH : Addr} {fd fdH : FuncData} (Fn : Fun K "check_leading" "check_leading" s_check_leading f fd) (T : Tx mg)
    (F_holds_each_once : Fun K "holds_each_once" "holds_each_once" s_holds_each_once fH fdH) (b_holds_each_once : Binds K fdH ["thing", "many"] []) (g_holds_each_once : mg "holds_each_once" = some (.ref fH)) (G_holds_each_once : FnOk P w K mg base CX0 3 fH fdH ["thing", "many"] (spHolds K)) : FnOk P w K mg base CX0 4 f fd ["houses", "values", "order", "names"] (spLeadG K) := by
  refine Fn.ok sc_check_leading (PSp.len (fun _ => rfl)) (fun cdv A outer s H vs Q E hr h => ?_)
  obtain ⟨⟨n, m, o, x⟩, F, ⟨⟨l1, l2, l3, l4⟩, h1, h2⟩, e, ha, q⟩ := h
  simp only at l1 l2 l3 l4 h1 h2
  obtain ⟨v1, v2, v3, v4, rfl, r1, r2, r3, r4⟩ := rpAll4 ha
  obtain rfl := rp_int r1
  obtain rfl := rp_int r2
  refine ⟨_, (pss_cons (ps_if (pt_not (pt_val (pe_call G_holds_each_once (hr.mono (by decide)) (by rfl) g_holds_each_once F_holds_each_once.kp b_holds_each_once .nil pass0 (pa_cons (pv 2) (pa_cons (pv 0) pa_nil))))) (pss_one ps_never) pss_nil)
    (pss_cons (ps_if (pt_not (pt_val (pe_call G_holds_each_once (hr.mono (by decide)) (by rfl) g_holds_each_once F_holds_each_once.kp b_holds_each_once .nil pass0 (pa_cons (pv 3) (pa_cons (pv 1) pa_nil))))) (pss_one ps_never) pss_nil)
    (pss_one (ps_ret (pe_tup (pa_cons (pe_callTy (c_tup (K := K)) (by rfl) T.tuple (by decide +kernel) (pa_cons (pv 2) pa_nil)) (pa_cons (pe_callTy (c_tup (K := K)) (by rfl) T.tuple (by decide +kernel) (pa_cons (pv 3) pa_nil)) pa_nil))))))), ?_⟩
  refine t_skip (Step.refl e .nil) ((et_not (b := true) (et_B ((g_call (.list o, n) (gs_two (g_var rfl r3) (g_var (v := .int n) rfl (.int _))) rfl ⟨l3, l1⟩).is (congrArg PyData.bool h1)))).is rfl) fun F2 H2 s2 e2 => ?_
  refine t_skip s2 ((et_not (b := true) (et_B ((g_call (.list x, m) (gs_two (g_var rfl (Rp.mono e2 _ _ r4)) (g_var (v := .int m) rfl (.int _))) rfl ⟨l4, l2⟩).is (congrArg PyData.bool h2)))).is rfl) fun F3 H3 s3 e3 => ?_
  exact t_retI (K := K) s3 (g_tupI (gs_two (g_cbI (gs_one (g_var rfl (Rp.mono (e2.trans e3) _ _ r3))) rc_tupL) (g_cbI (gs_one (g_var rfl (Rp.mono (e2.trans e3) _ _ r4))) rc_tupL)) (by simp)) q
/-- what is wrong with a leading -/
inductive LeadBad (n m : Nat) (o x : PyData) : Str → Prop
  | order (h : holdsB o n = false) : LeadBad n m o x "order"
  | names (h : holdsB o n = true) (h2 : holdsB x m = false) : LeadBad n m o x "names"
theorem r_mk1 {f1 x : Str} {Q : XK} (e : Ex F H) (h : EvsG K none ts σ F (· = [.str x])) (hx : x.length ≤ 100) (q : ∀ F2 H2 dx, Step none F H F2 H2 → F2 dx = some (.xd [(f1, .str x)]) → Q (.ref C) (some dx) H2) :
    tMkO C (spI1 C f1) [] ts σ H Q := h H e .nil _ fun ds vs F2 H2 hd st hv => by
  subst hd
  obtain ⟨v1, rfl, h1⟩ := rpAll1 hv
  obtain rfl := rp_str h1
  refine ⟨by simp, fun a ha => ⟨a, x, rfl, hx, upd_same, fun dx h1 h2 => ⟨rfl, dx, [(f1, .str x)], upd_same, ?_, ?_, ?_⟩⟩⟩
  · rw [upd_ne h2]; exact upd_same
  · rw [upd_ne h2] at h1; exact h1
  · rw [upd_ne h2] at h1
    have eh : ∀ (y z : HO) (fs : List (Str × V)), upd (L2.del (upd (upd (upd H2 a y) dx z) a (exo a C (some dx))) a) dx (.xd fs) = upd H2 dx (.xd fs) := fun y z fs => by
      funext b
      by_cases zz : b = dx
      · rw [zz, upd_same, upd_same]
      · rw [upd_ne zz, upd_ne zz]
        by_cases yy : b = a
        · rw [yy, L2.del_same, ha]
        · rw [L2.del_ne yy, upd_ne yy, upd_ne zz, upd_ne yy]
    rw [eh]
    have s3 : Step none F2 H2 (upd F2 dx (.xd [(f1, .str x)])) (upd H2 dx (.xd [(f1, .str x)])) := .laid st.inn .nil h1
    exact q _ _ dx (st.trans s3) upd_same
def spLeadB (K : PySem.W.Frag) (C : Addr) : Sp := fun vs H _ E => ∃ (n m : Nat) (o x : PyData) (ov xv : V) (wd : Str) (F : Hp), vs = [.int n, .int m, ov, xv] ∧ (n ≤ 100 ∧ m ≤ 100 ∧ fewD o ∧ fewD x) ∧ LeadBad n m o x wd ∧ Ex F H ∧ Rp K F ov o ∧ Rp K F xv x ∧
  ∀ F2 H2 dd, Step none F H F2 H2 → F2 dd = some (.xd [("what", .str wd)]) → E (.ref C) (some dd) H2
theorem ok_leadB {f fH : Addr} {fd fdH fdI : FuncData} (Fn : Fun K "check_leading" "check_leading" s_check_leading f fd) (T : Tx mg) (FC : FirmC K mg CF mc) (E_BadLeading : ErrC K mg CF C fI "BadLeading" ["what"])
    (FI : Fun K "__init__" "BadLeading.__init__" s_BadLeading___init__ fI fdI) (bI_BadLeading : Binds K fdI ["self", "what"] [])
    (F_holds_each_once : Fun K "holds_each_once" "holds_each_once" s_holds_each_once fH fdH) (b_holds_each_once : Binds K fdH ["thing", "many"] []) (g_holds_each_once : mg "holds_each_once" = some (.ref fH)) (G_holds_each_once : FnOk P w K mg base CX0 3 fH fdH ["thing", "many"] (spHolds K)) : FnOk P w K mg base (L2.CX P w) 4 f fd ["houses", "values", "order", "names"] (spLeadB K C) := by
  have GI_BadLeading : FnOk P w K mg base CX0 1 fI fdI ["self", "what"] (spI1 C "what") := ok_leadE FI FC E_BadLeading
  refine Fn.okX sc_check_leading (fun vs H Q E ⟨_, _, _, _, _, _, _, _, h, _⟩ => by rw [h]; rfl) (fun cdv A outer s H vs Q E hr h => ?_)
  obtain ⟨n, m, o, x, ov, xv, wd, F, rfl, ⟨l1, l2, l3, l4⟩, hb, e, ro, rx, q⟩ := h
  refine ⟨_, (pss_cons (ps_if (pt_not (pt_val (pe_call G_holds_each_once (hr.mono (by decide)) (by rfl) g_holds_each_once F_holds_each_once.kp b_holds_each_once .nil pass0 (pa_cons (pv 2) (pa_cons (pv 0) pa_nil))))) (pss_one (ps_raise rfl (takes_of rfl rfl rfl rfl) (pmk_oex E_BadLeading.T E_BadLeading.iC E_BadLeading.tI GI_BadLeading (hr.mono (by decide)) bI_BadLeading .nil pass0 (by rfl) E_BadLeading.g (pa_cons pe_str pa_nil)))) pss_nil)
    (pss_cons (ps_if (pt_not (pt_val (pe_call G_holds_each_once (hr.mono (by decide)) (by rfl) g_holds_each_once F_holds_each_once.kp b_holds_each_once .nil pass0 (pa_cons (pv 3) (pa_cons (pv 1) pa_nil))))) (pss_one (ps_raise rfl (takes_of rfl rfl rfl rfl) (pmk_oex E_BadLeading.T E_BadLeading.iC E_BadLeading.tI GI_BadLeading (hr.mono (by decide)) bI_BadLeading .nil pass0 (by rfl) E_BadLeading.g (pa_cons pe_str pa_nil)))) pss_nil)
    (pss_one (ps_ret (pe_tup (pa_cons (pe_callTy (c_tup (K := K)) (by rfl) T.tuple (by decide +kernel) (pa_cons (pv 2) pa_nil)) (pa_cons (pe_callTy (c_tup (K := K)) (by rfl) T.tuple (by decide +kernel) (pa_cons (pv 3) pa_nil)) pa_nil))))))), ?_⟩
  cases hb with
  | order h =>
    refine t_when (b := true) (Step.refl e .nil) ((et_not (b := false) (et_B ((g_call (o, n) (gs_two (g_var rfl ro) (g_var (v := .int n) rfl (.int _))) rfl ⟨l3, l1⟩).is (congrArg PyData.bool h)))).is rfl) (fun _ F2 H2 s2 e2 => ?_) (fun z => by cases z)
    exact r_mk1 (K := K) s2.inn (gs_one g_str) (by decide) fun F3 H3 dx s3 h3 => q F3 H3 dx (s2.trans s3) h3
  | names h h2 =>
    refine t_skip (Step.refl e .nil) ((et_not (b := true) (et_B ((g_call (o, n) (gs_two (g_var rfl ro) (g_var (v := .int n) rfl (.int _))) rfl ⟨l3, l1⟩).is (congrArg PyData.bool h)))).is rfl) fun F2 H2 s2 e2 => ?_
    refine t_when (b := true) s2 ((et_not (b := false) (et_B ((g_call (x, m) (gs_two (g_var rfl (Rp.mono e2 _ _ rx)) (g_var (v := .int m) rfl (.int _))) rfl ⟨l4, l2⟩).is (congrArg PyData.bool h2)))).is rfl) (fun _ F3 H3 s3 e3 => ?_) (fun z => by cases z)
    exact r_mk1 (K := K) s3.inn (gs_one g_str) (by decide) fun F4 H4 dx s4 h4 => q F4 H4 dx (s3.trans s4) h4
end
end K3

namespace K3
open PySem PySem.Spec PyProof.Rows L2 L2H Fv Evl StX
abbrev s_law_leading_asked : Stmt := topS 33
theorem sc_law_leading_asked : FnScope ["_law_pot_here", "_law_n", "_law_m", "_law_order", "_law_k", "_law_names", "_law_due", "_law_word", "_law_odd_here", "_law_twice", "_law_name", "_law_place", "_law_found", "_law_why"] ["_law_pot_here", "_law_n", "_law_m"] (defScope s_law_leading_asked) := ⟨rfl, rfl, rfl, by decide +kernel, rfl, by decide +kernel, by decide +kernel⟩
def ordL (n : Nat) : List Int := (hs n).map fun k => (k + 1) % (n : Int)
def namL (m : Nat) : List Int := (hs m).map fun k => (m : Int) - 1 - k
def badNames (m : Nat) (o : PyData) : List PyData := [.list ((namL m).map .int ++ [.int 0]), .list ((if m > 1 then (namL m).map fun _ => (m : Int) - 1 else [1]).map .int), .list (o :: ((namL m).map PyData.int).drop 1), .none]
def goodDue (n m : Nat) : PyData := .tuple [.int 0, .tuple [dT (ordL n), dT (namL m)]]
theorem lead_facts : ∀ n ∈ [2, 3, 4], ∀ m ∈ [1, 2, 3, 4], holdsB (dI (ordL n)) n = true ∧ holdsB (dI (namL m)) m = true ∧ (ordL n).length = n ∧ (namL m).length = m ∧ PyData.eqv (goodDue n m) (goodDue n m) = true ∧ SeqAt.shaped (goodDue n m) = true := by decide +kernel
theorem names_facts : ∀ m ∈ [1, 2, 3, 4], ∀ o ∈ odds m, ∀ d ∈ badNames m o, holdsB d m = false := by decide +kernel
theorem order_facts : ∀ n ∈ [2, 3, 4], ∀ p ∈ List.range n, (∀ d ∈ odds n, holdsB (.list (((ordL n).map PyData.int).set p d)) n = false) ∧ (match atI ((ordL n).map PyData.int) ((p : Int) - 1) with | some d => holdsB (.list (((ordL n).map PyData.int).set p d)) n | none => true) = false := by decide +kernel
theorem badNames_few : ∀ m ∈ [1, 2, 3, 4], ∀ o ∈ odds m, ∀ d ∈ badNames m o, (match d with | .list ds => decide (ds.length ≤ 100) | .tuple _ => false | _ => true) = true := by decide +kernel
theorem word_facts : ∀ w ∈ (["order", "names"] : List Str), PyData.eqv (.tuple [.str w]) (.tuple [.str w]) = true ∧ SeqAt.shaped (.tuple [.str w]) = true := by decide +kernel
section
variable {P : Program} {w : World} {K : PySem.W.Frag} {mg : Str → Option Value} {base : Heap} {CF CL iL : Addr} {mc : Value}
variable {pt : Option Pt} {σ : L2.St} {F F0 H0 H : Hp} {te ta tb : TE} {ts tr : TA} {D : Ends} {tz : TS}
theorem rv_modN {i j : Int} (h : j ≠ 0) : RvG K (rI (fun _ j => j ≠ 0) fun i j => .int (i.fmod j)) (.int i) (.int j) (Is (.int (i.fmod j))) := rv_I (f := fun i j => .int (i.fmod j)) (C := fun _ j => j ≠ 0) h fun F => .int _
theorem cut_fr (xs : List V) (k : Nat) : cutV xs (some (k : Int)) none = xs.drop k := by
  unfold cutV
  rw [HT.sIx_nat, show HT.sIx xs.length xs.length none = xs.length from rfl]
  by_cases z : k ≤ xs.length
  · rw [Nat.min_eq_left z, List.take_of_length_le (by rw [List.length_drop]; omega)]
  · rw [Nat.min_eq_right (by omega), List.drop_of_length_le (Nat.le_refl _), List.drop_of_length_le (by omega)]; simp
theorem RpAll.drop : ∀ {ds : List PyData} {vs : List V} (i : Nat), RpAll K F vs ds → RpAll K F (vs.drop i) (ds.drop i)
  | _, _, 0, h => by simpa using h
  | [], _, i + 1, h => by cases h; simp; exact .nil
  | d :: ds, _, i + 1, h => by
    cases h with
    | cons h1 h2 => simpa using RpAll.drop i h2
theorem g_slFr {ds : List PyData} {k : Nat} (h : EvG K pt te σ F (Is (.list ds))) : EvG K pt (tSl (rSlL K) te (tPart (tC (.int (k : Int)))) tNoPart) σ F (Is (.list (ds.drop k))) := fun H1 e g Q q =>
  h H1 e g _ fun d v F2 H2 hd s hv => by
    subst hd
    obtain ⟨a, xs, rfl, hl, ha⟩ := rp_lst hv
    refine ⟨(k : Int), rfl, a, xs, rfl, SqL.of (s.inn _ _ hl), fun p hp => ?_⟩
    rw [cut_fr]
    have s3 : Step pt F2 H2 (upd F2 p (.lst (xs.drop k))) (upd H2 p (.lst (xs.drop k))) := .laid s.inn s.good hp
    exact q _ _ _ _ rfl (s.trans s3) (.lst upd_same (RpAll.mono s3.sub _ _ (RpAll.drop k ha)))
theorem few_of {d : PyData} (h : (match d with | .list ds => decide (ds.length ≤ 100) | .tuple _ => false | _ => true) = true) : fewD d := by
  cases d <;> simp_all [fewD]
/-- what the suite does with an error of one field -/
theorem lead_tells {dd a : Addr} {x : Str} (EL : ErrC K mg CF CL iL "BadLeading" ["what"]) (s : Step pt F0 H0 F H) (hd : F dd = some (.xd [("what", .str x)])) (hσ : σ.length = 14)
    {D : Ends} (q : ∀ v F2 H2, Step pt F0 H0 F2 H2 → Ex F F2 → Rp K F2 v (.tuple [.str x]) → D.nx ((σ.set 13 (some (.ref a))).set 12 (some v)) H2) :
    tAsg (tCall (spTold K CF (.ref CL) a) [] E0 (tCons (tVar 13) (tCons (tTup (tCons (tXf a (.ref CL) (some dd) CL "what" (tVar 13)) tNil)) tNil))) (gName 12) D (σ.set 13 (some (.ref a))) H := by
  have h5 : (σ.set 13 (some (V.ref a)))[13]? = some (some (V.ref a)) := by
    rw [List.getElem?_set]; simp [hσ]
  refine t_asg1 (K := K) (R := Is (.tuple [.str x])) s (g_told h5 EL.up EL.kv (g_tupI (gs_one (g_xf (v := .str x) h5 hd rfl (.str x))) (by simp))) fun d v F2 H2 hd2 s2 e2 hv => ?_
  subst hd2
  exact q v F2 H2 s2 e2 hv
def spLead (K : PySem.W.Frag) (C : Addr) : Sp := fun vs H Q E => spLeadG K vs H Q E ∨ spLeadB K C vs H Q E
abbrev spAskedL (K : PySem.W.Frag) : Sp := spQ K (fun i : Nat × Nat => [.int i.1, .int i.2]) (fun i => i.1 ∈ [2, 3, 4] ∧ i.2 ∈ [1, 2, 3, 4]) (fun _ => Is (.bool true))
theorem ok_leadAsked {f fD fO fC fT : Addr} {fd fdD fdO fdC fdT : FuncData} (Fn : Fun K "_law_leading_asked" "_law_leading_asked" s_law_leading_asked f fd) (T : Tx mg) (EL : ErrC K mg CF CL iL "BadLeading" ["what"])
    (F_law_draw : Fun K "_law_draw" "_law_draw" s_law_draw fD fdD) (b_law_draw : Binds K fdD ["_law_pot_here", "_law_many"] []) (g_law_draw : mg "_law_draw" = some (.ref fD))
    (F_law_odd : Fun K "_law_odd" "_law_odd" s_law_odd fO fdO) (b_law_odd : Binds K fdO ["_law_pot_here", "_law_many"] []) (g_law_odd : mg "_law_odd" = some (.ref fO)) (G_law_odd : FnOk P w K mg base CX0 2 fO fdO ["_law_pot_here", "_law_many"] (spOdd K))
    (F_check_leading : Fun K "check_leading" "check_leading" s_check_leading fC fdC) (b_check_leading : Binds K fdC ["houses", "values", "order", "names"] []) (g_check_leading : mg "check_leading" = some (.ref fC)) (GX_check_leading : FnOk P w K mg base (L2.CX P w) 4 fC fdC ["houses", "values", "order", "names"] (spLead K CL))
    (F_law_told : Fun K "_law_told" "_law_told" s_law_told fT fdT) (b_law_told : Binds K fdT ["_law_why", "_law_base"] []) (g_law_told : mg "_law_told" = some (.ref fT)) (GT_law_told : ∀ cls, FnT P w K mg base 1 fT fdT ["_law_why", "_law_base"] cls (spTold K CF cls)) :
    FnOk P w K mg base CX0 5 f fd ["_law_pot_here", "_law_n", "_law_m"] (spAskedL K) := by
  have G_law_draw : FnOk P w K mg base CX0 1 fD fdD ["_law_pot_here", "_law_many"] (spDraw K) := ok_draw F_law_draw T
  refine Fn.ok sc_law_leading_asked (spQ.len (n := 2) (fun _ => rfl)) (fun cdv A outer s H vs Q E hr h => ?_)
  obtain ⟨q, ⟨n, m⟩, F, as, rfl, ⟨hn, hm⟩, e, g, ha, k0⟩ := h
  simp only at hn hm
  obtain ⟨v1, v2, rfl, h1, h2⟩ := rpAll2 ha
  obtain rfl := rp_int h1
  obtain rfl := rp_int h2
  have k : ∀ v F2 H2, Step (some q) F H F2 H2 → Rp K F2 v (.bool true) → Q v H2 := fun v F2 H2 s hv => k0 _ v F2 H2 rfl s hv
  have nb : 2 ≤ n ∧ n ≤ 4 := by simp only [List.mem_cons, List.not_mem_nil, or_false] at hn; omega
  have mb : 1 ≤ m ∧ m ≤ 4 := by simp only [List.mem_cons, List.not_mem_nil, or_false] at hm; omega
  obtain ⟨f1, f2, f3, f4, f5, f6⟩ := lead_facts n hn m hm
  refine ⟨_, (pss_cons (ps_setLc (i := 3) (own := [("_law_k", 4)]) (g := gName 4) rfl sc_law_leading_asked.nd rfl rfl (sw_true rfl rfl rfl (by decide +kernel)) (pi_range1 (by rfl) T.range (pa_cons (pv 1) pa_nil)) (blkOk_by (own := [("_law_k", 4)]) (N := ["_law_pot_here", "_law_n", "_law_m", "_law_order", "_law_k", "_law_names", "_law_due", "_law_word", "_law_odd_here", "_law_twice", "_law_name", "_law_place", "_law_found", "_law_why"]) (sc := (defScope s_law_leading_asked)) (by decide +kernel)) (fun _ _ _ _ _ => pg_name (i := 4) sc_law_leading_asked.nd rfl (by first | exact Or.inl rfl | exact Or.inr rfl)) (fun _ _ _ _ _ => pts_nil) (fun _ _ _ _ _ => (pe_op op_modN (pe_op op_add (pv 4) pe_int) (pv 1))))
    (pss_cons (ps_setLc (i := 5) (own := [("_law_k", 4)]) (g := gName 4) rfl sc_law_leading_asked.nd rfl rfl (sw_true rfl rfl rfl (by decide +kernel)) (pi_range1 (by rfl) T.range (pa_cons (pv 2) pa_nil)) (blkOk_by (own := [("_law_k", 4)]) (N := ["_law_pot_here", "_law_n", "_law_m", "_law_order", "_law_k", "_law_names", "_law_due", "_law_word", "_law_odd_here", "_law_twice", "_law_name", "_law_place", "_law_found", "_law_why"]) (sc := (defScope s_law_leading_asked)) (by decide +kernel)) (fun _ _ _ _ _ => pg_name (i := 4) sc_law_leading_asked.nd rfl (by first | exact Or.inl rfl | exact Or.inr rfl)) (fun _ _ _ _ _ => pts_nil) (fun _ _ _ _ _ => (pe_op op_sub (pe_op op_sub (pv 2) pe_int) (pv 4))))
    (pss_cons (ps_set (i := 6) sc_law_leading_asked.nd rfl (by first | exact Or.inl rfl | exact Or.inr rfl) (pe_tup (pa_cons pe_int (pa_cons (pe_tup (pa_cons (pe_callTy (c_tup (K := K)) (by rfl) T.tuple (by decide +kernel) (pa_cons (pv 3) pa_nil)) (pa_cons (pe_callTy (c_tup (K := K)) (by rfl) T.tuple (by decide +kernel) (pa_cons (pv 5) pa_nil)) pa_nil))) pa_nil))))
    (pss_cons (ps_set (i := 7) sc_law_leading_asked.nd rfl (by first | exact Or.inl rfl | exact Or.inr rfl) (pe_call G_law_draw (hr.mono (by decide)) (by rfl) g_law_draw F_law_draw.kp b_law_draw .nil pass0 (pa_cons (pv 0) (pa_cons pe_int pa_nil))))
    (pss_cons (ps_if (pt_cmpR (o_in (K := K)) (pv 7) (pe_tup (pa_cons pe_int (pa_cons pe_int pa_nil))) (by rfl)) (pss_cons (ps_set (i := 8) sc_law_leading_asked.nd rfl (by first | exact Or.inl rfl | exact Or.inr rfl) (pe_call G_law_odd (hr.mono (by decide)) (by rfl) g_law_odd F_law_odd.kp b_law_odd .nil pass0 (pa_cons (pv 0) (pa_cons (pv 2) pa_nil))))
    (pss_cons (ps_set (i := 9) sc_law_leading_asked.nd rfl (by first | exact Or.inl rfl | exact Or.inr rfl) (pe_ifExp (pt_cmpR op_gt (pv 2) pe_int (nomark _)) (pe_lc (own := [("_law_name", 10)]) (g := gName 10) rfl sc_law_leading_asked.nd (i_list (K := K) (pv 5)) (blkOk_by (own := [("_law_name", 10)]) (N := ["_law_pot_here", "_law_n", "_law_m", "_law_order", "_law_k", "_law_names", "_law_due", "_law_word", "_law_odd_here", "_law_twice", "_law_name", "_law_place", "_law_found", "_law_why"]) (sc := (defScope s_law_leading_asked)) (by decide +kernel)) (fun _ _ _ _ _ => pg_name (i := 10) sc_law_leading_asked.nd rfl (by first | exact Or.inl rfl | exact Or.inr rfl)) (fun _ _ _ _ _ => pts_nil) (fun _ _ _ _ _ => (pe_op op_sub (pv 2) pe_int))) (pe_lst (pa_cons pe_int pa_nil))))
    (pss_cons (ps_set (i := 5) sc_law_leading_asked.nd rfl (by first | exact Or.inl rfl | exact Or.inr rfl) (pe_ix (o_ixL (K := K)) (pe_lst (pa_cons (pe_op op_cat (pv 5) (pe_lst (pa_cons pe_int pa_nil))) (pa_cons (pv 9) (pa_cons (pe_op op_cat (pe_lst (pa_cons (pv 8) pa_nil)) (pe_slice (s_list (K := K)) (pv 5) (po_some pe_int) po_none)) (pa_cons pe_non pa_nil))))) (pe_call G_law_draw (hr.mono (by decide)) (by rfl) g_law_draw F_law_draw.kp b_law_draw .nil pass0 (pa_cons (pv 0) (pa_cons pe_int pa_nil))) (fun _ _ => rfl)))
    (pss_one (ps_set (i := 6) sc_law_leading_asked.nd rfl (by first | exact Or.inl rfl | exact Or.inr rfl) (pe_tup (pa_cons pe_str pa_nil))))))) pss_nil)
    (pss_cons (ps_if (pt_cmpR (o_in (K := K)) (pv 7) (pe_tup (pa_cons pe_int (pa_cons pe_int pa_nil))) (by rfl)) (pss_cons (ps_set (i := 11) sc_law_leading_asked.nd rfl (by first | exact Or.inl rfl | exact Or.inr rfl) (pe_call G_law_draw (hr.mono (by decide)) (by rfl) g_law_draw F_law_draw.kp b_law_draw .nil pass0 (pa_cons (pv 0) (pa_cons (pv 1) pa_nil))))
    (pss_cons (ps_set (i := 8) sc_law_leading_asked.nd rfl (by first | exact Or.inl rfl | exact Or.inr rfl) (pe_call G_law_odd (hr.mono (by decide)) (by rfl) g_law_odd F_law_odd.kp b_law_odd .nil pass0 (pa_cons (pv 0) (pa_cons (pv 1) pa_nil))))
    (pss_cons (ps_asg (pe_ix (o_ixL (K := K)) (pe_lst (pa_cons (pv 8) (pa_cons (pe_ix (o_ixL (K := K)) (pv 3) (pe_op op_sub (pv 11) pe_int) (fun _ _ => rfl)) pa_nil))) (pe_call G_law_draw (hr.mono (by decide)) (by rfl) g_law_draw F_law_draw.kp b_law_draw .nil pass0 (pa_cons (pv 0) (pa_cons pe_int pa_nil))) (fun _ _ => rfl)) (pg_sub (pv 3) (pv 11) set_list))
    (pss_one (ps_set (i := 6) sc_law_leading_asked.nd rfl (by first | exact Or.inl rfl | exact Or.inr rfl) (pe_tup (pa_cons pe_str pa_nil))))))) pss_nil)
    (pss_cons (ps_set (i := 12) sc_law_leading_asked.nd rfl (by first | exact Or.inl rfl | exact Or.inr rfl) pe_non)
    (pss_cons (ps_try_as (i := 13) rfl rfl sc_law_leading_asked.nd rfl rfl ⟨by rfl, by decide, .inl EL.g⟩ takes0 (fun W pn xe tkW po => (pss_one (ps_set (i := 12) sc_law_leading_asked.nd rfl (by first | exact Or.inl rfl | exact Or.inr rfl) (pe_tup (pa_cons pe_int (pa_cons (pe_callS GX_check_leading (hr.mono (by decide)) (by rfl) g_check_leading F_check_leading.kp b_check_leading (fun σ => passAt tkW σ) (pa_cons (pv 1) (pa_cons (pv 2) (pa_cons (pv 3) (pa_cons (pv 5) pa_nil))))) pa_nil)))))) (fun a oe cls d pn hz hf => (pss_one (ps_set (i := 12) sc_law_leading_asked.nd rfl (by first | exact Or.inl rfl | exact Or.inr rfl) (pe_callT hz (GT_law_told cls) (roomH_of (hr.mono (by decide))) (by rfl) g_law_told F_law_told.kp b_law_told (pa_cons (pv 13) (pa_cons (pe_tup (pa_cons (pe_xf EL.xf (EL.no "what" (by simp)) hz hf (pv 13)) pa_nil)) pa_nil)))))))
    (pss_one (ps_ret (pe_cmpR (o_eqD (K := K) hr.units) (pv 12) (pv 6) (nomark _)))))))))))), ?_⟩
  have gn : ∀ {σ' : L2.St} {F' : Hp}, σ'[1]? = some (some (.int n)) → EvG K (some q) (tVar 1) σ' F' (Is (.int n)) := fun h => g_var (v := .int n) h (.int _)
  have gm : ∀ {σ' : L2.St} {F' : Hp}, σ'[2]? = some (some (.int m)) → EvG K (some q) (tVar 2) σ' F' (Is (.int m)) := fun h => g_var (v := .int m) h (.int _)
  have wk : ∀ {c j : Nat} {σ' : L2.St} {F' : Hp}, c ≤ 100 → σ'[j]? = some (some (.int c)) → WiG K (some q) (iRng1 (tCons (tVar j) tNil)) σ' F' (· = (hs c).map .int) := fun {c j σ' F'} hc h => by
    have := w_rng1I (K := K) (pt := some q) (σ := σ') (F := F') (n := ((c : Nat) : Int)) (gs_one (g_var (v := .int c) h (.int _))) (by omega) (by omega)
    rw [show ((c : Nat) : Int).toNat = c by omega, rng_hs] at this
    exact this
  have g0 : Good (some q) F H := g
  -- the order
  refine t_lcG (K := K) (fun d => .int ((intOf d + 1).fmod (n : Int))) (Step.refl e g) (wk (c := n) (by omega) rfl) (by rw [List.length_map, hs_len]; omega) (fun _ => rfl) (fun d hd F' e' x hx => ?_) fun l F1 H1 h0 g1 e1 => ?_
  · obtain ⟨j, hj, rfl⟩ := List.mem_map.mp hd
    exact g_opI (g_opI (g_var rfl hx) g_int rv_add) (gn rfl) (rv_modN (by omega))
  have eo : ((hs n).map PyData.int).map (fun d => .int ((intOf d + 1).fmod (n : Int))) = (ordL n).map PyData.int := by
    unfold ordL
    rw [List.map_map, List.map_map]
    refine List.map_congr_left fun j _ => ?_
    show PyData.int ((j + 1).fmod (n : Int)) = PyData.int ((j + 1) % (n : Int))
    rw [Int.fmod_eq_emod_of_nonneg _ (by omega)]
  rw [eo] at g1
  -- the names
  refine t_asgG (K := K) (R := Is (dI (namL m))) g0 h0 g1 ((g_lcE PyData.int (hs m) (fun _ => true) (fun k => .int ((m : Int) - 1 - k)) (wk (c := m) (by omega) rfl) (by rw [hs_len]; omega) (fun _ => rfl) (fun _ _ _ _ _ _ => et_yes) (fun j _ _ F' e' u hu => g_opI (g_opI (gm rfl) g_int rv_sub) (g_var rfl hu) rv_sub)).is (by
    rw [List.filter_eq_self.mpr (fun _ _ => rfl)]
    unfold namL
    show PyData.list _ = PyData.list _
    rw [List.map_map]; rfl)) fun d nv F2 H2 hd g2 e2 hnv => ?_
  subst hd
  -- what is due
  refine t_asgAt (K := K) (R := Is (goodDue n m)) g0 h0 g2 (at_tup (at_consI g2.step.inn g2.step.good (at_one (at_tup (at_cons (at_tupOwn g2 rfl) fun F' e' => gs_one (g_cbI (gs_one (g_var rfl (Rp.mono e' _ _ hnv))) rc_tupL)) (by simp)))) (by simp)) fun d dv F3 H3 hd g3 e3 hdv => ?_
  subst hd
  refine t_asgG (K := K) (R := Drawn 5) g0 h0 g3 (g_callP (m := 5) rfl g_int (by decide)) fun d wv F4 H4 hd g4 e4 hwv => ?_
  obtain ⟨wd, rfl, w0, w4⟩ := hd
  obtain rfl := rp_int hwv
  have up4 : Ex F2 F4 := e3.trans e4
  -- the names spoilt
  refine t_ifGG (K := K) (fun σ' F' ls' => ∃ x xv dw dwv z8 z9, σ' = [some (.ref q.p), some (.int n), some (.int m), some (.ref l), none, some xv, some dwv, some (.int wd), z8, z9, none, none, none, none] ∧ ls' = (ordL n).map PyData.int ∧ Rp K F' xv x ∧ Rp K F' dwv dw ∧ fewD x ∧
      ((x = dI (namL m) ∧ dw = goodDue n m) ∨ (holdsB x m = false ∧ dw = .tuple [.str "names"]))) g0 h0 g4
    (et_of (K := K) (g_opI (g_var (v := .int wd) (d := .int wd) rfl (.int _)) (g_tupI (gs_two g_int g_int) (by simp)) (rv_inT (ns := [1, 3])))) (fun hb F5 H5 g5 e5 N hN => ?_) (fun hb F5 H5 g5 e5 N hN => ?_) (fun σ' F5 H5 ls5 hJ g5 e5 => ?_)
  · refine t_asgG (K := K) (R := fun d => d ∈ odds m) g0 h0 g5 (g_callQ m rfl (gs_one (gm rfl)) rfl (by omega)) fun o ov F6 H6 ho g6 e6 hov => ?_
    have hn6 : Rp K F6 nv (dI (namL m)) := Rp.mono (up4.trans (e5.trans e6)) _ _ hnv
    refine t_asgG (K := K) (R := Is (dI (if m > 1 then (namL m).map fun _ => (m : Int) - 1 else [1]))) g0 h0 g6 (g_if (b := decide ((m : Int) > 1)) (et_of (g_opI (gm rfl) g_int (rv_bl (g := fun i j => decide (i > j))))) (fun hb => ?_) fun hb => ?_) fun d tv F7 H7 hd g7 e7 htv => ?_
    · rw [if_pos (by have : (1 : Int) < (m : Int) := by simpa using hb
                     omega)]
      refine (g_lcE PyData.int (namL m) (fun _ => true) (fun _ => .int ((m : Int) - 1)) (w_listI (g_var rfl hn6)) (by omega) (fun _ => rfl) (fun _ _ _ _ _ _ => et_yes) (fun j _ _ F' e' u hu => g_opI (gm rfl) g_int rv_sub)).is ?_
      rw [List.filter_eq_self.mpr (fun _ _ => rfl)]
      show PyData.list _ = PyData.list _
      rw [List.map_map]; rfl
    · rw [if_neg (by have : (m : Int) ≤ 1 := by simpa using hb
                     omega)]
      exact g_lstI (gs_one g_int) (by simp)
    subst hd
    have hn7 := Rp.mono e7 _ _ hn6
    refine t_asgG (K := K) (R := fun d => fewD d ∧ holdsB d m = false) g0 h0 g7 (g_pick (ds := badNames m o) (c := 4) (g_lstI (gs_consI (g_opI (g_var rfl hn7) (g_lstI (gs_one g_int) (by simp)) (rv_cat (by simp; omega))) (gs_consI (g_var rfl htv) (gs_consI (g_opI (g_lstI (gs_one (g_var rfl (Rp.mono e7 _ _ hov))) (by simp)) (g_slFr (k := 1) (g_var rfl hn7)) (rv_cat (by simp; omega))) (gs_one g_non)))) (by simp [badNames])) (g_callP (m := 4) rfl g_int (by decide)) (by simp [badNames]) fun d hd => ⟨few_of (badNames_few m hm o ho d hd), names_facts m hm o ho d hd⟩) fun x xv F8 H8 hx g8 e8 hxv => ?_
    refine t_asgG1 (K := K) (R := Is (.tuple [.str "names"])) g0 h0 g8 (g_tupI (gs_one g_str) (by simp)) fun dw dwv F9 H9 hdw g9 e9 hdwv => ?_
    exact hN _ F9 H9 _ ⟨x, xv, dw, dwv, _, _, rfl, rfl, Rp.mono e9 _ _ hxv, hdwv, hx.1, .inr ⟨hx.2, hdw⟩⟩ g9 (((e5.trans e6).trans (e7.trans e8)).trans e9)
  · exact hN _ F5 H5 _ ⟨dI (namL m), nv, goodDue n m, dv, none, none, rfl, rfl, Rp.mono (up4.trans e5) _ _ hnv, Rp.mono (e4.trans e5) _ _ hdv, by show ((namL m).map PyData.int).length ≤ 100; rw [List.length_map]; omega, .inl ⟨rfl, rfl⟩⟩ g5 e5
  obtain ⟨x, xv, dw, dwv, z8, z9, rfl, rfl, hxv, hdwv, hfx, hA⟩ := hJ
  -- the order spoilt
  refine t_ifGJ (K := K) (fun σ' F' => ∃ L dw2 dwv2 z8 z11, σ' = [some (.ref q.p), some (.int n), some (.int m), some (.ref l), none, some xv, some dwv2, some (.int wd), z8, z9, none, z11, none, none] ∧ Rp K F' (.ref l) (.list L) ∧ L.length ≤ 100 ∧ Rp K F' dwv2 dw2 ∧
      ((L = (ordL n).map PyData.int ∧ x = dI (namL m) ∧ dw2 = goodDue n m) ∨ ∃ wd2 : Str, wd2 ∈ (["order", "names"] : List Str) ∧ LeadBad n m (.list L) x wd2 ∧ dw2 = .tuple [.str wd2])) g0 h0 g5
    (et_of (K := K) (g_opI (g_var (v := .int wd) (d := .int wd) rfl (.int _)) (g_tupI (gs_two g_int g_int) (by simp)) (rv_inT (ns := [2, 3])))) (fun hb F6 H6 g6 e6 N hN => ?_) (fun hb F6 H6 g6 e6 N hN => ?_) (fun σ' F6 H6 hJ s6 e6 => ?_)
  · refine t_asgG (K := K) (R := Drawn n) g0 h0 g6 (g_callP (m := (n : Int)) rfl (gn rfl) ⟨by omega, by omega⟩) fun d pv' F7 H7 hd g7 e7 hpv => ?_
    obtain ⟨p', rfl, p0, p1⟩ := hd
    obtain rfl := rp_int hpv
    obtain ⟨p, rfl⟩ : ∃ p : Nat, p' = (p : Int) := ⟨p'.toNat, by omega⟩
    refine t_asgG (K := K) (R := fun d => d ∈ odds n) g0 h0 g7 (g_callQ n rfl (gs_one (gn rfl)) rfl (by omega)) fun o ov F8 H8 ho g8 e8 hov => ?_
    obtain ⟨of1, of2⟩ := order_facts n hn p (by rw [List.mem_range]; omega)
    obtain ⟨y, hy, hyB⟩ : ∃ y, atI ((ordL n).map PyData.int) ((p : Int) - 1) = some y ∧ holdsB (.list (((ordL n).map PyData.int).set p y)) n = false := by
      cases h : atI ((ordL n).map PyData.int) ((p : Int) - 1) with
      | none => rw [h] at of2; cases of2
      | some y => rw [h] at of2; exact ⟨y, rfl, of2⟩
    show tAsg _ (gSub (tVar 3) (tVar 11) rSetL) _ _ _
    refine t_setH (K := K) (R := fun d => d = o ∨ d = y) (j := p) g0 h0 g8 rfl (g_pickOwn (a := 8) (o := 3) (p := (p : Int) - 1) g0 h0 g8 rfl hov rfl (g_opI (g_var (v := .int p) (i := 11) rfl (.int _)) g_int rv_sub) (fun Q h => ⟨_, rfl, (p : Int), 1, rfl, rfl, h⟩) hy fun F' e' => g_callP (m := 2) rfl g_int (by decide)) (g_var (v := .int p) rfl (.int _)) (by rw [List.length_map]; omega) fun d F9 H9 hd g9 e9 => ?_
    have hbad : holdsB (.list (((ordL n).map PyData.int).set p d)) n = false := by
      rcases hd with rfl | rfl
      · exact of1 _ ho
      · exact hyB
    refine t_asgG1 (K := K) (R := Is (.tuple [.str "order"])) g0 h0 g9 (g_tupI (gs_one g_str) (by simp)) fun dw2 dwv2 F10 H10 hdw g10 e10 hdwv2 => ?_
    obtain ⟨F11, s11, e11, r11⟩ := g10.done g0 h0
    exact hN _ F11 H10 ⟨_, dw2, dwv2, _, _, rfl, r11, by rw [List.length_set, List.length_map]; omega, Rp.mono e11 _ _ hdwv2, .inr ⟨"order", by simp, .order hbad, hdw⟩⟩ s11 (((e6.trans e7).trans (e8.trans e9)).trans (e10.trans e11))
  · obtain ⟨F7, s7, e7, r7⟩ := g6.done g0 h0
    refine hN _ F7 H6 ⟨_, dw, dwv, z8, none, rfl, r7, by rw [List.length_map]; omega, Rp.mono (e6.trans e7) _ _ hdwv, ?_⟩ s7 (e6.trans e7)
    rcases hA with ⟨rfl, rfl⟩ | ⟨h1, rfl⟩
    · exact .inl ⟨rfl, rfl, rfl⟩
    · exact .inr ⟨"names", by simp, .names f1 h1, rfl⟩
  obtain ⟨L, dw2, dwv2, z8, z11, rfl, hL, hLl, hdw2, hO⟩ := hJ
  have hx6 := Rp.mono e6 _ _ hxv
  refine t_asgI (K := K) (d := .none) s6 g_non fun v0 F7 H7 s7 e7 hv0 => ?_
  have fin : ∀ {due : PyData} {v : V} {z13 : Option V} {F8 H8 : Hp}, Step (some q) F H F8 H8 → Rp K F8 v due → Rp K F8 dwv2 due → PyData.eqv due due = true → SeqAt.shaped due = true →
      tRet (tOp (rEqD K) (tVar 12) (tVar 6)) { nx := fun _ H' => Q .non H', rt := Q } [some (.ref q.p), some (.int n), some (.int m), some (.ref l), none, some xv, some dwv2, some (.int wd), z8, z9, none, z11, some v, z13] H8 := fun {due v z13 F8 H8} s8 h1 h2 h3 h4 =>
    t_retI (K := K) s8 ((g_opI (g_var rfl h1) (g_var rfl h2) (rv_eqD h4 h4)).is (by rw [h3])) k
  rcases hO with ⟨rfl, rfl, rfl⟩ | ⟨wd2, hwd, hbad, rfl⟩
  · have hL7 := Rp.mono e7 _ _ hL
    have hx7 := Rp.mono e7 _ _ hx6
    exact ⟨_, rfl, _, rfl, _, rfl, _, rfl, .inl ⟨(n, m, (ordL n).map PyData.int, (namL m).map PyData.int), F7, ⟨⟨by simp only; omega, by simp only; omega, by simp only [List.length_map]; omega, by simp only [List.length_map]; omega⟩, f1, f2⟩, s7.inn, .cons (.int _) (.cons (.int _) (.cons hL7 (.cons hx7 .nil))), fun v F8 H8 s8 hv =>
      ⟨sz_of (by show 2 ≤ 100000; decide), fun p hp => by
        have s78 := s7.trans (s8.lift s7.good)
        have s9 : Step (some q) F8 H8 (upd F8 p (.tup [.int 0, v])) (upd H8 p (.tup [.int 0, v])) := .laid s78.inn s78.good hp
        exact fin (s78.trans s9) (.tup upd_same (.cons (.int 0) (.cons (Rp.mono s9.sub _ _ hv) .nil))) (Rp.mono ((e7.trans s8.sub).trans s9.sub) _ _ hdw2) f5 f6⟩⟩⟩
  · obtain ⟨w1, w2⟩ := word_facts wd2 hwd
    have hL7 := Rp.mono e7 _ _ hL
    have hx7 := Rp.mono e7 _ _ hx6
    exact ⟨_, rfl, _, rfl, _, rfl, _, rfl, .inr ⟨n, m, .list L, x, .ref l, xv, wd2, F7, rfl, ⟨by omega, by omega, hLl, hfx⟩, hbad, s7.inn, hL7, hx7, fun F8 H8 dd s8 hdd =>
      ⟨true, EL.self, fun _ a ha => lead_tells EL (s7.trans (s8.lift s7.good)) hdd rfl fun v F9 H9 s9 e9 hv => fin s9 hv (Rp.mono ((e7.trans s8.sub).trans e9) _ _ hdw2) w1 w2, fun z => by cases z⟩⟩⟩
end
end K3

namespace K3
open PySem PySem.Spec PyProof.Rows L2 L2H Fv Evl StX
abbrev s_law_lot_asked : Stmt := topS 35
theorem sc_law_lot_asked : FnScope ["_law_pot_here", "_law_n", "_law_lot_here", "_law_k", "_law_due", "_law_odd_here", "_law_found", "_law_why"] ["_law_pot_here", "_law_n"] (defScope s_law_lot_asked) := ⟨rfl, rfl, rfl, by decide +kernel, rfl, by decide +kernel, by decide +kernel⟩
section
variable {P : Program} {w : World} {K : PySem.W.Frag} {mg : Str → Option Value} {base : Heap} {CF C fI : Addr} {mc : Value}
variable {pt : Option Pt} {σ : L2.St} {F F0 H0 H : Hp} {te ta tb : TE} {ts tr : TA} {D : Ends} {tz : TS}
/-- a maker that stores nothing -/
def spI0 (C : Addr) : Sp := fun vs H Q _ => ∃ a : Addr, vs = [.ref a] ∧ H a = some (exo a C none) ∧ Q .non H
theorem ok_lotE {fd : FuncData} (Fn : Fun K "__init__" "BadLot.__init__" s_BadLot___init__ fI fd) (FC : FirmC K mg CF mc) (EC : ErrC K mg CF C fI "BadLot" []) : FnOk P w K mg base CX0 1 fI fd ["self"] (spI0 C) := by
  refine Fn.ok sc_BadLot___init__ (fun vs H Q E ⟨_, h, _⟩ => by rw [h]; rfl) (fun cdv A outer s H vs Q E hr h => ?_)
  obtain ⟨a, rfl, ho, q⟩ := h
  refine ⟨_, (pss_one (ps_expr (pe_fminit (by rfl) FC.g FC.r FC.v (pa_cons (pv 0) (pa_cons pe_str pa_nil))))), ?_⟩
  exact ⟨_, rfl, a, C, _, rfl, by decide, EC.T, ho, q⟩
theorem r_mk0 {Q : XK} (q : Q (.ref C) none H) : tMk0 C (spI0 C) σ H Q := fun a ha => ⟨a, rfl, upd_same, rfl, upd_same, by
  have e : L2.del (upd H a (exo a C none)) a = H := by
    funext b
    by_cases z : b = a
    · rw [z, L2.del_same, ha]
    · rw [L2.del_ne z, upd_ne z]
  rw [e]; exact q⟩
/-- what is no lot -/
inductive LotBad (n : Nat) : PyData → Prop
  | kind (d : PyData) (h : (isL d || isT d) = false) : LotBad n d
  | item (ds : List PyData) (hz : ds.length ≤ 100) (h : ds.all (isWhole (some 0) (some ((n : Int) - 1))) = false) : LotBad n (.list ds)
def spLotB (K : PySem.W.Frag) (C : Addr) : Sp := fun vs H _ E => ∃ (n : Nat) (d : PyData) (v : V) (F : Hp), vs = [.int n, v] ∧ LotBad n d ∧ Ex F H ∧ Rp K F v d ∧ ∀ F2 H2, Step none F H F2 H2 → E (.ref C) none H2
theorem ok_lotB {f fS fW : Addr} {fd fdS fdW fdI : FuncData} (Fn : Fun K "check_lot" "check_lot" s_check_lot f fd) (T : Tx mg) (FC : FirmC K mg CF mc) (E_BadLot : ErrC K mg CF C fI "BadLot" [])
    (FI : Fun K "__init__" "BadLot.__init__" s_BadLot___init__ fI fdI) (bI_BadLot : Binds K fdI ["self"] [])
    (F_is_sequence : Fun K "is_sequence" "is_sequence" s_is_sequence fS fdS) (b_is_sequence : Binds K fdS ["thing"] []) (g_is_sequence : mg "is_sequence" = some (.ref fS))
    (F_is_whole : FunW K fW fdW) (b_is_whole : Binds K fdW ["thing", "low", "high"] []) (g_is_whole : mg "is_whole" = some (.ref fW)) : FnOk P w K mg base (L2.CX P w) 3 f fd ["houses", "lot"] (spLotB K C) := by
  have GI_BadLot : FnOk P w K mg base CX0 1 fI fdI ["self"] (spI0 C) := ok_lotE FI FC E_BadLot
  have G_is_sequence : FnOk P w K mg base CX0 1 fS fdS ["thing"] (spSeq K) := ok_seq F_is_sequence T
  have G_is_whole : FnOk P w K mg base CX0 1 fW fdW ["thing", "low", "high"] (spWhole K) := ok_whole F_is_whole T
  refine Fn.okX sc_check_lot (fun vs H Q E ⟨_, _, _, _, h, _⟩ => by rw [h]; rfl) (fun cdv A outer s H vs Q E hr h => ?_)
  obtain ⟨n, d, v, F, rfl, hb, e, hv, q⟩ := h
  refine ⟨_, (pss_cons (ps_if (PW.pt (pw_or (pt_not (pt_val (pe_call G_is_sequence (hr.mono (by decide)) (by rfl) g_is_sequence F_is_sequence.kp b_is_sequence .nil pass0 (pa_cons (pv 1) pa_nil)))) (pw_or1 (pt_not (pt_val (pe_callB (c_all (K := K)) (by rfl) T.all (by decide +kernel) (pa_cons (pe_lc (own := [("house", 2)]) (g := gName 2) rfl sc_check_lot.nd (i_list (K := K) (pv 1)) (blkOk_by (own := [("house", 2)]) (N := ["houses", "lot", "house"]) (sc := (defScope s_check_lot)) (by decide +kernel)) (fun _ _ _ _ _ => pg_name (i := 2) sc_check_lot.nd rfl (by first | exact Or.inl rfl | exact Or.inr rfl)) (fun _ _ _ _ _ => pts_nil) (fun _ _ _ _ _ => (pe_call G_is_whole (hr.mono (by decide)) (by rfl) g_is_whole F_is_whole.kp b_is_whole .nil pass0 (pa_cons (pv 2) (pa_cons pe_int (pa_cons (pe_op op_sub (pv 0) pe_int) pa_nil)))))) pa_nil))))))) (pss_one (ps_raise rfl (takes_of rfl rfl rfl rfl) (pmk_oex0 E_BadLot.T E_BadLot.iC E_BadLot.tI GI_BadLot (hr.mono (by decide)) bI_BadLot pass0 (by rfl) E_BadLot.g))) pss_nil)
    (pss_one (ps_ret (pe_callTy (c_tup (K := K)) (by rfl) T.tuple (by decide +kernel) (pa_cons (pe_callB (c_sortedSet (w := w)) (by rfl) T.sorted (by decide +kernel) (pa_cons (pe_callTy (c_setL (K := K) (w := w)) (by rfl) T.set (by decide +kernel) (pa_cons (pv 1) pa_nil)) pa_nil)) pa_nil))))), ?_⟩
  cases hb with
  | kind _ h =>
    refine t_when (b := true) (Step.refl e .nil) ((et_or (a := true) (b := true) ((et_not (b := false) (et_B ((g_call d (gs_one (g_var rfl hv)) rfl trivial).is (by rw [h])))).is rfl) (fun z => by cases z)).is rfl) (fun _ F2 H2 s2 e2 => ?_) (fun z => by cases z)
    exact r_mk0 (q F2 H2 s2)
  | item ds hz h =>
    refine t_when (b := true) (Step.refl e .nil) ((et_or (a := false) (b := true) ((et_not (b := true) (et_B ((g_call (PyData.list ds) (gs_one (g_var rfl hv)) rfl trivial)))).is rfl) fun _ => ?_).is rfl) (fun _ F2 H2 s2 e2 => ?_) (fun z => by cases z)
    · refine (et_not (b := false) ?_).is rfl
      refine (et_B (g_cbI (gs_one (g_lcEM (fun d => d) ds (fun d => .bool (isWhole (some 0) (some ((n : Int) - 1)) d)) (w_listI ((g_var rfl hv).is (by rw [List.map_id']))) (Nat.le_trans hz (by decide)) (fun _ => rfl) fun k hk F' e' y hy => ?_)) (rc_allM ds _))).is h
      exact g_call (k, some 0, some ((n : Int) - 1)) (gs_three (g_var rfl hy) g_int (g_opI (g_var (v := .int n) (d := .int n) rfl (.int _)) g_int rv_sub)) rfl trivial
    · exact r_mk0 (q F2 H2 s2)
theorem rv_inI {i : Int} {ns : List Int} : RvG K (rIn K false) (.int i) (dI ns) (Is (.bool (decide (i ∈ ns)))) := rv_val fun F H x y e hx hy => by
  obtain ⟨a, xs, rfl, hl, ha⟩ := rp_lst hy
  have e1 := rpAll_ints ha
  subst e1
  rw [rp_int hx]
  exact ⟨.bl (inV (.int i) (ns.map V.int)), fun Q q => ⟨a, _, rfl, .inl (SqL.of (e _ _ hl)), rfl, flat_ints ns, q⟩, by rw [inV_ints]; exact .bl _⟩
theorem ref_facts : PyData.eqv (.tuple [.str "refused"]) (.tuple [.str "refused"]) = true ∧ SeqAt.shaped (.tuple [.str "refused"]) = true := by decide +kernel
def spLotU (K : PySem.W.Frag) (C : Addr) : Sp := fun vs H Q E => spLot K vs H Q E ∨ spLotB K C vs H Q E
abbrev spAskedT (K : PySem.W.Frag) : Sp := spQ K (fun n : Nat => [.int n]) (fun n => 2 ≤ n ∧ n ≤ 4) (fun _ => Is (.bool true))
theorem all_bad {n : Nat} {d : PyData} {ds es : List PyData} (h : okE n d = false) : (ds ++ [d] ++ es).all (isWhole (some 0) (some ((n : Int) - 1))) = false := by
  rw [List.all_append, List.all_append, List.all_cons, show isWhole (some 0) (some ((n : Int) - 1)) d = false from h]
  simp
theorem ok_lotAsked {f fD fO fC fT CB iB : Addr} {fd fdD fdO fdC fdT : FuncData} (Fn : Fun K "_law_lot_asked" "_law_lot_asked" s_law_lot_asked f fd) (T : Tx mg) (EB : ErrC K mg CF CB iB "BadLot" [])
    (F_law_draw : Fun K "_law_draw" "_law_draw" s_law_draw fD fdD) (b_law_draw : Binds K fdD ["_law_pot_here", "_law_many"] []) (g_law_draw : mg "_law_draw" = some (.ref fD))
    (F_law_odd : Fun K "_law_odd" "_law_odd" s_law_odd fO fdO) (b_law_odd : Binds K fdO ["_law_pot_here", "_law_many"] []) (g_law_odd : mg "_law_odd" = some (.ref fO)) (G_law_odd : FnOk P w K mg base CX0 2 fO fdO ["_law_pot_here", "_law_many"] (spOdd K))
    (F_check_lot : Fun K "check_lot" "check_lot" s_check_lot fC fdC) (b_check_lot : Binds K fdC ["houses", "lot"] []) (g_check_lot : mg "check_lot" = some (.ref fC)) (GX_check_lot : FnOk P w K mg base (L2.CX P w) 3 fC fdC ["houses", "lot"] (spLotU K CB))
    (F_law_told : Fun K "_law_told" "_law_told" s_law_told fT fdT) (b_law_told : Binds K fdT ["_law_why", "_law_base"] []) (g_law_told : mg "_law_told" = some (.ref fT)) (GT_law_told : ∀ cls, FnT P w K mg base 1 fT fdT ["_law_why", "_law_base"] cls (spTold K CF cls)) :
    FnOk P w K mg base CX0 5 f fd ["_law_pot_here", "_law_n"] (spAskedT K) := by
  have G_law_draw : FnOk P w K mg base CX0 1 fD fdD ["_law_pot_here", "_law_many"] (spDraw K) := ok_draw F_law_draw T
  refine Fn.ok sc_law_lot_asked (spQ.len (n := 1) (fun _ => rfl)) (fun cdv A outer s H vs Q E hr h => ?_)
  obtain ⟨q, n, F, as, rfl, ⟨n2, n4⟩, e, g, ha, k0⟩ := h
  obtain ⟨v1, rfl, h1⟩ := rpAll1 ha
  obtain rfl := rp_int h1
  have k : ∀ v F2 H2, Step (some q) F H F2 H2 → Rp K F2 v (.bool true) → Q v H2 := fun v F2 H2 s hv => k0 _ v F2 H2 rfl s hv
  refine ⟨_, (pss_cons (ps_set (i := 2) sc_law_lot_asked.nd rfl (by first | exact Or.inl rfl | exact Or.inr rfl) (pe_lc (own := [("_law_k", 3)]) (g := gName 3) rfl sc_law_lot_asked.nd (pi_range1 (by rfl) T.range (pa_cons (pe_call G_law_draw (hr.mono (by decide)) (by rfl) g_law_draw F_law_draw.kp b_law_draw .nil pass0 (pa_cons (pv 0) (pa_cons (pe_op op_add (pv 1) pe_int) pa_nil))) pa_nil)) (blkOk_by (own := [("_law_k", 3)]) (N := ["_law_pot_here", "_law_n", "_law_lot_here", "_law_k", "_law_due", "_law_odd_here", "_law_found", "_law_why"]) (sc := (defScope s_law_lot_asked)) (by decide +kernel)) (fun _ _ _ _ _ => pg_name (i := 3) sc_law_lot_asked.nd rfl (by first | exact Or.inl rfl | exact Or.inr rfl)) (fun _ _ _ _ _ => pts_nil) (fun _ _ _ _ _ => (pe_call G_law_draw (hr.mono (by decide)) (by rfl) g_law_draw F_law_draw.kp b_law_draw .nil pass0 (pa_cons (pv 0) (pa_cons (pv 1) pa_nil))))))
    (pss_cons (ps_set (i := 4) sc_law_lot_asked.nd rfl (by first | exact Or.inl rfl | exact Or.inr rfl) (pe_callTy (c_tup (K := K)) (by rfl) T.tuple (by decide +kernel) (pa_cons (pe_lc (own := [("_law_k", 3)]) (g := gName 3) rfl sc_law_lot_asked.nd (pi_range1 (by rfl) T.range (pa_cons (pv 1) pa_nil)) (blkOk_by (own := [("_law_k", 3)]) (N := ["_law_pot_here", "_law_n", "_law_lot_here", "_law_k", "_law_due", "_law_odd_here", "_law_found", "_law_why"]) (sc := (defScope s_law_lot_asked)) (by decide +kernel)) (fun _ _ _ _ _ => pg_name (i := 3) sc_law_lot_asked.nd rfl (by first | exact Or.inl rfl | exact Or.inr rfl)) (fun _ _ _ _ _ => (pts_one (pt_cmpR (o_in (K := K)) (pv 3) (pv 2) (by rfl)))) (fun _ _ _ _ _ => (pv 3))) pa_nil)))
    (pss_cons (ps_if (pt_cmpR op_eq (pe_call G_law_draw (hr.mono (by decide)) (by rfl) g_law_draw F_law_draw.kp b_law_draw .nil pass0 (pa_cons (pv 0) (pa_cons pe_int pa_nil))) pe_int (nomark _)) (pss_cons (ps_set (i := 5) sc_law_lot_asked.nd rfl (by first | exact Or.inl rfl | exact Or.inr rfl) (pe_call G_law_odd (hr.mono (by decide)) (by rfl) g_law_odd F_law_odd.kp b_law_odd .nil pass0 (pa_cons (pv 0) (pa_cons (pv 1) pa_nil))))
    (pss_cons (ps_expr (pe_bm PySem.F.plainAttrs_list PySem.F.slot_list_insert PySem.F.type_list_insert mt_insert (pv 2) (pa_cons (pe_call G_law_draw (hr.mono (by decide)) (by rfl) g_law_draw F_law_draw.kp b_law_draw .nil pass0 (pa_cons (pv 0) (pa_cons (pe_op op_add (pe_callB (c_len (K := K)) (by rfl) T.len (by decide +kernel) (pa_cons (pv 2) pa_nil)) pe_int) pa_nil))) (pa_cons (pv 5) pa_nil))))
    (pss_one (ps_set (i := 4) sc_law_lot_asked.nd rfl (by first | exact Or.inl rfl | exact Or.inr rfl) (pe_tup (pa_cons pe_str pa_nil)))))) pss_nil)
    (pss_cons (ps_set (i := 6) sc_law_lot_asked.nd rfl (by first | exact Or.inl rfl | exact Or.inr rfl) pe_non)
    (pss_cons (ps_try_as (i := 7) rfl rfl sc_law_lot_asked.nd rfl rfl ⟨by rfl, by decide, .inl EB.g⟩ takes0 (fun W pn xe tkW po => (pss_one (ps_set (i := 6) sc_law_lot_asked.nd rfl (by first | exact Or.inl rfl | exact Or.inr rfl) (pe_callS GX_check_lot (hr.mono (by decide)) (by rfl) g_check_lot F_check_lot.kp b_check_lot (fun σ => passAt tkW σ) (pa_cons (pv 1) (pa_cons (pv 2) pa_nil)))))) (fun a oe cls d pn hz hf => (pss_one (ps_set (i := 6) sc_law_lot_asked.nd rfl (by first | exact Or.inl rfl | exact Or.inr rfl) (pe_callT hz (GT_law_told cls) (roomH_of (hr.mono (by decide))) (by rfl) g_law_told F_law_told.kp b_law_told (pa_cons (pv 7) (pa_cons (pe_tup (pa_cons pe_str pa_nil)) pa_nil)))))))
    (pss_one (ps_ret (pe_cmpR (o_eqD (K := K) hr.units) (pv 6) (pv 4) (nomark _))))))))), ?_⟩
  have gn : ∀ {σ' : L2.St} {F' : Hp}, σ'[1]? = some (some (.int n)) → EvG K (some q) (tVar 1) σ' F' (Is (.int n)) := fun h => g_var (v := .int n) h (.int _)
  have g0 : Good (some q) F H := g
  -- the lot
  refine t_lcGR (K := K) (Re := Drawn n) (RS := fun ds => ∃ c : Nat, c < 10 ∧ ds = (hs c).map .int) (Step.refl e g)
    ((w_rng1 (R0 := fun l => ∃ d, l = [d] ∧ Drawn ((n : Int) + 2) d) (g_consR (g_callP (m := (n : Int) + 2) rfl (g_opI (gn rfl) g_int rv_add) ⟨by omega, by omega⟩)) (fun ds ⟨d, h1, k, h2, h3, h4⟩ => ⟨k, by rw [h1, h2], by omega, by omega⟩)).imp fun ds ⟨k, ⟨d, h1, k', h2, h3, h4⟩, h5⟩ => ⟨k.toNat, by
        subst h2
        have e : k = k' := by simpa using h1
        omega, by rw [h5, rng_hs]⟩)
    (fun ds ⟨c, hc, h⟩ => by rw [h, List.length_map, hs_len]; omega) (fun _ => rfl) (fun F' e' x => g_callP (m := (n : Int)) rfl (gn rfl) ⟨by omega, by omega⟩) fun l F1 H1 ls ds h0 hds hlen hls g1 e1 => ?_
  obtain ⟨xs, rfl, hx⟩ : ∃ xs : List Int, ls = xs.map PyData.int ∧ ∀ k ∈ xs, 0 ≤ k ∧ k < (n : Int) := ⟨ls.map intOf, by
      rw [List.map_map]
      refine ((List.map_congr_left fun d hd => ?_).trans (List.map_id _)).symm
      obtain ⟨j, rfl, _⟩ := hls d hd
      rfl, fun j hj => by
      obtain ⟨d, hd, rfl⟩ := List.mem_map.mp hj
      obtain ⟨i, rfl, i0, i1⟩ := hls d hd
      exact ⟨i0, i1⟩⟩
  have hxl : xs.length < 10 := by
    obtain ⟨c, hc, rfl⟩ := hds
    rw [List.length_map, List.length_map, hs_len] at hlen; omega
  -- what is due
  refine t_asgFix (K := K) (ns := lotOf n xs) g0 h0 g1 (fun Fp ep hl => g_cbI (gs_one (g_lcE PyData.int (hs n) (fun k => decide (k ∈ xs)) PyData.int ?_ (by rw [hs_len]; omega) (fun _ => rfl) (fun j _ F' e' u hu => et_of (g_opI (g_var rfl hu) (g_var rfl (Rp.mono e' _ _ hl)) rv_inI)) (fun j _ _ F' e' u hu => g_var rfl hu))) rc_tupL) fun dv F2 H2 g2 e2 hdv => ?_
  · have := w_rng1I (K := K) (pt := some q) (σ := (start ["_law_pot_here", "_law_n", "_law_lot_here", "_law_k", "_law_due", "_law_odd_here", "_law_found", "_law_why"] [.ref q.p, .int n]).set 2 (some (.ref l))) (F := Fp) (n := ((n : Nat) : Int)) (gs_one (g_var (v := .int n) (i := 1) rfl (.int _))) (by omega) (by omega)
    rw [show ((n : Nat) : Int).toNat = n by omega, rng_hs] at this
    exact this
  -- something odd within
  refine t_ifGN (K := K) (fun σ' F' => ∃ dwv z5, σ' = [some (.ref q.p), some (.int n), some (.ref l), none, some dwv, z5, none, none] ∧
      ((Rp K F' (.ref l) (dI xs) ∧ Rp K F' dwv (dT (lotOf n xs))) ∨ ∃ ds, Rp K F' (.ref l) (.list ds) ∧ LotBad n (.list ds) ∧ Rp K F' dwv (.tuple [.str "refused"]))) g0 h0 g2
    (et_any (K := K) (g_op (R1 := Drawn 3) (S2 := Is (.int 0)) (R3 := fun d => ∃ b, d = .bool b) (g_callP (m := 3) rfl g_int (by decide)) g_int fun d e h1 h2 => by
      obtain ⟨j, rfl, _⟩ := h1
      subst h2
      exact fun F H x y i hx hy Q q => rv_eqI F H x y i hx hy Q fun z v F2 H2 hz s hv => q z v F2 H2 ⟨_, hz⟩ s hv)) (fun F3 H3 g3 e3 N hN => ?_) (fun F3 H3 g3 e3 N hN => ?_) (fun σ' F3 H3 hJ s3 e3 => ?_)
  · refine t_asgG (K := K) (R := fun d => d ∈ odds n) g0 h0 g3 (g_callQ n rfl (gs_one (gn rfl)) rfl (by omega)) fun o ov F4 H4 ho g4 e4 hov => ?_
    show tDrop _ _ _ _
    refine t_insG (K := K) (d := o) g0 h0 g4 rfl rfl hov (fun Fp ep hl => ?_) (by rw [List.length_map]; omega) fun j F5 H5 g5 e5 => ?_
    · exact (g_callP (m := (xs.length : Int) + 1) rfl ((g_opI (g_cbI (gs_one (g_var rfl hl)) rc_lenL) g_int rv_add).is (by simp)) ⟨by omega, by omega⟩).imp fun d ⟨j, hj, j0, j1⟩ => ⟨j, hj, j0, by omega⟩
    refine t_asgG1 (K := K) (R := Is (.tuple [.str "refused"])) g0 h0 g5 (g_tupI (gs_one g_str) (by simp)) fun dw dwv F6 H6 hdw g6 e6 hdwv => ?_
    subst hdw
    obtain ⟨F7, s7, e7, r7⟩ := g6.done g0 h0
    exact hN _ F7 H6 ⟨dwv, _, rfl, .inr ⟨_, r7, .item _ (by simp; omega) (all_bad (odd_bad ho)), Rp.mono e7 _ _ hdwv⟩⟩ s7 ((e3.trans e4).trans (e5.trans (e6.trans e7)))
  · obtain ⟨F4, s4, e4, r4⟩ := g3.done g0 h0
    exact hN _ F4 H3 ⟨dv, none, rfl, .inl ⟨r4, Rp.mono (e3.trans e4) _ _ hdv⟩⟩ s4 (e3.trans e4)
  obtain ⟨dwv, z5, rfl, hO⟩ := hJ
  refine t_asgI (K := K) (d := .none) s3 g_non fun v0 F4 H4 s4 e4 hv0 => ?_
  have fin : ∀ {due : PyData} {v : V} {z7 : Option V} {F8 H8 : Hp}, Step (some q) F H F8 H8 → Rp K F8 v due → Rp K F8 dwv due → PyData.eqv due due = true → SeqAt.shaped due = true →
      tRet (tOp (rEqD K) (tVar 6) (tVar 4)) { nx := fun _ H' => Q .non H', rt := Q } [some (.ref q.p), some (.int n), some (.ref l), none, some dwv, z5, some v, z7] H8 := fun {due v z7 F8 H8} s8 h1 h2 h3 h4 =>
    t_retI (K := K) s8 ((g_opI (g_var rfl h1) (g_var rfl h2) (rv_eqD h4 h4)).is (by rw [h3])) k
  rcases hO with ⟨hl, hd⟩ | ⟨ds, hl, hbad, hd⟩
  · exact ⟨_, rfl, _, rfl, .inl ⟨(n, xs), F4, ⟨by simp only; omega, hx⟩, s4.inn, .cons (.int _) (.cons (Rp.mono e4 _ _ hl) .nil), fun v F8 H8 s8 hv =>
      fin (s4.trans (s8.lift s4.good)) hv (Rp.mono (e4.trans s8.sub) _ _ hd) (by rw [eqv_dT]; simp) (shaped_dT _)⟩⟩
  · obtain ⟨w1, w2⟩ := ref_facts
    exact ⟨_, rfl, _, rfl, .inr ⟨n, _, _, F4, rfl, hbad, s4.inn, Rp.mono e4 _ _ hl, fun F8 H8 s8 => ⟨true, EB.self, fun _ a ha => by
      have s48 := s4.trans (s8.lift s4.good)
      refine t_asg1 (K := K) (R := Is (.tuple [.str "refused"])) (Step.refl s48.inn s48.good) (g_told (i := 7) (by rfl) EB.up EB.kv (g_tupI (gs_one g_str) (by simp))) fun d v F9 H9 hd9 s9 e9 hv => ?_
      subst hd9
      exact fin (s48.trans s9) hv (Rp.mono ((e4.trans s8.sub).trans e9) _ _ hd) w1 w2, fun z => by cases z⟩⟩⟩
end
end K3

namespace K3
open PySem PySem.Spec PyProof.Rows L2 L2H Fv Evl StX
section
variable {P : Program} {w : World} {K : PySem.W.Frag} {mg : Str → Option Value} {base : Heap}
abbrev spLotT (K : PySem.W.Frag) : Sp := PSp K (fun i : Nat × List Int => [.int i.1, dT i.2]) (fun i => i.2.length ≤ 60 ∧ ∀ k ∈ i.2, 0 ≤ k ∧ k < (i.1 : Int)) (fun i => dT (lotOf i.1 i.2))
theorem ok_lotT {f fS fW : Addr} {fd fdS fdW : FuncData} (Fn : Fun K "check_lot" "check_lot" s_check_lot f fd) (T : Tx mg)
    (F_is_sequence : Fun K "is_sequence" "is_sequence" s_is_sequence fS fdS) (b_is_sequence : Binds K fdS ["thing"] []) (g_is_sequence : mg "is_sequence" = some (.ref fS))
    (F_is_whole : FunW K fW fdW) (b_is_whole : Binds K fdW ["thing", "low", "high"] []) (g_is_whole : mg "is_whole" = some (.ref fW)) :
    FnOk P w K mg base CX0 2 f fd ["houses", "lot"] (spLotT K) := by
  have G_is_sequence : FnOk P w K mg base CX0 1 fS fdS ["thing"] (spSeq K) := ok_seq F_is_sequence T
  have G_is_whole : FnOk P w K mg base CX0 1 fW fdW ["thing", "low", "high"] (spWhole K) := ok_whole F_is_whole T
  refine Fn.ok sc_check_lot (PSp.len (fun _ => rfl)) (fun cdv A outer s H vs Q E hr h => ?_)
  obtain ⟨⟨n, ns⟩, F, ⟨hz, hb⟩, e, ha, q⟩ := h
  obtain ⟨v, x, rfl, hv, hx⟩ := rpAll2 ha
  refine ⟨_, (pss_cons (ps_if (PW.pt (pw_or (pt_not (pt_val (pe_call G_is_sequence (hr.mono (by decide)) (by rfl) g_is_sequence F_is_sequence.kp b_is_sequence .nil pass0 (pa_cons (pv 1) pa_nil)))) (pw_or1 (pt_not (pt_val (pe_callB (c_all (K := K)) (by rfl) T.all (by decide +kernel) (pa_cons (pe_lc (own := [("house", 2)]) (g := gName 2) rfl sc_check_lot.nd (i_tup (K := K) (pv 1)) (blkOk_by (own := [("house", 2)]) (N := ["houses", "lot", "house"]) (sc := (defScope s_check_lot)) (by decide +kernel)) (fun _ _ _ _ _ => pg_name (i := 2) sc_check_lot.nd rfl (by first | exact Or.inl rfl | exact Or.inr rfl)) (fun _ _ _ _ _ => pts_nil) (fun _ _ _ _ _ => (pe_call G_is_whole (hr.mono (by decide)) (by rfl) g_is_whole F_is_whole.kp b_is_whole .nil pass0 (pa_cons (pv 2) (pa_cons pe_int (pa_cons (pe_op op_sub (pv 0) pe_int) pa_nil)))))) pa_nil))))))) (pss_one ps_never) pss_nil)
    (pss_one (ps_ret (pe_callTy (c_tup (K := K)) (by rfl) T.tuple (by decide +kernel) (pa_cons (pe_callB (c_sortedSet (w := w)) (by rfl) T.sorted (by decide +kernel) (pa_cons (pe_callTy (c_setT (K := K) (w := w)) (by rfl) T.set (by decide +kernel) (pa_cons (pv 1) pa_nil)) pa_nil)) pa_nil))))), ?_⟩
  have hall : (ns.all fun k => isWhole (some 0) (some ((n : Int) - 1)) (.int k)) = true := by
    rw [List.all_eq_true]
    intro k hk
    have := hb k hk
    simp only [isWhole, loOk, hiOk, Bool.and_eq_true, decide_eq_true_eq]
    simp only at this
    omega
  refine t_skip (Step.refl e .nil) ((et_or (a := false) (b := false) ((et_not (b := true) (et_B (g_call (dT ns) (gs_one (g_var rfl hx)) rfl trivial))).is rfl) fun _ => ?_).is rfl) (fun F2 H2 s2 e2 => ?_)
  · refine (et_not (b := true) ?_).is rfl
    refine (et_B (g_cbI (gs_one (g_lcEM PyData.int ns (fun k => .bool (isWhole (some 0) (some ((n : Int) - 1)) (.int k))) (w_tupI (g_var rfl hx)) (Nat.le_trans hz (by decide)) (fun _ => rfl) fun k hk F' e' y hy => ?_)) (rc_allM ns _))).is hall
    exact g_call (PyData.int k, some 0, some ((n : Int) - 1)) (gs_three (g_var rfl hy) g_int (g_op (g_var rfl (Rp.mono e' _ _ hv)) g_int fun _ _ h1 h2 => h1 ▸ h2 ▸ rv_sub)) rfl trivial
  · refine t_retI s2 (g_cb (g_consR (g_sortedSet (g_var rfl (Rp.mono e2 _ _ hx)) hz)) fun ds hds => ?_) q
    obtain ⟨d, rfl, ms, rfl, hp, hm⟩ := hds
    have := sorted_is hp hm hb
    subst this
    exact rc_tupL
end
end K3

namespace K3
open PySem PySem.Spec PyProof.Rows L2 L2H Fv Evl StX
section
variable {P : Program} {w : World} {K : PySem.W.Frag} {mg : Str → Option Value} {base : Heap} {CF C fI : Addr} {mc : Value}
variable {pt : Option Pt} {σ : L2.St} {F F0 H0 H : Hp} {te ta tb : TE} {ts tr : TA} {D : Ends} {tz : TS}
theorem okXN {x qual : Str} {st : Stmt} {f : Addr} {fd : FuncData} {N ps : List Str} {k : Nat} {sp : Sp} (Fn : Fun K x qual st f fd) (S : FnScope N ps (defScope st)) (len : ∀ vs H Q E, sp vs H Q E → vs.length = ps.length)
    (hb : ∀ (cv : Value) (A : Around) (out : List Env) (s : Shared) (H : Hp) (vs : List V) (Q : VK) (E : XK), Room k (A.deeper (envOfC qual (defScope st) s.heap.objs.size f cv)) → sp vs H Q E →
      ∃ t, PSs (cxOf (L2N.CX P w) P w K mg base N qual (defScope st) f cv A out s H E) (defBody st) t ∧ t { nx := fun _ H2 => Q .non H2, rt := Q } (start N vs) H) : FnOk P w K mg base (L2N.CX P w) (k + 1) f fd ps sp := by
  obtain ⟨oc, od, kV, doc, pm, an, cdv, ct, osl, rfl, lk, hc⟩ := Fn.ex
  exact fn_of lk hc S len fun A out s H vs Q E hr hs => hb cdv A out s H vs Q E hr hs
theorem ok_lotN {f fS fW : Addr} {fd fdS fdW fdI : FuncData} (Fn : Fun K "check_lot" "check_lot" s_check_lot f fd) (T : Tx mg) (FC : FirmC K mg CF mc) (E_BadLot : ErrC K mg CF C fI "BadLot" [])
    (FI : Fun K "__init__" "BadLot.__init__" s_BadLot___init__ fI fdI) (bI_BadLot : Binds K fdI ["self"] [])
    (F_is_sequence : Fun K "is_sequence" "is_sequence" s_is_sequence fS fdS) (b_is_sequence : Binds K fdS ["thing"] []) (g_is_sequence : mg "is_sequence" = some (.ref fS))
    (F_is_whole : FunW K fW fdW) (b_is_whole : Binds K fdW ["thing", "low", "high"] []) (g_is_whole : mg "is_whole" = some (.ref fW)) : FnOk P w K mg base (L2N.CX P w) 3 f fd ["houses", "lot"] (spLotB K C) := by
  have GI_BadLot : FnOk P w K mg base CX0 1 fI fdI ["self"] (spI0 C) := ok_lotE FI FC E_BadLot
  have G_is_sequence : FnOk P w K mg base CX0 1 fS fdS ["thing"] (spSeq K) := ok_seq F_is_sequence T
  have G_is_whole : FnOk P w K mg base CX0 1 fW fdW ["thing", "low", "high"] (spWhole K) := ok_whole F_is_whole T
  refine okXN Fn sc_check_lot (fun vs H Q E ⟨_, _, _, _, h, _⟩ => by rw [h]; rfl) (fun cdv A outer s H vs Q E hr h => ?_)
  obtain ⟨n, d, v, F, rfl, hb, e, hv, q⟩ := h
  refine ⟨_, (pss_cons (ps_if (PW.pt (pw_or (pt_not (pt_val (pe_call G_is_sequence (hr.mono (by decide)) (by rfl) g_is_sequence F_is_sequence.kp b_is_sequence .nil pass0 (pa_cons (pv 1) pa_nil)))) (pw_or1 (pt_not (pt_val (pe_callB (c_all (K := K)) (by rfl) T.all (by decide +kernel) (pa_cons (pe_lc (own := [("house", 2)]) (g := gName 2) rfl sc_check_lot.nd (i_list (K := K) (pv 1)) (blkOk_by (own := [("house", 2)]) (N := ["houses", "lot", "house"]) (sc := (defScope s_check_lot)) (by decide +kernel)) (fun _ _ _ _ _ => pg_name (i := 2) sc_check_lot.nd rfl (by first | exact Or.inl rfl | exact Or.inr rfl)) (fun _ _ _ _ _ => pts_nil) (fun _ _ _ _ _ => (pe_call G_is_whole (hr.mono (by decide)) (by rfl) g_is_whole F_is_whole.kp b_is_whole .nil pass0 (pa_cons (pv 2) (pa_cons pe_int (pa_cons (pe_op op_sub (pv 0) pe_int) pa_nil)))))) pa_nil))))))) (pss_one (L2N.ps_raise rfl (L2N.takes_of rfl rfl rfl rfl) (pmk_oex0N E_BadLot.T E_BadLot.iC E_BadLot.tI GI_BadLot (hr.mono (by decide)) bI_BadLot pass0 (by rfl) E_BadLot.g))) pss_nil)
    (pss_one (ps_ret (pe_callTy (c_tup (K := K)) (by rfl) T.tuple (by decide +kernel) (pa_cons (pe_callB (c_sortedSet (w := w)) (by rfl) T.sorted (by decide +kernel) (pa_cons (pe_callTy (c_setL (K := K) (w := w)) (by rfl) T.set (by decide +kernel) (pa_cons (pv 1) pa_nil)) pa_nil)) pa_nil))))), ?_⟩
  cases hb with
  | kind _ h =>
    refine t_when (b := true) (Step.refl e .nil) ((et_or (a := true) (b := true) ((et_not (b := false) (et_B ((g_call d (gs_one (g_var rfl hv)) rfl trivial).is (by rw [h])))).is rfl) (fun z => by cases z)).is rfl) (fun _ F2 H2 s2 e2 => ?_) (fun z => by cases z)
    exact r_mk0 (q F2 H2 s2)
  | item ds hz h =>
    refine t_when (b := true) (Step.refl e .nil) ((et_or (a := false) (b := true) ((et_not (b := true) (et_B ((g_call (PyData.list ds) (gs_one (g_var rfl hv)) rfl trivial)))).is rfl) fun _ => ?_).is rfl) (fun _ F2 H2 s2 e2 => ?_) (fun z => by cases z)
    · refine (et_not (b := false) ?_).is rfl
      refine (et_B (g_cbI (gs_one (g_lcEM (fun d => d) ds (fun d => .bool (isWhole (some 0) (some ((n : Int) - 1)) d)) (w_listI ((g_var rfl hv).is (by rw [List.map_id']))) (Nat.le_trans hz (by decide)) (fun _ => rfl) fun k hk F' e' y hy => ?_)) (rc_allM ds _))).is h
      exact g_call (k, some 0, some ((n : Int) - 1)) (gs_three (g_var rfl hy) g_int (g_opI (g_var (v := .int n) (d := .int n) rfl (.int _)) g_int rv_sub)) rfl trivial
    · exact r_mk0 (q F2 H2 s2)
theorem ok_bfallsH {fd : FuncData} (Fn : Fun K "__init__" "BadFalls.__init__" s_BadFalls___init__ fI fd) (FC : FirmC K mg CF mc) (EC : ErrC K mg CF C fI "BadFalls" ["what", "at"]) : FnH P w K mg base CX0 1 fI fd ["self", "what", "at"] (spI2 C "what" "at") := by
  obtain ⟨oc, od, kV, doc, pm, an, cdv, ct, osl, rfl, lk, hc⟩ := Fn.ex
  refine fn_ofH lk hc sc_BadFalls___init__ (fun vs H Q E ⟨_, _, _, h, _⟩ => by rw [h]; rfl) fun A outer s H vs Q E p hot room h => ?_
  obtain ⟨a, x, i, rfl, hx, hi, ho, q⟩ := h
  refine ⟨_, (pss_cons (ps_expr (pe_fminit (by rfl) FC.g FC.r FC.v (pa_cons (pv 0) (pa_cons (pe_joined (PJ.cons pe_str (PJ.cons (pe_fmt (pv 1)) (PJ.cons pe_str (PJ.cons (pe_fmt (pv 2)) PJ.nil))))) pa_nil)))) (pss_cons (ps_ost (pv 0) (pv 1)) (pss_one (ps_ost (pv 0) (pv 2))))), ?_⟩
  refine ⟨_, rfl, ?_⟩
  show tJs _ _ _ _ _
  refine joined (i := 1) (j := 2) hx hi ?_ ?_ ?_ ?_ fun out => ?_
  · rfl
  · rfl
  · decide
  · decide
  · exact ⟨a, C, _, rfl, by simp, EC.T, ho, _, rfl, _, rfl, a, C, rfl, EC.T, EC.no _ (by simp), .inl ⟨ho, fun dx h1 h2 => ⟨_, rfl, _, rfl, a, C, rfl, EC.T, EC.no _ (by simp), .inr ⟨dx, _, upd_same, by rw [upd_ne h2]; exact upd_same, by simp, q dx h1 h2⟩⟩⟩⟩
def spLotV (K : PySem.W.Frag) (C : Addr) : Sp := fun vs H Q E => spLotU K C vs H Q E ∨ spLotT K vs H Q E
/-- a lot that is taken, at data -/
def LotGood (n : Nat) (d : PyData) : Prop := ∃ l : List Int, (d = dI l ∨ d = dT l) ∧ l.length ≤ 60 ∧ (∀ k ∈ l, 0 ≤ k ∧ k < (n : Int)) ∧ (lotOf n l).length ≠ n
/-- the first place that is wrong, and the word -/
inductive LotsBad (n : Nat) (ds : List PyData) : Str → Nat → Prop
  | lot (i : Nat) (hi : i < ds.length) (hj : ∀ j (h : j < i), LotGood n (ds[j]'(by omega))) (h : LotBad n ds[i]) : LotsBad n ds "lot" i
  | all (i : Nat) (hi : i < ds.length) (hj : ∀ j (h : j < i), LotGood n (ds[j]'(by omega))) (l : List Int) (he : ds[i] = dI l) (hz : l.length ≤ 60) (hk : ∀ k ∈ l, 0 ≤ k ∧ k < (n : Int)) (ha : (lotOf n l).length = n) : LotsBad n ds "all" i
def spChkB (K : PySem.W.Frag) (C : Addr) : Sp := fun vs H _ E => ∃ (n : Nat) (ds : List PyData) (src : PyData) (v : V) (wd : Str) (i : Nat) (F : Hp), vs = [.int n, v] ∧ n ≤ 5 ∧ ds.length ≤ 60 ∧ SeqD src ds ∧ LotsBad n ds wd i ∧ Ex F H ∧ Rp K F v src ∧
  ∀ F2 H2 dd, Step none F H F2 H2 → F2 dd = some (.xd [("at", .int i), ("what", .str wd)]) → E (.ref C) (some dd) H2
theorem ok_checkedB {f fL CB iB : Addr} {fd fdL fdI : FuncData} (Fn : Fun K "_checked_lots" "_checked_lots" s_checked_lots f fd) (T : Tx mg) (FC : FirmC K mg CF mc) (EB : ErrC K mg CF CB iB "BadLot" []) (E_BadFalls : ErrC K mg CF C fI "BadFalls" ["what", "at"])
    (FI : Fun K "__init__" "BadFalls.__init__" s_BadFalls___init__ fI fdI) (bI_BadFalls : Binds K fdI ["self", "what", "at"] [])
    (F_check_lot : Fun K "check_lot" "check_lot" s_check_lot fL fdL) (b_check_lot : Binds K fdL ["houses", "lot"] []) (g_check_lot : mg "check_lot" = some (.ref fL)) (GN_check_lot : FnOk P w K mg base (L2N.CX P w) 3 fL fdL ["houses", "lot"] (spLotV K CB)) :
    FnOk P w K mg base (L2.CX P w) 4 f fd ["houses", "lots"] (spChkB K C) := by
  have GI_BadFalls : FnOk P w K mg base CX0 1 fI fdI ["self", "what", "at"] (spI2 C "what" "at") := ok_bfalls FI FC E_BadFalls
  have GH_BadFalls : FnH P w K mg base CX0 1 fI fdI ["self", "what", "at"] (spI2 C "what" "at") := ok_bfallsH FI FC E_BadFalls
  refine Fn.okX sc_checked_lots (fun vs H Q E ⟨_, _, _, _, _, _, _, h, _⟩ => by rw [h]; rfl) (fun cdv A outer s H vs Q E hr h => ?_)
  obtain ⟨n, ds, src, v, wd, i, F, rfl, hn, hz, hsrc, hb, e, hv, q⟩ := h
  refine ⟨_, (pss_cons (ps_set (i := 2) sc_checked_lots.nd rfl (by first | exact Or.inl rfl | exact Or.inr rfl) (pe_lst pa_nil))
    (pss_cons (ps_for (passes_of rfl) rfl (pi_range1 (by rfl) T.range (pa_cons (pe_callB (c_len (K := K)) (by rfl) T.len (by decide +kernel) (pa_cons (pv 1) pa_nil)) pa_nil)) (pg_name (i := 3) sc_checked_lots.nd rfl (by first | exact Or.inl rfl | exact Or.inr rfl)) (pss_cons (ps_try_onlyX rfl rfl ⟨by rfl, by decide, .inl EB.g⟩ (fun hd => passesAt_of rfl hd) (takes_of rfl rfl rfl rfl) (fun W pn xe tkN tk2 po => (pss_one (ps_set (i := 4) sc_checked_lots.nd rfl (by first | exact Or.inl rfl | exact Or.inr rfl) (pe_callS GN_check_lot (hr.mono (by decide)) (by rfl) g_check_lot F_check_lot.kp b_check_lot (fun σ => L2N.passAt tkN σ) (pa_cons (pv 0) (pa_cons (pe_ix (o_ix (K := K)) (pv 1) (pv 3) (fun _ _ => rfl)) pa_nil)))))) (fun a oe cls d pn hz hf tkS hot => (pss_one (ps_raiseHN hot tkS (pmk5_oexH E_BadFalls.T E_BadFalls.iC E_BadFalls.tI GH_BadFalls (roomH_mark (hr.mono (by decide)) _) hot bI_BadFalls pass0 (by rfl) E_BadFalls.g (pa_cons pe_str (pa_cons (pv 3) pa_nil)))))))
    (pss_cons (ps_if (pt_cmpR op_eq (pe_callB (c_len (K := K)) (by rfl) T.len (by decide +kernel) (pa_cons (pv 4) pa_nil)) (pv 0) (nomark _)) (pss_one (ps_raise rfl (takes_of rfl rfl rfl rfl) (pmk_oex E_BadFalls.T E_BadFalls.iC E_BadFalls.tI GI_BadFalls (hr.mono (by decide)) bI_BadFalls .nil pass0 (by rfl) E_BadFalls.g (pa_cons pe_str (pa_cons (pv 3) pa_nil))))) pss_nil)
    (pss_one (ps_expr (pe_bm PySem.F.plainAttrs_list PySem.F.slot_list_append PySem.F.type_list_append mt_append (pv 2) (pa_cons (pv 4) pa_nil)))))))
    (pss_one (ps_ret (pv 2))))), ?_⟩
  have sq : src = .list ds ∨ src = .tuple ds := hsrc
  have hi : i < ds.length := by cases hb <;> assumption
  have hgood : ∀ j (h : j < i), LotGood n (ds[j]'(by omega)) := by cases hb <;> assumption
  have g0 : Good none F H := .nil
  refine t_newL (K := K) (Step.refl e .nil) (fun l h0 hl g => ?_) (fun _ h => h)
  refine t_forG (K := K) (ds := rng 0 (ds.length : Int).toNat) g0 h0 g (w_rng1I (n := (ds.length : Int)) (gs_one (g_cbI (gs_one (g_var rfl hv)) (rc_lenS sq))) (by omega) (by omega))
    (fun k σ' F' l' => k ≤ i ∧ l'.length = k ∧ ∃ y z, σ' = [some (.int n), some v, some (.ref l), y, z]) (fun F2 e2 => ⟨Nat.zero_le _, rfl, none, none, rfl⟩) (fun k d hd σ' F' H' u l' hI g' e' hu N hN => ?_) (fun σ' F' H' l' hI g' e' => ?_)
  · obtain ⟨hki, hlen, y, z, rfl⟩ := hI
    have hkn : k < ds.length := by omega
    have ed : d = .int (k : Int) := by
      rw [rng_get (by simpa using hkn)] at hd
      have := Option.some.inj hd
      rw [← this]; simp
    subst ed
    obtain rfl := rp_int hu
    have hat : atI ds (k : Int) = some ds[k] := atI_nat (List.getElem?_eq_getElem hkn)
    have arg : EvG K none (tOp (rIx K) (tVar 1) (tVar 3)) [some (.int n), some v, some (.ref l), some (.int k), z] F' (Is ds[k]) := g_opI (g_var rfl (Rp.mono e' _ _ hv)) (g_var (v := .int k) (d := .int k) rfl (.int _)) (rv_ix sq hat)
    -- a lot that check_lot takes
    have taken : ∀ (l2 : List Int), (ds[k] = dI l2 ∨ ds[k] = dT l2) → l2.length ≤ 60 → (∀ k ∈ l2, 0 ≤ k ∧ k < (n : Int)) → ∀ {W : WX} {D2 : Ends}, (∀ u F2 H2, Gst K none F H l F2 H2 l' → Ex F' F2 → Rp K F2 u (dT (lotOf n l2)) → D2.nx [some (.int n), some v, some (.ref l), some (.int k), some u] H2) →
        tAsg (tCallS (spLotV K CB) (WE W) (tCons (tVar 0) (tCons (tOp (rIx K) (tVar 1) (tVar 3)) tNil))) (gName 4) D2 [some (.int n), some v, some (.ref l), some (.int k), z] H' := fun l2 h1 h2 h3 {W D2} nx =>
      ⟨_, rfl, arg H' g'.step.inn g'.step.good _ fun d2 v2 F2 H2 hd2 s2 hv2 => by
        rw [show d2 = ds[k] from hd2] at hv2
        rcases h1 with h1 | h1
        · rw [h1] at hv2
          exact .inl (.inl ⟨(n, l2), F2, ⟨h2, h3⟩, s2.inn, .cons (.int _) (.cons hv2 .nil), fun u F3 H3 s3 hu3 => nx u F3 H3 ((g'.run g0 h0 s2).run g0 h0 s3) (s2.sub.trans s3.sub) hu3⟩)
        · rw [h1] at hv2
          exact .inr ⟨(n, l2), F2, ⟨h2, h3⟩, s2.inn, .cons (.int _) (.cons hv2 .nil), fun u F3 H3 s3 hu3 => nx u F3 H3 ((g'.run g0 h0 s2).run g0 h0 s3) (s2.sub.trans s3.sub) hu3⟩⟩
    by_cases hlt : k < i
    · obtain ⟨l2, h1, h2, h3, h4⟩ := hgood k hlt
      refine taken l2 h1 h2 h3 fun u F2 H2 g2 e2 hu2 => ?_
      dsimp only
      refine t_skip (Step.refl g2.step.inn .nil) ((et_of (K := K) (σ := [some (.int n), some v, some (.ref l), some (.int k), some u]) (b := decide ((((lotOf n l2).map PyData.int).length : Int) = (n : Int))) (g_opI (g_cbI (gs_one (g_var (i := 4) rfl hu2)) rc_lenT) (g_var (v := .int n) (d := .int n) (i := 0) rfl (.int _)) rv_eqI)).is ?_) fun F3 H3 s3 e3 => ?_
      · simp only [List.length_map, decide_eq_false_iff_not]
        intro z
        exact h4 (by omega)
      · refine t_app (K := K) g0 h0 (g2.run g0 h0 s3) rfl (g_var rfl (Rp.mono e3 _ _ hu2)) (by omega) fun d4 F4 H4 hd4 g4 e4 => ?_
        exact hN _ F4 H4 _ ⟨by omega, by rw [List.length_append, hlen]; rfl, _, _, rfl⟩ g4 ((e2.trans e3).trans e4)
    · have hk : k = i := by omega
      subst hk
      cases hb with
      | lot _ _ _ h =>
        refine ⟨_, rfl, arg H' g'.step.inn g'.step.good _ fun d2 v2 F2 H2 hd2 s2 hv2 => .inl (.inr ⟨n, d2, v2, F2, rfl, by rw [show d2 = ds[k] from hd2]; exact h, s2.inn, hv2, fun F3 H3 s3 => ⟨true, EB.self, fun _ a ha => ?_, fun z => by cases z⟩⟩)⟩
        have g3 := (g'.run g0 h0 s2).run g0 h0 s3
        exact r_mk2 (K := K) g3.step.inn (gs_two g_str (g_var (v := .int k) (d := .int k) rfl (.int _))) (by decide) (by omega) fun F4 H4 dx s4 h4 => q F4 H4 dx (g3.step.trans s4) h4
      | all _ _ _ l2 h1 h2 h3 h4 =>
        refine taken l2 (.inl h1) h2 h3 fun u F2 H2 g2 e2 hu2 => ?_
        dsimp only
        refine t_when (b := true) (Step.refl g2.step.inn .nil) ((et_of (K := K) (σ := [some (.int n), some v, some (.ref l), some (.int k), some u]) (b := decide ((((lotOf n l2).map PyData.int).length : Int) = (n : Int))) (g_opI (g_cbI (gs_one (g_var (i := 4) rfl hu2)) rc_lenT) (g_var (v := .int n) (d := .int n) (i := 0) rfl (.int _)) rv_eqI)).is ?_) (fun _ F3 H3 s3 e3 => ?_) (fun z => by cases z)
        · simp only [List.length_map, decide_eq_true_eq]
          omega
        · have g3 := g2.run g0 h0 s3
          exact r_mk2 (K := K) g3.step.inn (gs_two g_str (g_var (v := .int k) (d := .int k) rfl (.int _))) (by decide) (by omega) fun F4 H4 dx s4 h4 => q F4 H4 dx (g3.step.trans s4) h4
  · obtain ⟨hki, _⟩ := hI
    rw [rng_len] at hki
    omega
end
end K3

namespace K3
open PySem PySem.Spec PyProof.Rows L2 L2H Fv Evl StX
section
variable {P : Program} {w : World} {K : PySem.W.Frag} {mg : Str → Option Value} {base : Heap} {CF CE fE : Addr} {mc : Value}
variable {pt : Option Pt} {σ : L2.St} {F F0 H0 H : Hp} {te ta tb : TE} {ts tr : TA} {D : Ends} {tz : TS}
/-- what no family is made of: the word, the place -/
inductive FallsBad : PyData → PyData → Str → Nat → Prop
  | houses (h l : PyData) (hb : isWhole (some 2) (some 5) h = false) : FallsBad h l "houses" 0
  | kind (n : Nat) (l : PyData) (hn : 2 ≤ n ∧ n ≤ 5) (hb : (isL l || isT l) = false) : FallsBad (.int n) l "lots" 0
  | many (n : Nat) (l : PyData) (ds : List PyData) (hn : 2 ≤ n ∧ n ≤ 5) (hs : SeqD l ds) (h1 : 32 < ds.length) (h2 : ds.length ≤ 1000) : FallsBad (.int n) l "lots" 0
  | lots (n : Nat) (l : PyData) (ds : List PyData) (wd : Str) (i : Nat) (hn : 2 ≤ n ∧ n ≤ 5) (hs : SeqD l ds) (h1 : ds.length ≤ 32) (h2 : LotsBad n ds wd i) : FallsBad (.int n) l wd i
def spInitB (K : PySem.W.Frag) (CE : Addr) : Sp := fun vs H _ E => ∃ (x : Addr) (hv lv : V) (hd ld : PyData) (wd : Str) (i : Nat) (F : Hp), vs = [.ref x, hv, lv] ∧ FallsBad hd ld wd i ∧ Ex F H ∧ Rp K F hv hd ∧ Rp K F lv ld ∧
  ∀ F2 H2 dd, Step none F H F2 H2 → F2 dd = some (.xd [("at", .int i), ("what", .str wd)]) → E (.ref CE) (some dd) H2
theorem ok_initB {f fS fW fI fB fZ fC C : Addr} {fd fdS fdW fdI fdB fdZ fdC fdE : FuncData} (Fn : Fun K "__init__" "Falls.__init__" s_Falls___init__ f fd) (T : Tx mg) (FC : FallsC K C) {tM : Tok} (c_MOST_LOTS : mg "MOST_LOTS" = some (.int 32 tM))
    (FM : FirmC K mg CF mc) (E_BadFalls : ErrC K mg CF CE fE "BadFalls" ["what", "at"]) (FI : Fun K "__init__" "BadFalls.__init__" s_BadFalls___init__ fE fdE) (bI_BadFalls : Binds K fdE ["self", "what", "at"] [])
    (F_is_sequence : Fun K "is_sequence" "is_sequence" s_is_sequence fS fdS) (b_is_sequence : Binds K fdS ["thing"] []) (g_is_sequence : mg "is_sequence" = some (.ref fS))
    (F_is_whole : FunW K fW fdW) (b_is_whole : Binds K fdW ["thing", "low", "high"] []) (g_is_whole : mg "is_whole" = some (.ref fW))
    (F_checked_lots : Fun K "_checked_lots" "_checked_lots" s_checked_lots fC fdC) (b_checked_lots : Binds K fdC ["houses", "lots"] []) (g_checked_lots : mg "_checked_lots" = some (.ref fC)) (GX_checked_lots : FnOk P w K mg base (L2.CX P w) 4 fC fdC ["houses", "lots"] (spChkB K CE))
    (F_lot_within : Fun K "lot_within" "lot_within" s_lot_within fI fdI) (b_lot_within : Binds K fdI ["one", "other"] []) (g_lot_within : mg "lot_within" = some (.ref fI))
    (F_lots_of_size : Fun K "lots_of_size" "lots_of_size" s_lots_of_size fZ fdZ) (b_lots_of_size : Binds K fdZ ["houses", "size"] []) (g_lots_of_size : mg "lots_of_size" = some (.ref fZ))
    (F_lots_by_size : Fun K "_lots_by_size" "_lots_by_size" s_lots_by_size fB fdB) (b_lots_by_size : Binds K fdB ["houses"] []) (g_lots_by_size : mg "_lots_by_size" = some (.ref fB)) :
    FnOk P w K mg base (L2.CX P w) 5 f fd ["self", "houses", "lots"] (spInitB K CE) := by
  have GI_BadFalls : FnOk P w K mg base CX0 1 fE fdE ["self", "what", "at"] (spI2 CE "what" "at") := ok_bfalls FI FM E_BadFalls
  have G_is_sequence : FnOk P w K mg base CX0 1 fS fdS ["thing"] (spSeq K) := ok_seq F_is_sequence T
  have G_is_whole : FnOk P w K mg base CX0 1 fW fdW ["thing", "low", "high"] (spWhole K) := ok_whole F_is_whole T
  have G_lot_within : FnOk P w K mg base CX0 1 fI fdI ["one", "other"] (spWithin K) := ok_within F_lot_within T
  have G_lots_by_size : FnOk P w K mg base CX0 2 fB fdB ["houses"] (spAll K) := ok_bySize F_lots_by_size T F_lots_of_size b_lots_of_size g_lots_of_size
  refine Fn.okX sc_Falls___init__ (fun vs H Q E ⟨_, _, _, _, _, _, _, _, h, _⟩ => by rw [h]; rfl) (fun cdv A outer s H vs Q E hr h => ?_)
  obtain ⟨x, hv, lv, hd, ld, wd, i, F, rfl, hb, e, h1, h2, q⟩ := h
  refine ⟨_, (pss_cons (ps_if (pt_not (pt_val (pe_call G_is_whole (hr.mono (by decide)) (by rfl) g_is_whole F_is_whole.kp b_is_whole .nil pass0 (pa_cons (pv 1) (pa_cons pe_int (pa_cons pe_int pa_nil)))))) (pss_one (ps_raise rfl (takes_of rfl rfl rfl rfl) (pmk_oex E_BadFalls.T E_BadFalls.iC E_BadFalls.tI GI_BadFalls (hr.mono (by decide)) bI_BadFalls .nil pass0 (by rfl) E_BadFalls.g (pa_cons pe_str (pa_cons pe_int pa_nil))))) pss_nil)
    (pss_cons (ps_if (PW.pt (pw_or (pt_not (pt_val (pe_call G_is_sequence (hr.mono (by decide)) (by rfl) g_is_sequence F_is_sequence.kp b_is_sequence .nil pass0 (pa_cons (pv 2) pa_nil)))) (pw_or1 (pt_cmpR op_gt (pe_callB (c_len (K := K)) (by rfl) T.len (by decide +kernel) (pa_cons (pv 2) pa_nil)) (pe_glob (v := .int 32) (by rfl) c_MOST_LOTS ⟨_, rfl⟩) (nomark _))))) (pss_one (ps_raise rfl (takes_of rfl rfl rfl rfl) (pmk_oex E_BadFalls.T E_BadFalls.iC E_BadFalls.tI GI_BadFalls (hr.mono (by decide)) bI_BadFalls .nil pass0 (by rfl) E_BadFalls.g (pa_cons pe_str (pa_cons pe_int pa_nil))))) pss_nil)
    (pss_cons (ps_set (i := 3) sc_Falls___init__.nd rfl (by first | exact Or.inl rfl | exact Or.inr rfl) (pe_lst (pa_cons (pe_tup pa_nil) (a_star (K := K) (pe_call GX_checked_lots (hr.mono (by decide)) (by rfl) g_checked_lots F_checked_lots.kp b_checked_lots .nil (passes_call (takes_of rfl rfl rfl rfl) fun _ _ _ _ h => h) (pa_cons (pv 1) (pa_cons (pv 2) pa_nil))) pa_nil))))
    (pss_cons (ps_set (i := 4) sc_Falls___init__.nd rfl (by first | exact Or.inl rfl | exact Or.inr rfl) (pe_lc (own := [("lot", 5)]) (g := gName 5) rfl sc_Falls___init__.nd (i_list (K := K) (pe_call G_lots_by_size (hr.mono (by decide)) (by rfl) g_lots_by_size F_lots_by_size.kp b_lots_by_size .nil pass0 (pa_cons (pv 1) pa_nil))) (blkOk_by (own := [("lot", 5)]) (N := ["self", "houses", "lots", "given", "let", "lot", "other", "greatest"]) (sc := (defScope s_Falls___init__)) (by decide +kernel)) (fun _ _ _ _ _ => pg_name (i := 5) sc_Falls___init__.nd rfl (by first | exact Or.inl rfl | exact Or.inr rfl)) (fun _ _ _ _ _ => (pts_one (pt_val (pe_callB (c_any (K := K)) (by rfl) T.any (by decide +kernel) (pa_cons (pe_lc (own := [("other", 6)]) (g := gName 6) rfl sc_Falls___init__.nd (i_list (K := K) (pv 3)) (blkOk_by (own := [("other", 6)]) (N := ["self", "houses", "lots", "given", "let", "lot", "other", "greatest"]) (by rfl)) (fun _ _ _ _ _ => pg_name (i := 6) sc_Falls___init__.nd rfl (by first | exact Or.inl rfl | exact Or.inr rfl)) (fun _ _ _ _ _ => pts_nil) (fun _ _ _ _ _ => (pe_call G_lot_within (hr.mono (by decide)) (by rfl) g_lot_within F_lot_within.kp b_lot_within .nil pass0 (pa_cons (pv 5) (pa_cons (pv 6) pa_nil))))) pa_nil))))) (fun _ _ _ _ _ => (pv 5))))
    (pss_cons (ps_setLc (i := 7) (own := [("lot", 5)]) (g := gName 5) rfl sc_Falls___init__.nd rfl rfl (sw_true rfl rfl rfl (by decide +kernel)) (i_list (K := K) (pv 4)) (blkOk_by (own := [("lot", 5)]) (N := ["self", "houses", "lots", "given", "let", "lot", "other", "greatest"]) (sc := (defScope s_Falls___init__)) (by decide +kernel)) (fun _ _ _ _ _ => pg_name (i := 5) sc_Falls___init__.nd rfl (by first | exact Or.inl rfl | exact Or.inr rfl)) (fun _ _ _ _ _ => (pts_one (pt_not (pt_val (pe_callB (c_any (K := K)) (by rfl) T.any (by decide +kernel) (pa_cons (pe_lc (own := [("other", 6)]) (g := gName 6) rfl sc_Falls___init__.nd (i_list (K := K) (pv 4)) (blkOk_by (own := [("other", 6)]) (N := ["self", "houses", "lots", "given", "let", "lot", "other", "greatest"]) (by rfl)) (fun _ _ _ _ _ => pg_name (i := 6) sc_Falls___init__.nd rfl (by first | exact Or.inl rfl | exact Or.inr rfl)) (fun _ _ _ _ _ => pts_nil) (fun _ _ _ _ _ => (pe_and (pe_cmpR (o_neD (K := K) hr.units) (pv 5) (pv 6) (nomark _)) (pe_one (pe_call G_lot_within (hr.mono (by decide)) (by rfl) g_lot_within F_lot_within.kp b_lot_within .nil pass0 (pa_cons (pv 5) (pa_cons (pv 6) pa_nil))))))) pa_nil)))))) (fun _ _ _ _ _ => (pv 5)))
    (pss_cons (ps_fld (pv 0) (pv 1) rfl)
    (pss_cons (ps_fld (pv 0) (pe_callTy (c_tup (K := K)) (by rfl) T.tuple (by decide +kernel) (pa_cons (pe_callB (c_sortLL (K := K) (hu65 hr)) (by rfl) T.sorted (by decide +kernel) (pa_cons (pv 7) pa_nil)) pa_nil)) rfl)
    (pss_one (ps_fld (pv 0) (pe_dcT (own := [("lot", 5)]) (g := gName 5) rfl (hu_of hr) sc_Falls___init__.nd (i_list (K := K) (pv 4)) (blkOk_by (own := [("lot", 5)]) (N := ["self", "houses", "lots", "given", "let", "lot", "other", "greatest"]) (sc := (defScope s_Falls___init__)) (by decide +kernel)) (fun _ _ _ _ _ => pg_name (i := 5) sc_Falls___init__.nd rfl (by first | exact Or.inl rfl | exact Or.inr rfl)) (fun _ _ _ _ _ => pts_nil) (fun _ _ _ _ _ => (pv 5)) (fun _ _ _ _ _ => pe_bl)) rfl))))))))), ?_⟩
  have whole : ∀ {F' : Hp}, Ex F F' → EvG K none (tCall (spWhole K) [] E0 (tCons (tVar 1) (tCons (tC (.int 2)) (tCons (tC (.int 5)) tNil)))) (start ["self", "houses", "lots", "given", "let", "lot", "other", "greatest"] [.ref x, hv, lv]) F' (Is (.bool (isWhole (some 2) (some 5) hd))) := fun e' =>
    g_call (hd, some 2, some 5) (gs_three (g_var rfl (Rp.mono e' _ _ h1)) g_int g_int) rfl trivial
  have okn : ∀ {n : Nat}, 2 ≤ n ∧ n ≤ 5 → isWhole (some 2) (some 5) (.int n) = true := fun {n} hn => by
    simp only [isWhole, loOk, hiOk, Bool.and_eq_true, decide_eq_true_eq]; omega
  cases hb with
  | houses _ _ hb =>
    refine t_when (b := true) (Step.refl e .nil) ((et_not (b := false) (et_B ((whole (Ex.refl _)).is (by rw [hb])))).is rfl) (fun _ F2 H2 s2 e2 => ?_) (fun z => by cases z)
    exact r_mk2 (K := K) s2.inn (gs_two g_str g_int) (by decide) (by decide) fun F3 H3 dx s3 h3 => q F3 H3 dx (s2.trans s3) h3
  | kind n _ hn hb =>
    refine t_skip (Step.refl e .nil) ((et_not (b := true) (et_B ((whole (Ex.refl _)).is (by rw [okn hn])))).is rfl) fun F2 H2 s2 e2 => ?_
    refine t_when (b := true) s2 ((et_or (a := true) (b := true) ((et_not (b := false) (et_B ((g_call ld (gs_one (g_var rfl (Rp.mono e2 _ _ h2))) rfl trivial).is (by rw [hb])))).is rfl) (fun z => by cases z)).is rfl) (fun _ F3 H3 s3 e3 => ?_) (fun z => by cases z)
    exact r_mk2 (K := K) s3.inn (gs_two g_str g_int) (by decide) (by decide) fun F4 H4 dx s4 h4 => q F4 H4 dx (s3.trans s4) h4
  | many n _ ds hn hs l1 l2 =>
    refine t_skip (Step.refl e .nil) ((et_not (b := true) (et_B ((whole (Ex.refl _)).is (by rw [okn hn])))).is rfl) fun F2 H2 s2 e2 => ?_
    refine t_when (b := true) s2 ((et_or (a := false) (b := true) ((et_not (b := true) (et_B ((g_call ld (gs_one (g_var rfl (Rp.mono e2 _ _ h2))) rfl trivial).is (by rw [kindB hs])))).is rfl) fun _ => (et_of (K := K) (g_opI (g_cbI (gs_one (g_var rfl (Rp.mono e2 _ _ h2))) (rc_lenS hs)) g_int (rv_bl (g := fun i j => decide (j < i))))).is (by simp; omega)).is rfl) (fun _ F3 H3 s3 e3 => ?_) (fun z => by cases z)
    exact r_mk2 (K := K) s3.inn (gs_two g_str g_int) (by decide) (by decide) fun F4 H4 dx s4 h4 => q F4 H4 dx (s3.trans s4) h4
  | lots n _ ds _ _ hn hs l1 hb =>
    refine t_skip (Step.refl e .nil) ((et_not (b := true) (et_B ((whole (Ex.refl _)).is (by rw [okn hn])))).is rfl) fun F2 H2 s2 e2 => ?_
    refine t_skip s2 ((et_or (a := false) (b := false) ((et_not (b := true) (et_B ((g_call ld (gs_one (g_var rfl (Rp.mono e2 _ _ h2))) rfl trivial).is (by rw [kindB hs])))).is rfl) fun _ => (et_of (K := K) (g_opI (g_cbI (gs_one (g_var rfl (Rp.mono e2 _ _ h2))) (rc_lenS hs)) g_int (rv_bl (g := fun i j => decide (j < i))))).is (by simp; omega)).is rfl) fun F3 H3 s3 e3 => ?_
    obtain rfl := rp_int h1
    refine ⟨sz_of (Nat.zero_le _), fun p hp => ?_⟩
    have s4 : Step none F3 H3 F3 (upd H3 p (.tup [])) := .litter s3.inn s3.good hp
    have s34 := s3.trans s4
    exact ⟨_, rfl, _, rfl, n, ds, ld, lv, wd, i, F3, rfl, hn.2, by omega, hs, hb, s34.inn, Rp.mono (e2.trans e3) _ _ h2, fun F5 H5 dd s5 h5 => q F5 H5 dd (s34.trans s5) h5⟩
end
end K3

namespace K3
open PySem PySem.Spec PyProof.Rows L2 L2H Fv Evl StX
section
variable {P : Program} {w : World} {K : PySem.W.Frag} {mg : Str → Option Value} {base : Heap}
/-- a list or a tuple of lots -/
inductive LotsDT : PyData → List (List Int) → Prop
  | l (ls : List (List Int)) : LotsDT (.list (ls.map dT)) ls
  | t (ls : List (List Int)) : LotsDT (.tuple (ls.map dT)) ls
theorem LotsDT.seq {d : PyData} {ls : List (List Int)} (h : LotsDT d ls) : d = .list (ls.map dT) ∨ d = .tuple (ls.map dT) := by
  cases h
  · exact .inl rfl
  · exact .inr rfl
abbrev spCheckedT (K : PySem.W.Frag) : Sp := PSp K (fun i : Nat × PyData × List (List Int) => [.int i.1, i.2.1]) (fun i => i.1 ≤ 5 ∧ LotsDT i.2.1 i.2.2 ∧ GoodLots i.1 i.2.2) (fun i => dLT (i.2.2.map (lotOf i.1)))
theorem ok_checkedT {f fS fW fL : Addr} {fd fdS fdW fdL : FuncData} (Fn : Fun K "_checked_lots" "_checked_lots" s_checked_lots f fd) (T : Tx mg)
    (F_is_sequence : Fun K "is_sequence" "is_sequence" s_is_sequence fS fdS) (b_is_sequence : Binds K fdS ["thing"] []) (g_is_sequence : mg "is_sequence" = some (.ref fS))
    (F_is_whole : FunW K fW fdW) (b_is_whole : Binds K fdW ["thing", "low", "high"] []) (g_is_whole : mg "is_whole" = some (.ref fW))
    (F_check_lot : Fun K "check_lot" "check_lot" s_check_lot fL fdL) (b_check_lot : Binds K fdL ["houses", "lot"] []) (g_check_lot : mg "check_lot" = some (.ref fL)) :
    FnOk P w K mg base CX0 3 f fd ["houses", "lots"] (spCheckedT K) := by
  have G_check_lot : FnOk P w K mg base CX0 2 fL fdL ["houses", "lot"] (spLotT K) := ok_lotT F_check_lot T F_is_sequence b_is_sequence g_is_sequence F_is_whole b_is_whole g_is_whole
  refine Fn.ok sc_checked_lots (PSp.len (fun _ => rfl)) (fun cdv A outer s H vs Q E hr h => ?_)
  obtain ⟨⟨n, src, ls⟩, F, ⟨hn, hsrc, hz, hls⟩, e, ha, q⟩ := h
  simp only at hn hsrc hz hls
  obtain ⟨v, x, rfl, hv, hx⟩ := rpAll2 ha
  refine ⟨_, (pss_cons (ps_set (i := 2) sc_checked_lots.nd rfl (by first | exact Or.inl rfl | exact Or.inr rfl) (pe_lst pa_nil))
    (pss_cons (ps_for PassesOwn.never rfl (pi_range1 (by rfl) T.range (pa_cons (pe_callB (c_len (K := K)) (by rfl) T.len (by decide +kernel) (pa_cons (pv 1) pa_nil)) pa_nil)) (pg_name (i := 3) sc_checked_lots.nd rfl (by first | exact Or.inl rfl | exact Or.inr rfl)) (pss_cons (ps_try_thru0 (pss_one (ps_set (i := 4) sc_checked_lots.nd rfl (by first | exact Or.inl rfl | exact Or.inr rfl) (pe_call G_check_lot (hr.mono (by decide)) (by rfl) g_check_lot F_check_lot.kp b_check_lot .nil pass0 (pa_cons (pv 0) (pa_cons (pe_ix (o_ix (K := K)) (pv 1) (pv 3) (fun _ _ => rfl)) pa_nil))))))
    (pss_cons (ps_if (pt_cmpR op_eq (pe_callB (c_len (K := K)) (by rfl) T.len (by decide +kernel) (pa_cons (pv 4) pa_nil)) (pv 0) (nomark _)) (pss_one ps_never) pss_nil)
    (pss_one (ps_expr (pe_bm PySem.F.plainAttrs_list PySem.F.slot_list_append PySem.F.type_list_append mt_append (pv 2) (pa_cons (pv 4) pa_nil)))))))
    (pss_one (ps_ret (pv 2))))), ?_⟩
  have g0 : Good none F H := .nil
  refine t_newL (K := K) (Step.refl e .nil) (fun l h0 hl g => ?_) (fun _ h => h)
  have hx' : Rp K F x src := hx
  refine t_forG (K := K) (ds := rng 0 (ls.length : Int).toNat) g0 h0 g (w_rng1I (n := (ls.length : Int)) (gs_one ((g_cbI (gs_one (g_var rfl hx')) (rc_lenS hsrc.seq)).is (by simp))) (by omega) (by omega))
    (fun i σ' F' l' => (∃ y z, σ' = [some v, some x, some (.ref l), y, z]) ∧ l' = (ls.take i).map fun m => dT (lotOf n m)) (fun F2 e2 => ⟨⟨none, none, rfl⟩, by simp⟩) (fun i d hd σ' F' H' u l' hI g' e' hu N hN => ?_) (fun σ' F' H' l' hI g' e' => ?_)
  · obtain ⟨⟨y, z, rfl⟩, rfl⟩ := hI
    have hil : i < ls.length := by
      have := (List.getElem?_eq_some_iff.mp hd).1
      rw [rng_len] at this
      simpa using this
    have ed : d = .int (i : Int) := by
      rw [rng_get (by simpa using hil)] at hd
      have := Option.some.inj hd
      rw [← this]; simp
    subst ed
    have hm : ls[i] ∈ ls := List.getElem_mem hil
    obtain ⟨hm1, hm2, hm3⟩ := hls _ hm
    have hat : atI (ls.map dT) (i : Int) = some (dT ls[i]) := atI_nat (by rw [List.getElem?_map, List.getElem?_eq_getElem hil]; rfl)
    -- lot = check_lot(houses, lots[index])
    refine t_asg (K := K) (Step.refl g'.step.inn .nil) (g_call (n, ls[i]) (gs_two (g_var rfl (Rp.mono e' _ _ hv)) (g_op (g_var rfl (Rp.mono e' _ _ hx')) (g_var rfl hu) fun _ _ h1 h2 => h1 ▸ h2 ▸ rv_ix hsrc.seq hat)) rfl ⟨hm1, hm2⟩) fun d2 v2 F2 H2 hd2 s2 e2 hv2 => ?_
    subst hd2
    have g2 := g'.run g0 h0 s2
    -- if len(lot) == houses
    refine t_skip (Step.refl g2.step.inn .nil) ((et_of (K := K) (b := decide ((((lotOf n ls[i]).map PyData.int).length : Int) = (n : Int))) (g_op (g_cbI (gs_one (g_var rfl hv2)) rc_lenT) (g_var rfl (Rp.mono (e'.trans e2) _ _ hv)) fun _ _ h1 h2 => by subst h1 h2; exact rv_eqI)).is ?_) fun F3 H3 s3 e3 => ?_
    · simp only [List.length_map, decide_eq_false_iff_not]
      intro z
      exact hm3 (by omega)
    · refine t_app (K := K) g0 h0 (g2.run g0 h0 s3) rfl (g_var rfl (Rp.mono e3 _ _ hv2)) (by simp; omega) fun d4 F4 H4 hd4 g4 e4 => ?_
      subst hd4
      refine hN _ F4 H4 _ ⟨⟨_, _, rfl⟩, ?_⟩ g4 ((e2.trans e3).trans e4)
      rw [take_succA (List.getElem?_eq_getElem hil), List.map_append]
      rfl
  · obtain ⟨⟨y, z, rfl⟩, rfl⟩ := hI
    obtain ⟨F2, s2, e2, r2⟩ := g'.done g0 h0
    refine t_retI (K := K) s2 (g_var rfl r2) fun v3 F3 H3 s3 hv3 => q v3 F3 H3 s3 ?_
    rw [rng_len] at hv3
    simpa [dLT, Function.comp_def] using hv3
def spInitT (K : PySem.W.Frag) (C : Addr) : Sp := fun vs H Q _ => ∃ x dx n src ls F v, vs = [.ref x, .int (n : Nat), v] ∧ H x = some (.ins C dx []) ∧ H dx = some (.own x) ∧ dx ≠ x ∧ F x = none ∧ F dx = none ∧ Ex F H ∧ Rp K F v src ∧
  LotsDT src ls ∧ (2 ≤ n ∧ n ≤ 5) ∧ GoodLots n ls ∧ ls.length ≤ 32 ∧ ∀ F2 H2, Step none F (Fv.del (Fv.del H x) dx) F2 H2 → Fam K C F2 x n ls → Q .non H2
theorem ok_initT {f fS fW fL fC fI fB fZ C : Addr} {fd fdS fdW fdL fdC fdI fdB fdZ : FuncData} (Fn : Fun K "__init__" "Falls.__init__" s_Falls___init__ f fd) (T : Tx mg) (FC : FallsC K C) {tM : Tok} (c_MOST_LOTS : mg "MOST_LOTS" = some (.int 32 tM))
    (F_is_sequence : Fun K "is_sequence" "is_sequence" s_is_sequence fS fdS) (b_is_sequence : Binds K fdS ["thing"] []) (g_is_sequence : mg "is_sequence" = some (.ref fS))
    (F_is_whole : FunW K fW fdW) (b_is_whole : Binds K fdW ["thing", "low", "high"] []) (g_is_whole : mg "is_whole" = some (.ref fW))
    (F_check_lot : Fun K "check_lot" "check_lot" s_check_lot fL fdL) (b_check_lot : Binds K fdL ["houses", "lot"] []) (g_check_lot : mg "check_lot" = some (.ref fL))
    (F_checked_lots : Fun K "_checked_lots" "_checked_lots" s_checked_lots fC fdC) (b_checked_lots : Binds K fdC ["houses", "lots"] []) (g_checked_lots : mg "_checked_lots" = some (.ref fC))
    (F_lot_within : Fun K "lot_within" "lot_within" s_lot_within fI fdI) (b_lot_within : Binds K fdI ["one", "other"] []) (g_lot_within : mg "lot_within" = some (.ref fI))
    (F_lots_of_size : Fun K "lots_of_size" "lots_of_size" s_lots_of_size fZ fdZ) (b_lots_of_size : Binds K fdZ ["houses", "size"] []) (g_lots_of_size : mg "lots_of_size" = some (.ref fZ))
    (F_lots_by_size : Fun K "_lots_by_size" "_lots_by_size" s_lots_by_size fB fdB) (b_lots_by_size : Binds K fdB ["houses"] []) (g_lots_by_size : mg "_lots_by_size" = some (.ref fB)) :
    FnOk P w K mg base CX0 4 f fd ["self", "houses", "lots"] (spInitT K C) := by
  have G_is_sequence : FnOk P w K mg base CX0 1 fS fdS ["thing"] (spSeq K) := ok_seq F_is_sequence T
  have G_is_whole : FnOk P w K mg base CX0 1 fW fdW ["thing", "low", "high"] (spWhole K) := ok_whole F_is_whole T
  have G_checked_lots : FnOk P w K mg base CX0 3 fC fdC ["houses", "lots"] (spCheckedT K) := ok_checkedT F_checked_lots T F_is_sequence b_is_sequence g_is_sequence F_is_whole b_is_whole g_is_whole F_check_lot b_check_lot g_check_lot
  have G_lot_within : FnOk P w K mg base CX0 1 fI fdI ["one", "other"] (spWithin K) := ok_within F_lot_within T
  have G_lots_by_size : FnOk P w K mg base CX0 2 fB fdB ["houses"] (spAll K) := ok_bySize F_lots_by_size T F_lots_of_size b_lots_of_size g_lots_of_size
  refine Fn.ok sc_Falls___init__ (fun vs H Q E ⟨_, _, _, _, _, _, _, h, _⟩ => by rw [h]; rfl) (fun cdv A outer s H vs Q E hr h => ?_)
  obtain ⟨x, dx, n, src, ls, F, v, rfl, hox, hodx, hne, fx, fdx, e, hv, hsrc, ⟨hn2, hn5⟩, hgood, hfew, q⟩ := h
  refine ⟨_, (pss_cons (ps_if (pt_not (pt_val (pe_call G_is_whole (hr.mono (by decide)) (by rfl) g_is_whole F_is_whole.kp b_is_whole .nil pass0 (pa_cons (pv 1) (pa_cons pe_int (pa_cons pe_int pa_nil)))))) (pss_one ps_never) pss_nil)
    (pss_cons (ps_if (PW.pt (pw_or (pt_not (pt_val (pe_call G_is_sequence (hr.mono (by decide)) (by rfl) g_is_sequence F_is_sequence.kp b_is_sequence .nil pass0 (pa_cons (pv 2) pa_nil)))) (pw_or1 (pt_cmpR op_gt (pe_callB (c_len (K := K)) (by rfl) T.len (by decide +kernel) (pa_cons (pv 2) pa_nil)) (pe_glob (v := .int 32) (by rfl) c_MOST_LOTS ⟨_, rfl⟩) (nomark _))))) (pss_one ps_never) pss_nil)
    (pss_cons (ps_set (i := 3) sc_Falls___init__.nd rfl (by first | exact Or.inl rfl | exact Or.inr rfl) (pe_lst (pa_cons (pe_tup pa_nil) (a_star (K := K) (pe_call G_checked_lots (hr.mono (by decide)) (by rfl) g_checked_lots F_checked_lots.kp b_checked_lots .nil pass0 (pa_cons (pv 1) (pa_cons (pv 2) pa_nil))) pa_nil))))
    (pss_cons (ps_set (i := 4) sc_Falls___init__.nd rfl (by first | exact Or.inl rfl | exact Or.inr rfl) (pe_lc (own := [("lot", 5)]) (g := gName 5) rfl sc_Falls___init__.nd (i_list (K := K) (pe_call G_lots_by_size (hr.mono (by decide)) (by rfl) g_lots_by_size F_lots_by_size.kp b_lots_by_size .nil pass0 (pa_cons (pv 1) pa_nil))) (blkOk_by (own := [("lot", 5)]) (N := ["self", "houses", "lots", "given", "let", "lot", "other", "greatest"]) (sc := (defScope s_Falls___init__)) (by decide +kernel)) (fun _ _ _ _ _ => pg_name (i := 5) sc_Falls___init__.nd rfl (by first | exact Or.inl rfl | exact Or.inr rfl)) (fun _ _ _ _ _ => (pts_one (pt_val (pe_callB (c_any (K := K)) (by rfl) T.any (by decide +kernel) (pa_cons (pe_lc (own := [("other", 6)]) (g := gName 6) rfl sc_Falls___init__.nd (i_list (K := K) (pv 3)) (blkOk_by (own := [("other", 6)]) (N := ["self", "houses", "lots", "given", "let", "lot", "other", "greatest"]) (by rfl)) (fun _ _ _ _ _ => pg_name (i := 6) sc_Falls___init__.nd rfl (by first | exact Or.inl rfl | exact Or.inr rfl)) (fun _ _ _ _ _ => pts_nil) (fun _ _ _ _ _ => (pe_call G_lot_within (hr.mono (by decide)) (by rfl) g_lot_within F_lot_within.kp b_lot_within .nil pass0 (pa_cons (pv 5) (pa_cons (pv 6) pa_nil))))) pa_nil))))) (fun _ _ _ _ _ => (pv 5))))
    (pss_cons (ps_setLc (i := 7) (own := [("lot", 5)]) (g := gName 5) rfl sc_Falls___init__.nd rfl rfl (sw_true rfl rfl rfl (by decide +kernel)) (i_list (K := K) (pv 4)) (blkOk_by (own := [("lot", 5)]) (N := ["self", "houses", "lots", "given", "let", "lot", "other", "greatest"]) (sc := (defScope s_Falls___init__)) (by decide +kernel)) (fun _ _ _ _ _ => pg_name (i := 5) sc_Falls___init__.nd rfl (by first | exact Or.inl rfl | exact Or.inr rfl)) (fun _ _ _ _ _ => (pts_one (pt_not (pt_val (pe_callB (c_any (K := K)) (by rfl) T.any (by decide +kernel) (pa_cons (pe_lc (own := [("other", 6)]) (g := gName 6) rfl sc_Falls___init__.nd (i_list (K := K) (pv 4)) (blkOk_by (own := [("other", 6)]) (N := ["self", "houses", "lots", "given", "let", "lot", "other", "greatest"]) (by rfl)) (fun _ _ _ _ _ => pg_name (i := 6) sc_Falls___init__.nd rfl (by first | exact Or.inl rfl | exact Or.inr rfl)) (fun _ _ _ _ _ => pts_nil) (fun _ _ _ _ _ => (pe_and (pe_cmpR (o_neD (K := K) hr.units) (pv 5) (pv 6) (nomark _)) (pe_one (pe_call G_lot_within (hr.mono (by decide)) (by rfl) g_lot_within F_lot_within.kp b_lot_within .nil pass0 (pa_cons (pv 5) (pa_cons (pv 6) pa_nil))))))) pa_nil)))))) (fun _ _ _ _ _ => (pv 5)))
    (pss_cons (ps_fld (pv 0) (pv 1) rfl)
    (pss_cons (ps_fld (pv 0) (pe_callTy (c_tup (K := K)) (by rfl) T.tuple (by decide +kernel) (pa_cons (pe_callB (c_sortLL (K := K) (hu65 hr)) (by rfl) T.sorted (by decide +kernel) (pa_cons (pv 7) pa_nil)) pa_nil)) rfl)
    (pss_one (ps_fld (pv 0) (pe_dcT (own := [("lot", 5)]) (g := gName 5) rfl (hu_of hr) sc_Falls___init__.nd (i_list (K := K) (pv 4)) (blkOk_by (own := [("lot", 5)]) (N := ["self", "houses", "lots", "given", "let", "lot", "other", "greatest"]) (sc := (defScope s_Falls___init__)) (by decide +kernel)) (fun _ _ _ _ _ => pg_name (i := 5) sc_Falls___init__.nd rfl (by first | exact Or.inl rfl | exact Or.inr rfl)) (fun _ _ _ _ _ => pts_nil) (fun _ _ _ _ _ => (pv 5)) (fun _ _ _ _ _ => pe_bl)) rfl))))))))), ?_⟩
  have h0x : Fv.del (Fv.del H x) dx x = none := by rw [Fv.del_ne hne.symm, Fv.del_same]
  have h0d : Fv.del (Fv.del H x) dx dx = none := Fv.del_same
  have hz : (ls.map dT).length ≤ 32 := by rw [List.length_map]; exact hfew
  -- the first tests
  refine t_skip (Step.refl e .nil) ((et_not (b := true) ((et_B (g_call (.int n, some 2, some 5) (gs_three (g_var (v := .int n) rfl (.int _)) g_int g_int) rfl trivial)).is ?_)).is rfl) fun F1 H1 s1 e1 => ?_
  · simp only [isWhole, loOk, hiOk, Bool.and_eq_true, decide_eq_true_eq]; omega
  refine t_skip s1 ((et_or (a := false) (b := false) ((et_not (b := true) ((et_B (g_call src (gs_one (g_var rfl (Rp.mono e1 _ _ hv))) rfl trivial)).is ?_)).is rfl) fun _ => ((et_of (K := K) (g_op (g_cbI (gs_one (g_var rfl (Rp.mono e1 _ _ hv))) (rc_lenS hsrc.seq)) g_int fun _ _ h1 h2 => by subst h1 h2; exact rv_bl (g := fun i j => decide (j < i)))).is ?_)).is rfl) fun F2 H2 s2 e2 => ?_
  · cases hsrc <;> rfl
  · simp only [decide_eq_false_iff_not]; omega
  -- given
  have e12 := e1.trans e2
  refine t_asgI (K := K) s2 (g_lstI (gs_consI (g_tupI gs_nil (by simp)) (gs_star (.inl rfl) (g_call (n, src, ls) (gs_two (g_var (v := .int n) rfl (.int _)) (g_var rfl (Rp.mono e12 _ _ hv))) rfl ⟨hn5, hsrc, hgood⟩) gs_nil)) (by simp; omega)) fun gv F3 H3 s3 e3 hg => ?_
  have hg' : Rp K F3 gv (dLT ([] :: ls.map (lotOf n))) := by simpa [dLT, dT] using hg
  have few := all_few n (by rw [List.mem_range]; omega)
  have lf := let_few hn5 ls
  -- let
  refine t_asgI (K := K) s3 (g_lcE dT (allLots n) (fun l => ([] :: ls.map (lotOf n)).any fun o => within l o) dT (w_listI (g_call n (gs_one (g_var (v := .int n) rfl (.int _))) rfl hn5)) (by omega) (fun _ => rfl) (fun l hl F' e' u hu => ?_) (fun l hl _ F' e' u hu => g_var rfl hu)) fun lv F4 H4 s4 e4 hlv => ?_
  · exact et_B (g_cbI (gs_one (g_lcEM dT ([] :: ls.map (lotOf n)) (fun o => .bool (within l o)) (w_listI (g_var rfl (Rp.mono e' _ _ hg'))) (by simp; omega) (fun _ => rfl) fun o ho F'' e'' y hy =>
      g_call (l, o) (gs_two (g_var rfl (Rp.mono e'' _ _ hu)) (g_var rfl hy)) rfl (by have := few.2 l hl; simp only; omega))) (rc_anyM _ (within l)))
  have hlv' : Rp K F4 lv (dLT (letOf n ls)) := hlv
  -- greatest
  refine t_asgI (K := K) s4 (g_lcE dT (letOf n ls) (fun l => !((letOf n ls).any fun o => (!decide (l = o)) && within l o)) dT (w_listI (g_var rfl hlv')) (by omega) (fun _ => rfl) (fun l hl F' e' u hu => ?_) (fun l hl _ F' e' u hu => g_var rfl hu)) fun mv F5 H5 s5 e5 hmv => ?_
  · exact et_not (et_B (g_cbI (gs_one (g_lcEM dT (letOf n ls) (fun o => .bool ((!decide (l = o)) && within l o)) (w_listI (g_var rfl (Rp.mono e' _ _ hlv'))) (by omega) (fun _ => rfl) fun o ho F'' e'' y hy =>
      g_andV (g_op (g_var rfl (Rp.mono e'' _ _ hu)) (g_var rfl hy) fun _ _ h1 h2 => by subst h1 h2; exact rv_neT) fun _ => g_call (l, o) (gs_two (g_var rfl (Rp.mono e'' _ _ hu)) (g_var rfl hy)) rfl (by have := lf.2 l hl; simp only; omega))) (rc_anyM _ fun o => (!decide (l = o)) && within l o)))
  have hmv' : Rp K F5 mv (dLT (greatOf n ls)) := hmv
  -- what the instance has been through
  have f5x : F5 x = none := s5.new x fx (by rw [hox]; simp)
  have h5x : H5 x = some (.ins C dx []) := s5.keep.ex x _ hox
  have b0 : Fv.del H x x = none := Fv.del_same
  refine t_fld (K := K) ((Step.own1 e x).trans s5) b0 f5x rfl h5x FC.cl FC.nN (by decide) (EvG.toX (g_var (K := K) (d := .int n) (v := .int n) rfl (.int _))) fun v6 F6 H6 hv6 s6 e6 f6x h6x => ?_
  have hv6' := rp_int hv6
  subst hv6'
  refine t_fld (K := K) s6 b0 f6x rfl h6x FC.cl FC.nL (by show 1 < 1000; decide) (EvG.toX (g_cbI (gs_one (g_sortLL (g_var rfl (Rp.mono e6 _ _ hmv')) (great_kinds hn5 ls))) rc_tupL)) fun v7 F7 H7 hv7 s7 e7 f7x h7x => ?_
  refine t_fld1 (K := K) s7 b0 f7x rfl h7x FC.cl FC.nF (by show 2 < 1000; decide) (x_dcT (K := K) (w_listI (g_var rfl (Rp.mono ((e5.trans e6).trans e7) _ _ hlv'))) lf.1 (fun _ => rfl) (fun l hl F' e' u hu => g_var rfl hu) (fun _ _ _ => g_bl)) fun v8 F8 H8 hv8 s8 e8 f8x h8x => ?_
  obtain ⟨D, rfl, hD⟩ := hv8
  have hdx : (Fv.del H x) dx = some (.own x) := by rw [Fv.del_ne hne]; exact hodx
  have f8d : F8 dx = none := s8.new dx fdx (by rw [hdx]; simp)
  have h8d : H8 dx = some (.own x) := s8.keep.ex dx _ hdx
  have s9 : Step none F (Fv.del (Fv.del H x) dx) (upd F8 dx (.own x)) H8 := (s8.less Fv.del_ex).add f8d h8d Fv.del_same
  have f9x : upd F8 dx (.own x) x = none := by rw [upd_ne hne.symm]; exact f8x
  have s10 := s9.add (a := x) f9x h8x (by rw [Fv.del_ne hne.symm, Fv.del_same])
  have ee : Ex F8 (upd (upd F8 dx (.own x)) x (.ins C dx (putF "_let" (.ref D) (putF "lots" v7 (putF "n" (.int n) []))))) := (Ex.new f8d).trans (Ex.new f9x)
  refine q _ H8 s10 ⟨dx, v7, D, upd_same, ?_, Rp.mono (e8.trans ee) _ _ hv7, ee _ _ hD⟩
  rw [upd_ne hne]; exact upd_same
end
end K3

namespace K3
open PySem PySem.Spec PyProof.Rows L2 L2H Fv Evl StX
abbrev s_Falls_at_most : Stmt := inClass (topS 23) 9
theorem sc_Falls_at_most : FnScope ["houses", "count"] ["houses", "count"] (defScope s_Falls_at_most) := ⟨rfl, rfl, rfl, by decide +kernel, rfl, by decide +kernel, by decide +kernel⟩
theorem most_good : ∀ n ∈ List.range 6, ∀ k ∈ List.range n, (lotsOf n k).length ≤ 32 ∧ ∀ l ∈ lotsOf n k, l.length ≤ 60 ∧ (∀ i ∈ l, 0 ≤ i ∧ i < (n : Int)) ∧ (lotOf n l).length ≠ n := by decide +kernel
section
variable {P : Program} {w : World} {K : PySem.W.Frag} {mg : Str → Option Value} {base : Heap} {CF CE fE : Addr} {mc : Value}
theorem x_makeT {pt : Option Pt} {σ : L2.St} {F : Hp} {ts : TA} {C : Addr} {E : XK} {n : Nat} {src : PyData} {ls : List (List Int)} (h : EvsG K pt ts σ F (· = [.int (n : Int), src])) (h1 : LotsDT src ls) (h2 : 2 ≤ n ∧ n ≤ 5) (h3 : GoodLots n ls) (h4 : ls.length ≤ 32) :
    EvX pt (tMake C (spInitT K C) [] E ts) σ F (fun v F2 => ∃ x, v = .ref x ∧ Fam K C F2 x n ls) := fun H1 i g Q q =>
  h H1 i g _ fun ds vs F2 H2 hd s hv => by
    subst hd
    obtain ⟨a, v, rfl, ha, hv⟩ := rpAll2 hv
    rw [rp_int ha]
    intro x dx hx hdx hne
    have fr : ∀ {a : Addr}, H2 a = none → F2 a = none := fun {a} h => by
      cases w : F2 a with
      | none => rfl
      | some o => rw [s.inn _ _ w] at h; cases h
    have n1 : (upd H2 dx (.own x)) x = none := by rw [upd_ne hne.symm]; exact hx
    have e1 : Ex H2 (upd (upd H2 dx (.own x)) x (.ins C dx [])) := (Ex.new hdx).trans (Ex.new n1)
    refine ⟨x, dx, n, src, ls, F2, v, rfl, upd_same, by rw [upd_ne hne]; exact upd_same, hne, fr hx, fr hdx, s.inn.trans e1, hv, h1, h2, h3, h4, fun F3 H3 s3 fam => ⟨rfl, ?_⟩⟩
    have back : Fv.del (Fv.del (upd (upd H2 dx (.own x)) x (.ins C dx [])) x) dx = H2 := by
      funext b
      by_cases z : b = dx
      · rw [z, Fv.del_same, hdx]
      · rw [Fv.del_ne z]
        by_cases y : b = x
        · rw [y, Fv.del_same, hx]
        · rw [Fv.del_ne y, upd_ne y, upd_ne z]
    rw [back] at s3
    exact q _ F3 H3 ⟨x, rfl, fam⟩ (s.trans (s3.lift s.good))
/-- a promise about an instance -/
def spMost (K : PySem.W.Frag) (C : Addr) : Sp := fun vs H Q _ => ∃ (n k : Nat) (F : Hp), vs = [.int n, .int k] ∧ 2 ≤ n ∧ n ≤ 5 ∧ k < n ∧ Ex F H ∧ ∀ x F2 H2, Step none F H F2 H2 → Fam K C F2 x n (lotsOf n k) → Q (.ref x) H2
theorem ok_most {f fN fW fZ C : Addr} {fd fdN fdW fdZ : FuncData} (Fn : Fun K "at_most" "Falls.at_most" s_Falls_at_most f fd) (T : Tx mg) (FC : FallsC K C) (M_Falls : Mk K C fN) (g_Falls : mg "Falls" = some (.ref C))
    (G_Falls : FnOk P w K mg base CX0 4 fN fdN ["self", "houses", "lots"] (spInitT K C)) (b_Falls : Binds K fdN ["self", "houses", "lots"] [])
    (F_is_whole : FunW K fW fdW) (b_is_whole : Binds K fdW ["thing", "low", "high"] []) (g_is_whole : mg "is_whole" = some (.ref fW))
    (F_lots_of_size : Fun K "lots_of_size" "lots_of_size" s_lots_of_size fZ fdZ) (b_lots_of_size : Binds K fdZ ["houses", "size"] []) (g_lots_of_size : mg "lots_of_size" = some (.ref fZ)) :
    FnOk P w K mg base CX0 6 f fd ["houses", "count"] (spMost K C) := by
  have G_is_whole : FnOk P w K mg base CX0 1 fW fdW ["thing", "low", "high"] (spWhole K) := ok_whole F_is_whole T
  have G_lots_of_size : FnOk P w K mg base CX0 1 fZ fdZ ["houses", "size"] (spSize K) := ok_size F_lots_of_size T
  refine Fn.ok sc_Falls_at_most (fun vs H Q E ⟨_, _, _, h, _⟩ => by rw [h]; rfl) (fun cdv A outer s H vs Q E hr h => ?_)
  obtain ⟨n, k, F, rfl, h2, h5, hk, e, q⟩ := h
  refine ⟨_, (pss_cons (ps_if (pt_not (pt_val (pe_call G_is_whole (hr.mono (by decide)) (by rfl) g_is_whole F_is_whole.kp b_is_whole .nil pass0 (pa_cons (pv 0) (pa_cons pe_int (pa_cons pe_int pa_nil)))))) (pss_one ps_never) pss_nil)
    (pss_cons (ps_if (pt_not (pt_val (pe_call G_is_whole (hr.mono (by decide)) (by rfl) g_is_whole F_is_whole.kp b_is_whole .nil pass0 (pa_cons (pv 1) (pa_cons pe_int (pa_cons (pe_op op_sub (pv 0) pe_int) pa_nil)))))) (pss_one ps_never) pss_nil)
    (pss_one (ps_ret (pe_make M_Falls G_Falls (hr.mono (by decide)) (by rfl) g_Falls b_Falls .nil pass0 (pa_cons (pv 0) (pa_cons (pe_call G_lots_of_size (hr.mono (by decide)) (by rfl) g_lots_of_size F_lots_of_size.kp b_lots_of_size .nil pass0 (pa_cons (pv 0) (pa_cons (pv 1) pa_nil))) pa_nil))))))), ?_⟩
  refine t_skip (Step.refl e .nil) ((et_not (b := true) ((et_B (g_call (.int n, some 2, some 5) (gs_three (g_var (v := .int n) rfl (.int _)) g_int g_int) rfl trivial)).is ?_)).is rfl) fun F1 H1 s1 e1 => ?_
  · simp only [isWhole, loOk, hiOk, Bool.and_eq_true, decide_eq_true_eq]; omega
  refine t_skip s1 ((et_not (b := true) ((et_B (g_call (.int k, some 0, some ((n : Int) - 1)) (gs_three (g_var (v := .int k) rfl (.int _)) g_int ((g_op (g_var (v := .int n) (d := .int n) rfl (.int _)) g_int fun _ _ h1 h2 => by subst h1 h2; exact rv_sub))) rfl trivial)).is ?_)).is rfl) fun F2 H2 s2 e2 => ?_
  · simp only [isWhole, loOk, hiOk, Bool.and_eq_true, decide_eq_true_eq]; omega
  obtain ⟨m1, m2⟩ := most_good n (by rw [List.mem_range]; omega) k (List.mem_range.mpr hk)
  refine t_retX s2 (x_makeT (n := n) (ls := lotsOf n k) (gs_two (g_var (v := .int n) rfl (.int _)) (g_call (n, k) (gs_two (g_var (v := .int n) rfl (.int _)) (g_var (v := .int k) rfl (.int _))) rfl ⟨h5, by simp only; omega⟩)) (.t _) ⟨h2, h5⟩ ⟨by omega, m2⟩ m1) fun v F3 H3 ⟨x, e3, fam⟩ s3 => ?_
  rw [e3]
  exact q x F3 H3 s3 fam
/-- what no family is made of: houses, a count -/
inductive MostBad : PyData → PyData → Str → Prop
  | houses (h c : PyData) (hb : isWhole (some 2) (some 5) h = false) : MostBad h c "houses"
  | count (n : Nat) (c : PyData) (hn : 2 ≤ n ∧ n ≤ 5) (hb : isWhole (some 0) (some ((n : Int) - 1)) c = false) : MostBad (.int n) c "count"
def spMostB (K : PySem.W.Frag) (CE : Addr) : Sp := fun vs H _ E => ∃ (hv cv : V) (hd cd : PyData) (wd : Str) (F : Hp), vs = [hv, cv] ∧ MostBad hd cd wd ∧ Ex F H ∧ Rp K F hv hd ∧ Rp K F cv cd ∧
  ∀ F2 H2 dd, Step none F H F2 H2 → F2 dd = some (.xd [("at", .int (0 : Nat)), ("what", .str wd)]) → E (.ref CE) (some dd) H2
theorem ok_mostB {f fN fW fZ C : Addr} {fd fdN fdW fdZ fdE : FuncData} (Fn : Fun K "at_most" "Falls.at_most" s_Falls_at_most f fd) (T : Tx mg) (FC : FallsC K C) (M_Falls : Mk K C fN) (g_Falls : mg "Falls" = some (.ref C))
    (G_Falls : FnOk P w K mg base CX0 4 fN fdN ["self", "houses", "lots"] (spInitT K C)) (b_Falls : Binds K fdN ["self", "houses", "lots"] [])
    (FM : FirmC K mg CF mc) (E_BadFalls : ErrC K mg CF CE fE "BadFalls" ["what", "at"]) (FI : Fun K "__init__" "BadFalls.__init__" s_BadFalls___init__ fE fdE) (bI_BadFalls : Binds K fdE ["self", "what", "at"] [])
    (F_is_whole : FunW K fW fdW) (b_is_whole : Binds K fdW ["thing", "low", "high"] []) (g_is_whole : mg "is_whole" = some (.ref fW))
    (F_lots_of_size : Fun K "lots_of_size" "lots_of_size" s_lots_of_size fZ fdZ) (b_lots_of_size : Binds K fdZ ["houses", "size"] []) (g_lots_of_size : mg "lots_of_size" = some (.ref fZ)) :
    FnOk P w K mg base (L2.CX P w) 6 f fd ["houses", "count"] (spMostB K CE) := by
  have GI_BadFalls : FnOk P w K mg base CX0 1 fE fdE ["self", "what", "at"] (spI2 CE "what" "at") := ok_bfalls FI FM E_BadFalls
  have G_is_whole : FnOk P w K mg base CX0 1 fW fdW ["thing", "low", "high"] (spWhole K) := ok_whole F_is_whole T
  have G_lots_of_size : FnOk P w K mg base CX0 1 fZ fdZ ["houses", "size"] (spSize K) := ok_size F_lots_of_size T
  refine Fn.okX sc_Falls_at_most (fun vs H Q E ⟨_, _, _, _, _, _, h, _⟩ => by rw [h]; rfl) (fun cdv A outer s H vs Q E hr h => ?_)
  obtain ⟨hv, cv, hd, cd, wd, F, rfl, hb, e, h1, h2, q⟩ := h
  refine ⟨_, (pss_cons (ps_if (pt_not (pt_val (pe_call G_is_whole (hr.mono (by decide)) (by rfl) g_is_whole F_is_whole.kp b_is_whole .nil pass0 (pa_cons (pv 0) (pa_cons pe_int (pa_cons pe_int pa_nil)))))) (pss_one (ps_raise rfl (takes_of rfl rfl rfl rfl) (pmk_oex E_BadFalls.T E_BadFalls.iC E_BadFalls.tI GI_BadFalls (hr.mono (by decide)) bI_BadFalls .nil pass0 (by rfl) E_BadFalls.g (pa_cons pe_str (pa_cons pe_int pa_nil))))) pss_nil)
    (pss_cons (ps_if (pt_not (pt_val (pe_call G_is_whole (hr.mono (by decide)) (by rfl) g_is_whole F_is_whole.kp b_is_whole .nil pass0 (pa_cons (pv 1) (pa_cons pe_int (pa_cons (pe_op op_sub (pv 0) pe_int) pa_nil)))))) (pss_one (ps_raise rfl (takes_of rfl rfl rfl rfl) (pmk_oex E_BadFalls.T E_BadFalls.iC E_BadFalls.tI GI_BadFalls (hr.mono (by decide)) bI_BadFalls .nil pass0 (by rfl) E_BadFalls.g (pa_cons pe_str (pa_cons pe_int pa_nil))))) pss_nil)
    (pss_one (ps_ret (pe_make M_Falls G_Falls (hr.mono (by decide)) (by rfl) g_Falls b_Falls .nil pass0 (pa_cons (pv 0) (pa_cons (pe_call G_lots_of_size (hr.mono (by decide)) (by rfl) g_lots_of_size F_lots_of_size.kp b_lots_of_size .nil pass0 (pa_cons (pv 0) (pa_cons (pv 1) pa_nil))) pa_nil))))))), ?_⟩
  cases hb with
  | houses _ _ hb =>
    refine t_when (b := true) (Step.refl e .nil) ((et_not (b := false) (et_B ((g_call (hd, some 2, some 5) (gs_three (g_var rfl h1) g_int g_int) rfl trivial).is (congrArg PyData.bool hb)))).is rfl) (fun _ F2 H2 s2 e2 => ?_) (fun z => by cases z)
    exact r_mk2 (K := K) s2.inn (gs_two g_str g_int) (by decide) (by decide) fun F3 H3 dx s3 h3 => q F3 H3 dx (s2.trans s3) h3
  | count n _ hn hb =>
    refine t_skip (Step.refl e .nil) ((et_not (b := true) (et_B ((g_call (.int n, some 2, some 5) (gs_three (g_var rfl h1) g_int g_int) rfl trivial).is (congrArg PyData.bool (by simp only [isWhole, loOk, hiOk, Bool.and_eq_true, decide_eq_true_eq]; omega))))).is rfl) fun F2 H2 s2 e2 => ?_
    refine t_when (b := true) s2 ((et_not (b := false) (et_B ((g_call (cd, some 0, some ((n : Int) - 1)) (gs_three (g_var rfl (Rp.mono e2 _ _ h2)) g_int (g_opI (g_var rfl (Rp.mono e2 _ _ h1)) g_int rv_sub)) rfl trivial).is (congrArg PyData.bool hb)))).is rfl) (fun _ F3 H3 s3 e3 => ?_) (fun z => by cases z)
    exact r_mk2 (K := K) s3.inn (gs_two g_str g_int) (by decide) (by decide) fun F4 H4 dx s4 h4 => q F4 H4 dx (s3.trans s4) h4
end
end K3

namespace K3
open PySem PySem.Spec PyProof.Rows L2 L2H Fv Evl StX
abbrev s_Falls_with_lot : Stmt := inClass (topS 23) 7
theorem sc_Falls_with_lot : FnScope ["self", "lot"] ["self", "lot"] (defScope s_Falls_with_lot) := ⟨rfl, rfl, rfl, by decide +kernel, rfl, by decide +kernel, by decide +kernel⟩
section
variable {P : Program} {w : World} {K : PySem.W.Frag} {mg : Str → Option Value} {base : Heap} {CF CE fE : Addr} {mc : Value}
theorem t_retMk {ts : TA} {σ : L2.St} {F H : Hp} {D : Ends} {ds : List PyData} {C : Addr} {sp : Sp} {E : XK} (e : Ex F H) (h : EvsG K none ts σ F (· = ds)) (q : ∀ vs F2 H2, Step none F H F2 H2 → RpAll K F2 vs ds → ∀ x dx, H2 x = none → H2 dx = none → dx ≠ x → sp (.ref x :: vs) (upd (upd H2 dx (.own x)) x (.ins C dx [])) (fun v H3 => v = .non ∧ D.rt (.ref x) H3) E) :
    tRet (tMake C sp [] E ts) D σ H := h H e .nil _ fun ds' vs F2 H2 hd s hv => fun x dx a b c => by
  rw [List.append_nil]
  exact q vs F2 H2 s (by rw [← show ds' = ds from hd]; exact hv) x dx a b c
def spWithB (K : PySem.W.Frag) (C CE : Addr) : Sp := fun vs H _ E => ∃ (x : Addr) (n : Nat) (ls : List (List Int)) (d : PyData) (v : V) (wd : Str) (i : Nat) (F : Hp), vs = [.ref x, v] ∧ (2 ≤ n ∧ n ≤ 5) ∧ (famLots n ls).length < 32 ∧ LotsBad n ((famLots n ls).map dT ++ [d]) wd i ∧ Ex F H ∧ Fam K C F x n ls ∧ Rp K F v d ∧
  ∀ F2 H2 dd, Step none F H F2 H2 → F2 dd = some (.xd [("at", .int i), ("what", .str wd)]) → E (.ref CE) (some dd) H2
theorem ok_withB {f fN C : Addr} {fd fdN : FuncData} (Fn : Fun K "with_lot" "Falls.with_lot" s_Falls_with_lot f fd) (T : Tx mg) (FC : FallsC K C) (M_Falls : Mk K C fN) (g_Falls : mg "Falls" = some (.ref C))
    (GX_Falls : FnOk P w K mg base (L2.CX P w) 5 fN fdN ["self", "houses", "lots"] (spInitB K CE)) (b_Falls : Binds K fdN ["self", "houses", "lots"] []) : FnOk P w K mg base (L2.CX P w) 7 f fd ["self", "lot"] (spWithB K C CE) := by
  refine Fn.okX sc_Falls_with_lot (fun vs H Q E ⟨_, _, _, _, _, _, _, _, h, _⟩ => by rw [h]; rfl) (fun cdv A outer s H vs Q E hr h => ?_)
  obtain ⟨x, n, ls, d, v, wd, i, F, rfl, hn, few, hb, e, fam, hv, q⟩ := h
  obtain ⟨dx, lt, dd, o1, o2, o3, o4⟩ := fam.ex
  refine ⟨_, (pss_one (ps_ret (pe_make M_Falls GX_Falls (hr.mono (by decide)) (by rfl) g_Falls b_Falls .nil (passes_call (takes_of rfl rfl rfl rfl) fun _ _ _ _ h => h) (pa_cons (e_fld (K := K) (pv 0) rfl) (pa_cons (pe_tup (a_star (K := K) (e_fld (K := K) (pv 0) rfl) (pa_cons (pv 1) pa_nil))) pa_nil))))), ?_⟩
  have args : EvsG K none (tCons (tFld K (tVar 0) "n") (tCons (tTup (tStar K (tFld K (tVar 0) "lots") (tCons (tVar 1) tNil))) tNil)) (start ["self", "lot"] [.ref x, v]) F (· = [.int n, .tuple ((famLots n ls).map dT ++ [d])]) :=
    gs_two (g_fld rfl o1 FC.cl FC.nN rfl (.int _)) (g_tupI (gs_star (.inr rfl) (g_fld rfl o1 FC.cl FC.nL rfl o3) (gs_one (g_var rfl hv))) (by rw [List.length_append, List.length_map]; simp; omega))
  refine t_retMk e args fun vs F2 H2 s2 hvs => ?_
  obtain ⟨a, b, rfl, ha, hb2⟩ := rpAll2 hvs
  obtain rfl := rp_int ha
  intro x2 dx2 n1 n2 n3
  have t1 : Step none F2 H2 F2 (upd H2 dx2 (.own x2)) := .litter s2.inn s2.good n2
  have n4 : (upd H2 dx2 (.own x2)) x2 = none := by rw [upd_ne n3.symm]; exact n1
  have t2 : Step none F2 (upd H2 dx2 (.own x2)) F2 (upd (upd H2 dx2 (.own x2)) x2 (.ins C dx2 [])) := .litter t1.inn t1.good n4
  have st := (s2.trans t1).trans t2
  exact ⟨x2, .int n, b, .int n, .tuple ((famLots n ls).map dT ++ [d]), wd, i, F2, rfl, .lots n _ _ wd i hn (.inr rfl) (by rw [List.length_append, List.length_map]; simp; omega) hb, st.inn, .int _, hb2, fun F3 H3 dd3 s3 h3 => q F3 H3 dd3 (st.trans s3) h3⟩
end
end K3

namespace K3
open PySem PySem.Spec PyProof.Rows L2 L2H Fv Evl StX
abbrev s_law_small_asked : Stmt := topS 36
theorem sc_law_small_asked : FnScope ["_law_pot_here", "_law_n", "_law_falls", "_law_count", "_law_found", "_law_why", "_law_more", "_law_least", "_law_lot_here", "_law_low", "_law_high", "_law_truths", "_law_good", "_law_truth"] ["_law_pot_here", "_law_n"] (defScope s_law_small_asked) := ⟨rfl, rfl, rfl, by decide +kernel, rfl, by decide +kernel, by decide +kernel⟩
def fn4 (n : Nat) : List (List Int) := famLots n (lotsOf n (n - 1))
theorem small_facts0 : ∀ n ∈ [2, 3, 4], (greatOf n (lotsOf n (n - 1))).length = n ∧ (∀ l ∈ greatOf n (lotsOf n (n - 1)), l.length ≤ 60 ∧ (∀ k ∈ l, 0 ≤ k ∧ k < (n : Int)) ∧ (lotOf n l).length ≠ n) ∧ decide (lotOf n ((hs n).drop 1) ∈ letOf n (lotsOf n (n - 1))) = true ∧ (∀ k ∈ hs n, 0 ≤ k ∧ k < (n : Int)) ∧ (lotOf n (hs n)).length = n := by decide +kernel
theorem small_facts (n : Nat) (hn : n ∈ [2, 3, 4]) : (fn4 n).length = n ∧ (∀ l ∈ fn4 n, l.length ≤ 60 ∧ (∀ k ∈ l, 0 ≤ k ∧ k < (n : Int)) ∧ (lotOf n l).length ≠ n) ∧ decide (lotOf n ((hs n).drop 1) ∈ letOf n (lotsOf n (n - 1))) = true ∧ (∀ k ∈ hs n, 0 ≤ k ∧ k < (n : Int)) ∧ (lotOf n (hs n)).length = n := by
  obtain ⟨h1, h2, h3, h4, h5⟩ := small_facts0 n hn
  have p : (fn4 n).Perm _ := sortL_perm (greatOf n (lotsOf n (n - 1)))
  exact ⟨p.length_eq.trans h1, fun l hl => h2 l (p.mem_iff.mp hl), h3, h4, h5⟩
def what2 (x : Str) (i : Int) : PyData := .tuple [.str x, .int i]
theorem what2_facts : ∀ x ∈ (["count", "all", "houses", "lot", "lots"] : List Str), ∀ i ∈ List.range 50, PyData.eqv (what2 x i) (what2 x i) = true ∧ SeqAt.shaped (what2 x i) = true := by decide +kernel
theorem good_pre {n : Nat} {ds : List (List Int)} {d : PyData} (hl : ds.length = n) (hg : ∀ l ∈ ds, l.length ≤ 60 ∧ (∀ k ∈ l, 0 ≤ k ∧ k < (n : Int)) ∧ (lotOf n l).length ≠ n) (j : Nat) (h : j < n) (h2 : j < (ds.map dT ++ [d]).length) : LotGood n ((ds.map dT ++ [d])[j]) := by
  rw [List.getElem_append_left (by rw [List.length_map]; omega), List.getElem_map]
  have := hg (ds[j]'(by omega)) (List.getElem_mem _)
  exact ⟨_, .inr rfl, this⟩
theorem last_at {n : Nat} {ds : List (List Int)} {d : PyData} (hl : ds.length = n) (h2 : n < (ds.map dT ++ [d]).length) : (ds.map dT ++ [d])[n] = d := by
  rw [List.getElem_append_right (by rw [List.length_map]; omega)]
  simp [hl]
section
variable {P : Program} {w : World} {K : PySem.W.Frag} {mg : Str → Option Value} {base : Heap} {CF CE fE : Addr} {mc : Value}
variable {pt : Option Pt} {σ : L2.St} {F F0 H0 H : Hp} {te ta tb : TE} {ts tr : TA} {D : Ends} {tz : TS}
theorem rv_notB {a b : Bool} : RvG K rNotB (.bool a) (.bool b) (Is (.bool (!decide (a = b)))) := rv_val fun F H x y _ hx hy => ⟨_, fun Q q => ⟨a, b, rp_bool hx, rp_bool hy, q⟩, .bl _⟩
theorem rv_pow30 : RvG K (rI CPow fun i j => .int (i ^ j.toNat)) (.int 10) (.int 30) (Is (.int 1000000000000000000000000000000)) := fun F H x y i hx hy Q q => rv_I (f := fun i j => .int (i ^ j.toNat)) (C := CPow) (show CPow 10 30 from ⟨by decide, by decide, by decide⟩) (fun F => .int _) F H x y i hx hy Q fun z v F2 H2 hz s hv => q z v F2 H2 (by rw [show z = _ from hz]; rfl) s hv
theorem g_whole2 {E : XK} {d : PyData} {lo : Int} (h : EvG K pt te σ F (Is d)) (h2 : EvG K pt ta σ F (Is (.int lo))) : EvG K pt (tCall (spWhole K) [.non] E (tCons te (tCons ta tNil))) σ F (Is (.bool (isWhole (some lo) none d))) := fun H1 e g Q q => gs_two h h2 H1 e g _ fun ds vs F2 H2 hd s hv => by
  subst hd
  obtain ⟨a, b, rfl, ha, hb⟩ := rpAll2 hv
  exact ⟨(d, some lo, none), F2, trivial, s.inn, .cons ha (.cons hb (.cons .non .nil)), fun v F3 H3 s3 hv3 => q _ v F3 H3 rfl (s.trans (s3.lift s.good)) hv3⟩
theorem x_most {C : Addr} {E : XK} {n k : Nat} (h : EvsG K pt ts σ F (· = [.int (n : Int), .int (k : Int)])) (h2 : 2 ≤ n) (h5 : n ≤ 5) (hk : k < n) : EvX pt (tCall (spMost K C) [] E ts) σ F (fun v F2 => ∃ x, v = .ref x ∧ Fam K C F2 x n (lotsOf n k)) := fun H1 i g Q q =>
  h H1 i g _ fun ds vs F2 H2 hd s hv => by
    subst hd
    obtain ⟨a, b, rfl, ha, hb⟩ := rpAll2 hv
    rw [rp_int ha, rp_int hb]
    exact ⟨n, k, F2, rfl, h2, h5, hk, s.inn, fun x F3 H3 s3 fam => q _ F3 H3 ⟨x, rfl, fam⟩ (s.trans (s3.lift s.good))⟩
theorem g_flets {C : Addr} {E : XK} {i : Nat} {x : Addr} {n : Nat} {ls : List (List Int)} {l : List Int} (h0 : σ[i]? = some (some (.ref x))) (fam : Fam K C F x n ls) (hn : n ≤ 5) (hl : l.length ≤ 60 ∧ ∀ k ∈ l, 0 ≤ k ∧ k < (n : Int)) (h : EvG K pt te σ F (Is (dT l))) :
    EvG K pt (tMeth C "lets" (spFLets K C) [] E (tVar i) (tCons te tNil)) σ F (Is (.bool (decide (lotOf n l ∈ letOf n ls)))) := by
  obtain ⟨dx, lt, d, o1, o2, o3, o4⟩ := fam.ex
  exact g_methD h0 o1 rfl (gs_one h) fun F1 H1 vs e1 e2 hv Q q => ⟨x, n, ls, l, F1, vs, rfl, hn, hl, e2, fam.mono e1, hv, q⟩
/-- what the suite does with an error of two fields -/
theorem two_tells {j : Nat} {dd a : Addr} {x : Str} {p : Int} (EF : ErrC K mg CF CE fE "BadFalls" ["what", "at"]) (s : Step pt F0 H0 F H) (hd : F dd = some (.xd [("at", .int p), ("what", .str x)])) (i : Nat) (hσ : i < σ.length)
    {D : Ends} (q : ∀ v F2 H2, Step pt F0 H0 F2 H2 → Ex F F2 → Rp K F2 v (what2 x p) → D.nx ((σ.set i (some (.ref a))).set j (some v)) H2) :
    tAsg (tCall (spTold K CF (.ref CE) a) [] E0 (tCons (tVar i) (tCons (tTup (tCons (tXf a (.ref CE) (some dd) CE "what" (tVar i)) (tCons (tXf a (.ref CE) (some dd) CE "at" (tVar i)) tNil))) tNil))) (gName j) D (σ.set i (some (.ref a))) H := by
  have h5 : (σ.set i (some (V.ref a)))[i]? = some (some (V.ref a)) := by
    rw [List.getElem?_set]; simp [hσ]
  refine t_asg1 (K := K) (R := Is (what2 x p)) s (g_told h5 EF.up EF.kv (g_tupI (gs_two (g_xf (v := .str x) h5 hd rfl (.str x)) (g_xf (v := .int p) h5 hd rfl (.int p))) (by simp))) fun d v F2 H2 hd2 s2 e2 hv => ?_
  subst hd2
  exact q v F2 H2 s2 e2 hv
/-- a call within a couple, of which nothing is wanted but that it raises -/
theorem tt_call {c : V} {sp : Sp} {E : L2.St → XK} {R : List PyData → Prop} {gj : TG} {nm : Str} (s : Step pt F0 H0 F H) (h : EvsG K pt ts σ F R) (q : ∀ ds vs F2 H2, R ds → Step pt F0 H0 F2 H2 → Ex F F2 → RpAll K F2 vs ds → ∀ Q, sp vs H2 Q (E σ)) :
    tAsg (tTup (tCons (tC c) (tCons (tFld K (tCallS sp E ts) nm) tNil))) gj D σ H := h H s.inn s.good _ fun ds vs F2 H2 hd s2 hv => q ds vs F2 H2 hd (s.trans s2) s2.sub hv _
theorem reσ {t : TS} {D : Ends} {σ σ' : L2.St} {H : Hp} (e : σ = σ') (h : t D σ' H) : t D σ H := e ▸ h
theorem ok_smallAsked {f fD fT fW fM fA fL C pm : Addr} {mcl : Value} {fd fdD fdT fdW fdM fdA fdL : FuncData} (Fn : Fun K "_law_small_asked" "_law_small_asked" s_law_small_asked f fd) (T : Tx mg) (FC : FallsC K C) (EF : ErrC K mg CF CE fE "BadFalls" ["what", "at"])
    (F_law_draw : Fun K "_law_draw" "_law_draw" s_law_draw fD fdD) (b_law_draw : Binds K fdD ["_law_pot_here", "_law_many"] []) (g_law_draw : mg "_law_draw" = some (.ref fD))
    (F_law_told : Fun K "_law_told" "_law_told" s_law_told fT fdT) (b_law_told : Binds K fdT ["_law_why", "_law_base"] []) (g_law_told : mg "_law_told" = some (.ref fT)) (GT_law_told : ∀ cls, FnT P w K mg base 1 fT fdT ["_law_why", "_law_base"] cls (spTold K CF cls))
    (F_is_whole : FunW K fW fdW) (b_is_whole : Binds K fdW ["thing", "low", "high"] []) (g_is_whole : mg "is_whole" = some (.ref fW))
    (g_Falls : mg "Falls" = some (.ref C)) (R_Falls : ClX.CRead K C mcl) (S_at_most : SMet K C mcl "at_most" pm fM) (b_at_most : Binds K fdM ["houses", "count"] [])
    (G_at_most : FnOk P w K mg base CX0 6 fM fdM ["houses", "count"] (spMost K C)) (GX_at_most : FnOk P w K mg base (L2.CX P w) 6 fM fdM ["houses", "count"] (spMostB K CE))
    (m_with_lot : Meth K C "with_lot" fA) (b_with_lot : Binds K fdA ["self", "lot"] []) (GX_with_lot : FnOk P w K mg base (L2.CX P w) 7 fA fdA ["self", "lot"] (spWithB K C CE))
    (m_lets : Meth K C "lets" fL) (G_lets : FnOk P w K mg base CX0 1 fL fdL ["self", "lot"] (spFLets K C)) (b_lets : Binds K fdL ["self", "lot"] []) :
    FnOk P w K mg base CX0 8 f fd ["_law_pot_here", "_law_n"] (spAskedT K) := by
  have G_law_draw : FnOk P w K mg base CX0 1 fD fdD ["_law_pot_here", "_law_many"] (spDraw K) := ok_draw F_law_draw T
  have G_is_whole : FnOk P w K mg base CX0 1 fW fdW ["thing", "low", "high"] (spWhole K) := ok_whole F_is_whole T
  obtain ⟨ds1, v1_is_whole, b1_is_whole⟩ := L2.FunD.binds1 F_is_whole (ps := ["thing", "low", "high"]) 1 0 (by simp) rfl fun T kV doc pm an cdv ct us its hl hi => match us, its, hl, hi with | [_], [_, _], _, _ => ⟨_, rfl, rfl⟩
  obtain ⟨ds2, v2_is_whole, b2_is_whole⟩ := L2.FunD.binds1 F_is_whole (ps := ["thing", "low", "high"]) 2 1 (by simp) rfl fun T kV doc pm an cdv ct us its hl hi => match us, its, hl, hi with | [_, _], [_, _], _, _ => ⟨_, rfl, rfl⟩
  refine Fn.ok sc_law_small_asked (spQ.len (n := 1) (fun _ => rfl)) (fun cdv A outer s H vs Q E hr h => ?_)
  obtain ⟨q, n, F, as, rfl, ⟨n2, n4⟩, e, g, ha, k0⟩ := h
  obtain ⟨v1, rfl, h1⟩ := rpAll1 ha
  obtain rfl := rp_int h1
  refine ⟨_, (pss_cons (ps_set (i := 2) sc_law_small_asked.nd rfl (by first | exact Or.inl rfl | exact Or.inr rfl) (pe_smeth (by rfl) g_Falls R_Falls S_at_most G_at_most (hr.mono (by decide)) b_at_most .nil pass0 (pa_cons (pv 1) (pa_cons (pe_op op_sub (pv 1) pe_int) pa_nil))))
    (pss_cons (ps_set (i := 3) sc_law_small_asked.nd rfl (by first | exact Or.inl rfl | exact Or.inr rfl) (pe_ix (o_ixL (K := K)) (pe_lst (pa_cons (pv 1) (pa_cons (pe_un un_neg pe_int) (pa_cons pe_bl (pa_cons pe_non pa_nil))))) (pe_call G_law_draw (hr.mono (by decide)) (by rfl) g_law_draw F_law_draw.kp b_law_draw .nil pass0 (pa_cons (pv 0) (pa_cons pe_int pa_nil))) (fun _ _ => rfl)))
    (pss_cons (ps_set (i := 4) sc_law_small_asked.nd rfl (by first | exact Or.inl rfl | exact Or.inr rfl) pe_non)
    (pss_cons (ps_try_as (i := 5) rfl rfl sc_law_small_asked.nd rfl rfl ⟨by rfl, by decide, .inl EF.g⟩ takes0 (fun W pn xe tkW po => (pss_one (ps_set (i := 4) sc_law_small_asked.nd rfl (by first | exact Or.inl rfl | exact Or.inr rfl) (pe_tup (pa_cons pe_int (pa_cons (e_fld (K := K) (pe_smethS (by rfl) g_Falls R_Falls S_at_most GX_at_most (hr.mono (by decide)) b_at_most (fun σ => passAt tkW σ) (pa_cons (pv 1) (pa_cons (pv 3) pa_nil))) rfl) pa_nil)))))) (fun a oe cls d pn hz hf => (pss_one (ps_set (i := 4) sc_law_small_asked.nd rfl (by first | exact Or.inl rfl | exact Or.inr rfl) (pe_callT hz (GT_law_told cls) (roomH_of (hr.mono (by decide))) (by rfl) g_law_told F_law_told.kp b_law_told (pa_cons (pv 5) (pa_cons (pe_tup (pa_cons (pe_xf EF.xf (EF.no "what" (by simp)) hz hf (pv 5)) (pa_cons (pe_xf EF.xf (EF.no "at" (by simp)) hz hf (pv 5)) pa_nil))) pa_nil)))))))
    (pss_cons (ps_set (i := 6) sc_law_small_asked.nd rfl (by first | exact Or.inl rfl | exact Or.inr rfl) pe_non)
    (pss_cons (ps_try_as (i := 5) rfl rfl sc_law_small_asked.nd rfl rfl ⟨by rfl, by decide, .inl EF.g⟩ takes0 (fun W pn xe tkW po => (pss_one (ps_set (i := 6) sc_law_small_asked.nd rfl (by first | exact Or.inl rfl | exact Or.inr rfl) (pe_tup (pa_cons pe_int (pa_cons (e_fld (K := K) (pe_methE (pv 2) FC.cl m_with_lot GX_with_lot (hr.mono (by decide)) b_with_lot (fun σ => passAt tkW σ) (pa_cons (pe_listRg rfl (by rfl) T.list (prg_1 (by rfl) T.range (pv 1))) pa_nil)) rfl) pa_nil)))))) (fun a oe cls d pn hz hf => (pss_one (ps_set (i := 6) sc_law_small_asked.nd rfl (by first | exact Or.inl rfl | exact Or.inr rfl) (pe_callT hz (GT_law_told cls) (roomH_of (hr.mono (by decide))) (by rfl) g_law_told F_law_told.kp b_law_told (pa_cons (pv 5) (pa_cons (pe_tup (pa_cons (pe_xf EF.xf (EF.no "what" (by simp)) hz hf (pv 5)) (pa_cons (pe_xf EF.xf (EF.no "at" (by simp)) hz hf (pv 5)) pa_nil))) pa_nil)))))))
    (pss_cons (ps_if (PW.pt (pw_or (pt_cmpR (o_neD (K := K) hr.units) (pv 4) (pe_tup (pa_cons pe_str (pa_cons pe_int pa_nil))) (nomark _)) (pw_or (pt_cmpR (o_neD (K := K) hr.units) (pv 6) (pe_tup (pa_cons pe_str (pa_cons (pv 1) pa_nil))) (nomark _)) (pw_or1 (pt_cmpR op_notBl (pe_meth (pv 2) FC.cl m_lets G_lets (hr.mono (by decide)) b_lets .nil pass0 (pa_cons (pe_tupRg rfl (by rfl) T.tuple (prg_2 (by rfl) T.range pe_int (pv 1))) pa_nil)) pe_bl (nomark _)))))) (pss_one (ps_ret pe_bl)) pss_nil)
    (pss_cons (ps_set (i := 7) sc_law_small_asked.nd rfl (by first | exact Or.inl rfl | exact Or.inr rfl) pe_non)
    (pss_cons (ps_try_as (i := 5) rfl rfl sc_law_small_asked.nd rfl rfl ⟨by rfl, by decide, .inl EF.g⟩ takes0 (fun W pn xe tkW po => (pss_one (ps_set (i := 7) sc_law_small_asked.nd rfl (by first | exact Or.inl rfl | exact Or.inr rfl) (pe_tup (pa_cons pe_int (pa_cons (e_fld (K := K) (pe_smethS (by rfl) g_Falls R_Falls S_at_most GX_at_most (hr.mono (by decide)) b_at_most (fun σ => passAt tkW σ) (pa_cons (pe_ix (o_ixL (K := K)) (pe_lst (pa_cons pe_int (pa_cons pe_int (pa_cons pe_bl (pa_cons pe_non pa_nil))))) (pe_call G_law_draw (hr.mono (by decide)) (by rfl) g_law_draw F_law_draw.kp b_law_draw .nil pass0 (pa_cons (pv 0) (pa_cons pe_int pa_nil))) (fun _ _ => rfl)) (pa_cons (pv 1) pa_nil))) rfl) pa_nil)))))) (fun a oe cls d pn hz hf => (pss_one (ps_set (i := 7) sc_law_small_asked.nd rfl (by first | exact Or.inl rfl | exact Or.inr rfl) (pe_callT hz (GT_law_told cls) (roomH_of (hr.mono (by decide))) (by rfl) g_law_told F_law_told.kp b_law_told (pa_cons (pv 5) (pa_cons (pe_tup (pa_cons (pe_xf EF.xf (EF.no "what" (by simp)) hz hf (pv 5)) (pa_cons (pe_xf EF.xf (EF.no "at" (by simp)) hz hf (pv 5)) pa_nil))) pa_nil)))))))
    (pss_cons (ps_set (i := 8) sc_law_small_asked.nd rfl (by first | exact Or.inl rfl | exact Or.inr rfl) pe_non)
    (pss_cons (ps_try_as (i := 5) rfl rfl sc_law_small_asked.nd rfl rfl ⟨by rfl, by decide, .inl EF.g⟩ takes0 (fun W pn xe tkW po => (pss_one (ps_set (i := 8) sc_law_small_asked.nd rfl (by first | exact Or.inl rfl | exact Or.inr rfl) (pe_tup (pa_cons pe_int (pa_cons (e_fld (K := K) (pe_methE (pv 2) FC.cl m_with_lot GX_with_lot (hr.mono (by decide)) b_with_lot (fun σ => passAt tkW σ) (pa_cons (pe_lst (pa_cons pe_int (pa_cons (pv 1) pa_nil))) pa_nil)) rfl) pa_nil)))))) (fun a oe cls d pn hz hf => (pss_one (ps_set (i := 8) sc_law_small_asked.nd rfl (by first | exact Or.inl rfl | exact Or.inr rfl) (pe_callT hz (GT_law_told cls) (roomH_of (hr.mono (by decide))) (by rfl) g_law_told F_law_told.kp b_law_told (pa_cons (pv 5) (pa_cons (pe_tup (pa_cons (pe_xf EF.xf (EF.no "what" (by simp)) hz hf (pv 5)) (pa_cons (pe_xf EF.xf (EF.no "at" (by simp)) hz hf (pv 5)) pa_nil))) pa_nil)))))))
    (pss_cons (ps_if (PW.pt (pw_or (pt_cmpR (o_neD (K := K) hr.units) (pv 7) (pe_tup (pa_cons pe_str (pa_cons pe_int pa_nil))) (nomark _)) (pw_or1 (pt_cmpR (o_neD (K := K) hr.units) (pv 8) (pe_tup (pa_cons pe_str (pa_cons (pv 1) pa_nil))) (nomark _))))) (pss_one (ps_ret pe_bl)) pss_nil)
    (pss_cons (ps_set (i := 9) sc_law_small_asked.nd rfl (by first | exact Or.inl rfl | exact Or.inr rfl) (pe_un un_neg (pe_call G_law_draw (hr.mono (by decide)) (by rfl) g_law_draw F_law_draw.kp b_law_draw .nil pass0 (pa_cons (pv 0) (pa_cons (pe_op op_pow pe_int pe_int) pa_nil)))))
    (pss_cons (ps_set (i := 10) sc_law_small_asked.nd rfl (by first | exact Or.inl rfl | exact Or.inr rfl) (pe_op op_add (pv 9) (pe_call G_law_draw (hr.mono (by decide)) (by rfl) g_law_draw F_law_draw.kp b_law_draw .nil pass0 (pa_cons (pv 0) (pa_cons (pe_op op_pow pe_int pe_int) pa_nil)))))
    (pss_cons (ps_set (i := 11) sc_law_small_asked.nd rfl (by first | exact Or.inl rfl | exact Or.inr rfl) (pe_lst (pa_cons (pe_call G_is_whole (hr.mono (by decide)) (by rfl) g_is_whole F_is_whole.kp b_is_whole .nil pass0 (pa_cons (pe_op op_sub (pv 9) pe_int) (pa_cons (pv 9) (pa_cons (pv 10) pa_nil)))) (pa_cons (pe_call G_is_whole (hr.mono (by decide)) (by rfl) g_is_whole F_is_whole.kp b_is_whole .nil pass0 (pa_cons (pe_op op_add (pv 10) pe_int) (pa_cons (pv 9) (pa_cons (pv 10) pa_nil)))) (pa_cons (pe_call G_is_whole (hr.mono (by decide)) (by rfl) g_is_whole F_is_whole.kp b1_is_whole v1_is_whole pass0 (pa_cons pe_bl pa_nil)) (pa_cons (pe_call G_is_whole (hr.mono (by decide)) (by rfl) g_is_whole F_is_whole.kp b1_is_whole v1_is_whole pass0 (pa_cons pe_str pa_nil)) (pa_cons (pe_call G_is_whole (hr.mono (by decide)) (by rfl) g_is_whole F_is_whole.kp b2_is_whole v2_is_whole pass0 (pa_cons pe_non (pa_cons pe_int pa_nil))) pa_nil)))))))
    (pss_cons (ps_set (i := 12) sc_law_small_asked.nd rfl (by first | exact Or.inl rfl | exact Or.inr rfl) (pe_lst (pa_cons (pe_call G_is_whole (hr.mono (by decide)) (by rfl) g_is_whole F_is_whole.kp b_is_whole .nil pass0 (pa_cons (pv 9) (pa_cons (pv 9) (pa_cons (pv 10) pa_nil)))) (pa_cons (pe_call G_is_whole (hr.mono (by decide)) (by rfl) g_is_whole F_is_whole.kp b_is_whole .nil pass0 (pa_cons (pv 10) (pa_cons (pv 9) (pa_cons (pv 10) pa_nil)))) (pa_cons (pe_call G_is_whole (hr.mono (by decide)) (by rfl) g_is_whole F_is_whole.kp b_is_whole .nil pass0 (pa_cons (pe_op op_sub (pv 9) pe_int) (pa_cons pe_non (pa_cons (pv 10) pa_nil)))) (pa_cons (pe_call G_is_whole (hr.mono (by decide)) (by rfl) g_is_whole F_is_whole.kp b2_is_whole v2_is_whole pass0 (pa_cons (pe_op op_add (pv 10) pe_int) (pa_cons (pv 9) pa_nil))) pa_nil))))))
    (pss_one (ps_ret (pe_and (pe_notT (pe_lc (own := [("_law_truth", 13)]) (g := gName 13) rfl sc_law_small_asked.nd (i_list (K := K) (pv 11)) (blkOk_by (own := [("_law_truth", 13)]) (N := ["_law_pot_here", "_law_n", "_law_falls", "_law_count", "_law_found", "_law_why", "_law_more", "_law_least", "_law_lot_here", "_law_low", "_law_high", "_law_truths", "_law_good", "_law_truth"]) (sc := (defScope s_law_small_asked)) (by decide +kernel)) (fun _ _ _ _ _ => pg_name (i := 13) sc_law_small_asked.nd rfl (by first | exact Or.inl rfl | exact Or.inr rfl)) (fun _ _ _ _ _ => (pts_one (pt_cmpR op_notBl (pv 13) pe_bl (nomark _)))) (fun _ _ _ _ _ => (pv 13)))) (pe_one (pe_notT (pe_lc (own := [("_law_truth", 13)]) (g := gName 13) rfl sc_law_small_asked.nd (i_list (K := K) (pv 12)) (blkOk_by (own := [("_law_truth", 13)]) (N := ["_law_pot_here", "_law_n", "_law_falls", "_law_count", "_law_found", "_law_why", "_law_more", "_law_least", "_law_lot_here", "_law_low", "_law_high", "_law_truths", "_law_good", "_law_truth"]) (sc := (defScope s_law_small_asked)) (by decide +kernel)) (fun _ _ _ _ _ => pg_name (i := 13) sc_law_small_asked.nd rfl (by first | exact Or.inl rfl | exact Or.inr rfl)) (fun _ _ _ _ _ => (pts_one (pt_cmpR op_notBl (pv 13) pe_bl (nomark _)))) (fun _ _ _ _ _ => (pv 13)))))))))))))))))))))))), ?_⟩
  have k : ∀ v F2 H2, Step (some q) F H F2 H2 → Rp K F2 v (.bool true) → Q v H2 := fun v F2 H2 s hv => k0 _ v F2 H2 rfl s hv
  have gn : ∀ {σ' : L2.St} {F' : Hp}, σ'[1]? = some (some (.int n)) → EvG K (some q) (tVar 1) σ' F' (Is (.int n)) := fun h => g_var (v := .int n) h (.int _)
  have n4' : n ∈ [2, 3, 4] := by simp only [List.mem_cons, List.not_mem_nil, or_false]; omega
  obtain ⟨fl, fg, fd1, fh, fa⟩ := small_facts n n4'
  have w2 : ∀ x ∈ (["count", "all", "houses", "lot", "lots"] : List Str), ∀ i : Nat, i < 50 → PyData.eqv (what2 x i) (what2 x i) = true ∧ SeqAt.shaped (what2 x i) = true := fun x hx i hi => what2_facts x hx i (List.mem_range.mpr hi)
  -- the family
  refine t_asgX (Step.refl e g) (x_most (n := n) (k := n - 1) (gs_two (gn rfl) ((g_opI (gn rfl) g_int rv_sub).is (congrArg PyData.int (by omega)))) n2 (by omega) (by omega)) fun v F1 H1 ⟨x, ex, fam⟩ s1 e1 => ?_
  subst ex
  -- the count
  refine t_asg (K := K) (R := fun d => d ∈ [PyData.int n, .int (-1), .bool true, .none]) s1 (g_pick (ds := [.int n, .int (-1), .bool true, .none]) (c := 4) (g_lstI (gs_consI (gn rfl) (gs_consI (g_un1 g_int) (gs_consI g_bl (gs_one g_non)))) (by simp)) (g_callP (m := 4) rfl g_int (by decide)) (by simp) fun d hd => hd) fun cd cv F2 H2 hcd s2 e2 hcv => ?_
  refine t_asgI (K := K) (d := .none) s2 g_non fun v0 F3 H3 s3 e3 hv0 => ?_
  have hcb : isWhole (some 0) (some ((n : Int) - 1)) cd = false := by
    simp only [List.mem_cons, List.not_mem_nil, or_false] at hcd
    rcases hcd with rfl | rfl | rfl | rfl
    all_goals first | rfl | (simp only [isWhole, loOk, hiOk, Bool.and_eq_false_iff, decide_eq_false_iff_not]; omega)
  refine ⟨_, rfl, _, rfl, .int n, cv, .int n, cd, "count", F3, rfl, .count n cd ⟨n2, by omega⟩ hcb, s3.inn, .int _, Rp.mono e3 _ _ hcv, fun F4 H4 dd s4 hdd => ⟨true, EF.self, fun _ a ha => two_tells EF (s3.trans (s4.lift s3.good)) hdd 5 (by exact (show 5 < 14 by decide)) fun fv F5 H5 s5 e5 hfv => ?_, fun z => by cases z⟩⟩
  have e35 : Ex F3 F5 := s4.sub.trans e5
  -- more
  dsimp only
  refine reσ (σ' := [some (.ref q.p), some (.int n), some (.ref x), some cv, some fv, none, none, none, none, none, none, none, none, none]) rfl ?_
  refine t_asgI (K := K) (d := .none) s5 g_non fun v1 F6 H6 s6 e6 hv1 => ?_
  have fam6 : Fam K C F6 x n (lotsOf n (n - 1)) := fam.mono ((e2.trans e3).trans (e35.trans e6))
  obtain ⟨dx, lt, df, o1, o2, o3, o4⟩ := fam6.ex
  refine ⟨_, rfl, x, dx, _, rfl, s6.inn _ _ o1, rfl, gs_one (g_listRg (gn rfl) (by omega)) _ s6.inn s6.good _ fun ds vs F7 H7 hd7 s7 hvs => ?_⟩
  subst hd7
  obtain ⟨lv, rfl, hlv⟩ := rpAll1 hvs
  have s67 := s6.trans s7
  refine ⟨x, n, lotsOf n (n - 1), dI (hs n), lv, "all", n, F7, rfl, ⟨n2, by omega⟩, by show (fn4 n).length < 32; omega, .all n (by rw [List.length_append, List.length_map]; show n < (fn4 n).length + 1; omega) (fun j h => good_pre fl fg j h _) (hs n) (last_at fl _) (by rw [hs_len]; omega) fh fa, s67.inn, fam6.mono s7.sub, hlv, fun F8 H8 dd8 s8 hdd8 => ⟨true, EF.self, fun _ a8 ha8 => two_tells EF (s67.trans (s8.lift s67.good)) hdd8 5 (by exact (show 5 < 14 by decide)) fun mv F9 H9 s9 e9 hmv => ?_, fun z => by cases z⟩⟩
  dsimp only
  refine reσ (σ' := [some (.ref q.p), some (.int n), some (.ref x), some cv, some fv, none, some mv, none, none, none, none, none, none, none]) rfl ?_
  have e59 : Ex F5 F9 := e6.trans ((s7.sub.trans s8.sub).trans e9)
  have fam9 : Fam K C F9 x n (lotsOf n (n - 1)) := fam6.mono ((s7.sub.trans s8.sub).trans e9)
  obtain ⟨wc1, wc2⟩ := w2 "count" (by simp) 0 (by omega)
  obtain ⟨wa1, wa2⟩ := w2 "all" (by simp) n (by omega)
  obtain ⟨wh1, wh2⟩ := w2 "houses" (by simp) 0 (by omega)
  obtain ⟨wl1, wl2⟩ := w2 "lot" (by simp) n (by omega)
  refine t_skip s9 ((et_or (a := false) (b := false) ((et_of (K := K) (g_opI (g_var rfl (Rp.mono e59 _ _ hfv)) (g_tupI (gs_two g_str g_int) (by simp)) (rv_neD wc2 wc2))).is (congrArg (fun b : Bool => !b) wc1))
    fun _ => (et_or (a := false) (b := false) ((et_of (K := K) (g_opI (g_var rfl hmv) (g_tupI (gs_two g_str (gn rfl)) (by simp)) (rv_neD wa2 wa2))).is (congrArg (fun b : Bool => !b) wa1))
    fun _ => (et_of (K := K) (g_opI (g_flets (l := (hs n).drop 1) rfl fam9 (by omega) ⟨by rw [List.length_drop, hs_len]; omega, fun k hk => fh k (List.mem_of_mem_drop hk)⟩ ((g_tupR2 (a := 1) (b := (n : Int)) g_int (gn rfl) (by omega) (by omega) (by omega) (by omega)).is ?_)) g_bl rv_notB)).is (by rw [fd1]; rfl)).is rfl).is rfl) fun F10 H10 s10 e10 => ?_
  · have : n = 2 ∨ n = 3 ∨ n = 4 := by omega
    rcases this with rfl | rfl | rfl <;> rfl
  -- least
  refine t_asgI (K := K) (d := .none) s10 g_non fun v2 F11 H11 s11 e11 hv2 => ?_
  show tAsg _ _ _ _ _
  refine tt_call s11 (gs_cons (R1 := fun d => d ∈ [PyData.int 1, .int 6, .bool true, .none]) (g_pick (ds := [.int 1, .int 6, .bool true, .none]) (c := 4) (g_lstI (gs_consI g_int (gs_consI g_int (gs_consI g_bl (gs_one g_non)))) (by simp)) (g_callP (m := 4) rfl g_int (by decide)) (by simp) fun d hd => hd) (gs_one (gn rfl))) fun ds vs F12 H12 hd12 s12 e12 hvs12 Q => ?_
  obtain ⟨hd, ds', rfl, hhd, rfl⟩ := hd12
  obtain ⟨hv, nv, rfl, hhv, hnv⟩ := rpAll2 hvs12
  have hhb : isWhole (some 2) (some 5) hd = false := by
    simp only [List.mem_cons, List.not_mem_nil, or_false] at hhd
    rcases hhd with rfl | rfl | rfl | rfl <;> rfl
  refine ⟨hv, nv, hd, .int n, "houses", F12, rfl, .houses hd _ hhb, s12.inn, hhv, hnv, fun F13 H13 dd13 s13 hdd13 => ⟨true, EF.self, fun _ a13 ha13 => two_tells EF (s12.trans (s13.lift s12.good)) hdd13 5 (by exact (show 5 < 14 by decide)) fun av F14 H14 s14 e14 hav => ?_, fun z => by cases z⟩⟩
  dsimp only
  -- the lot
  refine reσ (σ' := [some (.ref q.p), some (.int n), some (.ref x), some cv, some fv, none, some mv, some av, none, none, none, none, none, none]) rfl ?_
  refine t_asgI (K := K) (d := .none) s14 g_non fun v3 F15 H15 s15 e15 hv3 => ?_
  have fam15 : Fam K C F15 x n (lotsOf n (n - 1)) := fam9.mono (((e10.trans e11).trans e12).trans ((s13.sub.trans e14).trans e15))
  obtain ⟨dx2, lt2, df2, p1, p2, p3, p4⟩ := fam15.ex
  refine ⟨_, rfl, x, dx2, _, rfl, s15.inn _ _ p1, rfl, gs_one (g_lstI (gs_two g_int (gn rfl)) (by simp)) _ s15.inn s15.good _ fun ds vs F16 H16 hd16 s16' hvs16 => ?_⟩
  have e16 := s16'.sub
  have s16 := s15.trans s16'
  subst hd16
  obtain ⟨lv2, rfl, hlv2⟩ := rpAll1 hvs16
  refine ⟨x, n, lotsOf n (n - 1), .list [.int 0, .int n], lv2, "lot", n, F16, rfl, ⟨n2, by omega⟩, by show (fn4 n).length < 32; omega, .lot n (by rw [List.length_append, List.length_map]; show n < (fn4 n).length + 1; omega) (fun j h => good_pre fl fg j h _) (Eq.mpr (congrArg (LotBad n) (last_at fl _)) (LotBad.item [.int 0, .int n] (by simp) (by simp [isWhole, loOk, hiOk]; try omega))), s16.inn, fam15.mono e16, hlv2, fun F17 H17 dd17 s17 hdd17 => ⟨true, EF.self, fun _ a17 ha17 => two_tells EF (s16.trans (s17.lift s16.good)) hdd17 5 (by exact (show 5 < 14 by decide)) fun bv F18 H18 s18 e18 hbv => ?_, fun z => by cases z⟩⟩
  dsimp only
  refine reσ (σ' := [some (.ref q.p), some (.int n), some (.ref x), some cv, some fv, none, some mv, some av, some bv, none, none, none, none, none]) rfl ?_
  have hav18 := Rp.mono ((e15.trans e16).trans (s17.sub.trans e18)) _ _ hav
  refine t_skip s18 ((et_or (a := false) (b := false) ((et_of (K := K) (g_opI (g_var rfl hav18) (g_tupI (gs_two g_str g_int) (by simp)) (rv_neD wh2 wh2))).is (congrArg (fun b : Bool => !b) wh1))
    fun _ => (et_of (K := K) (g_opI (g_var rfl hbv) (g_tupI (gs_two g_str (gn rfl)) (by simp)) (rv_neD wl2 wl2))).is (congrArg (fun b : Bool => !b) wl1)).is rfl) fun F19 H19 s19 e19 => ?_
  -- is_whole at its ends
  refine t_asg (K := K) (R := fun d => ∃ k : Int, d = .int k) s19 (fun H1 i' g' Q q' => (g_callP (m := 1000000000000000000000000000000) rfl (g_opI g_int g_int rv_pow30) ⟨by omega, by omega⟩) H1 i' g' _ fun d v F2 H2 hd s hv => by
    obtain ⟨j, rfl, j0, j1⟩ := hd
    exact ⟨j, rp_int hv, q' (.int (-j)) _ F2 H2 ⟨-j, rfl⟩ s (.int _)⟩) fun d lwv F20 H20 hd20 s20 e20 hlw => ?_
  obtain ⟨lo, rfl⟩ := hd20
  obtain rfl := rp_int hlw
  refine t_asg (K := K) (R := fun d => ∃ k : Int, d = .int k ∧ lo ≤ k) s20 (g_op (g_var (v := .int lo) (d := .int lo) rfl (.int _)) (g_callP (m := 1000000000000000000000000000000) rfl (g_opI g_int g_int rv_pow30) ⟨by omega, by omega⟩) fun d e h1 h2 => ?_) fun d hgv F21 H21 hd21 s21 e21 hhg => ?_
  · obtain ⟨j, rfl, j0, j1⟩ := h2
    subst h1
    intro F H x y i hx hy Q q
    exact rv_add F H x y i hx hy Q fun z v F2 H2 hz s hv => q z v F2 H2 ⟨lo + j, hz, by omega⟩ s hv
  obtain ⟨hi, rfl, hle⟩ := hd21
  obtain rfl := rp_int hhg
  have gl : ∀ {σ' : L2.St} {F' : Hp}, σ'[9]? = some (some (.int lo)) → EvG K (some q) (tVar 9) σ' F' (Is (.int lo)) := fun h => g_var (v := .int lo) h (.int _)
  have gh : ∀ {σ' : L2.St} {F' : Hp}, σ'[10]? = some (some (.int hi)) → EvG K (some q) (tVar 10) σ' F' (Is (.int hi)) := fun h => g_var (v := .int hi) h (.int _)
  have w3 : ∀ {σ' : L2.St} {F' : Hp} {te ta tb : TE} {E : XK} {a b c : Int} {r : Bool}, EvG K (some q) te σ' F' (Is (.int a)) → EvG K (some q) ta σ' F' (Is (.int b)) → EvG K (some q) tb σ' F' (Is (.int c)) → isWhole (some b) (some c) (.int a) = r → EvG K (some q) (tCall (spWhole K) [] E (tCons te (tCons ta (tCons tb tNil)))) σ' F' (Is (.bool r)) := fun {σ' F' te ta tb E a b c r} h1 h2 h3 h4 =>
    (g_call (.int a, some b, some c) (gs_three h1 h2 h3) rfl trivial).is (congrArg PyData.bool h4)
  refine t_asgI (K := K) (d := .list ([false, false, false, false, false].map .bool)) s21 (g_lstI (gs_consI (w3 (g_opI (gl rfl) g_int rv_sub) (gl rfl) (gh rfl) (by simp [isWhole, loOk, hiOk]; try omega)) (gs_consI (w3 (g_opI (gh rfl) g_int rv_add) (gl rfl) (gh rfl) (by simp [isWhole, loOk, hiOk]; try omega)) (gs_consI (g_whole1 g_bl) (gs_consI (g_whole1 g_str) (gs_one (g_whole2 g_non g_int)))))) (by simp)) fun tv F22 H22 s22 e22 htv => ?_
  refine t_asgI (K := K) (d := .list ([true, true, true, true].map .bool)) s22 (g_lstI (gs_consI (w3 (gl rfl) (gl rfl) (gh rfl) (by simp [isWhole, loOk, hiOk]; try omega)) (gs_consI (w3 (gh rfl) (gl rfl) (gh rfl) (by simp [isWhole, loOk, hiOk]; try omega)) (gs_consI ((g_call (.int (lo - 1), none, some hi) (gs_three (g_opI (gl rfl) g_int rv_sub) g_non (gh rfl)) rfl trivial).is (congrArg PyData.bool (by simp [isWhole, loOk, hiOk]; try omega))) (gs_one ((g_whole2 (g_opI (gh rfl) g_int rv_add) (gl rfl)).is (congrArg PyData.bool (by simp [isWhole, loOk, hiOk]; try omega))))))) (by simp)) fun gv F23 H23 s23 e23 hgv => ?_
  refine t_retI (K := K) s23 (g_andV (g_notTL (g_lcE PyData.bool [false, false, false, false, false] (fun b => !decide (b = false)) PyData.bool (w_listI (g_var rfl (Rp.mono e23 _ _ htv))) (by simp) (fun _ => rfl)
    (fun b hb F' e' u hu => et_of (g_opI (g_var rfl hu) g_bl rv_notB)) (fun b _ _ F' e' u hu => g_var rfl hu))) fun _ => g_notTL (g_lcE PyData.bool [true, true, true, true] (fun b => !decide (b = true)) PyData.bool (w_listI (g_var rfl hgv)) (by simp) (fun _ => rfl)
    (fun b hb F' e' u hu => et_of (g_opI (g_var rfl hu) g_bl rv_notB)) (fun b _ _ F' e' u hu => g_var rfl hu))) fun v F24 H24 s24 hv => ?_
  exact k v F24 H24 s24 hv
end
end K3

namespace K3
open PySem PySem.Spec PyProof.Rows L2 L2H Fv Evl StX
abbrev s_law_falls_asked : Stmt := topS 34
theorem sc_law_falls_asked : FnScope ["_law_pot_here", "_law_n", "_law_lots_here", "_law_lot_here", "_law_houses", "_law_due", "_law_word", "_law_first", "_law_odd_here", "_law_place", "_law_k", "_law_found", "_law_why"] ["_law_pot_here", "_law_n"] (defScope s_law_falls_asked) := ⟨rfl, rfl, rfl, by decide +kernel, rfl, by decide +kernel, by decide +kernel⟩
def allL (n : Nat) : List Int := (hs n).map (fun k => (n : Int) - 1 - k) ++ [0]
theorem allL_facts : ∀ n ∈ [2, 3, 4], (allL n).length ≤ 60 ∧ (∀ k ∈ allL n, 0 ≤ k ∧ k < (n : Int)) ∧ (lotOf n (allL n)).length = n := by decide +kernel
def goodF (n : Nat) : PyData := .tuple [.int 0, .int n]
theorem goodF_facts : ∀ n ∈ [2, 3, 4], PyData.eqv (goodF n) (goodF n) = true ∧ SeqAt.shaped (goodF n) = true := by decide +kernel
def badLots (n : Nat) (o : PyData) (l : List Int) : List PyData := [.list [o], .none, .list (l.map .int ++ [.int n]), .int 0, .str "01"]
theorem okE_n {n : Nat} : okE n (.int n) = false := by
  simp only [okE, isWhole, loOk, hiOk, Bool.and_eq_false_iff, decide_eq_false_iff_not]
  omega
theorem badLots_bad {n : Nat} {o : PyData} {l : List Int} (ho : o ∈ odds n) (hl : l.length ≤ 60) : ∀ d ∈ badLots n o l, LotBad n d := by
  intro d hd
  simp only [badLots, List.mem_cons, List.not_mem_nil, or_false] at hd
  rcases hd with rfl | rfl | rfl | rfl | rfl
  · exact .item _ (by simp) (by simpa using all_bad (ds := []) (es := []) (odd_bad ho))
  · exact .kind _ rfl
  · exact .item _ (by simp; omega) (by simpa using all_bad (ds := l.map .int) (es := []) (okE_n (n := n)))
  · exact .kind _ rfl
  · exact .kind _ rfl
theorem bad_lot {n f : Nat} {L : List PyData} {b : PyData} (hf : f < L.length) (hp : ∀ j (h : j < L.length), j < f → LotGood n L[j]) (hb : LotBad n b) : LotsBad n (L.set f b) "lot" f :=
  .lot f (by rw [List.length_set]; exact hf) (fun j h => by rw [List.getElem_set_ne (by omega)]; exact hp j (by omega) h) (by rw [List.getElem_set_self]; exact hb)
theorem bad_all {n p : Nat} {L : List PyData} (hn : n ∈ [2, 3, 4]) (hf : p < L.length) (hp : ∀ j (h : j < L.length), j < p → LotGood n L[j]) : LotsBad n (L.set p (dI (allL n))) "all" p :=
  .all p (by rw [List.length_set]; exact hf) (fun j h => by rw [List.getElem_set_ne (by omega)]; exact hp j (by omega) h) (allL n) (by rw [List.getElem_set_self]) (allL_facts n hn).1 (allL_facts n hn).2.1 (allL_facts n hn).2.2
/-- what is asked of the maker, and what is due -/
def Out (n : Nat) (ls : List (List Int)) (hd ld dw : PyData) : Prop := (hd = .int n ∧ ld = .list (ls.map dI) ∧ dw = goodF n) ∨ ∃ (wd : Str) (i : Nat), FallsBad hd ld wd i ∧ dw = what2 wd i ∧ wd ∈ (["count", "all", "houses", "lot", "lots"] : List Str) ∧ i < 50
def toL : PyData → PyData
  | .tuple ds => .list ds
  | d => d
section
variable {P : Program} {w : World} {K : PySem.W.Frag} {mg : Str → Option Value} {base : Heap} {CF CE fE : Addr} {mc : Value}
variable {pt : Option Pt} {σ : L2.St} {F F0 H0 H : Hp} {te ta tb : TE} {ts tr : TA} {D : Ends} {tz : TS}
def spInitU (K : PySem.W.Frag) (C CE : Addr) : Sp := fun vs H Q E => spInit K C vs H Q E ∨ spInitB K CE vs H Q E
theorem x_makeS {C : Addr} {E : L2.St → XK} {n : Nat} {src : PyData} {ls : List (List Int)} (h : EvsG K pt ts σ F (· = [.int (n : Int), src])) (h1 : LotsD src ls) (h2 : 2 ≤ n ∧ n ≤ 5) (h3 : GoodLots n ls) (h4 : ls.length ≤ 32) :
    EvX pt (tMakeS C (spInitU K C CE) E ts) σ F (fun v F2 => ∃ x, v = .ref x ∧ Fam K C F2 x n ls) := fun H1 i g Q q =>
  h H1 i g _ fun ds vs F2 H2 hd s hv => by
    subst hd
    obtain ⟨a, v, rfl, ha, hv⟩ := rpAll2 hv
    rw [rp_int ha]
    intro x dx hx hdx hne
    have fr : ∀ {a : Addr}, H2 a = none → F2 a = none := fun {a} h => by
      cases w : F2 a with
      | none => rfl
      | some o => rw [s.inn _ _ w] at h; cases h
    have n1 : (upd H2 dx (.own x)) x = none := by rw [upd_ne hne.symm]; exact hx
    have e1 : Ex H2 (upd (upd H2 dx (.own x)) x (.ins C dx [])) := (Ex.new hdx).trans (Ex.new n1)
    refine .inl ⟨x, dx, n, src, ls, F2, v, rfl, upd_same, by rw [upd_ne hne]; exact upd_same, hne, fr hx, fr hdx, s.inn.trans e1, hv, h1, h2, h3, h4, fun F3 H3 s3 fam => ⟨rfl, ?_⟩⟩
    have back : Fv.del (Fv.del (upd (upd H2 dx (.own x)) x (.ins C dx [])) x) dx = H2 := by
      funext b
      by_cases z : b = dx
      · rw [z, Fv.del_same, hdx]
      · rw [Fv.del_ne z]
        by_cases y : b = x
        · rw [y, Fv.del_same, hx]
        · rw [Fv.del_ne y, upd_ne y, upd_ne z]
    rw [back] at s3
    exact q _ F3 H3 ⟨x, rfl, fam⟩ (s.trans (s3.lift s.good))
theorem g_fldX {C : Addr} {n : Nat} {ls : List (List Int)} (FC : FallsC K C) (h : EvX pt te σ F (fun v F2 => ∃ x, v = .ref x ∧ Fam K C F2 x n ls)) : EvG K pt (tFld K te "n") σ F (Is (.int n)) := fun H1 i g Q q => h H1 i g _ fun v F2 H2 ⟨x, hv, fam⟩ s => by
  subst hv
  obtain ⟨dx, lt, d, o1, _, _, _⟩ := fam.ex
  exact ⟨x, C, dx, _, .int n, rfl, s.inn _ _ o1, FC.cl, FC.nN, rfl, q _ _ F2 H2 rfl s (.int _)⟩
theorem tt_make {C : Addr} {c : V} {sp : Sp} {E : L2.St → XK} {R : List PyData → Prop} {gj : TG} {nm : Str} (s : Step pt F0 H0 F H) (h : EvsG K pt ts σ F R)
    (q : ∀ ds vs F2 H2 x, R ds → Step pt F0 H0 F2 H2 → Ex F F2 → RpAll K F2 vs ds → ∀ Q, sp (.ref x :: vs) H2 Q (E σ)) :
    tAsg (tTup (tCons (tC c) (tCons (tFld K (tMakeS C sp E ts) nm) tNil))) gj D σ H := h H s.inn s.good _ fun ds vs F2 H2 hd s2 hv x dx hx hdx hne => by
  have t1 : Step pt F2 H2 F2 (upd H2 dx (.own x)) := .litter s2.inn s2.good hdx
  have n1 : (upd H2 dx (.own x)) x = none := by rw [upd_ne hne.symm]; exact hx
  have t2 : Step pt F2 (upd H2 dx (.own x)) F2 (upd (upd H2 dx (.own x)) x (.ins C dx [])) := .litter t1.inn t1.good n1
  exact q ds vs F2 _ x hd (((s.trans s2).trans t1).trans t2) s2.sub hv _
theorem ok_fallsAsked {f fD fL fO fN fT C : Addr} {fd fdD fdL fdO fdN fdT : FuncData} (Fn : Fun K "_law_falls_asked" "_law_falls_asked" s_law_falls_asked f fd) (T : Tx mg) (FC : FallsC K C) (EF : ErrC K mg CF CE fE "BadFalls" ["what", "at"])
    (F_law_draw : Fun K "_law_draw" "_law_draw" s_law_draw fD fdD) (b_law_draw : Binds K fdD ["_law_pot_here", "_law_many"] []) (g_law_draw : mg "_law_draw" = some (.ref fD))
    (F_law_lots : Fun K "_law_lots" "_law_lots" s_law_lots fL fdL) (b_law_lots : Binds K fdL ["_law_pot_here", "_law_n"] []) (g_law_lots : mg "_law_lots" = some (.ref fL)) (G_law_lots : FnOk P w K mg base CX0 3 fL fdL ["_law_pot_here", "_law_n"] (spLawLots K))
    (F_law_odd : Fun K "_law_odd" "_law_odd" s_law_odd fO fdO) (b_law_odd : Binds K fdO ["_law_pot_here", "_law_many"] []) (g_law_odd : mg "_law_odd" = some (.ref fO)) (G_law_odd : FnOk P w K mg base CX0 2 fO fdO ["_law_pot_here", "_law_many"] (spOdd K))
    (M_Falls : Mk K C fN) (g_Falls : mg "Falls" = some (.ref C)) (GX_Falls : FnOk P w K mg base (L2.CX P w) 5 fN fdN ["self", "houses", "lots"] (spInitU K C CE)) (b_Falls : Binds K fdN ["self", "houses", "lots"] [])
    (F_law_told : Fun K "_law_told" "_law_told" s_law_told fT fdT) (b_law_told : Binds K fdT ["_law_why", "_law_base"] []) (g_law_told : mg "_law_told" = some (.ref fT)) (GT_law_told : ∀ cls, FnT P w K mg base 1 fT fdT ["_law_why", "_law_base"] cls (spTold K CF cls)) :
    FnOk P w K mg base CX0 7 f fd ["_law_pot_here", "_law_n"] (spAskedT K) := by
  have G_law_draw : FnOk P w K mg base CX0 1 fD fdD ["_law_pot_here", "_law_many"] (spDraw K) := ok_draw F_law_draw T
  refine Fn.ok sc_law_falls_asked (spQ.len (n := 1) (fun _ => rfl)) (fun cdv A outer s H vs Q E hr h => ?_)
  obtain ⟨q, n, F, as, rfl, ⟨n2, n4⟩, e, g, ha, k0⟩ := h
  obtain ⟨v1, rfl, h1⟩ := rpAll1 ha
  obtain rfl := rp_int h1
  refine ⟨_, (pss_cons (ps_setLc (i := 2) (own := [("_law_lot_here", 3)]) (g := gName 3) rfl sc_law_falls_asked.nd rfl rfl (sw_true rfl rfl rfl (by decide +kernel)) (i_list (K := K) (pe_call G_law_lots (hr.mono (by decide)) (by rfl) g_law_lots F_law_lots.kp b_law_lots .nil pass0 (pa_cons (pv 0) (pa_cons (pv 1) pa_nil)))) (blkOk_by (own := [("_law_lot_here", 3)]) (N := ["_law_pot_here", "_law_n", "_law_lots_here", "_law_lot_here", "_law_houses", "_law_due", "_law_word", "_law_first", "_law_odd_here", "_law_place", "_law_k", "_law_found", "_law_why"]) (sc := (defScope s_law_falls_asked)) (by decide +kernel)) (fun _ _ _ _ _ => pg_name (i := 3) sc_law_falls_asked.nd rfl (by first | exact Or.inl rfl | exact Or.inr rfl)) (fun _ _ _ _ _ => pts_nil) (fun _ _ _ _ _ => (pe_callTy (c_list (K := K)) (by rfl) T.list (by decide +kernel) (pa_cons (pv 3) pa_nil))))
    (pss_cons (ps_set (i := 4) sc_law_falls_asked.nd rfl (by first | exact Or.inl rfl | exact Or.inr rfl) (pv 1))
    (pss_cons (ps_set (i := 5) sc_law_falls_asked.nd rfl (by first | exact Or.inl rfl | exact Or.inr rfl) (pe_tup (pa_cons pe_int (pa_cons (pv 1) pa_nil))))
    (pss_cons (ps_set (i := 6) sc_law_falls_asked.nd rfl (by first | exact Or.inl rfl | exact Or.inr rfl) (pe_call G_law_draw (hr.mono (by decide)) (by rfl) g_law_draw F_law_draw.kp b_law_draw .nil pass0 (pa_cons (pv 0) (pa_cons pe_int pa_nil))))
    (pss_cons (ps_set (i := 7) sc_law_falls_asked.nd rfl (by first | exact Or.inl rfl | exact Or.inr rfl) (pe_call G_law_draw (hr.mono (by decide)) (by rfl) g_law_draw F_law_draw.kp b_law_draw .nil pass0 (pa_cons (pv 0) (pa_cons (pe_callB (c_len (K := K)) (by rfl) T.len (by decide +kernel) (pa_cons (pv 2) pa_nil)) pa_nil))))
    (pss_cons (ps_if (pt_cmpR (o_in (K := K)) (pv 6) (pe_tup (pa_cons pe_int (pa_cons pe_int pa_nil))) (by rfl)) (pss_cons (ps_set (i := 8) sc_law_falls_asked.nd rfl (by first | exact Or.inl rfl | exact Or.inr rfl) (pe_call G_law_odd (hr.mono (by decide)) (by rfl) g_law_odd F_law_odd.kp b_law_odd .nil pass0 (pa_cons (pv 0) (pa_cons (pv 1) pa_nil))))
    (pss_cons (ps_asg (pe_ix (o_ixL (K := K)) (pe_lst (pa_cons (pe_lst (pa_cons (pv 8) pa_nil)) (pa_cons pe_non (pa_cons (pe_op op_cat (pe_ix (o_ixL (K := K)) (pv 2) (pv 7) (fun _ _ => rfl)) (pe_lst (pa_cons (pv 1) pa_nil))) (pa_cons pe_int (pa_cons pe_str pa_nil)))))) (pe_call G_law_draw (hr.mono (by decide)) (by rfl) g_law_draw F_law_draw.kp b_law_draw .nil pass0 (pa_cons (pv 0) (pa_cons pe_int pa_nil))) (fun _ _ => rfl)) (pg_sub (pv 2) (pv 7) set_list))
    (pss_one (ps_set (i := 5) sc_law_falls_asked.nd rfl (by first | exact Or.inl rfl | exact Or.inr rfl) (pe_tup (pa_cons pe_str (pa_cons (pv 7) pa_nil))))))) pss_nil)
    (pss_cons (ps_if (pt_cmpR (o_in (K := K)) (pv 6) (pe_tup (pa_cons pe_int (pa_cons pe_int pa_nil))) (by rfl)) (pss_cons (ps_set (i := 9) sc_law_falls_asked.nd rfl (by first | exact Or.inl rfl | exact Or.inr rfl) (pe_call G_law_draw (hr.mono (by decide)) (by rfl) g_law_draw F_law_draw.kp b_law_draw .nil pass0 (pa_cons (pv 0) (pa_cons (pe_callB (c_len (K := K)) (by rfl) T.len (by decide +kernel) (pa_cons (pv 2) pa_nil)) pa_nil))))
    (pss_one (ps_if (PW.pt (pw_or (pt_cmpR op_eq (pv 6) pe_int (nomark _)) (pw_or1 (pt_cmpR op_ne (pv 9) (pv 7) (nomark _))))) (pss_cons (ps_asg (pe_op op_cat (pe_lc (own := [("_law_k", 10)]) (g := gName 10) rfl sc_law_falls_asked.nd (pi_range1 (by rfl) T.range (pa_cons (pv 1) pa_nil)) (blkOk_by (own := [("_law_k", 10)]) (N := ["_law_pot_here", "_law_n", "_law_lots_here", "_law_lot_here", "_law_houses", "_law_due", "_law_word", "_law_first", "_law_odd_here", "_law_place", "_law_k", "_law_found", "_law_why"]) (sc := (defScope s_law_falls_asked)) (by decide +kernel)) (fun _ _ _ _ _ => pg_name (i := 10) sc_law_falls_asked.nd rfl (by first | exact Or.inl rfl | exact Or.inr rfl)) (fun _ _ _ _ _ => pts_nil) (fun _ _ _ _ _ => (pe_op op_sub (pe_op op_sub (pv 1) pe_int) (pv 10)))) (pe_lst (pa_cons pe_int pa_nil))) (pg_sub (pv 2) (pv 9) set_list))
    (pss_one (ps_set (i := 5) sc_law_falls_asked.nd rfl (by first | exact Or.inl rfl | exact Or.inr rfl) (pe_ifExp (PW.pt (pw_or (pt_cmpR op_eq (pv 6) pe_int (nomark _)) (pw_or1 (pt_cmpR op_lt (pv 9) (pv 7) (nomark _))))) (pe_tup (pa_cons pe_str (pa_cons (pv 9) pa_nil))) (pv 5))))) pss_nil))) pss_nil)
    (pss_cons (ps_if (pt_cmpR op_eq (pv 6) pe_int (nomark _)) (pss_cons (ps_set (i := 2) sc_law_falls_asked.nd rfl (by first | exact Or.inl rfl | exact Or.inr rfl) (pe_ix (o_ixL (K := K)) (pe_lst (pa_cons pe_non (pa_cons (pe_op op_rep (pe_lst (pa_cons (pe_lst pa_nil) pa_nil)) pe_int) (pa_cons pe_str (pa_cons pe_int pa_nil))))) (pe_call G_law_draw (hr.mono (by decide)) (by rfl) g_law_draw F_law_draw.kp b_law_draw .nil pass0 (pa_cons (pv 0) (pa_cons pe_int pa_nil))) (fun _ _ => rfl)))
    (pss_one (ps_set (i := 5) sc_law_falls_asked.nd rfl (by first | exact Or.inl rfl | exact Or.inr rfl) (pe_tup (pa_cons pe_str (pa_cons pe_int pa_nil)))))) pss_nil)
    (pss_cons (ps_if (pt_cmpR op_eq (pv 6) pe_int (nomark _)) (pss_cons (ps_set (i := 4) sc_law_falls_asked.nd rfl (by first | exact Or.inl rfl | exact Or.inr rfl) (pe_ix (o_ixL (K := K)) (pe_lst (pa_cons pe_int (pa_cons pe_int (pa_cons pe_bl (pa_cons pe_non (pa_cons pe_int (pa_cons (pe_un un_neg pe_int) pa_nil))))))) (pe_call G_law_draw (hr.mono (by decide)) (by rfl) g_law_draw F_law_draw.kp b_law_draw .nil pass0 (pa_cons (pv 0) (pa_cons pe_int pa_nil))) (fun _ _ => rfl)))
    (pss_one (ps_set (i := 5) sc_law_falls_asked.nd rfl (by first | exact Or.inl rfl | exact Or.inr rfl) (pe_tup (pa_cons pe_str (pa_cons pe_int pa_nil)))))) pss_nil)
    (pss_cons (ps_set (i := 11) sc_law_falls_asked.nd rfl (by first | exact Or.inl rfl | exact Or.inr rfl) pe_non)
    (pss_cons (ps_try_as (i := 12) rfl rfl sc_law_falls_asked.nd rfl rfl ⟨by rfl, by decide, .inl EF.g⟩ takes0 (fun W pn xe tkW po => (pss_one (ps_set (i := 11) sc_law_falls_asked.nd rfl (by first | exact Or.inl rfl | exact Or.inr rfl) (pe_tup (pa_cons pe_int (pa_cons (e_fld (K := K) (pe_makeS M_Falls GX_Falls (hr.mono (by decide)) (by rfl) g_Falls b_Falls (fun σ => passAt tkW σ) (pa_cons (pv 4) (pa_cons (pv 2) pa_nil))) rfl) pa_nil)))))) (fun a oe cls d pn hz hf => (pss_one (ps_set (i := 11) sc_law_falls_asked.nd rfl (by first | exact Or.inl rfl | exact Or.inr rfl) (pe_callT hz (GT_law_told cls) (roomH_of (hr.mono (by decide))) (by rfl) g_law_told F_law_told.kp b_law_told (pa_cons (pv 12) (pa_cons (pe_tup (pa_cons (pe_xf EF.xf (EF.no "what" (by simp)) hz hf (pv 12)) (pa_cons (pe_xf EF.xf (EF.no "at" (by simp)) hz hf (pv 12)) pa_nil))) pa_nil)))))))
    (pss_one (ps_ret (pe_cmpR (o_eqD (K := K) hr.units) (pv 11) (pv 5) (nomark _))))))))))))))), ?_⟩
  have k : ∀ v F2 H2, Step (some q) F H F2 H2 → Rp K F2 v (.bool true) → Q v H2 := fun v F2 H2 s hv => k0 _ v F2 H2 rfl s hv
  have gn : ∀ {σ' : L2.St} {F' : Hp}, σ'[1]? = some (some (.int n)) → EvG K (some q) (tVar 1) σ' F' (Is (.int n)) := fun h => g_var (v := .int n) h (.int _)
  have hn : n ∈ [2, 3, 4] := by simp only [List.mem_cons, List.not_mem_nil, or_false]; omega
  have toN : (n : Int).toNat = n := by omega
  have g0 : Good (some q) F H := g
  -- the lots
  refine t_lcGM (K := K) toL (Step.refl e g) (RS := fun ds => ∃ ls : List (List Int), ds = ls.map dT ∧ (∀ l ∈ ls, OneGood n l) ∧ ls.length ≤ 20 ∧ 1 ≤ ls.length)
    (w_listE ((g_callP (P := NOk) (R := fun m => RL1 m.toNat 20) (m := n) rfl (gn rfl) ⟨by omega, by omega⟩).imp fun d hd => by
      obtain ⟨ls, h1, h2, h3, h4⟩ := hd
      rw [toN] at h2
      exact ⟨_, h1, ls, rfl, h2, h3, h4⟩))
    (fun ds ⟨ls, h1, _, h3, _⟩ => by rw [h1, List.length_map]; omega) (fun _ => rfl) (fun ds ⟨ls, h1, _, _, _⟩ d hd F' e' x hx => by
      rw [h1] at hd
      obtain ⟨l, hl, rfl⟩ := List.mem_map.mp hd
      exact g_cbI (gs_one (g_var rfl hx)) (rc_list (.inr rfl))) fun l F1 H1 ds h0 hds g1 e1 => ?_
  obtain ⟨ls0, rfl, hg0, hl20, hl1⟩ := hds
  rw [show (ls0.map dT).map toL = ls0.map dI by rw [List.map_map]; rfl] at g1
  have hL0 : ∀ j (h : j < (ls0.map dI).length), LotGood n (ls0.map dI)[j] := fun j h => by
    rw [List.getElem_map]
    exact ⟨_, .inl rfl, hg0 _ (List.getElem_mem _)⟩
  have lenL : (ls0.map dI).length = ls0.length := List.length_map _
  -- houses, what is due, the word, the first place
  refine t_asgG (K := K) (R := Is (.int n)) g0 h0 g1 (gn rfl) fun d hv F2 H2 hd g2 e2 hhv => ?_
  subst hd
  obtain rfl := rp_int hhv
  refine t_asgG (K := K) (R := Is (goodF n)) g0 h0 g2 (g_tupI (gs_two g_int (gn rfl)) (by simp)) fun d dv F3 H3 hd g3 e3 hdv => ?_
  subst hd
  refine t_asgG (K := K) (R := Drawn 6) g0 h0 g3 (g_callP (m := 6) rfl g_int (by decide)) fun d wv F4 H4 hd g4 e4 hwv => ?_
  obtain ⟨wd, rfl, w0, w6⟩ := hd
  obtain rfl := rp_int hwv
  refine t_asgFixI (K := K) (R := fun k => 0 ≤ k ∧ k < ((ls0.map dI).length : Int)) g0 h0 g4 (fun Fp ep hl => g_callP (m := ((ls0.map dI).length : Int)) rfl (g_cbI (gs_one (g_var rfl hl)) rc_lenL) ⟨by omega, by omega⟩) fun f' F5 H5 hf5 g5 e5 => ?_
  obtain ⟨f0', f1⟩ := hf5
  obtain ⟨f, rfl⟩ : ∃ f : Nat, f' = (f : Int) := ⟨f'.toNat, by omega⟩
  have hfl : f < (ls0.map dI).length := by omega
  have gf : ∀ {σ' : L2.St} {F' : Hp}, σ'[7]? = some (some (.int f)) → EvG K (some q) (tVar 7) σ' F' (Is (.int f)) := fun h => g_var (v := .int f) h (.int _)
  have gw : ∀ {σ' : L2.St} {F' : Hp}, σ'[6]? = some (some (.int wd)) → EvG K (some q) (tVar 6) σ' F' (Is (.int wd)) := fun h => g_var (v := .int wd) h (.int _)
  -- a lot spoilt
  refine t_ifGG (K := K) (fun σ' F' ls' => ∃ dw dwv z8, σ' = [some (.ref q.p), some (.int n), some (.ref l), none, some (.int n), some dwv, some (.int wd), some (.int f), z8, none, none, none, none] ∧ Rp K F' dwv dw ∧
      ((ls' = ls0.map dI ∧ dw = goodF n ∧ wd ≠ 1 ∧ wd ≠ 3) ∨ ∃ b, LotBad n b ∧ ls' = (ls0.map dI).set f b ∧ dw = what2 "lot" f ∧ (wd = 1 ∨ wd = 3))) g0 h0 g5
    (et_of (K := K) (g_opI (gw rfl) (g_tupI (gs_two g_int g_int) (by simp)) (rv_inT (ns := [1, 3])))) (fun hb F6 H6 g6 e6 N hN => ?_) (fun hb F6 H6 g6 e6 N hN => ?_) (fun σ' F6 H6 ls6 hJ g6 e6 => ?_)
  · have hw13 : wd = 1 ∨ wd = 3 := by simpa using hb
    refine t_asgG (K := K) (R := fun d => d ∈ odds n) g0 h0 g6 (g_callQ n rfl (gs_one (gn rfl)) rfl (by omega)) fun o ov F7 H7 ho g7 e7 hov => ?_
    have hy : (ls0.map dI)[f]? = some (dI (ls0[f]'(by omega))) := by rw [List.getElem?_eq_getElem hfl, List.getElem_map]
    have hlf := (hg0 _ (List.getElem_mem (l := ls0) (n := f) (by omega))).1
    show tAsg _ (gSub (tVar 2) (tVar 7) rSetL) _ _ _
    refine t_setH (K := K) (R := fun d => LotBad n d) (j := f) g0 h0 g7 rfl (at_pick (ds := badLots n o (ls0[f]'(by omega))) (c := 5) (at_lst (at_consG g0 h0 g7 (g_lstI (gs_one (g_var rfl hov)) (by simp)) fun Fa Ha ga ea => at_consG g0 h0 ga g_non fun Fb Hb gb eb =>
        at_cons (at_opR (at_ixOwn gb rfl rfl hy) (fun F' e' => g_lstI (gs_one (gn rfl)) (by simp)) fun d e h1 h2 => by subst h1 h2; exact rv_cat (by simp; omega)) fun F' e' => gs_two g_int g_str) (by simp [badLots]))
      (fun F' e' => g_callP (m := 5) rfl g_int (by decide)) (by simp [badLots]) (badLots_bad ho hlf)) (gf rfl) hfl fun b F8 H8 hb8 g8 e8 => ?_
    refine t_asgG1 (K := K) (R := Is (what2 "lot" f)) g0 h0 g8 (g_tupI (gs_two g_str (gf rfl)) (by simp)) fun dw dwv F9 H9 hdw g9 e9 hdwv => ?_
    exact hN _ F9 H9 _ ⟨dw, dwv, _, rfl, hdwv, .inr ⟨b, hb8, rfl, hdw, hw13⟩⟩ g9 ((e6.trans e7).trans (e8.trans e9))
  · have hw13 : wd ≠ 1 ∧ wd ≠ 3 := by simpa using hb
    exact hN _ F6 H6 _ ⟨goodF n, dv, none, rfl, Rp.mono ((e4.trans e5).trans e6) _ _ hdv, .inl ⟨rfl, rfl, hw13⟩⟩ g6 e6
  obtain ⟨dw, dwv, z8, rfl, hdwv, hA⟩ := hJ
  have len6 : ls6.length = ls0.length := by
    rcases hA with ⟨rfl, _⟩ | ⟨b, _, rfl, _⟩
    · exact lenL
    · rw [List.length_set]; exact lenL
  have fb : ∀ {L : List PyData} {x : Str} {i : Nat}, L.length = ls0.length → LotsBad n L x i → FallsBad (.int n) (.list L) x i := fun {L x i} h1 h2 => .lots n _ L x i ⟨n2, by omega⟩ (.inl rfl) (by omega) h2
  have outB : ∀ {b : PyData}, LotBad n b → Out n ls0 (.int n) (.list ((ls0.map dI).set f b)) (what2 "lot" f) := fun {b} hb => .inr ⟨"lot", f, fb (by rw [List.length_set]; exact lenL) (bad_lot hfl (fun j h _ => hL0 j h) hb), rfl, by simp, by omega⟩
  have out6 : wd ≠ 2 → Out n ls0 (.int n) (.list ls6) dw := fun _ => by
    rcases hA with ⟨rfl, rfl, _⟩ | ⟨b, hb, rfl, rfl, _⟩
    · exact .inl ⟨rfl, rfl, rfl⟩
    · exact outB hb
  -- all houses
  refine t_ifGJ (K := K) (fun σ' F' => ∃ L dw2 dwv2 z9, σ' = [some (.ref q.p), some (.int n), some (.ref l), none, some (.int n), some dwv2, some (.int wd), some (.int f), z8, z9, none, none, none] ∧ Rp K F' (.ref l) (.list L) ∧ Rp K F' dwv2 dw2 ∧ Out n ls0 (.int n) (.list L) dw2) g0 h0 g6
    (et_of (K := K) (g_opI (gw rfl) (g_tupI (gs_two g_int g_int) (by simp)) (rv_inT (ns := [2, 3])))) (fun hb F7 H7 g7 e7 N hN => ?_) (fun hb F7 H7 g7 e7 N hN => ?_) (fun σ' F7 H7 hJ s7 e7 => ?_)
  · have hw23 : wd = 2 ∨ wd = 3 := by simpa using hb
    refine t_asgFixI (K := K) (R := fun k => 0 ≤ k ∧ k < (ls6.length : Int)) g0 h0 g7 (fun Fp ep hl => g_callP (m := (ls6.length : Int)) rfl (g_cbI (gs_one (g_var rfl hl)) rc_lenL) ⟨by omega, by omega⟩) fun p' F8 H8 hp8 g8 e8 => ?_
    obtain ⟨p0, p1⟩ := hp8
    obtain ⟨p, rfl⟩ : ∃ p : Nat, p' = (p : Int) := ⟨p'.toNat, by omega⟩
    have gp : ∀ {σ' : L2.St} {F' : Hp}, σ'[9]? = some (some (.int p)) → EvG K (some q) (tVar 9) σ' F' (Is (.int p)) := fun h => g_var (v := .int p) h (.int _)
    refine t_if1G (K := K) g0 h0 g8 (et_or (a := decide (wd = 2)) (et_of (K := K) (g_opI (gw rfl) g_int rv_eqI)) fun _ => et_of (K := K) (g_opI (gp rfl) (gf rfl) rv_neI)) (fun hb2 F9 H9 g9 e9 => ?_) (fun hb2 F9 H9 g9 e9 => ?_)
    · show tAsg _ (gSub (tVar 2) (tVar 9) rSetL) _ _ _
      have wk : ∀ {σ' : L2.St} {F' : Hp}, σ'[1]? = some (some (.int n)) → WiG K (some q) (iRng1 (tCons (tVar 1) tNil)) σ' F' (· = (hs n).map .int) := fun {σ' F'} h => by
        have := w_rng1I (K := K) (pt := some q) (σ := σ') (F := F') (n := ((n : Nat) : Int)) (gs_one (g_var (v := .int n) h (.int _))) (by omega) (by omega)
        rw [toN, rng_hs] at this
        exact this
      refine t_setG (K := K) (R := Is (dI (allL n))) (j := p) g0 h0 g9 rfl ((g_opI (g_lcE PyData.int (hs n) (fun _ => true) (fun k => .int ((n : Int) - 1 - k)) (wk rfl) (by rw [hs_len]; omega) (fun _ => rfl) (fun _ _ _ _ _ _ => et_yes) (fun j _ _ F' e' u hu => g_opI (g_opI (gn rfl) g_int rv_sub) (g_var rfl hu) rv_sub)) (g_lstI (gs_one g_int) (by simp)) (rv_cat (by
          rw [List.length_map, List.filter_eq_self.mpr (fun _ _ => rfl), hs_len]; simp; omega))).is (by
        rw [List.filter_eq_self.mpr (fun _ _ => rfl)]
        show PyData.list _ = PyData.list _
        unfold allL
        rw [List.map_append, List.map_map]; rfl)) (gp rfl) (by omega) fun d F10 H10 hd g10 e10 => ?_
      subst hd
      have up10 : Ex F6 F10 := (e7.trans e8).trans (e9.trans e10)
      refine t_asgG1 (K := K) (R := Is (if (decide (wd = 2) || decide ((p : Int) < f)) = true then what2 "all" p else dw)) g0 h0 g10 (g_if (b := decide (wd = 2) || decide ((p : Int) < f)) (et_or (a := decide (wd = 2)) (et_of (K := K) (g_opI (gw rfl) g_int rv_eqI)) fun _ => et_of (K := K) (g_opI (gp rfl) (gf rfl) (rv_bl (g := fun i j => decide (i < j)))))
        (fun hc => by rw [if_pos hc]; exact g_tupI (gs_two g_str (gp rfl)) (by simp)) (fun hc => by rw [if_neg (by rw [hc]; simp)]; exact g_var rfl (Rp.mono up10 _ _ hdwv))) fun d2 dv2 F11 H11 hd2 g11 e11 hdv2 => ?_
      subst hd2
      obtain ⟨F12, s12, e12, r12⟩ := g11.done g0 h0
      refine hN _ F12 H11 ⟨_, _, dv2, _, rfl, r12, Rp.mono e12 _ _ hdv2, ?_⟩ s12 (((e7.trans e8).trans (e9.trans e10)).trans (e11.trans e12))
      have pl : p < ls6.length := by omega
      have good6 : ∀ j (h : j < ls6.length), (wd = 2 ∨ j < f) → LotGood n ls6[j] := fun j h hj => by
        rcases hA with ⟨rfl, _⟩ | ⟨b, _, rfl, _, hw⟩
        · exact hL0 j h
        · rw [List.getElem_set_ne (by omega)]
          exact hL0 j (by rw [List.length_set] at h; exact h)
      by_cases hc : (decide (wd = 2) || decide ((p : Int) < f)) = true
      · rw [if_pos hc]
        have hc' : wd = 2 ∨ p < f := by simpa using hc
        exact .inr ⟨"all", p, fb (by rw [List.length_set]; exact len6) (bad_all hn pl fun j h hj => good6 j h (by omega)), rfl, by simp, by omega⟩
      · rw [if_neg hc]
        have hc' : wd ≠ 2 ∧ f ≤ p := by simpa using hc
        have hb3 : wd = 2 ∨ ¬ (p : Int) = f := by simpa using hb2
        have hlt : f < p := by omega
        rcases hA with ⟨rfl, rfl, hw⟩ | ⟨b, hb, rfl, rfl, hw⟩
        · omega
        · rw [List.set_comm _ _ (by omega)]
          exact .inr ⟨"lot", f, fb (by rw [List.length_set, List.length_set]; exact lenL) (bad_lot (by rw [List.length_set]; exact hfl) (fun j h hj => by rw [List.getElem_set_ne (by omega)]; exact hL0 j (by rw [List.length_set] at h; exact h)) hb), rfl, by simp, by omega⟩
    · have hw2 : wd ≠ 2 ∧ (p : Int) = f := by simpa using hb2
      obtain ⟨F10, s10, e10, r10⟩ := g9.done g0 h0
      exact hN _ F10 H9 ⟨ls6, dw, dwv, _, rfl, r10, Rp.mono ((e7.trans e8).trans (e9.trans e10)) _ _ hdwv, out6 hw2.1⟩ s10 ((e7.trans e8).trans (e9.trans e10))
  · have hw23 : wd ≠ 2 ∧ wd ≠ 3 := by simpa using hb
    obtain ⟨F8, s8, e8, r8⟩ := g7.done g0 h0
    exact hN _ F8 H7 ⟨ls6, dw, dwv, none, rfl, r8, Rp.mono (e7.trans e8) _ _ hdwv, out6 hw23.1⟩ s8 (e7.trans e8)
  obtain ⟨L, dw2, dwv2, z9, rfl, hL, hdw2, hO⟩ := hJ
  -- no lots at all
  refine t_ifJ (fun σ' F' => ∃ ld dw3 lv dwv3, σ' = [some (.ref q.p), some (.int n), some lv, none, some (.int n), some dwv3, some (.int wd), some (.int f), z8, z9, none, none, none] ∧ Rp K F' lv ld ∧ Rp K F' dwv3 dw3 ∧ Out n ls0 (.int n) ld dw3) s7
    (et_of (K := K) (g_opI (gw rfl) g_int rv_eqI)) (fun hb F8 H8 s8 e8 N hN => ?_) (fun hb F8 H8 s8 e8 N hN => ?_) (fun σ' F8 H8 hJ s8 e8 => ?_)
  · refine t_asg (K := K) (R := fun d => FallsBad (.int n) d "lots" 0) s8 (g_pick (ds := [.none, .list (List.replicate 33 [.list []]).flatten, .str "", .int 3]) (c := 4) (g_lstI (gs_consI g_non (gs_consI (g_opI (g_lstI (gs_one (g_lstI gs_nil (by simp))) (by simp)) g_int (rv_rep (k := 33) (by simp) (by omega))) (gs_two g_str g_int))) (by simp)) (g_callP (m := 4) rfl g_int (by decide)) (by simp) fun d hd => ?_) fun ld lv F9 H9 hld s9 e9 hlv => ?_
    · simp only [List.mem_cons, List.not_mem_nil, or_false] at hd
      rcases hd with rfl | rfl | rfl | rfl
      · exact .kind n _ ⟨n2, by omega⟩ rfl
      · exact .many n _ _ ⟨n2, by omega⟩ (.inl rfl) (by simp) (by simp)
      · exact .kind n _ ⟨n2, by omega⟩ rfl
      · exact .kind n _ ⟨n2, by omega⟩ rfl
    refine t_asg1 (K := K) (R := Is (what2 "lots" 0)) s9 (g_tupI (gs_two g_str g_int) (by simp)) fun dw3 dwv3 F10 H10 hdw s10 e10 hdwv3 => ?_
    exact hN _ F10 H10 ⟨ld, dw3, lv, dwv3, rfl, Rp.mono e10 _ _ hlv, hdwv3, .inr ⟨"lots", 0, hld, hdw, by simp, by omega⟩⟩ s10 ((e8.trans e9).trans e10)
  · exact hN _ F8 H8 ⟨_, dw2, _, dwv2, rfl, Rp.mono e8 _ _ hL, Rp.mono e8 _ _ hdw2, hO⟩ s8 e8
  obtain ⟨ld, dw3, lv, dwv3, rfl, hlv, hdw3, hO3⟩ := hJ
  -- no houses
  refine t_ifJ (fun σ' F' => ∃ hd hv dw4 dwv4, σ' = [some (.ref q.p), some (.int n), some lv, none, some hv, some dwv4, some (.int wd), some (.int f), z8, z9, none, none, none] ∧ Rp K F' lv ld ∧ Rp K F' hv hd ∧ Rp K F' dwv4 dw4 ∧ Out n ls0 hd ld dw4) s8
    (et_of (K := K) (g_opI (gw rfl) g_int rv_eqI)) (fun hb F9 H9 s9 e9 N hN => ?_) (fun hb F9 H9 s9 e9 N hN => ?_) (fun σ' F9 H9 hJ s9 e9 => ?_)
  · refine t_asg (K := K) (R := fun d => isWhole (some 2) (some 5) d = false) s9 (g_pick (ds := [.int 1, .int 6, .bool true, .none, .int 0, .int (-2)]) (c := 6) (g_lstI (gs_consI g_int (gs_consI g_int (gs_consI g_bl (gs_consI g_non (gs_two g_int (g_un1 g_int)))))) (by simp)) (g_callP (m := 6) rfl g_int (by decide)) (by simp) fun d hd => ?_) fun hd hv F10 H10 hhd s10 e10 hhv => ?_
    · simp only [List.mem_cons, List.not_mem_nil, or_false] at hd
      rcases hd with rfl | rfl | rfl | rfl | rfl | rfl <;> rfl
    refine t_asg1 (K := K) (R := Is (what2 "houses" 0)) s10 (g_tupI (gs_two g_str g_int) (by simp)) fun dw4 dwv4 F11 H11 hdw s11 e11 hdwv4 => ?_
    exact hN _ F11 H11 ⟨hd, hv, dw4, dwv4, rfl, Rp.mono ((e9.trans e10).trans e11) _ _ hlv, Rp.mono e11 _ _ hhv, hdwv4, .inr ⟨"houses", 0, .houses hd ld hhd, hdw, by simp, by omega⟩⟩ s11 ((e9.trans e10).trans e11)
  · exact hN _ F9 H9 ⟨.int n, .int n, dw3, dwv3, rfl, Rp.mono e9 _ _ hlv, .int _, Rp.mono e9 _ _ hdw3, hO3⟩ s9 e9
  obtain ⟨hd, hv, dw4, dwv4, rfl, hlv9, hhv, hdw4, hO4⟩ := hJ
  refine t_asgI (K := K) (d := .none) s9 g_non fun v0 F10 H10 s10 e10 hv0 => ?_
  have fin : ∀ {due : PyData} {v : V} {z12 : Option V} {F' H' : Hp}, Step (some q) F H F' H' → Rp K F' v due → Rp K F' dwv4 due → PyData.eqv due due = true → SeqAt.shaped due = true →
      tRet (tOp (rEqD K) (tVar 11) (tVar 5)) { nx := fun _ H' => Q .non H', rt := Q } [some (.ref q.p), some (.int n), some lv, none, some hv, some dwv4, some (.int wd), some (.int f), z8, z9, none, some v, z12] H' := fun {due v z12 F' H'} s8 h1 h2 h3 h4 =>
    t_retI (K := K) s8 ((g_opI (g_var rfl h1) (g_var rfl h2) (rv_eqD h4 h4)).is (by rw [h3])) k
  show tAsg _ _ _ _ _
  rcases hO4 with ⟨rfl, rfl, rfl⟩ | ⟨wd2, i, hbad, rfl, hwd, hi⟩
  · obtain ⟨z1, z2⟩ := goodF_facts n hn
    refine t_asg1 (K := K) (R := Is (goodF n)) s10 (g_tupI (gs_two g_int (g_fldX FC (x_makeS (gs_two (g_var rfl (Rp.mono e10 _ _ hhv)) (g_var rfl (Rp.mono e10 _ _ hlv9))) (.l ls0) ⟨n2, by omega⟩ ⟨by omega, hg0⟩ (by omega)))) (by simp)) fun d v F11 H11 hd s11 e11 hv => ?_
    subst hd
    exact fin s11 hv (Rp.mono (e10.trans e11) _ _ hdw4) z1 z2
  · obtain ⟨z1, z2⟩ := what2_facts wd2 hwd i (List.mem_range.mpr hi)
    refine tt_make s10 (gs_two (g_var rfl (Rp.mono e10 _ _ hhv)) (g_var rfl (Rp.mono e10 _ _ hlv9))) fun ds vs F11 H11 x hds s11 e11 hvs Q => ?_
    subst hds
    obtain ⟨a, b, rfl, ha, hb⟩ := rpAll2 hvs
    refine .inr ⟨x, a, b, hd, ld, wd2, i, F11, rfl, hbad, s11.inn, ha, hb, fun F12 H12 dd s12 hdd => ⟨true, EF.self, fun _ a2 ha2 => two_tells EF (s11.trans (s12.lift s11.good)) hdd 12 (by exact (show 12 < 13 by decide)) fun fv F13 H13 s13 e13 hfv => ?_, fun z => by cases z⟩⟩
    exact fin s13 hfv (Rp.mono ((e10.trans e11).trans (s12.sub.trans e13)) _ _ hdw4) z1 z2
end
end K3

namespace K3
open PySem PySem.Spec PyProof.Rows L2 L2H Fv Evl StX
abbrev s_law : Stmt := topS 37
theorem sc_law : FnScope ["_law_script", "_law_pot_here", "_law_n", "_law_m"] ["_law_script"] (defScope s_law) := ⟨rfl, rfl, rfl, by decide +kernel, rfl, by decide +kernel, by decide +kernel⟩
section
variable {P : Program} {w : World} {K : PySem.W.Frag} {mg : Str → Option Value} {base : Heap}
def spLaw (K : PySem.W.Frag) : Sp := fun vs H Q _ => ∃ (a : Addr) (ns : List Int), vs = [.ref a] ∧ SqL K H a (ns.map V.int) ∧ ∀ H', Q (.bl true) H'
theorem ok_law {f fP fD fE fL fN fT fS : Addr} {fd fdP fdD fdE fdL fdN fdT fdS : FuncData} (Fn : Fun K "law" "law" s_law f fd) (T : Tx mg)
    (F_law_pot : Fun K "_law_pot" "_law_pot" s_law_pot fP fdP) (b_law_pot : Binds K fdP ["_law_script", "_law_salt"] []) (g_law_pot : mg "_law_pot" = some (.ref fP))
    (F_law_draw : Fun K "_law_draw" "_law_draw" s_law_draw fD fdD) (b_law_draw : Binds K fdD ["_law_pot_here", "_law_many"] []) (g_law_draw : mg "_law_draw" = some (.ref fD))
    (F_law_entry_asked : Fun K "_law_entry_asked" "_law_entry_asked" s_law_entry_asked fE fdE) (b_law_entry_asked : Binds K fdE ["_law_pot_here", "_law_n", "_law_m", "_law_views"] []) (g_law_entry_asked : mg "_law_entry_asked" = some (.ref fE)) (G_law_entry_asked : FnOk P w K mg base CX0 8 fE fdE ["_law_pot_here", "_law_n", "_law_m", "_law_views"] (spAskedE K))
    (F_law_leading_asked : Fun K "_law_leading_asked" "_law_leading_asked" s_law_leading_asked fL fdL) (b_law_leading_asked : Binds K fdL ["_law_pot_here", "_law_n", "_law_m"] []) (g_law_leading_asked : mg "_law_leading_asked" = some (.ref fL)) (G_law_leading_asked : FnOk P w K mg base CX0 8 fL fdL ["_law_pot_here", "_law_n", "_law_m"] (spAskedL K))
    (F_law_falls_asked : Fun K "_law_falls_asked" "_law_falls_asked" s_law_falls_asked fN fdN) (b_law_falls_asked : Binds K fdN ["_law_pot_here", "_law_n"] []) (g_law_falls_asked : mg "_law_falls_asked" = some (.ref fN)) (G_law_falls_asked : FnOk P w K mg base CX0 8 fN fdN ["_law_pot_here", "_law_n"] (spAskedT K))
    (F_law_lot_asked : Fun K "_law_lot_asked" "_law_lot_asked" s_law_lot_asked fT fdT) (b_law_lot_asked : Binds K fdT ["_law_pot_here", "_law_n"] []) (g_law_lot_asked : mg "_law_lot_asked" = some (.ref fT)) (G_law_lot_asked : FnOk P w K mg base CX0 8 fT fdT ["_law_pot_here", "_law_n"] (spAskedT K))
    (F_law_small_asked : Fun K "_law_small_asked" "_law_small_asked" s_law_small_asked fS fdS) (b_law_small_asked : Binds K fdS ["_law_pot_here", "_law_n"] []) (g_law_small_asked : mg "_law_small_asked" = some (.ref fS)) (G_law_small_asked : FnOk P w K mg base CX0 8 fS fdS ["_law_pot_here", "_law_n"] (spAskedT K)) :
    FnOk P w K mg base CX0 9 f fd ["_law_script"] (spLaw K) := by
  have G_law_pot : FnOk P w K mg base CX0 1 fP fdP ["_law_script", "_law_salt"] (spPot K) := ok_pot F_law_pot T
  have G_law_draw : FnOk P w K mg base CX0 1 fD fdD ["_law_pot_here", "_law_many"] (spDraw K) := ok_draw F_law_draw T
  refine Fn.ok sc_law (fun vs H Q E ⟨_, _, h, _⟩ => by rw [h]; rfl) (fun cdv A outer s H vs Q E hr h => ?_)
  obtain ⟨a, ns, rfl, hS, q⟩ := h
  refine ⟨_, (pss_cons (ps_set (i := 1) sc_law.nd rfl (by first | exact Or.inl rfl | exact Or.inr rfl) (pe_call G_law_pot (hr.mono (by decide)) (by rfl) g_law_pot F_law_pot.kp b_law_pot .nil pass0 (pa_cons (pv 0) (pa_cons pe_int pa_nil))))
    (pss_cons (ps_set (i := 2) sc_law.nd rfl (by first | exact Or.inl rfl | exact Or.inr rfl) (pe_op op_add pe_int (pe_call G_law_draw (hr.mono (by decide)) (by rfl) g_law_draw F_law_draw.kp b_law_draw .nil pass0 (pa_cons (pv 1) (pa_cons pe_int pa_nil)))))
    (pss_cons (ps_set (i := 3) sc_law.nd rfl (by first | exact Or.inl rfl | exact Or.inr rfl) (pe_op op_add pe_int (pe_call G_law_draw (hr.mono (by decide)) (by rfl) g_law_draw F_law_draw.kp b_law_draw .nil pass0 (pa_cons (pv 1) (pa_cons pe_int pa_nil)))))
    (pss_cons (ps_if (PW.pt (pw_or (pt_not (pt_val (pe_call G_law_entry_asked (hr.mono (by decide)) (by rfl) g_law_entry_asked F_law_entry_asked.kp b_law_entry_asked .nil pass0 (pa_cons (pv 1) (pa_cons (pv 2) (pa_cons (pv 3) (pa_cons pe_bl pa_nil))))))) (pw_or1 (pt_not (pt_val (pe_call G_law_entry_asked (hr.mono (by decide)) (by rfl) g_law_entry_asked F_law_entry_asked.kp b_law_entry_asked .nil pass0 (pa_cons (pv 1) (pa_cons (pv 2) (pa_cons (pv 3) (pa_cons pe_bl pa_nil)))))))))) (pss_one (ps_ret pe_bl)) pss_nil)
    (pss_cons (ps_if (PW.pt (pw_or (pt_not (pt_val (pe_call G_law_leading_asked (hr.mono (by decide)) (by rfl) g_law_leading_asked F_law_leading_asked.kp b_law_leading_asked .nil pass0 (pa_cons (pv 1) (pa_cons (pv 2) (pa_cons (pv 3) pa_nil)))))) (pw_or1 (pt_not (pt_val (pe_call G_law_falls_asked (hr.mono (by decide)) (by rfl) g_law_falls_asked F_law_falls_asked.kp b_law_falls_asked .nil pass0 (pa_cons (pv 1) (pa_cons (pv 2) pa_nil)))))))) (pss_one (ps_ret pe_bl)) pss_nil)
    (pss_one (ps_ret (pe_and (pe_call G_law_lot_asked (hr.mono (by decide)) (by rfl) g_law_lot_asked F_law_lot_asked.kp b_law_lot_asked .nil pass0 (pa_cons (pv 1) (pa_cons (pv 2) pa_nil))) (pe_one (pe_call G_law_small_asked (hr.mono (by decide)) (by rfl) g_law_small_asked F_law_small_asked.kp b_law_small_asked .nil pass0 (pa_cons (pv 1) (pa_cons (pv 2) pa_nil)))))))))))), ?_⟩
  refine ⟨_, rfl, ⟨a, ns, 41, H, rfl, hS, by decide, by decide, Ex.refl H, fun pq F1 H1 s0 g1 _ => ?_⟩⟩
  have s1 : Step (some pq) F1 H1 F1 H1 := Step.refl s0.inn g1
  refine t_asg (K := K) (R := fun d => ∃ n : Nat, d = .int n ∧ n ∈ [2, 3, 4]) s1 (g_op g_int (g_callP (m := 3) rfl g_int (by decide)) fun d e hd he => ?_) fun d v F2 H2 hd s2 e2 hv => ?_
  · obtain ⟨k, rfl, k0, k1⟩ := he
    subst hd
    intro F H x y i hx hy Q q
    exact rv_add F H x y i hx hy Q fun z v F2 H2 hz s hv => q z v F2 H2 ⟨(2 + k).toNat, by rw [show z = _ from hz]; exact congrArg PyData.int (by omega), by simp only [List.mem_cons, List.not_mem_nil, or_false]; omega⟩ s hv
  obtain ⟨n, rfl, hn⟩ := hd
  obtain rfl := rp_int hv
  refine t_asg (K := K) (R := fun d => ∃ n : Nat, d = .int n ∧ n ∈ [1, 2, 3, 4]) s2 (g_op g_int (g_callP (m := 4) rfl g_int (by decide)) fun d e hd he => ?_) fun d v F3 H3 hd s3 e3 hv => ?_
  · obtain ⟨k, rfl, k0, k1⟩ := he
    subst hd
    intro F H x y i hx hy Q q
    exact rv_add F H x y i hx hy Q fun z v F2 H2 hz s hv => q z v F2 H2 ⟨(1 + k).toNat, by rw [show z = _ from hz]; exact congrArg PyData.int (by omega), by simp only [List.mem_cons, List.not_mem_nil, or_false]; omega⟩ s hv
  obtain ⟨m, rfl, hm⟩ := hd
  obtain rfl := rp_int hv
  have nb : 2 ≤ n ∧ n ≤ 4 := by simp only [List.mem_cons, List.not_mem_nil, or_false] at hn; omega
  have mb : 1 ≤ m ∧ m ≤ 4 := by simp only [List.mem_cons, List.not_mem_nil, or_false] at hm; omega
  have gn : ∀ {σ' : L2.St} {F' : Hp}, σ'[2]? = some (some (.int n)) → EvG K (some pq) (tVar 2) σ' F' (Is (.int n)) := fun h => g_var (v := .int n) h (.int _)
  have gm : ∀ {σ' : L2.St} {F' : Hp}, σ'[3]? = some (some (.int m)) → EvG K (some pq) (tVar 3) σ' F' (Is (.int m)) := fun h => g_var (v := .int m) h (.int _)
  refine t_skip s3 ((et_or (a := false) (b := false) ((et_not (b := true) (et_B (g_callQ (n, m, false) rfl (gs_three (gn rfl) (gm rfl) g_bl) rfl ⟨⟨by simp only; omega, by simp only; omega⟩, by simp only; omega, by simp only; omega⟩))).is rfl)
    fun _ => (et_not (b := true) (et_B (g_callQ (n, m, true) rfl (gs_three (gn rfl) (gm rfl) g_bl) rfl ⟨⟨by simp only; omega, by simp only; omega⟩, by simp only; omega, by simp only; omega⟩))).is rfl).is rfl) fun F4 H4 s4 e4 => ?_
  refine t_skip s4 ((et_or (a := false) (b := false) ((et_not (b := true) (et_B (g_callQ (n, m) rfl (gs_two (gn rfl) (gm rfl)) rfl ⟨hn, hm⟩))).is rfl)
    fun _ => (et_not (b := true) (et_B (g_callQ n rfl (gs_one (gn rfl)) rfl nb))).is rfl).is rfl) fun F5 H5 s5 e5 => ?_
  refine t_retI (K := K) (d := .bool true) s5 (g_andV (a := true) (b := true) (g_callQ n rfl (gs_one (gn rfl)) rfl nb) fun _ => g_callQ n rfl (gs_one (gn rfl)) rfl nb) fun v F6 H6 s6 hv => ?_
  obtain rfl := rp_bool hv
  exact q H6
end
end K3

namespace K3
open PySem PySem.Spec PyProof.Rows L2 Fv Evl StX
theorem binds_whole {K : PySem.W.Frag} {f : Addr} {fd : FuncData} (F : FunW K f fd) : Binds K fd ["thing", "low", "high"] [] := by
  obtain ⟨ds, hv, hb⟩ := L2.FunD.binds1 F (ps := ["thing", "low", "high"]) 3 2 (by simp) rfl fun T kV doc pm an cdv ct us its hl hi => match us, its, hl, hi with | [_, _, _], [_, _], _, _ => ⟨_, rfl, rfl⟩
  cases hv
  exact hb
theorem exm_is {K : PySem.W.Frag} {S B : Addr} {r : Bool} (hb : PySem.W.subIn K (.ref B) (.type "BaseException") = some true) (hc : PySem.W.isClsIn K B = true) (ht : PySem.W.typeIn K (.ref B) = some (.type "type")) (hs : PySem.W.subIn K (.ref S) (.ref B) = some r) : PySem.W.exmOne K (.ref S) (.ref B) = some r := by
  have hc' : (PySem.W.clsIn K B).isSome = true := hc
  unfold PySem.W.exmOne PySem.W.kitCls
  simp only [hb, hc', ht, hs, beq_self_eq_true, Bool.and_self, if_true]
theorem kit_ref {K : PySem.W.Frag} {S B : Addr} (hc : PySem.W.isClsIn K B = true) (ht : PySem.W.typeIn K (.ref B) = some (.type "type")) (hs : PySem.W.subIn K (.ref S) (.ref B) = some true) : PySem.W.kitOne K (.ref S) (.ref B) = some true := by
  have hc' : (PySem.W.clsIn K B).isSome = true := hc
  unfold PySem.W.kitOne PySem.W.kitCls
  simp [hc', ht, hs]
theorem kit_VE {K : PySem.W.Frag} {S : Addr} (hs : PySem.W.subIn K (.ref S) (.type "ValueError") = some true) : PySem.W.kitOne K (.ref S) (.type "ValueError") = some true := by
  have hk : PySem.W.kitMeta "ValueError" = true := by decide +kernel
  unfold PySem.W.kitOne PySem.W.kitCls
  simp [hk, hs]
section
variable {P : Program} {w : World} {K : PySem.W.Frag} {mg : Str → Option Value}
theorem all_mk {l : PySem.W.OpenLaw} {h : Heap} {fa C : Addr} (X : K.In h) (G : h.Ns mainGlobals mg) (hfa : mg "law" = some (.ref fa))
    {f0 : Addr} {od0 an0 : Option Addr} {sl0 : Array (Option Value)} {oc0 kV0 dc0 pm0 cd0 ct0 : Value}
    {f1 : Addr} {od1 an1 : Option Addr} {sl1 : Array (Option Value)} {oc1 kV1 dc1 pm1 cd1 ct1 : Value}
    {f2 : Addr} {od2 an2 : Option Addr} {sl2 : Array (Option Value)} {oc2 kV2 dc2 pm2 cd2 ct2 : Value}
    {f3 : Addr} {od3 an3 : Option Addr} {sl3 : Array (Option Value)} {oc3 kV3 dc3 pm3 cd3 ct3 : Value}
    {f4 : Addr} {od4 an4 : Option Addr} {sl4 : Array (Option Value)} {oc4 kV4 dc4 pm4 cd4 ct4 : Value}
    {f5 : Addr} {od5 an5 : Option Addr} {sl5 : Array (Option Value)} {oc5 kV5 dc5 pm5 cd5 ct5 : Value}
    {f6 : Addr} {od6 an6 : Option Addr} {sl6 : Array (Option Value)} {oc6 kV6 dc6 pm6 cd6 ct6 : Value}
    {f7 : Addr} {od7 an7 : Option Addr} {sl7 : Array (Option Value)} {oc7 kV7 dc7 pm7 cd7 ct7 : Value}
    {f8 : Addr} {od8 an8 : Option Addr} {sl8 : Array (Option Value)} {oc8 kV8 dc8 pm8 cd8 ct8 : Value}
    {f9 : Addr} {od9 an9 : Option Addr} {sl9 : Array (Option Value)} {oc9 kV9 dc9 pm9 cd9 ct9 : Value}
    {f10 : Addr} {od10 an10 : Option Addr} {sl10 : Array (Option Value)} {oc10 kV10 dc10 pm10 cd10 ct10 : Value}
    {f11 : Addr} {od11 an11 : Option Addr} {sl11 : Array (Option Value)} {oc11 kV11 dc11 pm11 cd11 ct11 : Value}
    {f12 : Addr} {od12 an12 : Option Addr} {sl12 : Array (Option Value)} {oc12 kV12 dc12 pm12 cd12 ct12 : Value}
    {f13 : Addr} {od13 an13 : Option Addr} {sl13 : Array (Option Value)} {oc13 kV13 dc13 pm13 cd13 ct13 : Value}
    {f14 : Addr} {od14 an14 : Option Addr} {sl14 : Array (Option Value)} {oc14 kV14 dc14 pm14 cd14 ct14 : Value}
    {f15 : Addr} {od15 an15 : Option Addr} {sl15 : Array (Option Value)} {oc15 kV15 dc15 pm15 cd15 ct15 : Value}
    {f16 : Addr} {od16 an16 : Option Addr} {sl16 : Array (Option Value)} {oc16 kV16 dc16 pm16 cd16 ct16 : Value}
    {f17 : Addr} {od17 an17 : Option Addr} {sl17 : Array (Option Value)} {oc17 kV17 dc17 pm17 cd17 ct17 : Value}
    {f18 : Addr} {od18 an18 : Option Addr} {sl18 : Array (Option Value)} {oc18 kV18 dc18 pm18 cd18 ct18 : Value}
    {f19 : Addr} {od19 an19 : Option Addr} {sl19 : Array (Option Value)} {oc19 kV19 dc19 pm19 cd19 ct19 : Value}
    {f20 : Addr} {od20 an20 : Option Addr} {sl20 : Array (Option Value)} {oc20 kV20 dc20 pm20 cd20 ct20 : Value}
    {f21 : Addr} {od21 an21 : Option Addr} {sl21 : Array (Option Value)} {oc21 kV21 dc21 pm21 cd21 ct21 : Value}
    {f22 : Addr} {od22 an22 : Option Addr} {sl22 : Array (Option Value)} {oc22 kV22 dc22 pm22 cd22 ct22 : Value}
    {f23 : Addr} {od23 an23 : Option Addr} {sl23 : Array (Option Value)} {oc23 kV23 dc23 pm23 cd23 ct23 : Value}
    {TW : Addr} {ocT : Value} {odT : Option Addr} {nT : Nat} {slT : Array (Option Value)}
    {f24 : Addr} {od24 an24 : Option Addr} {sl24 : Array (Option Value)} {oc24 kV24 dc24 pm24 cd24 ct24 : Value}
    {f25 : Addr} {od25 an25 : Option Addr} {sl25 : Array (Option Value)} {oc25 kV25 dc25 pm25 cd25 ct25 : Value}
    {f26 : Addr} {od26 an26 : Option Addr} {sl26 : Array (Option Value)} {oc26 kV26 dc26 pm26 cd26 ct26 : Value}
    {f27 : Addr} {od27 an27 : Option Addr} {sl27 : Array (Option Value)} {oc27 kV27 dc27 pm27 cd27 ct27 : Value}
    {p28 : Addr} {rest28 : List Value}
    {f28 : Addr} {od28 an28 : Option Addr} {sl28 : Array (Option Value)} {oc28 kV28 dc28 pm28 cd28 ct28 : Value}
    {CF : Addr}
    {f29 : Addr} {od29 an29 : Option Addr} {sl29 : Array (Option Value)} {oc29 kV29 dc29 pm29 cd29 ct29 : Value}
    {CI NI : Addr} {nmI qI : Str} {bsI bmI subI : List Value} {snI : List Str} {abI : Bool} {coI : Option Bool} {ddI : Option Addr} {x0I x1I x2I x3I x5I : Option Value}
    {f30 : Addr} {od30 an30 : Option Addr} {sl30 : Array (Option Value)} {oc30 kV30 dc30 pm30 cd30 ct30 : Value}
    {CV NV : Addr} {nmV qV : Str} {bsV bmV subV : List Value} {snV : List Str} {abV : Bool} {coV : Option Bool} {ddV : Option Addr} {x0V x1V x2V x3V x5V : Option Value}
    {f31 : Addr} {od31 an31 : Option Addr} {sl31 : Array (Option Value)} {oc31 kV31 dc31 pm31 cd31 ct31 : Value}
    {CL NL : Addr} {nmL qL : Str} {bsL bmL subL : List Value} {snL : List Str} {abL : Bool} {coL : Option Bool} {ddL : Option Addr} {x0L x1L x2L x3L x5L : Option Value}
    {f32 : Addr} {od32 an32 : Option Addr} {sl32 : Array (Option Value)} {oc32 kV32 dc32 pm32 cd32 ct32 : Value}
    {CB NB : Addr} {nmB qB : Str} {bsB bmB subB : List Value} {snB : List Str} {abB : Bool} {coB : Option Bool} {ddB : Option Addr} {x0B x1B x2B x3B x5B : Option Value}
    {f33 : Addr} {od33 an33 : Option Addr} {sl33 : Array (Option Value)} {oc33 kV33 dc33 pm33 cd33 ct33 : Value}
    {CE NE : Addr} {nmE qE : Str} {bsE bmE subE : List Value} {snE : List Str} {abE : Bool} {coE : Option Bool} {ddE : Option Addr} {x0E x1E x2E x3E x5E : Option Value}
    {tL : Tok}
    (aC : PySem.W.nsIn K mainGlobals "Falls" = some (some (.ref C)))
    (a0 : PySem.W.nsIn K mainGlobals "is_sequence" = some (some (.ref f0)))
    (l0 : K.lookup f0 = some ⟨oc0, od0, .func (PySem.W.fnOf "is_sequence" "is_sequence" (defArgs s_is_sequence) (defBody s_is_sequence) (defScope s_is_sequence) .none kV0 dc0 pm0 an0 cd0 ct0), sl0⟩)
    (c0 : PySem.W.codeIn K cd0 "is_sequence" = true)
    (k0 : PySem.W.keepIn K (.ref f0) = true)
    (a1 : PySem.W.nsIn K mainGlobals "is_whole_row" = some (some (.ref f1)))
    (l1 : K.lookup f1 = some ⟨oc1, od1, .func (PySem.W.fnOf "is_whole_row" "is_whole_row" (defArgs s_is_whole_row) (defBody s_is_whole_row) (defScope s_is_whole_row) .none kV1 dc1 pm1 an1 cd1 ct1), sl1⟩)
    (c1 : PySem.W.codeIn K cd1 "is_whole_row" = true)
    (k1 : PySem.W.keepIn K (.ref f1) = true)
    (a2 : PySem.W.nsIn K mainGlobals "holds_each_once" = some (some (.ref f2)))
    (l2 : K.lookup f2 = some ⟨oc2, od2, .func (PySem.W.fnOf "holds_each_once" "holds_each_once" (defArgs s_holds_each_once) (defBody s_holds_each_once) (defScope s_holds_each_once) .none kV2 dc2 pm2 an2 cd2 ct2), sl2⟩)
    (c2 : PySem.W.codeIn K cd2 "holds_each_once" = true)
    (k2 : PySem.W.keepIn K (.ref f2) = true)
    (a3 : PySem.W.nsIn K mainGlobals "check_entry" = some (some (.ref f3)))
    (l3 : K.lookup f3 = some ⟨oc3, od3, .func (PySem.W.fnOf "check_entry" "check_entry" (defArgs s_check_entry) (defBody s_check_entry) (defScope s_check_entry) .none kV3 dc3 pm3 an3 cd3 ct3), sl3⟩)
    (c3 : PySem.W.codeIn K cd3 "check_entry" = true)
    (k3 : PySem.W.keepIn K (.ref f3) = true)
    (a4 : PySem.W.nsIn K mainGlobals "check_view" = some (some (.ref f4)))
    (l4 : K.lookup f4 = some ⟨oc4, od4, .func (PySem.W.fnOf "check_view" "check_view" (defArgs s_check_view) (defBody s_check_view) (defScope s_check_view) .none kV4 dc4 pm4 an4 cd4 ct4), sl4⟩)
    (c4 : PySem.W.codeIn K cd4 "check_view" = true)
    (k4 : PySem.W.keepIn K (.ref f4) = true)
    (a5 : PySem.W.nsIn K mainGlobals "check_leading" = some (some (.ref f5)))
    (l5 : K.lookup f5 = some ⟨oc5, od5, .func (PySem.W.fnOf "check_leading" "check_leading" (defArgs s_check_leading) (defBody s_check_leading) (defScope s_check_leading) .none kV5 dc5 pm5 an5 cd5 ct5), sl5⟩)
    (c5 : PySem.W.codeIn K cd5 "check_leading" = true)
    (k5 : PySem.W.keepIn K (.ref f5) = true)
    (a6 : PySem.W.nsIn K mainGlobals "check_lot" = some (some (.ref f6)))
    (l6 : K.lookup f6 = some ⟨oc6, od6, .func (PySem.W.fnOf "check_lot" "check_lot" (defArgs s_check_lot) (defBody s_check_lot) (defScope s_check_lot) .none kV6 dc6 pm6 an6 cd6 ct6), sl6⟩)
    (c6 : PySem.W.codeIn K cd6 "check_lot" = true)
    (k6 : PySem.W.keepIn K (.ref f6) = true)
    (a7 : PySem.W.nsIn K mainGlobals "lot_within" = some (some (.ref f7)))
    (l7 : K.lookup f7 = some ⟨oc7, od7, .func (PySem.W.fnOf "lot_within" "lot_within" (defArgs s_lot_within) (defBody s_lot_within) (defScope s_lot_within) .none kV7 dc7 pm7 an7 cd7 ct7), sl7⟩)
    (c7 : PySem.W.codeIn K cd7 "lot_within" = true)
    (k7 : PySem.W.keepIn K (.ref f7) = true)
    (a8 : PySem.W.nsIn K mainGlobals "lots_of_size" = some (some (.ref f8)))
    (l8 : K.lookup f8 = some ⟨oc8, od8, .func (PySem.W.fnOf "lots_of_size" "lots_of_size" (defArgs s_lots_of_size) (defBody s_lots_of_size) (defScope s_lots_of_size) .none kV8 dc8 pm8 an8 cd8 ct8), sl8⟩)
    (c8 : PySem.W.codeIn K cd8 "lots_of_size" = true)
    (k8 : PySem.W.keepIn K (.ref f8) = true)
    (a9 : PySem.W.nsIn K mainGlobals "_lots_by_size" = some (some (.ref f9)))
    (l9 : K.lookup f9 = some ⟨oc9, od9, .func (PySem.W.fnOf "_lots_by_size" "_lots_by_size" (defArgs s_lots_by_size) (defBody s_lots_by_size) (defScope s_lots_by_size) .none kV9 dc9 pm9 an9 cd9 ct9), sl9⟩)
    (c9 : PySem.W.codeIn K cd9 "_lots_by_size" = true)
    (k9 : PySem.W.keepIn K (.ref f9) = true)
    (a10 : PySem.W.nsIn K mainGlobals "_checked_lots" = some (some (.ref f10)))
    (l10 : K.lookup f10 = some ⟨oc10, od10, .func (PySem.W.fnOf "_checked_lots" "_checked_lots" (defArgs s_checked_lots) (defBody s_checked_lots) (defScope s_checked_lots) .none kV10 dc10 pm10 an10 cd10 ct10), sl10⟩)
    (c10 : PySem.W.codeIn K cd10 "_checked_lots" = true)
    (k10 : PySem.W.keepIn K (.ref f10) = true)
    (a11 : PySem.W.nsIn K mainGlobals "_law_draw" = some (some (.ref f11)))
    (l11 : K.lookup f11 = some ⟨oc11, od11, .func (PySem.W.fnOf "_law_draw" "_law_draw" (defArgs s_law_draw) (defBody s_law_draw) (defScope s_law_draw) .none kV11 dc11 pm11 an11 cd11 ct11), sl11⟩)
    (c11 : PySem.W.codeIn K cd11 "_law_draw" = true)
    (k11 : PySem.W.keepIn K (.ref f11) = true)
    (a12 : PySem.W.nsIn K mainGlobals "_law_lot" = some (some (.ref f12)))
    (l12 : K.lookup f12 = some ⟨oc12, od12, .func (PySem.W.fnOf "_law_lot" "_law_lot" (defArgs s_law_lot) (defBody s_law_lot) (defScope s_law_lot) .none kV12 dc12 pm12 an12 cd12 ct12), sl12⟩)
    (c12 : PySem.W.codeIn K cd12 "_law_lot" = true)
    (k12 : PySem.W.keepIn K (.ref f12) = true)
    (a13 : PySem.W.nsIn K mainGlobals "_law_lots" = some (some (.ref f13)))
    (l13 : K.lookup f13 = some ⟨oc13, od13, .func (PySem.W.fnOf "_law_lots" "_law_lots" (defArgs s_law_lots) (defBody s_law_lots) (defScope s_law_lots) .none kV13 dc13 pm13 an13 cd13 ct13), sl13⟩)
    (c13 : PySem.W.codeIn K cd13 "_law_lots" = true)
    (k13 : PySem.W.keepIn K (.ref f13) = true)
    (a14 : PySem.W.nsIn K mainGlobals "_law_pot" = some (some (.ref f14)))
    (l14 : K.lookup f14 = some ⟨oc14, od14, .func (PySem.W.fnOf "_law_pot" "_law_pot" (defArgs s_law_pot) (defBody s_law_pot) (defScope s_law_pot) .none kV14 dc14 pm14 an14 cd14 ct14), sl14⟩)
    (c14 : PySem.W.codeIn K cd14 "_law_pot" = true)
    (k14 : PySem.W.keepIn K (.ref f14) = true)
    (a15 : PySem.W.nsIn K mainGlobals "_law_odd" = some (some (.ref f15)))
    (l15 : K.lookup f15 = some ⟨oc15, od15, .func (PySem.W.fnOf "_law_odd" "_law_odd" (defArgs s_law_odd) (defBody s_law_odd) (defScope s_law_odd) .none kV15 dc15 pm15 an15 cd15 ct15), sl15⟩)
    (c15 : PySem.W.codeIn K cd15 "_law_odd" = true)
    (k15 : PySem.W.keepIn K (.ref f15) = true)
    (a16 : PySem.W.nsIn K mainGlobals "_law_told" = some (some (.ref f16)))
    (l16 : K.lookup f16 = some ⟨oc16, od16, .func (PySem.W.fnOf "_law_told" "_law_told" (defArgs s_law_told) (defBody s_law_told) (defScope s_law_told) .none kV16 dc16 pm16 an16 cd16 ct16), sl16⟩)
    (c16 : PySem.W.codeIn K cd16 "_law_told" = true)
    (k16 : PySem.W.keepIn K (.ref f16) = true)
    (a17 : PySem.W.nsIn K mainGlobals "_law_check" = some (some (.ref f17)))
    (l17 : K.lookup f17 = some ⟨oc17, od17, .func (PySem.W.fnOf "_law_check" "_law_check" (defArgs s_law_check) (defBody s_law_check) (defScope s_law_check) .none kV17 dc17 pm17 an17 cd17 ct17), sl17⟩)
    (c17 : PySem.W.codeIn K cd17 "_law_check" = true)
    (k17 : PySem.W.keepIn K (.ref f17) = true)
    (a18 : PySem.W.nsIn K mainGlobals "_law_entry_asked" = some (some (.ref f18)))
    (l18 : K.lookup f18 = some ⟨oc18, od18, .func (PySem.W.fnOf "_law_entry_asked" "_law_entry_asked" (defArgs s_law_entry_asked) (defBody s_law_entry_asked) (defScope s_law_entry_asked) .none kV18 dc18 pm18 an18 cd18 ct18), sl18⟩)
    (c18 : PySem.W.codeIn K cd18 "_law_entry_asked" = true)
    (k18 : PySem.W.keepIn K (.ref f18) = true)
    (a19 : PySem.W.nsIn K mainGlobals "_law_leading_asked" = some (some (.ref f19)))
    (l19 : K.lookup f19 = some ⟨oc19, od19, .func (PySem.W.fnOf "_law_leading_asked" "_law_leading_asked" (defArgs s_law_leading_asked) (defBody s_law_leading_asked) (defScope s_law_leading_asked) .none kV19 dc19 pm19 an19 cd19 ct19), sl19⟩)
    (c19 : PySem.W.codeIn K cd19 "_law_leading_asked" = true)
    (k19 : PySem.W.keepIn K (.ref f19) = true)
    (a20 : PySem.W.nsIn K mainGlobals "_law_falls_asked" = some (some (.ref f20)))
    (l20 : K.lookup f20 = some ⟨oc20, od20, .func (PySem.W.fnOf "_law_falls_asked" "_law_falls_asked" (defArgs s_law_falls_asked) (defBody s_law_falls_asked) (defScope s_law_falls_asked) .none kV20 dc20 pm20 an20 cd20 ct20), sl20⟩)
    (c20 : PySem.W.codeIn K cd20 "_law_falls_asked" = true)
    (k20 : PySem.W.keepIn K (.ref f20) = true)
    (a21 : PySem.W.nsIn K mainGlobals "_law_lot_asked" = some (some (.ref f21)))
    (l21 : K.lookup f21 = some ⟨oc21, od21, .func (PySem.W.fnOf "_law_lot_asked" "_law_lot_asked" (defArgs s_law_lot_asked) (defBody s_law_lot_asked) (defScope s_law_lot_asked) .none kV21 dc21 pm21 an21 cd21 ct21), sl21⟩)
    (c21 : PySem.W.codeIn K cd21 "_law_lot_asked" = true)
    (k21 : PySem.W.keepIn K (.ref f21) = true)
    (a22 : PySem.W.nsIn K mainGlobals "_law_small_asked" = some (some (.ref f22)))
    (l22 : K.lookup f22 = some ⟨oc22, od22, .func (PySem.W.fnOf "_law_small_asked" "_law_small_asked" (defArgs s_law_small_asked) (defBody s_law_small_asked) (defScope s_law_small_asked) .none kV22 dc22 pm22 an22 cd22 ct22), sl22⟩)
    (c22 : PySem.W.codeIn K cd22 "_law_small_asked" = true)
    (k22 : PySem.W.keepIn K (.ref f22) = true)
    (a23 : PySem.W.nsIn K mainGlobals "law" = some (some (.ref f23)))
    (l23 : K.lookup f23 = some ⟨oc23, od23, .func (PySem.W.fnOf "law" "law" (defArgs s_law) (defBody s_law) (defScope s_law) .none kV23 dc23 pm23 an23 cd23 ct23), sl23⟩)
    (c23 : PySem.W.codeIn K cd23 "law" = true)
    (k23 : PySem.W.keepIn K (.ref f23) = true)
    (a24 : PySem.W.nsIn K mainGlobals "is_whole" = some (some (.ref f24)))
    (l24 : K.lookup f24 = some ⟨oc24, od24, .func (PySem.W.fnOf "is_whole" "is_whole" (defArgs s_is_whole) (defBody s_is_whole) (defScope s_is_whole) (.ref TW) kV24 dc24 pm24 an24 cd24 ct24), sl24⟩)
    (c24 : PySem.W.codeIn K cd24 "is_whole" = true)
    (k24 : PySem.W.keepIn K (.ref f24) = true)
    (lT : K.lookup TW = some ⟨ocT, odT, .seq [Value.none, Value.none].toArray nT, slT⟩)
    (a25 : PySem.W.findIn K (.ref C) "__init__" = some (some (.ref f25)))
    (i25 : PySem.W.isFn K (.ref f25) = true)
    (l25 : K.lookup f25 = some ⟨oc25, od25, .func (PySem.W.fnOf "__init__" "Falls.__init__" (defArgs s_Falls___init__) (defBody s_Falls___init__) (defScope s_Falls___init__) .none kV25 dc25 pm25 an25 cd25 ct25), sl25⟩)
    (c25 : PySem.W.codeIn K cd25 "Falls.__init__" = true)
    (k25 : PySem.W.keepIn K (.ref f25) = true)
    (a26 : PySem.W.findIn K (.ref C) "lets" = some (some (.ref f26)))
    (i26 : PySem.W.isFn K (.ref f26) = true)
    (l26 : K.lookup f26 = some ⟨oc26, od26, .func (PySem.W.fnOf "lets" "Falls.lets" (defArgs s_Falls_lets) (defBody s_Falls_lets) (defScope s_Falls_lets) .none kV26 dc26 pm26 an26 cd26 ct26), sl26⟩)
    (c26 : PySem.W.codeIn K cd26 "Falls.lets" = true)
    (k26 : PySem.W.keepIn K (.ref f26) = true)
    (a27 : PySem.W.findIn K (.ref C) "with_lot" = some (some (.ref f27)))
    (i27 : PySem.W.isFn K (.ref f27) = true)
    (l27 : K.lookup f27 = some ⟨oc27, od27, .func (PySem.W.fnOf "with_lot" "Falls.with_lot" (defArgs s_Falls_with_lot) (defBody s_Falls_with_lot) (defScope s_Falls_with_lot) .none kV27 dc27 pm27 an27 cd27 ct27), sl27⟩)
    (c27 : PySem.W.codeIn K cd27 "Falls.with_lot" = true)
    (k27 : PySem.W.keepIn K (.ref f27) = true)
    (a28 : PySem.W.findCls K (.ref C) (.type "type") "at_most" = some (.get (.builtin "staticmethod.__get__") (.ref p28) .none (.ref C)))
    (r28 : PySem.W.recIn K p28 "staticmethod" = some (.ref f28 :: rest28))
    (l28 : K.lookup f28 = some ⟨oc28, od28, .func (PySem.W.fnOf "at_most" "Falls.at_most" (defArgs s_Falls_at_most) (defBody s_Falls_at_most) (defScope s_Falls_at_most) .none kV28 dc28 pm28 an28 cd28 ct28), sl28⟩)
    (c28 : PySem.W.codeIn K cd28 "Falls.at_most" = true)
    (k28 : PySem.W.keepIn K (.ref f28) = true)
    (aF : PySem.W.nsIn K mainGlobals "FirmError" = some (some (.ref CF)))
    (rdF : PySem.W.readsIn K CF (.type "type") = true)
    (gaF : PySem.W.specialIn K (.ref CF) "__getattribute__" = some (some (.builtin "type.__getattribute__")))
    (vF : PySem.W.findCls K (.ref CF) (.type "type") "__init__" = some (.val (.builtin "ValueError.__init__")))
    (iF : PySem.W.isClsIn K CF = true)
    (yF : PySem.W.typeIn K (.ref CF) = some (.type "type"))
    (aaI : PySem.W.nsIn K mainGlobals "BadInput" = some (some (.ref CI)))
    (a29 : PySem.W.findIn K (.ref CI) "__init__" = some (some (.ref f29)))
    (tII : PySem.W.typeIn K (.ref f29) = some (.type "function"))
    (l29 : K.lookup f29 = some ⟨oc29, od29, .func (PySem.W.fnOf "__init__" "BadInput.__init__" (defArgs s_BadInput___init__) (defBody s_BadInput___init__) (defScope s_BadInput___init__) .none kV29 dc29 pm29 an29 cd29 ct29), sl29⟩)
    (c29 : PySem.W.codeIn K cd29 "BadInput.__init__" = true)
    (k29 : PySem.W.keepIn K (.ref f29) = true)
    (lEI : K.lookup CI = some (excClassObj nmI qI CI NI bsI bmI true snI subI abI coI ddI x0I x1I x2I x3I x5I "ValueError.__new__"))
    (vEI : PySem.HandSPX.refsVE bmI = true)
    (sEI : PySem.W.findIn K (.ref CI) "__setattr__" = some (some (.builtin "object.__setattr__")))
    (eEI : PySem.W.subIn K (.ref CI) (.type "BaseException") = some true)
    (yEI : PySem.W.typeIn K (.ref CI) = some (.type "type"))
    (kEI : PySem.W.keepIn K (.ref CI) = true)
    (iEI : PySem.W.isClsIn K CI = true)
    (xgI : PySem.W.findIn K (.ref CI) "__getattribute__" = some (some (.builtin "BaseException.__getattribute__")))
    (xhI : PySem.W.findIn K (.ref CI) "__getattr__" = some none)
    (hEI : PySem.W.hasDictIn K CI = true)
    (ssI : PySem.W.subIn K (.ref CI) (.ref CI) = some true)
    (sfI : PySem.W.subIn K (.ref CI) (.ref CF) = some true)
    (svI : PySem.W.subIn K (.ref CI) (.type "ValueError") = some true)
    (nI_what : PySem.W.findIn K (.ref CI) "what" = some none)
    (nI_house : PySem.W.findIn K (.ref CI) "house" = some none)
    (aaV : PySem.W.nsIn K mainGlobals "BadView" = some (some (.ref CV)))
    (a30 : PySem.W.findIn K (.ref CV) "__init__" = some (some (.ref f30)))
    (tIV : PySem.W.typeIn K (.ref f30) = some (.type "function"))
    (l30 : K.lookup f30 = some ⟨oc30, od30, .func (PySem.W.fnOf "__init__" "BadView.__init__" (defArgs s_BadView___init__) (defBody s_BadView___init__) (defScope s_BadView___init__) .none kV30 dc30 pm30 an30 cd30 ct30), sl30⟩)
    (c30 : PySem.W.codeIn K cd30 "BadView.__init__" = true)
    (k30 : PySem.W.keepIn K (.ref f30) = true)
    (lEV : K.lookup CV = some (excClassObj nmV qV CV NV bsV bmV true snV subV abV coV ddV x0V x1V x2V x3V x5V "ValueError.__new__"))
    (vEV : PySem.HandSPX.refsVE bmV = true)
    (sEV : PySem.W.findIn K (.ref CV) "__setattr__" = some (some (.builtin "object.__setattr__")))
    (eEV : PySem.W.subIn K (.ref CV) (.type "BaseException") = some true)
    (yEV : PySem.W.typeIn K (.ref CV) = some (.type "type"))
    (kEV : PySem.W.keepIn K (.ref CV) = true)
    (iEV : PySem.W.isClsIn K CV = true)
    (xgV : PySem.W.findIn K (.ref CV) "__getattribute__" = some (some (.builtin "BaseException.__getattribute__")))
    (xhV : PySem.W.findIn K (.ref CV) "__getattr__" = some none)
    (hEV : PySem.W.hasDictIn K CV = true)
    (ssV : PySem.W.subIn K (.ref CV) (.ref CV) = some true)
    (sfV : PySem.W.subIn K (.ref CV) (.ref CF) = some true)
    (svV : PySem.W.subIn K (.ref CV) (.type "ValueError") = some true)
    (nV_what : PySem.W.findIn K (.ref CV) "what" = some none)
    (nV_house : PySem.W.findIn K (.ref CV) "house" = some none)
    (aaL : PySem.W.nsIn K mainGlobals "BadLeading" = some (some (.ref CL)))
    (a31 : PySem.W.findIn K (.ref CL) "__init__" = some (some (.ref f31)))
    (tIL : PySem.W.typeIn K (.ref f31) = some (.type "function"))
    (l31 : K.lookup f31 = some ⟨oc31, od31, .func (PySem.W.fnOf "__init__" "BadLeading.__init__" (defArgs s_BadLeading___init__) (defBody s_BadLeading___init__) (defScope s_BadLeading___init__) .none kV31 dc31 pm31 an31 cd31 ct31), sl31⟩)
    (c31 : PySem.W.codeIn K cd31 "BadLeading.__init__" = true)
    (k31 : PySem.W.keepIn K (.ref f31) = true)
    (lEL : K.lookup CL = some (excClassObj nmL qL CL NL bsL bmL true snL subL abL coL ddL x0L x1L x2L x3L x5L "ValueError.__new__"))
    (vEL : PySem.HandSPX.refsVE bmL = true)
    (sEL : PySem.W.findIn K (.ref CL) "__setattr__" = some (some (.builtin "object.__setattr__")))
    (eEL : PySem.W.subIn K (.ref CL) (.type "BaseException") = some true)
    (yEL : PySem.W.typeIn K (.ref CL) = some (.type "type"))
    (kEL : PySem.W.keepIn K (.ref CL) = true)
    (iEL : PySem.W.isClsIn K CL = true)
    (xgL : PySem.W.findIn K (.ref CL) "__getattribute__" = some (some (.builtin "BaseException.__getattribute__")))
    (xhL : PySem.W.findIn K (.ref CL) "__getattr__" = some none)
    (hEL : PySem.W.hasDictIn K CL = true)
    (ssL : PySem.W.subIn K (.ref CL) (.ref CL) = some true)
    (sfL : PySem.W.subIn K (.ref CL) (.ref CF) = some true)
    (svL : PySem.W.subIn K (.ref CL) (.type "ValueError") = some true)
    (nL_what : PySem.W.findIn K (.ref CL) "what" = some none)
    (aaB : PySem.W.nsIn K mainGlobals "BadLot" = some (some (.ref CB)))
    (a32 : PySem.W.findIn K (.ref CB) "__init__" = some (some (.ref f32)))
    (tIB : PySem.W.typeIn K (.ref f32) = some (.type "function"))
    (l32 : K.lookup f32 = some ⟨oc32, od32, .func (PySem.W.fnOf "__init__" "BadLot.__init__" (defArgs s_BadLot___init__) (defBody s_BadLot___init__) (defScope s_BadLot___init__) .none kV32 dc32 pm32 an32 cd32 ct32), sl32⟩)
    (c32 : PySem.W.codeIn K cd32 "BadLot.__init__" = true)
    (k32 : PySem.W.keepIn K (.ref f32) = true)
    (lEB : K.lookup CB = some (excClassObj nmB qB CB NB bsB bmB true snB subB abB coB ddB x0B x1B x2B x3B x5B "ValueError.__new__"))
    (vEB : PySem.HandSPX.refsVE bmB = true)
    (sEB : PySem.W.findIn K (.ref CB) "__setattr__" = some (some (.builtin "object.__setattr__")))
    (eEB : PySem.W.subIn K (.ref CB) (.type "BaseException") = some true)
    (yEB : PySem.W.typeIn K (.ref CB) = some (.type "type"))
    (kEB : PySem.W.keepIn K (.ref CB) = true)
    (iEB : PySem.W.isClsIn K CB = true)
    (xgB : PySem.W.findIn K (.ref CB) "__getattribute__" = some (some (.builtin "BaseException.__getattribute__")))
    (xhB : PySem.W.findIn K (.ref CB) "__getattr__" = some none)
    (hEB : PySem.W.hasDictIn K CB = true)
    (ssB : PySem.W.subIn K (.ref CB) (.ref CB) = some true)
    (sfB : PySem.W.subIn K (.ref CB) (.ref CF) = some true)
    (svB : PySem.W.subIn K (.ref CB) (.type "ValueError") = some true)
    (aaE : PySem.W.nsIn K mainGlobals "BadFalls" = some (some (.ref CE)))
    (a33 : PySem.W.findIn K (.ref CE) "__init__" = some (some (.ref f33)))
    (tIE : PySem.W.typeIn K (.ref f33) = some (.type "function"))
    (l33 : K.lookup f33 = some ⟨oc33, od33, .func (PySem.W.fnOf "__init__" "BadFalls.__init__" (defArgs s_BadFalls___init__) (defBody s_BadFalls___init__) (defScope s_BadFalls___init__) .none kV33 dc33 pm33 an33 cd33 ct33), sl33⟩)
    (c33 : PySem.W.codeIn K cd33 "BadFalls.__init__" = true)
    (k33 : PySem.W.keepIn K (.ref f33) = true)
    (lEE : K.lookup CE = some (excClassObj nmE qE CE NE bsE bmE true snE subE abE coE ddE x0E x1E x2E x3E x5E "ValueError.__new__"))
    (vEE : PySem.HandSPX.refsVE bmE = true)
    (sEE : PySem.W.findIn K (.ref CE) "__setattr__" = some (some (.builtin "object.__setattr__")))
    (eEE : PySem.W.subIn K (.ref CE) (.type "BaseException") = some true)
    (yEE : PySem.W.typeIn K (.ref CE) = some (.type "type"))
    (kEE : PySem.W.keepIn K (.ref CE) = true)
    (iEE : PySem.W.isClsIn K CE = true)
    (xgE : PySem.W.findIn K (.ref CE) "__getattribute__" = some (some (.builtin "BaseException.__getattribute__")))
    (xhE : PySem.W.findIn K (.ref CE) "__getattr__" = some none)
    (hEE : PySem.W.hasDictIn K CE = true)
    (ssE : PySem.W.subIn K (.ref CE) (.ref CE) = some true)
    (sfE : PySem.W.subIn K (.ref CE) (.ref CF) = some true)
    (svE : PySem.W.subIn K (.ref CE) (.type "ValueError") = some true)
    (nE_what : PySem.W.findIn K (.ref CE) "what" = some none)
    (nE_at : PySem.W.findIn K (.ref CE) "at" = some none)
    (apart : PySem.W.subIn K (.ref CI) (.ref CV) = some false)
    (z_isinstance : PySem.W.nsIn K mainGlobals "isinstance" = some none)
    (z_list : PySem.W.nsIn K mainGlobals "list" = some none)
    (z_tuple : PySem.W.nsIn K mainGlobals "tuple" = some none)
    (z_bool : PySem.W.nsIn K mainGlobals "bool" = some none)
    (z_int : PySem.W.nsIn K mainGlobals "int" = some none)
    (z_str : PySem.W.nsIn K mainGlobals "str" = some none)
    (z_all : PySem.W.nsIn K mainGlobals "all" = some none)
    (z_any : PySem.W.nsIn K mainGlobals "any" = some none)
    (z_range : PySem.W.nsIn K mainGlobals "range" = some none)
    (z_sorted : PySem.W.nsIn K mainGlobals "sorted" = some none)
    (z_set : PySem.W.nsIn K mainGlobals "set" = some none)
    (z_max : PySem.W.nsIn K mainGlobals "max" = some none)
    (z_len : PySem.W.nsIn K mainGlobals "len" = some none)
    (z_min : PySem.W.nsIn K mainGlobals "min" = some none)
    (z_repr : PySem.W.nsIn K mainGlobals "repr" = some none)
    (z_VE : PySem.W.nsIn K mainGlobals "ValueError" = some none)
    (pg : PySem.W.plainGet K C Str.empty = true)
    (hd : PySem.W.hasDictIn K C = true)
    (po : PySem.W.plainOver K C = true)
    (sa : PySem.W.findIn K (.ref C) "__setattr__" = some (some (.builtin "object.__setattr__")))
    (mk : PySem.W.makesIn K C = true)
    (kc : PySem.W.keepIn K (.ref C) = true)
    (nN : PySem.W.findIn K (.ref C) "n" = some none)
    (nL : PySem.W.findIn K (.ref C) "lots" = some none)
    (nF : PySem.W.findIn K (.ref C) "_let" = some none)
    (rdC : PySem.W.readsIn K C (.type "type") = true)
    (gaC : PySem.W.specialIn K (.ref C) "__getattribute__" = some (some (.builtin "type.__getattribute__")))
    (ml : PySem.W.nsIn K mainGlobals "MOST_LOTS" = some (some (.int 32 tL))) :
    ∃ fd : FuncData, (∀ (s : Shared) (v : Value), BindsTo s fd ⟨[v], []⟩ [("_law_script", v)]) ∧ ∀ base : Heap, K.In base → base.Ns mainGlobals mg → FnOk l.prog w K mg base CX0 9 fa fd ["_law_script"] (spLaw K) := by
  have e := hfa.symm.trans (PySem.W.mg_of X G a23)
  cases e
  have T : Tx mg := ⟨PySem.W.mg_none_of X G z_isinstance, PySem.W.mg_none_of X G z_list, PySem.W.mg_none_of X G z_tuple, PySem.W.mg_none_of X G z_bool, PySem.W.mg_none_of X G z_int, PySem.W.mg_none_of X G z_str, PySem.W.mg_none_of X G z_all, PySem.W.mg_none_of X G z_any, PySem.W.mg_none_of X G z_range, PySem.W.mg_none_of X G z_sorted, PySem.W.mg_none_of X G z_set, PySem.W.mg_none_of X G z_max, PySem.W.mg_none_of X G z_len, PySem.W.mg_none_of X G z_min, PySem.W.mg_none_of X G z_repr⟩
  have FC : FallsC K C := ⟨⟨pg, hd, po, sa⟩, nN, nL, nF⟩
  have gC := PySem.W.mg_of X G aC
  have gL := PySem.W.mg_of X G ml
  have zV := PySem.W.mg_none_of X G z_VE
  have F0 := fun_mk (st := s_is_sequence) l0 c0 k0
  have b0 := F0.binds (ps := ["thing"]) fun _ _ _ _ _ _ us hl => match us, hl with | [_], _ => rfl
  have g0 := PySem.W.mg_of X G a0
  have F1 := fun_mk (st := s_is_whole_row) l1 c1 k1
  have b1 := F1.binds (ps := ["thing"]) fun _ _ _ _ _ _ us hl => match us, hl with | [_], _ => rfl
  have g1 := PySem.W.mg_of X G a1
  have F2 := fun_mk (st := s_holds_each_once) l2 c2 k2
  have b2 := F2.binds (ps := ["thing", "many"]) fun _ _ _ _ _ _ us hl => match us, hl with | [_, _], _ => rfl
  have g2 := PySem.W.mg_of X G a2
  have F3 := fun_mk (st := s_check_entry) l3 c3 k3
  have b3 := F3.binds (ps := ["houses", "values", "entry"]) fun _ _ _ _ _ _ us hl => match us, hl with | [_, _, _], _ => rfl
  have g3 := PySem.W.mg_of X G a3
  have F4 := fun_mk (st := s_check_view) l4 c4 k4
  have b4 := F4.binds (ps := ["houses", "values", "view"]) fun _ _ _ _ _ _ us hl => match us, hl with | [_, _, _], _ => rfl
  have g4 := PySem.W.mg_of X G a4
  have F5 := fun_mk (st := s_check_leading) l5 c5 k5
  have b5 := F5.binds (ps := ["houses", "values", "order", "names"]) fun _ _ _ _ _ _ us hl => match us, hl with | [_, _, _, _], _ => rfl
  have g5 := PySem.W.mg_of X G a5
  have F6 := fun_mk (st := s_check_lot) l6 c6 k6
  have b6 := F6.binds (ps := ["houses", "lot"]) fun _ _ _ _ _ _ us hl => match us, hl with | [_, _], _ => rfl
  have g6 := PySem.W.mg_of X G a6
  have F7 := fun_mk (st := s_lot_within) l7 c7 k7
  have b7 := F7.binds (ps := ["one", "other"]) fun _ _ _ _ _ _ us hl => match us, hl with | [_, _], _ => rfl
  have g7 := PySem.W.mg_of X G a7
  have F8 := fun_mk (st := s_lots_of_size) l8 c8 k8
  have b8 := F8.binds (ps := ["houses", "size"]) fun _ _ _ _ _ _ us hl => match us, hl with | [_, _], _ => rfl
  have g8 := PySem.W.mg_of X G a8
  have F9 := fun_mk (st := s_lots_by_size) l9 c9 k9
  have b9 := F9.binds (ps := ["houses"]) fun _ _ _ _ _ _ us hl => match us, hl with | [_], _ => rfl
  have g9 := PySem.W.mg_of X G a9
  have F10 := fun_mk (st := s_checked_lots) l10 c10 k10
  have b10 := F10.binds (ps := ["houses", "lots"]) fun _ _ _ _ _ _ us hl => match us, hl with | [_, _], _ => rfl
  have g10 := PySem.W.mg_of X G a10
  have F11 := fun_mk (st := s_law_draw) l11 c11 k11
  have b11 := F11.binds (ps := ["_law_pot_here", "_law_many"]) fun _ _ _ _ _ _ us hl => match us, hl with | [_, _], _ => rfl
  have g11 := PySem.W.mg_of X G a11
  have F12 := fun_mk (st := s_law_lot) l12 c12 k12
  have b12 := F12.binds (ps := ["_law_pot_here", "_law_n"]) fun _ _ _ _ _ _ us hl => match us, hl with | [_, _], _ => rfl
  have g12 := PySem.W.mg_of X G a12
  have F13 := fun_mk (st := s_law_lots) l13 c13 k13
  have b13 := F13.binds (ps := ["_law_pot_here", "_law_n"]) fun _ _ _ _ _ _ us hl => match us, hl with | [_, _], _ => rfl
  have g13 := PySem.W.mg_of X G a13
  have F14 := fun_mk (st := s_law_pot) l14 c14 k14
  have b14 := F14.binds (ps := ["_law_script", "_law_salt"]) fun _ _ _ _ _ _ us hl => match us, hl with | [_, _], _ => rfl
  have g14 := PySem.W.mg_of X G a14
  have F15 := fun_mk (st := s_law_odd) l15 c15 k15
  have b15 := F15.binds (ps := ["_law_pot_here", "_law_many"]) fun _ _ _ _ _ _ us hl => match us, hl with | [_, _], _ => rfl
  have g15 := PySem.W.mg_of X G a15
  have F16 := fun_mk (st := s_law_told) l16 c16 k16
  have b16 := F16.binds (ps := ["_law_why", "_law_base"]) fun _ _ _ _ _ _ us hl => match us, hl with | [_, _], _ => rfl
  have g16 := PySem.W.mg_of X G a16
  have F17 := fun_mk (st := s_law_check) l17 c17 k17
  have b17 := F17.binds (ps := ["_law_n", "_law_m", "_law_row", "_law_views"]) fun _ _ _ _ _ _ us hl => match us, hl with | [_, _, _, _], _ => rfl
  have g17 := PySem.W.mg_of X G a17
  have F18 := fun_mk (st := s_law_entry_asked) l18 c18 k18
  have b18 := F18.binds (ps := ["_law_pot_here", "_law_n", "_law_m", "_law_views"]) fun _ _ _ _ _ _ us hl => match us, hl with | [_, _, _, _], _ => rfl
  have g18 := PySem.W.mg_of X G a18
  have F19 := fun_mk (st := s_law_leading_asked) l19 c19 k19
  have b19 := F19.binds (ps := ["_law_pot_here", "_law_n", "_law_m"]) fun _ _ _ _ _ _ us hl => match us, hl with | [_, _, _], _ => rfl
  have g19 := PySem.W.mg_of X G a19
  have F20 := fun_mk (st := s_law_falls_asked) l20 c20 k20
  have b20 := F20.binds (ps := ["_law_pot_here", "_law_n"]) fun _ _ _ _ _ _ us hl => match us, hl with | [_, _], _ => rfl
  have g20 := PySem.W.mg_of X G a20
  have F21 := fun_mk (st := s_law_lot_asked) l21 c21 k21
  have b21 := F21.binds (ps := ["_law_pot_here", "_law_n"]) fun _ _ _ _ _ _ us hl => match us, hl with | [_, _], _ => rfl
  have g21 := PySem.W.mg_of X G a21
  have F22 := fun_mk (st := s_law_small_asked) l22 c22 k22
  have b22 := F22.binds (ps := ["_law_pot_here", "_law_n"]) fun _ _ _ _ _ _ us hl => match us, hl with | [_, _], _ => rfl
  have g22 := PySem.W.mg_of X G a22
  have F23 := fun_mk (st := s_law) l23 c23 k23
  have b23 := F23.binds (ps := ["_law_script"]) fun _ _ _ _ _ _ us hl => match us, hl with | [_], _ => rfl
  have g23 := PySem.W.mg_of X G a23
  have F24 : FunW K f24 _ := ⟨⟨oc24, od24, .ref TW, kV24, dc24, pm24, an24, cd24, ct24, sl24, rfl, l24, c24, .inr ⟨by simp, TW, _, [.none, .none], nT, rfl, lT, rfl, .cons rfl (.cons rfl .nil)⟩, .inl rfl⟩, k24⟩
  have b24 := binds_whole F24
  have g24 := PySem.W.mg_of X G a24
  have F25 := fun_mk (st := s_Falls___init__) l25 c25 k25
  have b25 := F25.binds (ps := ["self", "houses", "lots"]) fun _ _ _ _ _ _ us hl => match us, hl with | [_, _, _], _ => rfl
  have F26 := fun_mk (st := s_Falls_lets) l26 c26 k26
  have b26 := F26.binds (ps := ["self", "lot"]) fun _ _ _ _ _ _ us hl => match us, hl with | [_, _], _ => rfl
  have F27 := fun_mk (st := s_Falls_with_lot) l27 c27 k27
  have b27 := F27.binds (ps := ["self", "lot"]) fun _ _ _ _ _ _ us hl => match us, hl with | [_, _], _ => rfl
  have F28 := fun_mk (st := s_Falls_at_most) l28 c28 k28
  have b28 := F28.binds (ps := ["houses", "count"]) fun _ _ _ _ _ _ us hl => match us, hl with | [_, _], _ => rfl
  have FM : FirmC K mg CF (.type "type") := ⟨PySem.W.mg_of X G aF, ⟨rdF, gaF⟩, vF⟩
  have F29 := fun_mk (st := s_BadInput___init__) l29 c29 k29
  have b29 := F29.binds (ps := ["self", "what", "house"]) fun _ _ _ _ _ _ us hl => match us, hl with | [_, _, _], _ => rfl
  have ECI : ErrC K mg CF CI f29 "BadInput" ["what", "house"] := ⟨⟨⟨_, _, _, _, _, _, _, _, _, _, _, _, _, _, _, lEI, vEI⟩, sEI, eEI, yEI, kEI⟩, a29, tII, (List.forall_mem_cons.mpr ⟨nI_what, List.forall_mem_singleton.mpr nI_house⟩), PySem.W.mg_of X G aaI, ⟨xgI, xhI, eEI, hEI⟩, exm_is eEI iEI yEI ssI, kit_ref iF yF sfI, kit_VE svI⟩
  have F30 := fun_mk (st := s_BadView___init__) l30 c30 k30
  have b30 := F30.binds (ps := ["self", "what", "house"]) fun _ _ _ _ _ _ us hl => match us, hl with | [_, _, _], _ => rfl
  have ECV : ErrC K mg CF CV f30 "BadView" ["what", "house"] := ⟨⟨⟨_, _, _, _, _, _, _, _, _, _, _, _, _, _, _, lEV, vEV⟩, sEV, eEV, yEV, kEV⟩, a30, tIV, (List.forall_mem_cons.mpr ⟨nV_what, List.forall_mem_singleton.mpr nV_house⟩), PySem.W.mg_of X G aaV, ⟨xgV, xhV, eEV, hEV⟩, exm_is eEV iEV yEV ssV, kit_ref iF yF sfV, kit_VE svV⟩
  have F31 := fun_mk (st := s_BadLeading___init__) l31 c31 k31
  have b31 := F31.binds (ps := ["self", "what"]) fun _ _ _ _ _ _ us hl => match us, hl with | [_, _], _ => rfl
  have ECL : ErrC K mg CF CL f31 "BadLeading" ["what"] := ⟨⟨⟨_, _, _, _, _, _, _, _, _, _, _, _, _, _, _, lEL, vEL⟩, sEL, eEL, yEL, kEL⟩, a31, tIL, (List.forall_mem_singleton.mpr nL_what), PySem.W.mg_of X G aaL, ⟨xgL, xhL, eEL, hEL⟩, exm_is eEL iEL yEL ssL, kit_ref iF yF sfL, kit_VE svL⟩
  have F32 := fun_mk (st := s_BadLot___init__) l32 c32 k32
  have b32 := F32.binds (ps := ["self"]) fun _ _ _ _ _ _ us hl => match us, hl with | [_], _ => rfl
  have ECB : ErrC K mg CF CB f32 "BadLot" [] := ⟨⟨⟨_, _, _, _, _, _, _, _, _, _, _, _, _, _, _, lEB, vEB⟩, sEB, eEB, yEB, kEB⟩, a32, tIB, (fun f hf => by cases hf), PySem.W.mg_of X G aaB, ⟨xgB, xhB, eEB, hEB⟩, exm_is eEB iEB yEB ssB, kit_ref iF yF sfB, kit_VE svB⟩
  have F33 := fun_mk (st := s_BadFalls___init__) l33 c33 k33
  have b33 := F33.binds (ps := ["self", "what", "at"]) fun _ _ _ _ _ _ us hl => match us, hl with | [_, _, _], _ => rfl
  have ECE : ErrC K mg CF CE f33 "BadFalls" ["what", "at"] := ⟨⟨⟨_, _, _, _, _, _, _, _, _, _, _, _, _, _, _, lEE, vEE⟩, sEE, eEE, yEE, kEE⟩, a33, tIE, (List.forall_mem_cons.mpr ⟨nE_what, List.forall_mem_singleton.mpr nE_at⟩), PySem.W.mg_of X G aaE, ⟨xgE, xhE, eEE, hEE⟩, exm_is eEE iEE yEE ssE, kit_ref iF yF sfE, kit_VE svE⟩
  have M0 : Mk K C f25 := ⟨mk, a25, i25, kc⟩
  have ML : Meth K C "lets" f26 := ⟨a26, i26, k26⟩
  have MW : Meth K C "with_lot" f27 := ⟨a27, i27, k27⟩
  have SM : SMet K C (.type "type") "at_most" p28 f28 := ⟨a28, ⟨_, r28⟩, k28⟩
  have RC : ClX.CRead K C (.type "type") := ⟨rdC, gaC⟩
  refine ⟨PySem.W.fnOf "law" "law" (defArgs s_law) (defBody s_law) (defScope s_law) .none kV23 dc23 pm23 an23 cd23 ct23, fun s v => .of_eq rfl, fun base _ _ => ?_⟩
  have OgE := ok_gentry (P := l.prog) (w := w) (base := base) F3 T F0 b0 g0 F24 b24 g24
  have OgV := ok_gview (P := l.prog) (w := w) (base := base) F4 T F0 b0 g0 F24 b24 g24
  have OxE := ok_entryX (P := l.prog) (w := w) (base := base) F3 T FM ECI F29 b29 F0 b0 g0 F24 b24 g24
  have OxV := ok_viewX (P := l.prog) (w := w) (base := base) F4 T FM ECV F30 b30 F0 b0 g0 F24 b24 g24
  have OT := fun cls => ok_told (P := l.prog) (w := w) (base := base) F16 T zV FM cls
  have OcG := ok_checkG (P := l.prog) (w := w) (base := base) F17 T F4 b4 g4 OgV F3 b3 g3 OgE
  have OcB := ok_checkB (P := l.prog) (w := w) (base := base) F17 T ECV ECI (exm_is eEV iEV yEV apart) F4 b4 g4 OxV F3 b3 g3 OxE F16 b16 g16 OT
  have Oc : FnOk l.prog w K mg base CX0 4 f17 _ ["_law_n", "_law_m", "_law_row", "_law_views"] (spCheck K) := FnOk.or OcG OcB
  have Oodd := ok_odd (P := l.prog) (w := w) (base := base) F15 T F11 b11 g11
  have OaE := ok_entryAsked (P := l.prog) (w := w) (base := base) F18 T F11 b11 g11 F15 b15 g15 Oodd F17 b17 g17 Oc
  have Orow := ok_row (P := l.prog) (w := w) (base := base) F1 T F0 b0 g0 F24 g24
  have Oh := ok_holds (P := l.prog) (w := w) (base := base) F2 T F1 b1 g1 Orow
  have OlG := ok_leadG (P := l.prog) (w := w) (base := base) F5 T F2 b2 g2 Oh
  have OlB := ok_leadB (P := l.prog) (w := w) (base := base) F5 T FM ECL F31 b31 F2 b2 g2 Oh
  have Ol : FnOk l.prog w K mg base (L2.CX l.prog w) 4 f5 _ ["houses", "values", "order", "names"] (spLead K CL) := FnOk.or (Fv.FnOk.up OlG (by decide)) OlB
  have OaL := ok_leadAsked (P := l.prog) (w := w) (base := base) F19 T ECL F11 b11 g11 F15 b15 g15 Oodd F5 b5 g5 Ol F16 b16 g16 OT
  have OtG := ok_lot (P := l.prog) (w := w) (base := base) F6 T F0 b0 g0 F24 b24 g24
  have OtT := ok_lotT (P := l.prog) (w := w) (base := base) F6 T F0 b0 g0 F24 b24 g24
  have OtB := ok_lotB (P := l.prog) (w := w) (base := base) F6 T FM ECB F32 b32 F0 b0 g0 F24 b24 g24
  have OtN := ok_lotN (P := l.prog) (w := w) (base := base) F6 T FM ECB F32 b32 F0 b0 g0 F24 b24 g24
  have OtU : FnOk l.prog w K mg base (L2.CX l.prog w) 3 f6 _ ["houses", "lot"] (spLotU K CB) := FnOk.or (Fv.FnOk.up OtG (by decide)) OtB
  have OtV : FnOk l.prog w K mg base (L2N.CX l.prog w) 3 f6 _ ["houses", "lot"] (spLotV K CB) := FnOk.or (FnOk.or (Fv.FnOk.up OtG (by decide)) OtN) (Fv.FnOk.up OtT (by decide))
  have OaT := ok_lotAsked (P := l.prog) (w := w) (base := base) F21 T ECB F11 b11 g11 F15 b15 g15 Oodd F6 b6 g6 OtU F16 b16 g16 OT
  have Olots := ok_law_lots (P := l.prog) (w := w) (base := base) F13 T F11 b11 g11 F12 b12 g12
  have OkB := ok_checkedB (P := l.prog) (w := w) (base := base) F10 T FM ECB ECE F33 b33 F6 b6 g6 OtV
  have Oi := ok_init (P := l.prog) (w := w) (base := base) F25 T FC gL F0 b0 g0 F24 b24 g24 F6 b6 g6 F10 b10 g10 F7 b7 g7 F8 b8 g8 F9 b9 g9
  have OiT := ok_initT (P := l.prog) (w := w) (base := base) F25 T FC gL F0 b0 g0 F24 b24 g24 F6 b6 g6 F10 b10 g10 F7 b7 g7 F8 b8 g8 F9 b9 g9
  have OiB := ok_initB (P := l.prog) (w := w) (base := base) F25 T FC gL FM ECE F33 b33 F0 b0 g0 F24 b24 g24 F10 b10 g10 OkB F7 b7 g7 F8 b8 g8 F9 b9 g9
  have OiU : FnOk l.prog w K mg base (L2.CX l.prog w) 5 f25 _ ["self", "houses", "lots"] (spInitU K C CE) := FnOk.or (Fv.FnOk.up Oi (by decide)) OiB
  have OaF := ok_fallsAsked (P := l.prog) (w := w) (base := base) F20 T FC ECE F11 b11 g11 F13 b13 g13 Olots F15 b15 g15 Oodd M0 gC OiU b25 F16 b16 g16 OT
  have Ofl := ok_flets (P := l.prog) (w := w) (base := base) F26 T FC
  have Om := ok_most (P := l.prog) (w := w) (base := base) F28 T FC M0 gC OiT b25 F24 b24 g24 F8 b8 g8
  have OmB := ok_mostB (P := l.prog) (w := w) (base := base) F28 T FC M0 gC OiT b25 FM ECE F33 b33 F24 b24 g24 F8 b8 g8
  have Ow := ok_withB (P := l.prog) (w := w) (base := base) F27 T FC M0 gC OiB b25
  have OaS := ok_smallAsked (P := l.prog) (w := w) (base := base) F22 T FC ECE F11 b11 g11 F16 b16 g16 OT F24 b24 g24 gC RC SM b28 Om OmB MW b27 Ow ML Ofl b26
  exact ok_law F23 T F14 b14 g14 F11 b11 g11 F18 b18 g18 (Fv.FnOk.up OaE (by decide)) F19 b19 g19 (Fv.FnOk.up OaL (by decide)) F20 b20 g20 (Fv.FnOk.up OaF (by decide)) F21 b21 g21 (Fv.FnOk.up OaT (by decide)) F22 b22 g22 OaS
end
theorem walk {l : PySem.W.OpenLaw} {q : Program} {loose : List Str} {XP : (Str → Option Value) → Heap → Prop} {YP : World → Heap → Prop} {d : DefRec} {K : Params → PySem.W.Frag} (hn : l.most = some 63) (hdf : d.params.defaults = [])
    (hY : ∀ (w : World) (h : Heap), YP w h → (K w.params).In h)
    (F : ∀ (w : World) (mg : Str → Option Value) (fa : Addr) (h : Heap), (K w.params).In h → h.Ns mainGlobals mg → mg d.name = some (.ref fa) →
      ∃ fd : FuncData, (∀ (s : Shared) (u : Value), BindsTo s fd ⟨[u], []⟩ [("_law_script", u)]) ∧ ∀ base : Heap, (K w.params).In base → base.Ns mainGlobals mg → FnOk l.prog w (K w.params) mg base CX0 9 fa fd ["_law_script"] (spLaw (K w.params))) :
    PySem.W.WalkO q loose XP YP l.row.toRowW d [] (fun f vs => PySem.call f vs) :=
  L2.walk_of (n := 63) (k := 9) (x := "_law_script") (CX := fun _ => CX0) (sp := fun w => spLaw (K w.params)) hn (by decide) hdf ⟨rfl, by decide, by decide⟩ hY F (fun _ _ a ns _ _ hS => ⟨a, ns, rfl, hS, fun _ => rfl⟩) fun _ _ _ _ _ z => z
end K3

open PySem PySem.W PyProof.Rows
set_option maxRecDepth 100000 in
set_option maxHeartbeats 0 in
theorem PySem.Challenge.cw_firmvalues_k03_first_refusals_of_inputs_holds : PySem.Challenge.rw_firmvalues_k03_first_refusals_of_inputs.Holds := by
  w_on; o_law; k_head; (case hw => w_witness2)
  k_fill
  refine K3.walk (l := PySem.Challenge.rw_firmvalues_k03_first_refusals_of_inputs) rfl rfl (fun w h Y => PySem.W.kIn_of Y) ?F
  case F =>
    intro w mg fa h KX G hmg
    refine' K3.all_mk KX G hmg ?aC ?a0 ?l0 ?c0 ?k0 ?a1 ?l1 ?c1 ?k1 ?a2 ?l2 ?c2 ?k2 ?a3 ?l3 ?c3 ?k3 ?a4 ?l4 ?c4 ?k4 ?a5 ?l5 ?c5 ?k5 ?a6 ?l6 ?c6 ?k6 ?a7 ?l7 ?c7 ?k7 ?a8 ?l8 ?c8 ?k8 ?a9 ?l9 ?c9 ?k9 ?a10 ?l10 ?c10 ?k10 ?a11 ?l11 ?c11 ?k11 ?a12 ?l12 ?c12 ?k12 ?a13 ?l13 ?c13 ?k13 ?a14 ?l14 ?c14 ?k14 ?a15 ?l15 ?c15 ?k15 ?a16 ?l16 ?c16 ?k16 ?a17 ?l17 ?c17 ?k17 ?a18 ?l18 ?c18 ?k18 ?a19 ?l19 ?c19 ?k19 ?a20 ?l20 ?c20 ?k20 ?a21 ?l21 ?c21 ?k21 ?a22 ?l22 ?c22 ?k22 ?a23 ?l23 ?c23 ?k23 ?a24 ?l24 ?c24 ?k24 ?lT ?a25 ?i25 ?l25 ?c25 ?k25 ?a26 ?i26 ?l26 ?c26 ?k26 ?a27 ?i27 ?l27 ?c27 ?k27 ?a28 ?r28 ?l28 ?c28 ?k28 ?aF ?rdF ?gaF ?vF ?iF ?yF ?aaI ?a29 ?tII ?l29 ?c29 ?k29 ?lEI ?vEI ?sEI ?eEI ?yEI ?kEI ?iEI ?xgI ?xhI ?hEI ?ssI ?sfI ?svI ?nI_what ?nI_house ?aaV ?a30 ?tIV ?l30 ?c30 ?k30 ?lEV ?vEV ?sEV ?eEV ?yEV ?kEV ?iEV ?xgV ?xhV ?hEV ?ssV ?sfV ?svV ?nV_what ?nV_house ?aaL ?a31 ?tIL ?l31 ?c31 ?k31 ?lEL ?vEL ?sEL ?eEL ?yEL ?kEL ?iEL ?xgL ?xhL ?hEL ?ssL ?sfL ?svL ?nL_what ?aaB ?a32 ?tIB ?l32 ?c32 ?k32 ?lEB ?vEB ?sEB ?eEB ?yEB ?kEB ?iEB ?xgB ?xhB ?hEB ?ssB ?sfB ?svB ?aaE ?a33 ?tIE ?l33 ?c33 ?k33 ?lEE ?vEE ?sEE ?eEE ?yEE ?kEE ?iEE ?xgE ?xhE ?hEE ?ssE ?sfE ?svE ?nE_what ?nE_at ?apart ?z_isinstance ?z_list ?z_tuple ?z_bool ?z_int ?z_str ?z_all ?z_any ?z_range ?z_sorted ?z_set ?z_max ?z_len ?z_min ?z_repr ?z_VE ?pg ?hd ?po ?sa ?mk ?kc ?nN ?nL ?nF ?rdC ?gaC ?ml
    (case aC => k_is)
    (case a0 => k_is)
    (case l0 => k_is)
    (case c0 => k_is)
    (case k0 => k_is)
    (case a1 => k_is)
    (case l1 => k_is)
    (case c1 => k_is)
    (case k1 => k_is)
    (case a2 => k_is)
    (case l2 => k_is)
    (case c2 => k_is)
    (case k2 => k_is)
    (case a3 => k_is)
    (case l3 => k_is)
    (case c3 => k_is)
    (case k3 => k_is)
    (case a4 => k_is)
    (case l4 => k_is)
    (case c4 => k_is)
    (case k4 => k_is)
    (case a5 => k_is)
    (case l5 => k_is)
    (case c5 => k_is)
    (case k5 => k_is)
    (case a6 => k_is)
    (case l6 => k_is)
    (case c6 => k_is)
    (case k6 => k_is)
    (case a7 => k_is)
    (case l7 => k_is)
    (case c7 => k_is)
    (case k7 => k_is)
    (case a8 => k_is)
    (case l8 => k_is)
    (case c8 => k_is)
    (case k8 => k_is)
    (case a9 => k_is)
    (case l9 => k_is)
    (case c9 => k_is)
    (case k9 => k_is)
    (case a10 => k_is)
    (case l10 => k_is)
    (case c10 => k_is)
    (case k10 => k_is)
    (case a11 => k_is)
    (case l11 => k_is)
    (case c11 => k_is)
    (case k11 => k_is)
    (case a12 => k_is)
    (case l12 => k_is)
    (case c12 => k_is)
    (case k12 => k_is)
    (case a13 => k_is)
    (case l13 => k_is)
    (case c13 => k_is)
    (case k13 => k_is)
    (case a14 => k_is)
    (case l14 => k_is)
    (case c14 => k_is)
    (case k14 => k_is)
    (case a15 => k_is)
    (case l15 => k_is)
    (case c15 => k_is)
    (case k15 => k_is)
    (case a16 => k_is)
    (case l16 => k_is)
    (case c16 => k_is)
    (case k16 => k_is)
    (case a17 => k_is)
    (case l17 => k_is)
    (case c17 => k_is)
    (case k17 => k_is)
    (case a18 => k_is)
    (case l18 => k_is)
    (case c18 => k_is)
    (case k18 => k_is)
    (case a19 => k_is)
    (case l19 => k_is)
    (case c19 => k_is)
    (case k19 => k_is)
    (case a20 => k_is)
    (case l20 => k_is)
    (case c20 => k_is)
    (case k20 => k_is)
    (case a21 => k_is)
    (case l21 => k_is)
    (case c21 => k_is)
    (case k21 => k_is)
    (case a22 => k_is)
    (case l22 => k_is)
    (case c22 => k_is)
    (case k22 => k_is)
    (case a23 => k_is)
    (case l23 => k_is)
    (case c23 => k_is)
    (case k23 => k_is)
    (case a24 => k_is)
    (case l24 => k_is)
    (case c24 => k_is)
    (case k24 => k_is)
    (case lT => k_is)
    (case a25 => k_is)
    (case i25 => k_is)
    (case l25 => k_is)
    (case c25 => k_is)
    (case k25 => k_is)
    (case a26 => k_is)
    (case i26 => k_is)
    (case l26 => k_is)
    (case c26 => k_is)
    (case k26 => k_is)
    (case a27 => k_is)
    (case i27 => k_is)
    (case l27 => k_is)
    (case c27 => k_is)
    (case k27 => k_is)
    (case a28 => k_is)
    (case r28 => k_is)
    (case l28 => k_is)
    (case c28 => k_is)
    (case k28 => k_is)
    (case aF => k_is)
    (case rdF => k_is)
    (case gaF => k_is)
    (case vF => k_is)
    (case iF => k_is)
    (case yF => k_is)
    (case aaI => k_is)
    (case a29 => k_is)
    (case tII => k_is)
    (case l29 => k_is)
    (case c29 => k_is)
    (case k29 => k_is)
    (case lEI => k_is)
    (case vEI => decide +kernel)
    (case sEI => k_is)
    (case eEI => k_is)
    (case yEI => k_is)
    (case kEI => k_is)
    (case iEI => k_is)
    (case xgI => k_is)
    (case xhI => k_is)
    (case hEI => k_is)
    (case ssI => k_is)
    (case sfI => k_is)
    (case svI => k_is)
    (case nI_what => k_is)
    (case nI_house => k_is)
    (case aaV => k_is)
    (case a30 => k_is)
    (case tIV => k_is)
    (case l30 => k_is)
    (case c30 => k_is)
    (case k30 => k_is)
    (case lEV => k_is)
    (case vEV => decide +kernel)
    (case sEV => k_is)
    (case eEV => k_is)
    (case yEV => k_is)
    (case kEV => k_is)
    (case iEV => k_is)
    (case xgV => k_is)
    (case xhV => k_is)
    (case hEV => k_is)
    (case ssV => k_is)
    (case sfV => k_is)
    (case svV => k_is)
    (case nV_what => k_is)
    (case nV_house => k_is)
    (case aaL => k_is)
    (case a31 => k_is)
    (case tIL => k_is)
    (case l31 => k_is)
    (case c31 => k_is)
    (case k31 => k_is)
    (case lEL => k_is)
    (case vEL => decide +kernel)
    (case sEL => k_is)
    (case eEL => k_is)
    (case yEL => k_is)
    (case kEL => k_is)
    (case iEL => k_is)
    (case xgL => k_is)
    (case xhL => k_is)
    (case hEL => k_is)
    (case ssL => k_is)
    (case sfL => k_is)
    (case svL => k_is)
    (case nL_what => k_is)
    (case aaB => k_is)
    (case a32 => k_is)
    (case tIB => k_is)
    (case l32 => k_is)
    (case c32 => k_is)
    (case k32 => k_is)
    (case lEB => k_is)
    (case vEB => decide +kernel)
    (case sEB => k_is)
    (case eEB => k_is)
    (case yEB => k_is)
    (case kEB => k_is)
    (case iEB => k_is)
    (case xgB => k_is)
    (case xhB => k_is)
    (case hEB => k_is)
    (case ssB => k_is)
    (case sfB => k_is)
    (case svB => k_is)
    (case aaE => k_is)
    (case a33 => k_is)
    (case tIE => k_is)
    (case l33 => k_is)
    (case c33 => k_is)
    (case k33 => k_is)
    (case lEE => k_is)
    (case vEE => decide +kernel)
    (case sEE => k_is)
    (case eEE => k_is)
    (case yEE => k_is)
    (case kEE => k_is)
    (case iEE => k_is)
    (case xgE => k_is)
    (case xhE => k_is)
    (case hEE => k_is)
    (case ssE => k_is)
    (case sfE => k_is)
    (case svE => k_is)
    (case nE_what => k_is)
    (case nE_at => k_is)
    (case apart => k_is)
    (case z_isinstance => k_is)
    (case z_list => k_is)
    (case z_tuple => k_is)
    (case z_bool => k_is)
    (case z_int => k_is)
    (case z_str => k_is)
    (case z_all => k_is)
    (case z_any => k_is)
    (case z_range => k_is)
    (case z_sorted => k_is)
    (case z_set => k_is)
    (case z_max => k_is)
    (case z_len => k_is)
    (case z_min => k_is)
    (case z_repr => k_is)
    (case z_VE => k_is)
    (case pg => k_is)
    (case hd => k_is)
    (case po => k_is)
    (case sa => k_is)
    (case mk => k_is)
    (case kc => k_is)
    (case nN => k_is)
    (case nL => k_is)
    (case nF => k_is)
    (case rdC => k_is)
    (case gaC => k_is)
    (case ml => k_is)

