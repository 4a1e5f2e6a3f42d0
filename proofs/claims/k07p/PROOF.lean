import PyProof.Rows.All
import Wide.All
import OpenK.AllK
import Wide.FinOn
import HandS.ForMost
import HandS.Base
import HandS.Call
import HandS.List
import HandS.Comp
import HandS.Ends
import HandS.Evl
import HandS.Words
import HandS.IsInst
import HandS.Deep
import HandS.Conv
import HandS.Flow
import HandS.Star
import HandS.TupAny
import HandS.SetFor
import HandS.SortKw
import HandS.Strs
import KE.DataMinMax
import KE.SortData
import HandS.Dict
import HandS.DictComp
import KE.SortCalls
import HandS.ClsMeth
import HandS.Property
import HandS.Style
import HandS.ExcInit
import HandS.ExcField
import HandS.ExcIs
import PyProof.ReprRoads
import PyProof.ReprReads
import HandS.ExcOwn
import KE.KIsAll
import KE.KMatchCls
import HandS.Small
import PyProof.Rows.TupMore
import HandS.WordsList
import HandS.Exc
import HandS.WordsExc
import HandS.Defaults
import PySem.Challenge.RW_firmvalues_k07_whole_firm_by_all_lots
set_option Elab.async false
set_option linter.all false
set_option maxRecDepth 100000
set_option maxHeartbeats 4000000
/-! fv: what an expression evaluates to, over a part of the heap that stays -/
namespace Fv
open PySem L2 Evl

/-! ### data in the heap: lists stand in the heap itself, tuples are read -/
mutual
inductive Rp (K : PySem.W.Frag) (H : Hp) : V → PyData → Prop
  | non : Rp K H .non .none
  | bl (b : Bool) : Rp K H (.bl b) (.bool b)
  | int (i : Int) : Rp K H (.int i) (.int i)
  | str (x : Str) : Rp K H (.str x) (.str x)
  | lst {a : Addr} {xs : List V} {ds : List PyData} : H a = some (.lst xs) → RpAll K H xs ds → Rp K H (.ref a) (.list ds)
  | tup {a : Addr} {xs : List V} {ds : List PyData} : H a = some (.tup xs) → RpAll K H xs ds → Rp K H (.ref a) (.tuple ds)
inductive RpAll (K : PySem.W.Frag) (H : Hp) : List V → List PyData → Prop
  | nil : RpAll K H [] []
  | cons {v : V} {vs : List V} {d : PyData} {ds : List PyData} : Rp K H v d → RpAll K H vs ds → RpAll K H (v :: vs) (d :: ds)
end
section
variable {K : PySem.W.Frag} {H H' : Hp}
mutual
theorem Rp.mono (e : Ex H H') : ∀ (d : PyData) (v : V), Rp K H v d → Rp K H' v d
  | .none, _, h => by cases h; exact .non
  | .bool b, _, h => by cases h; exact .bl b
  | .int i, _, h => by cases h; exact .int i
  | .str x, _, h => by cases h; exact .str x
  | .list ds, _, h => by
    cases h with
    | lst hs ha => exact .lst (e _ _ hs) (RpAll.mono e ds _ ha)
  | .tuple ds, _, h => by
    cases h with
    | tup hs ha => exact .tup (e _ _ hs) (RpAll.mono e ds _ ha)
  | .dict _, _, h => by cases h
theorem RpAll.mono (e : Ex H H') : ∀ (ds : List PyData) (vs : List V), RpAll K H vs ds → RpAll K H' vs ds
  | [], _, h => by cases h; exact .nil
  | d :: ds, _, h => by
    cases h with
    | cons h1 h2 => exact .cons (Rp.mono e d _ h1) (RpAll.mono e ds _ h2)
end
mutual
theorem Rp.dp : ∀ (d : PyData) (v : V), Rp K H v d → Dp K H v d
  | .none, _, h => by cases h; exact .non
  | .bool b, _, h => by cases h; exact .bl b
  | .int i, _, h => by cases h; exact .int i
  | .str x, _, h => by cases h; exact .str x
  | .list ds, _, h => by
    cases h with
    | lst hs ha => exact .lst (.inl (.inl hs)) (RpAll.dp ds _ ha)
  | .tuple ds, _, h => by
    cases h with
    | tup hs ha => exact .tup (st_of hs) (RpAll.dp ds _ ha)
  | .dict _, _, h => by cases h
theorem RpAll.dp : ∀ (ds : List PyData) (vs : List V), RpAll K H vs ds → DpAll K H vs ds
  | [], _, h => by cases h; exact .nil
  | d :: ds, _, h => by
    cases h with
    | cons h1 h2 => exact .cons (Rp.dp d _ h1) (RpAll.dp ds _ h2)
end
theorem RpAll.length : ∀ {ds : List PyData} {vs : List V}, RpAll K H vs ds → vs.length = ds.length
  | [], _, h => by cases h; rfl
  | d :: ds, _, h => by
    cases h with
    | cons h1 h2 => simp [RpAll.length h2]
theorem RpAll.append : ∀ {ds es : List PyData} {vs ws : List V}, RpAll K H vs ds → RpAll K H ws es → RpAll K H (vs ++ ws) (ds ++ es)
  | [], _, _, _, h, k => by cases h; exact k
  | d :: ds, _, _, _, h, k => by
    cases h with
    | cons h1 h2 => exact .cons h1 (RpAll.append h2 k)
theorem RpAll.get : ∀ {ds : List PyData} {vs : List V} {i : Nat} {v : V}, RpAll K H vs ds → vs[i]? = some v → ∃ d, ds[i]? = some d ∧ Rp K H v d
  | [], _, _, _, h, e => by cases h; simp at e
  | d :: ds, _, 0, _, h, e => by
    cases h with
    | cons h1 h2 => simp at e; subst e; exact ⟨d, rfl, h1⟩
  | d :: ds, _, i + 1, _, h, e => by
    cases h with
    | cons h1 h2 =>
      obtain ⟨d', e1, r⟩ := RpAll.get h2 (by simpa using e)
      exact ⟨d', by simpa using e1, r⟩
theorem RpAll.getD : ∀ {ds : List PyData} {vs : List V} {i : Nat} {d : PyData}, RpAll K H vs ds → ds[i]? = some d → ∃ v, vs[i]? = some v ∧ Rp K H v d
  | [], _, _, _, h, e => by simp at e
  | d :: ds, _, 0, _, h, e => by
    cases h with
    | cons h1 h2 => simp at e; subst e; exact ⟨_, rfl, h1⟩
  | d :: ds, _, i + 1, _, h, e => by
    cases h with
    | cons h1 h2 =>
      obtain ⟨v, e1, r⟩ := RpAll.getD h2 (by simpa using e)
      exact ⟨v, by simpa using e1, r⟩
theorem RpAll.one {v : V} {d : PyData} (h : Rp K H v d) : RpAll K H [v] [d] := .cons h .nil
theorem rp_int {v : V} {i : Int} (h : Rp K H v (.int i)) : v = .int i := by cases h; rfl
theorem rp_bool {v : V} {b : Bool} (h : Rp K H v (.bool b)) : v = .bl b := by cases h; rfl
theorem rp_none {v : V} (h : Rp K H v .none) : v = .non := by cases h; rfl
theorem rp_str {v : V} {x : Str} (h : Rp K H v (.str x)) : v = .str x := by cases h; rfl
theorem rp_tup {v : V} {ds : List PyData} (h : Rp K H v (.tuple ds)) : ∃ a xs, v = .ref a ∧ H a = some (.tup xs) ∧ RpAll K H xs ds := by
  cases h with
  | tup hs ha => exact ⟨_, _, rfl, hs, ha⟩
theorem rp_lst {v : V} {ds : List PyData} (h : Rp K H v (.list ds)) : ∃ a xs, v = .ref a ∧ H a = some (.lst xs) ∧ RpAll K H xs ds := by
  cases h with
  | lst hs ha => exact ⟨_, _, rfl, hs, ha⟩
theorem rpAll_ints : ∀ {ns : List Int} {vs : List V}, RpAll K H vs (ns.map PyData.int) → vs = ns.map V.int
  | [], _, h => by cases h; rfl
  | n :: ns, _, h => by
    cases h with
    | cons h1 h2 => rw [rp_int h1, rpAll_ints h2]; rfl
theorem rpAll_of_ints : ∀ (ns : List Int), RpAll K H (ns.map V.int) (ns.map PyData.int)
  | [] => .nil
  | n :: ns => .cons (.int n) (rpAll_of_ints ns)
theorem rpAll_bools : ∀ {bs : List Bool} {vs : List V}, RpAll K H vs (bs.map PyData.bool) → vs = bs.map V.bl
  | [], _, h => by cases h; rfl
  | b :: bs, _, h => by
    cases h with
    | cons h1 h2 => rw [rp_bool h1, rpAll_bools h2]; rfl
end

theorem tx {K : PySem.W.Frag} {H H' : Hp} {a : Addr} {xs : List V} (e : Ex H H') (h : H a = some (.tup xs)) : SqT K H' a xs := st_of (e _ _ h)
/-! ### the part that stays, and what may change -/
/-- what F2 has more than F was not there before -/
def New (F H F2 : Hp) : Prop := ∀ a, F a = none → H a ≠ none → F2 a = none
/-- the law's pot: three numbers and a list of numbers, which stays -/
structure Pt where
  p : Addr
  l : Addr
  ns : List Int
structure PotAt (H : Hp) (q : Pt) : Prop where
  ne : q.l ≠ q.p
  ls : H q.l = some (.lst (q.ns.map V.int))
  few : q.ns.length ≤ 60
  ex : ∃ (a b c : Int), H q.p = some (.lst [.int a, .int b, .int c, .ref q.l]) ∧ 0 ≤ a ∧ 0 ≤ b ∧ b < 2147483647 ∧ 0 ≤ c ∧ c ≤ q.ns.length
def Keep (pt : Option Pt) (H H' : Hp) : Prop := ∀ a o, (∀ q, pt = some q → a ≠ q.p) → H a = some o → H' a = some o
def Good (pt : Option Pt) (F H : Hp) : Prop := ∀ q, pt = some q → F q.p = none ∧ PotAt H q
theorem PotAt.some {H : Hp} {q : Pt} (h : PotAt H q) : H q.p ≠ none := by
  obtain ⟨a, b, c, e, _⟩ := h.ex
  rw [e]; simp
theorem Keep.refl (pt : Option Pt) (H : Hp) : Keep pt H H := fun _ _ _ h => h
theorem Keep.trans {pt : Option Pt} {H H1 H2 : Hp} (a : Keep pt H H1) (b : Keep pt H1 H2) : Keep pt H H2 := fun x o n h => b x o n (a x o n h)
theorem Keep.of {pt : Option Pt} {H H1 : Hp} (a : Ex H H1) : Keep pt H H1 := fun x o _ h => a x o h
theorem Keep.ex {H H1 : Hp} (a : Keep none H H1) : Ex H H1 := fun x o h => a x o (fun _ z => by cases z) h
theorem Good.nil {F H : Hp} : Good none F H := fun _ h => by cases h
theorem PotAt.mono {H H' : Hp} {q : Pt} (h : PotAt H q) (e : Ex H H') : PotAt H' q := by
  obtain ⟨a, b, c, h1, r⟩ := h.ex
  exact ⟨h.ne, e _ _ h.ls, h.few, a, b, c, e _ _ h1, r⟩
theorem Good.less {pt : Option Pt} {F F' H : Hp} (g : Good pt F' H) (e : Ex F F') : Good pt F H := fun p hp => by
  refine ⟨?_, (g p hp).2⟩
  cases w : F p.p with
  | none => rfl
  | some o =>
    have h := (g p hp).1
    rw [e p.p o w] at h
    cases h
/-- what F knows stays where only the pot changes -/
theorem Keep.sub {pt : Option Pt} {F H H1 : Hp} (k : Keep pt H H1) (g : Good pt F H) (e : Ex F H) : Ex F H1 := fun a o h => by
  refine k a o (fun q z w => ?_) (e a o h)
  have := (g q z).1
  rw [← w, h] at this
  cases this
theorem New.refl (F H : Hp) : New F H F := fun _ h _ => h
/-- there before -/
theorem Keep.there {pt : Option Pt} {H H1 : Hp} (k : Keep pt H H1) {F F1 : Hp} (g : Good pt F1 H1) {a : Addr} (h : H a ≠ none) : H1 a ≠ none := by
  cases e : H a with
  | none => exact absurd e h
  | some o =>
    by_cases z : ∃ q, pt = some q ∧ a = q.p
    · obtain ⟨q, z1, z2⟩ := z
      rw [z2]; exact (g q z1).2.some
    · rw [k a o (fun q w1 w2 => z ⟨q, w1, w2⟩) e]; simp
/-- what a piece leaves: F grew to F2, H became H2 -/
structure Step (pt : Option Pt) (F H F2 H2 : Hp) : Prop where
  sub : Ex F F2
  inn : Ex F2 H2
  keep : Keep pt H H2
  good : Good pt F2 H2
  new : New F H F2
theorem Step.refl {pt : Option Pt} {F H : Hp} (e : Ex F H) (g : Good pt F H) : Step pt F H F H := ⟨Ex.refl F, e, Keep.refl pt H, g, New.refl F H⟩
theorem Step.trans {pt : Option Pt} {F H F1 H1 F2 H2 : Hp} (a : Step pt F H F1 H1) (b : Step pt F1 H1 F2 H2) : Step pt F H F2 H2 :=
  ⟨a.sub.trans b.sub, b.inn, a.keep.trans b.keep, b.good, fun x h1 h2 => b.new x (a.new x h1 h2) (a.keep.there (F := F) a.good h2)⟩
/-- two parts together -/
def join (F G : Hp) : Hp := fun a => match F a with | some o => some o | none => G a
theorem join_l {F G : Hp} : Ex F (join F G) := fun a o h => by unfold join; rw [h]
theorem join_r {F G H : Hp} (f : Ex F H) (g : Ex G H) : Ex G (join F G) := fun a o h => by
  unfold join
  cases e : F a with
  | none => exact h
  | some u =>
    have h1 := f a u e
    rw [g a o h] at h1
    exact h1.symm
theorem join_in {F G H : Hp} (f : Ex F H) (g : Ex G H) : Ex (join F G) H := fun a o h => by
  unfold join at h
  cases e : F a with
  | none =>
    rw [e] at h
    exact g a o h
  | some u =>
    rw [e] at h
    have z := f a u e
    rw [z]
    exact h
theorem join_none {F G : Hp} {a : Addr} (f : F a = none) (g : G a = none) : join F G a = none := by unfold join; rw [f]; exact g
/-- the same piece seen from a greater part -/
theorem Step.wide {pt : Option Pt} {F F' H F2 H2 : Hp} (e : Ex F F') (e' : Ex F' H) (g : Good pt F' H) (s : Step pt F H F2 H2) : Step pt F' H (join F2 F') H2 := by
  have k : Ex F' H2 := s.keep.sub g e'
  refine ⟨join_r s.inn k, join_in s.inn k, s.keep, fun p hp => ⟨join_none (s.good p hp).1 (g p hp).1, (s.good p hp).2⟩, fun a h1 h2 => join_none (s.new a ?_ h2) h1⟩
  cases q : F a with
  | none => rfl
  | some o => rw [e a o q] at h1; cases h1
/-- a piece that changes nothing, where a pot stands -/
theorem Step.lift {pt : Option Pt} {F H F2 H2 : Hp} (g : Good pt F H) (s : Step none F H F2 H2) : Step pt F H F2 H2 :=
  ⟨s.sub, s.inn, Keep.of s.keep.ex, fun p hp => ⟨s.new p.p (g p hp).1 (g p hp).2.some, (g p hp).2.mono s.keep.ex⟩, s.new⟩
/-- a new object is laid and stays -/
theorem Step.laid {pt : Option Pt} {F H : Hp} {p : Addr} {o : HO} (e : Ex F H) (g : Good pt F H) (hp : H p = none) : Step pt F H (upd F p o) (upd H p o) := by
  have fp : F p = none := by
    cases q : F p with
    | none => rfl
    | some u => rw [e p u q] at hp; cases hp
  refine ⟨Ex.new fp, fun a u h => ?_, Keep.of (Ex.new hp), fun x hx => ?_, fun a h1 h2 => ?_⟩
  · by_cases z : a = p
    · rw [z, upd_same] at h ⊢; exact h
    · rw [upd_ne z] at h ⊢; exact e a _ h
  · obtain ⟨q1, q2⟩ := g x hx
    have hxp : x.p ≠ p := fun z => q2.some (by rw [z]; exact hp)
    exact ⟨by rw [upd_ne hxp]; exact q1, q2.mono (Ex.new hp)⟩
  · have z : a ≠ p := fun z => h2 (by rw [z]; exact hp)
    rw [upd_ne z]; exact h1

/-! ### what evaluates to what -/
abbrev PD := PyData → Prop
def EvG (K : PySem.W.Frag) (pt : Option Pt) (te : TE) (σ : L2.St) (F : Hp) (R : PD) : Prop :=
  ∀ H1, Ex F H1 → Good pt F H1 → ∀ Q : VK, (∀ d v F2 H2, R d → Step pt F H1 F2 H2 → Rp K F2 v d → Q v H2) → te σ H1 Q
def EvsG (K : PySem.W.Frag) (pt : Option Pt) (ta : TA) (σ : L2.St) (F : Hp) (R : List PyData → Prop) : Prop :=
  ∀ H1, Ex F H1 → Good pt F H1 → ∀ Q : List V → Hp → Prop, (∀ ds vs F2 H2, R ds → Step pt F H1 F2 H2 → RpAll K F2 vs ds → Q vs H2) → ta σ H1 Q
def EtG (pt : Option Pt) (tt : TT) (σ : L2.St) (F : Hp) (R : Bool → Prop) : Prop :=
  ∀ H1, Ex F H1 → Good pt F H1 → ∀ Q : Bool → Hp → Prop, (∀ b F2 H2, R b → Step pt F H1 F2 H2 → Q b H2) → tt σ H1 Q
/-- operations on values -/
def RvG (K : PySem.W.Frag) (r : L2.R2) (d e : PyData) (R : PD) : Prop := ∀ F H x y, Ex F H → Rp K F x d → Rp K F y e → ∀ Q : VK, (∀ z v F2 H2, R z → Step none F H F2 H2 → Rp K F2 v z → Q v H2) → r x y H Q
def RcG (K : PySem.W.Frag) (r : List V → Hp → VK → Prop) (ds : List PyData) (R : PD) : Prop := ∀ F H vs, Ex F H → RpAll K F vs ds → ∀ Q : VK, (∀ z v F2 H2, R z → Step none F H F2 H2 → Rp K F2 v z → Q v H2) → r vs H Q
/-- the same d -/
abbrev Is (d : PyData) : PD := fun x => x = d
section
variable {K : PySem.W.Frag} {pt : Option Pt} {σ : L2.St} {F F' : Hp} {te ta tb : TE} {ts tr : TA} {t u : TT} {R R1 S2 R3 : PD} {d e z : PyData} {r : L2.R2}
theorem EvG.mono (h : EvG K pt te σ F R) (e : Ex F F') : EvG K pt te σ F' R := fun H1 i g Q q =>
  h H1 (e.trans i) (g.less e) Q fun d v F2 H2 hr s hv => q d v _ H2 hr (s.wide e i g) (Rp.mono join_l _ _ hv)
theorem EvG.lift (h : EvG K none te σ F R) : EvG K pt te σ F R := fun H1 i g Q q => h H1 i .nil Q fun d v F2 H2 hr s hv => q d v F2 H2 hr (s.lift g) hv
theorem EvG.imp (h : EvG K pt te σ F R) (k : ∀ d, R d → R1 d) : EvG K pt te σ F R1 := fun H1 i g Q q => h H1 i g Q fun d v F2 H2 hr s hv => q d v F2 H2 (k d hr) s hv
theorem EvG.is (h : EvG K pt te σ F (Is d)) (k : d = e) : EvG K pt te σ F (Is e) := k ▸ h
theorem EtG.mono {R : Bool → Prop} (h : EtG pt t σ F R) (e : Ex F F') : EtG pt t σ F' R := fun H1 i g Q q =>
  h H1 (e.trans i) (g.less e) Q fun b F2 H2 hr s => q b _ H2 hr (s.wide e i g)
theorem EtG.lift {R : Bool → Prop} (h : EtG none t σ F R) : EtG pt t σ F R := fun H1 i g Q q => h H1 i .nil Q fun b F2 H2 hr s => q b F2 H2 hr (s.lift g)
theorem EtG.is {b c : Bool} (h : EtG pt t σ F (· = b)) (k : b = c) : EtG pt t σ F (· = c) := k ▸ h
theorem EvsG.mono {R : List PyData → Prop} (h : EvsG K pt ts σ F R) (e : Ex F F') : EvsG K pt ts σ F' R := fun H1 i g Q q =>
  h H1 (e.trans i) (g.less e) Q fun d v F2 H2 hr s hv => q d v _ H2 hr (s.wide e i g) (RpAll.mono join_l _ _ hv)

theorem g_var {i : Nat} {v : V} (h : σ[i]? = some (some v)) (hr : Rp K F v d) : EvG K pt (tVar i) σ F (Is d) := fun H1 e g Q q => ⟨v, h, q d v F H1 rfl (.refl e g) hr⟩
theorem g_int {i : Int} : EvG K pt (tC (.int i)) σ F (Is (.int i)) := fun H1 e g Q q => q _ _ F H1 rfl (.refl e g) (.int i)
theorem g_bl {b : Bool} : EvG K pt (tC (.bl b)) σ F (Is (.bool b)) := fun H1 e g Q q => q _ _ F H1 rfl (.refl e g) (.bl b)
theorem g_non : EvG K pt (tC .non) σ F (Is .none) := fun H1 e g Q q => q _ _ F H1 rfl (.refl e g) .non
theorem g_str {x : Str} : EvG K pt (tC (.str x)) σ F (Is (.str x)) := fun H1 e g Q q => q _ _ F H1 rfl (.refl e g) (.str x)
/-- two parts, one after the other; the second may know the first's value -/
theorem g_op (ha : EvG K pt ta σ F R1) (hb : EvG K pt tb σ F S2) (hr : ∀ d e, R1 d → S2 e → RvG K r d e R3) : EvG K pt (tOp r ta tb) σ F R3 := fun H1 i g Q q =>
  ha H1 i g _ fun d v F2 H2 hd s hv => hb.mono s.sub H2 s.inn s.good _ fun e w F3 H3 he s3 hw =>
    hr d e hd he F3 H3 v w s3.inn (Rp.mono s3.sub _ _ hv) hw Q fun z x F4 H4 hz s4 hx => q z x F4 H4 hz ((s.trans s3).trans (s4.lift s3.good)) hx
theorem gs_nil : EvsG K pt tNil σ F (· = []) := fun H1 i g Q q => q [] [] F H1 rfl (.refl i g) .nil
theorem gs_cons {R2 : List PyData → Prop} (ha : EvG K pt ta σ F R1) (hb : EvsG K pt tr σ F R2) : EvsG K pt (tCons ta tr) σ F (fun l => ∃ d ds, l = d :: ds ∧ R1 d ∧ R2 ds) := fun H1 i g Q q =>
  ha H1 i g _ fun d v F2 H2 hd s hv => hb.mono s.sub H2 s.inn s.good _ fun ds vs F3 H3 hds s3 hvs => q (d :: ds) (v :: vs) F3 H3 ⟨d, ds, rfl, hd, hds⟩ (s.trans s3) (.cons (Rp.mono s3.sub _ _ hv) hvs)
theorem gs_consI {ds : List PyData} (ha : EvG K pt ta σ F (Is d)) (hb : EvsG K pt tr σ F (· = ds)) : EvsG K pt (tCons ta tr) σ F (· = d :: ds) := fun H1 i g Q q =>
  gs_cons ha hb H1 i g Q fun l vs F2 H2 h s hv => by
    obtain ⟨d', ds', e, h1, h2⟩ := h
    exact q l vs F2 H2 (by rw [e, h1, h2]) s hv
theorem g_tup {R : List PyData → Prop} (h : EvsG K pt ts σ F R) (hz : ∀ ds, R ds → ds.length ≤ 100000) : EvG K pt (tTup ts) σ F (fun x => ∃ ds, x = .tuple ds ∧ R ds) := fun H1 i g Q q =>
  h H1 i g _ fun ds vs F2 H2 hd s hv => ⟨by rw [hv.length]; exact sz_of (hz ds hd), fun p hp => by
    have s3 : Step pt F2 H2 (upd F2 p (.tup vs)) (upd H2 p (.tup vs)) := .laid s.inn s.good hp
    exact q (.tuple ds) _ _ _ ⟨ds, rfl, hd⟩ (s.trans s3) (.tup upd_same (RpAll.mono s3.sub _ _ hv))⟩
theorem g_lst {R : List PyData → Prop} (h : EvsG K pt ts σ F R) (hz : ∀ ds, R ds → ds.length ≤ 100000) : EvG K pt (tLst ts) σ F (fun x => ∃ ds, x = .list ds ∧ R ds) := fun H1 i g Q q =>
  h H1 i g _ fun ds vs F2 H2 hd s hv => ⟨by rw [hv.length]; exact sz_of (hz ds hd), fun p hp => by
    have s3 : Step pt F2 H2 (upd F2 p (.lst vs)) (upd H2 p (.lst vs)) := .laid s.inn s.good hp
    exact q (.list ds) _ _ _ ⟨ds, rfl, hd⟩ (s.trans s3) (.lst upd_same (RpAll.mono s3.sub _ _ hv))⟩
theorem g_tupI {ds : List PyData} (h : EvsG K pt ts σ F (· = ds)) (hz : ds.length ≤ 100000) : EvG K pt (tTup ts) σ F (Is (.tuple ds)) := (g_tup h fun _ e => by rw [e]; exact hz).imp fun _ ⟨_, e, e2⟩ => by rw [e, e2]
theorem g_lstI {ds : List PyData} (h : EvsG K pt ts σ F (· = ds)) (hz : ds.length ≤ 100000) : EvG K pt (tLst ts) σ F (Is (.list ds)) := (g_lst h fun _ e => by rw [e]; exact hz).imp fun _ ⟨_, e, e2⟩ => by rw [e, e2]
/-- tests -/
theorem et_of {b : Bool} (h : EvG K pt te σ F (Is (.bool b))) : EtG pt (tTest te) σ F (· = b) := fun H1 i g Q q => h H1 i g _ fun d v F2 H2 hd s hv => by
  subst hd
  exact ⟨b, rp_bool hv, q b F2 H2 rfl s⟩
theorem et_B {b : Bool} (h : EvG K pt te σ F (Is (.bool b))) : EtG pt (tB te) σ F (· = b) := fun H1 i g Q q => h H1 i g _ fun d v F2 H2 hd s hv => by
  subst hd
  exact ⟨b, rp_bool hv, q b F2 H2 rfl s⟩
theorem et_yes : EtG pt tYes σ F (· = true) := fun H1 i g Q q => q true F H1 rfl (.refl i g)
theorem et_not {b : Bool} (h : EtG pt t σ F (· = b)) : EtG pt (tNot t) σ F (· = !b) := fun H1 i g Q q => h H1 i g _ fun c F2 H2 hc s => by
  subst hc
  exact q _ F2 H2 rfl s
theorem et_and {a b : Bool} (h1 : EtG pt t σ F (· = a)) (h2 : a = true → EtG pt u σ F (· = b)) : EtG pt (tAnd t u) σ F (· = (a && b)) := fun H1 i g Q q => h1 H1 i g _ fun c F2 H2 hc s => by
  subst hc
  cases c with
  | true => exact (h2 rfl).mono s.sub H2 s.inn s.good Q fun b' F3 H3 hb s3 => q b' F3 H3 (by rw [hb]; rfl) (s.trans s3)
  | false => exact q false F2 H2 rfl s
theorem et_or {a b : Bool} (h1 : EtG pt t σ F (· = a)) (h2 : a = false → EtG pt u σ F (· = b)) : EtG pt (tOr t u) σ F (· = (a || b)) := fun H1 i g Q q => h1 H1 i g _ fun c F2 H2 hc s => by
  subst hc
  cases c with
  | false => exact (h2 rfl).mono s.sub H2 s.inn s.good Q fun b' F3 H3 hb s3 => q b' F3 H3 (by rw [hb]; rfl) (s.trans s3)
  | true => exact q true F2 H2 rfl s
theorem g_andV {a b : Bool} (h1 : EvG K pt ta σ F (Is (.bool a))) (h2 : a = true → EvG K pt tb σ F (Is (.bool b))) : EvG K pt (tAndV ta tb) σ F (Is (.bool (a && b))) := fun H1 i g Q q => h1 H1 i g _ fun d v F2 H2 hd s hv => by
  subst hd
  refine ⟨a, rp_bool hv, ?_⟩
  cases a with
  | true => exact (h2 rfl).mono s.sub H2 s.inn s.good Q fun d' v' F3 H3 hd' s3 hv' => q d' v' F3 H3 hd' (s.trans s3) hv'
  | false => exact q _ _ F2 H2 rfl s (.bl false)
theorem g_orV {a b : Bool} (h1 : EvG K pt ta σ F (Is (.bool a))) (h2 : a = false → EvG K pt tb σ F (Is (.bool b))) : EvG K pt (tOrV ta tb) σ F (Is (.bool (a || b))) := fun H1 i g Q q => h1 H1 i g _ fun d v F2 H2 hd s hv => by
  subst hd
  refine ⟨a, rp_bool hv, ?_⟩
  cases a with
  | false => exact (h2 rfl).mono s.sub H2 s.inn s.good Q fun d' v' F3 H3 hd' s3 hv' => q d' v' F3 H3 hd' (s.trans s3) hv'
  | true => exact q _ _ F2 H2 rfl s (.bl true)
theorem g_notV {a : Bool} (h : EvG K pt ta σ F (Is (.bool a))) : EvG K pt (tNotV ta) σ F (Is (.bool (!a))) := fun H1 i g Q q => h H1 i g _ fun d v F2 H2 hd s hv => by
  subst hd
  exact ⟨a, rp_bool hv, q _ _ F2 H2 rfl s (.bl _)⟩
theorem g_if {b : Bool} (h : EtG pt t σ F (· = b)) (h1 : b = true → EvG K pt ta σ F R) (h2 : b = false → EvG K pt tb σ F R) : EvG K pt (tIf t ta tb) σ F R := fun H1 i g Q q => h H1 i g _ fun c F2 H2 hc s => by
  subst hc
  cases c with
  | true => exact (h1 rfl).mono s.sub H2 s.inn s.good Q fun d' v' F3 H3 hd' s3 hv' => q d' v' F3 H3 hd' (s.trans s3) hv'
  | false => exact (h2 rfl).mono s.sub H2 s.inn s.good Q fun d' v' F3 H3 hd' s3 hv' => q d' v' F3 H3 hd' (s.trans s3) hv'
/-- a value from an operation that lays nothing -/
theorem rv_val (h : ∀ F H x y, Ex F H → Rp K F x d → Rp K F y e → ∃ v, (∀ Q : VK, Q v H → r x y H Q) ∧ Rp K F v z) : RvG K r d e (Is z) := fun F H x y i hx hy Q q => by
  obtain ⟨v, k, hv⟩ := h F H x y i hx hy
  exact k Q (q z v F H rfl (.refl i .nil) hv)
theorem rc_val {r : List V → Hp → VK → Prop} {ds : List PyData} (h : ∀ F H vs, Ex F H → RpAll K F vs ds → ∃ v, (∀ Q : VK, Q v H → r vs H Q) ∧ Rp K F v z) : RcG K r ds (Is z) := fun F H vs i hx Q q => by
  obtain ⟨v, k, hv⟩ := h F H vs i hx
  exact k Q (q z v F H rfl (.refl i .nil) hv)
theorem rv_I0 {g : Int → Int → V} {f : Int → Int → PyData} {i j : Int} (hg : ∀ F, Rp K F (g i j) (f i j)) : RvG K (rI0 g) (.int i) (.int j) (Is (f i j)) := rv_val fun F H x y _ hx hy => ⟨g i j, fun Q q => ⟨i, j, rp_int hx, rp_int hy, q⟩, hg F⟩
theorem rv_I {C : Int → Int → Prop} {g : Int → Int → V} {f : Int → Int → PyData} {i j : Int} (hc : C i j) (hg : ∀ F, Rp K F (g i j) (f i j)) : RvG K (rI C g) (.int i) (.int j) (Is (f i j)) := rv_val fun F H x y _ hx hy => ⟨g i j, fun Q q => ⟨i, j, rp_int hx, rp_int hy, hc, q⟩, hg F⟩
theorem rv_eqD (hd : SeqAt.shaped d = true) (he : SeqAt.shaped e = true) : RvG K (rEqD K) d e (Is (.bool (PyData.eqv d e))) := rv_val fun F H x y i hx hy => ⟨_, fun Q q => ⟨d, e, Rp.dp _ _ (Rp.mono i _ _ hx), Rp.dp _ _ (Rp.mono i _ _ hy), hd, he, q⟩, .bl _⟩
theorem rv_neD (hd : SeqAt.shaped d = true) (he : SeqAt.shaped e = true) : RvG K (rNeD K) d e (Is (.bool (!PyData.eqv d e))) := rv_val fun F H x y i hx hy => ⟨_, fun Q q => ⟨d, e, Rp.dp _ _ (Rp.mono i _ _ hx), Rp.dp _ _ (Rp.mono i _ _ hy), hd, he, q⟩, .bl _⟩
theorem g_cb {r : List V → Hp → VK → Prop} {R1 : List PyData → Prop} (h : EvsG K pt ts σ F R1) (hr : ∀ ds, R1 ds → RcG K r ds R) : EvG K pt (tCB r ts) σ F R := fun H1 i g Q q =>
  h H1 i g _ fun ds vs F2 H2 hd s hv => hr ds hd F2 H2 vs s.inn hv Q fun z v F3 H3 hz s3 hv' => q z v F3 H3 hz (s.trans (s3.lift s.good)) hv'
end
end Fv

namespace Fv
open PySem L2 Evl
/-! ### what is walked -/
structure Yields (K : PySem.W.Frag) (J : It) (F : Hp) (ds : List PyData) : Prop where
  go : ∀ i H, Ex F H → i < ds.length → J.go i H
  stop : ∀ H, Ex F H → J.stop ds.length H
  yld : ∀ i H x H', Ex F H → i < ds.length → J.yld i H x H' → H' = H ∧ ∃ d, ds[i]? = some d ∧ Rp K F x d
def WiG (K : PySem.W.Frag) (pt : Option Pt) (wi : TI) (σ : L2.St) (F : Hp) (R : List PyData → Prop) : Prop :=
  ∀ H1, Ex F H1 → Good pt F H1 → ∀ RR : It → Hp → Prop, (∀ ds J F2 H2, R ds → Step pt F H1 F2 H2 → Yields K J F2 ds → RR J H2) → wi σ H1 RR
section
variable {K : PySem.W.Frag} {pt : Option Pt} {σ : L2.St} {F F' : Hp} {te ta tb : TE} {ts tr : TA} {t u : TT} {R R1 S2 R3 : PD} {d e z : PyData} {r : L2.R2} {wi wi1 : TI}
theorem rd_inj {H : Hp} {a : Addr} {u v : HO} (h : H a = some u) (h' : H a = some v) : u = v := Option.some.inj (h.symm.trans h')
theorem w_listI {ds : List PyData} (h : EvG K pt te σ F (Is (.list ds))) : WiG K pt (iList K te) σ F (· = ds) := fun H1 i g RR q =>
  h H1 i g _ fun d v F2 H2 hd s hv => by
    subst hd
    obtain ⟨a, xs, rfl, hl, ha⟩ := rp_lst hv
    refine ⟨a, rfl, ⟨xs, sq_of (s.inn _ _ hl)⟩, q ds _ F2 H2 rfl s ⟨fun i H e hi => ?_, fun H e => ⟨xs, sq_of (e _ _ hl), Nat.le_of_eq ha.length⟩, fun i H x H' e hi y => ?_⟩⟩
    · have hi' : i < xs.length := by rw [ha.length]; exact hi
      exact ⟨xs, xs[i], sq_of (e _ _ hl), List.getElem?_eq_getElem hi'⟩
    · exact ⟨y.1, ha.get (y.2 xs (sq_of (e _ _ hl)))⟩
theorem w_tupI {ds : List PyData} (h : EvG K pt te σ F (Is (.tuple ds))) : WiG K pt (iTup K te) σ F (· = ds) := fun H1 i g RR q =>
  h H1 i g _ fun d v F2 H2 hd s hv => by
    subst hd
    obtain ⟨a, xs, rfl, hl, ha⟩ := rp_tup hv
    refine ⟨a, rfl, ⟨xs, tx s.inn hl⟩, q ds _ F2 H2 rfl s ⟨fun i H e hi => ?_, fun H e => ⟨xs, tx e hl, Nat.le_of_eq ha.length⟩, fun i H x H' e hi y => ?_⟩⟩
    · have hi' : i < xs.length := by rw [ha.length]; exact hi
      exact ⟨xs, xs[i], tx e hl, List.getElem?_eq_getElem hi'⟩
    · exact ⟨y.1, ha.get (y.2 xs (tx e hl))⟩
/-- the numbers lo, lo + 1, .. -/
def rng (lo : Int) (n : Nat) : List PyData := (List.range n).map fun (k : Nat) => PyData.int (lo + (k : Int))
theorem rng_len (lo : Int) (n : Nat) : (rng lo n).length = n := by unfold rng; simp
theorem rng_get {lo : Int} {n i : Nat} (h : i < n) : (rng lo n)[i]? = some (.int (lo + (i : Int))) := by unfold rng; rw [List.getElem?_map, List.getElem?_range h]; rfl
theorem y_rng (lo : Int) (n : Nat) (F : Hp) : Yields K (Itr lo n) F (rng lo n) := ⟨fun i H _ hi => by rw [rng_len] at hi; exact hi, fun H _ => by rw [rng_len]; exact Nat.le_refl _, fun i H x H' _ hi y => by
  rw [rng_len] at hi
  exact ⟨y.1, _, rng_get hi, by rw [y.2]; exact .int _⟩⟩
theorem w_rng1 {R0 : List PyData → Prop} (h : EvsG K pt ts σ F R0) (hn : ∀ ds, R0 ds → ∃ n : Int, ds = [.int n] ∧ -(2 ^ 62) ≤ n ∧ n < 2 ^ 62) : WiG K pt (iRng1 ts) σ F (fun l => ∃ n : Int, R0 [.int n] ∧ l = rng 0 n.toNat) := fun H1 i g RR q =>
  h H1 i g _ fun ds vs F2 H2 hd s hv => by
    obtain ⟨n, rfl, h1, h2⟩ := hn ds hd
    have e : vs = [.int n] := rpAll_ints (ns := [n]) hv
    subst e
    exact ⟨n, rfl, h1, h2, q _ _ F2 H2 ⟨n, hd, rfl⟩ s (y_rng 0 n.toNat F2)⟩
theorem w_rng1I {n : Int} (h : EvsG K pt ts σ F (· = [.int n])) (h1 : -(2 ^ 62) ≤ n) (h2 : n < 2 ^ 62) : WiG K pt (iRng1 ts) σ F (· = rng 0 n.toNat) := fun H1 i g RR q =>
  w_rng1 h (fun ds e => ⟨n, e, h1, h2⟩) H1 i g RR fun ds J F2 H2 hd s y => by
    obtain ⟨m, e1, e2⟩ := hd
    have : m = n := by injection e1 with e1; injection e1
    subst this
    exact q ds J F2 H2 e2 s y
theorem w_rng2I {a b : Int} (h : EvsG K pt ts σ F (· = [.int a, .int b])) (h1 : -(2 ^ 62) ≤ a) (h2 : a < 2 ^ 62) (h3 : -(2 ^ 62) ≤ b) (h4 : b < 2 ^ 62) : WiG K pt (iRng2 ts) σ F (· = rng a (b - a).toNat) := fun H1 i g RR q =>
  h H1 i g _ fun ds vs F2 H2 hd s hv => by
    subst hd
    have e : vs = [.int a, .int b] := rpAll_ints (ns := [a, b]) hv
    subst e
    exact ⟨a, b, rfl, ⟨h1, h2, h3, h4⟩, q _ _ F2 H2 rfl s (y_rng a _ F2)⟩

/-! ### comprehensions -/
/-- a list that grows at Dl beside the part that stays -/
def Grow (K : PySem.W.Frag) (pt : Option Pt) (F H1 : Hp) (Dl : Addr) (A : List PyData → Prop) (H' : Hp) : Prop :=
  ∃ F' l acc, Step pt F H1 F' H' ∧ F' Dl = none ∧ H' Dl = some (.lst acc) ∧ RpAll K F' acc l ∧ A l
theorem Good.upd {F H : Hp} {Dl : Addr} {o : HO} (g : Good pt F H) (h : ∀ q, pt = some q → Dl ≠ q.p ∧ Dl ≠ q.l) : Good pt F (upd H Dl o) := fun q hq => by
  obtain ⟨g1, g2⟩ := g q hq
  obtain ⟨a, b, c, e, r⟩ := g2.ex
  refine ⟨g1, g2.ne, ?_, g2.few, a, b, c, ?_, r⟩
  · rw [upd_ne (h q hq).2.symm]; exact g2.ls
  · rw [upd_ne (h q hq).1.symm]; exact e
theorem off_pot {F H : Hp} {Dl : Addr} (g : Good pt F H) (h : H Dl = none) : ∀ q, pt = some q → Dl ≠ q.p ∧ Dl ≠ q.l := fun q hq => by
  obtain ⟨_, g2⟩ := g q hq
  exact ⟨fun z => g2.some (by rw [← z]; exact h), fun z => by have := g2.ls; rw [← z, h] at this; cases this⟩
theorem Step.put {F H1 F' H' : Hp} {Dl : Addr} {o : HO} (s : Step pt F H1 F' H') (g : Good pt F H1) (h1 : H1 Dl = none) (f : F' Dl = none) : Step pt F H1 F' (upd H' Dl o) :=
  ⟨s.sub, fun a u h => by
    have : a ≠ Dl := fun z => by rw [z, f] at h; cases h
    rw [upd_ne this]; exact s.inn a u h, fun a u n h => by
    have : a ≠ Dl := fun z => by rw [z, h1] at h; cases h
    rw [upd_ne this]; exact s.keep a u n h, s.good.upd (off_pot g h1), s.new⟩
theorem Grow.start {F H1 : Hp} {Dl : Addr} {A : List PyData → Prop} (i : Ex F H1) (g : Good pt F H1) (h : H1 Dl = none) (a : A []) : Grow K pt F H1 Dl A (upd H1 Dl (.lst [])) := by
  have f : F Dl = none := by
    cases w : F Dl with
    | none => rfl
    | some o => rw [i _ _ w] at h; cases h
  exact ⟨F, [], [], (Step.refl i g).put g h f, f, upd_same, .nil, a⟩
/-- frozen at the end -/
theorem Grow.done {F H1 H' : Hp} {Dl : Addr} {A : List PyData → Prop} (g : Good pt F H1) (h : H1 Dl = none) (w : Grow K pt F H1 Dl A H') : ∃ F2 l, A l ∧ Step pt F H1 F2 H' ∧ Rp K F2 (.ref Dl) (.list l) := by
  obtain ⟨F', l, acc, s, f, e, r, a⟩ := w
  have e1 : Ex F' (upd F' Dl (.lst acc)) := Ex.new f
  refine ⟨upd F' Dl (.lst acc), l, a, ⟨s.sub.trans e1, fun b u hb => ?_, s.keep, fun q hq => ⟨?_, (s.good q hq).2⟩, fun b h1 h2 => ?_⟩, .lst upd_same (RpAll.mono e1 _ _ r)⟩
  · by_cases z : b = Dl
    · rw [z, upd_same] at hb; rw [z, e]; exact hb
    · rw [upd_ne z] at hb; exact s.inn b u hb
  · rw [upd_ne (off_pot g h q hq).1.symm]; exact (s.good q hq).1
  · have z : b ≠ Dl := fun z => h2 (by rw [z]; exact h)
    rw [upd_ne z]; exact s.new b h1 h2
theorem Grow.imp {F H1 H' : Hp} {Dl : Addr} {A B : List PyData → Prop} (w : Grow K pt F H1 Dl A H') (k : ∀ l, A l → B l) : Grow K pt F H1 Dl B H' := by
  obtain ⟨F', l, acc, s, f, e, r, a⟩ := w
  exact ⟨F', l, acc, s, f, e, r, k l a⟩
/-- a piece runs beside the list -/
theorem Step.beside {F H1 F' H' F2 H2 : Hp} {Dl : Addr} {acc : List V} (g : Good pt F H1) (h : H1 Dl = none) (f : F' Dl = none) (e : H' Dl = some (.lst acc)) (s : Step pt F' H' F2 H2) : F2 Dl = none ∧ H2 Dl = some (.lst acc) :=
  ⟨s.new Dl f (by rw [e]; simp), s.keep Dl _ (fun q hq => (off_pot g h q hq).1) e⟩
/-- one turn: the test, then the item -/
theorem Grow.turn {F H1 H' : Hp} {Dl : Addr} {A B : List PyData → Prop} {σ2 : L2.St} (g : Good pt F H1) (h : H1 Dl = none) (w : Grow K pt F H1 Dl A H') (hz : ∀ l, A l → l.length < 100000)
    (P : Bool → Prop) (ht : ∀ F', Ex F F' → EtG pt t σ2 F' P) (he : P true → ∀ F', Ex F F' → EvG K pt te σ2 F' R) (hy : P true → ∀ l d, A l → R d → B (l ++ [d])) (hn : P false → ∀ l, A l → B l) :
    t σ2 H' fun b H3 => if b = true then te σ2 H3 fun y H4 => ∃ acc, H4 Dl = some (.lst acc) ∧ acc.length < sizeLine ∧ Grow K pt F H1 Dl B (upd H4 Dl (.lst (acc ++ [y]))) else Grow K pt F H1 Dl B H3 := by
  obtain ⟨F', l, acc, s, f, e, r, a⟩ := w
  refine ht F' s.sub H' s.inn s.good _ fun b F2 H2 hb s2 => ?_
  obtain ⟨f2, e2⟩ := s2.beside g h f e
  cases b with
  | true =>
    show te σ2 H2 fun y H4 => ∃ acc, H4 Dl = some (.lst acc) ∧ acc.length < sizeLine ∧ Grow K pt F H1 Dl B (upd H4 Dl (.lst (acc ++ [y])))
    refine he hb F2 (s.sub.trans s2.sub) H2 s2.inn s2.good _ fun d v F3 H3 hd s3 hv => ?_
    obtain ⟨f3, e3⟩ := s3.beside g h f2 e2
    refine ⟨acc, e3, sz_lt (by rw [r.length]; exact hz l a), F3, l ++ [d], acc ++ [v], ((s.trans s2).trans s3).put g h f3, f3, upd_same, ?_, hy hb l d a hd⟩
    exact RpAll.append (RpAll.mono (s2.sub.trans s3.sub) _ _ r) (.one hv)
  | false =>
    show Grow K pt F H1 Dl B H2
    exact ⟨F2, l, acc, s.trans s2, f2, e2, RpAll.mono s2.sub _ _ r, hn hb l a⟩
/-- [e for x in .. if ..]: A tells the list made behind i turns -/
theorem g_lc {j : Nat} {vs : List Nat} {RS : List PyData → Prop} (A : List PyData → Nat → List PyData → Prop) (hw : WiG K pt wi σ F RS) (hz : ∀ ds, RS ds → ds.length ≤ 50000) (hwp : ∀ x, wipe ((wipe σ vs).set j (some x)) vs = wipe σ vs)
    (hA : ∀ ds i l, RS ds → A ds i l → l.length ≤ i) (h0 : ∀ ds, RS ds → A ds 0 [])
    (hs : ∀ ds i d, RS ds → ds[i]? = some d → ∃ (P : Bool → Prop) (Re : PD), (P true → ∀ l x, A ds i l → Re x → A ds (i + 1) (l ++ [x])) ∧ (P false → ∀ l, A ds i l → A ds (i + 1) l) ∧
      ∀ F', Ex F F' → ∀ x, Rp K F' x d → EtG pt t ((wipe σ vs).set j (some x)) F' P ∧ (P true → EvG K pt te ((wipe σ vs).set j (some x)) F' Re)) :
    EvG K pt (tLc wi (gName j) t te vs) σ F (fun x => ∃ ds l, x = .list l ∧ RS ds ∧ A ds ds.length l) := fun H0 i0 g0 Q q =>
  hw H0 i0 g0 _ fun ds J F1 H1 hds s1 Y => fun Dl hD => by
    have gi := s1.inn
    have gg := s1.good
    refine ⟨fun i m H => m = ds.length - i ∧ i ≤ ds.length ∧ Grow K pt F1 H1 Dl (A ds i) H, ⟨ds.length, by simp, Nat.zero_le _, .start gi gg hD (h0 ds hds)⟩, ?_⟩
    rintro i m H ⟨rfl, hi, w⟩
    obtain ⟨F', l, acc, s, f, e, r, a⟩ := id w
    have eH : Ex F1 H := s.sub.trans s.inn
    by_cases hlt : i < ds.length
    · refine .inr ⟨Y.go i H eH hlt, Grow K pt F1 H1 Dl (A ds (i + 1)), fun H' p' => ⟨ds.length - (i + 1), by omega, rfl, hlt, p'⟩, fun x H' y => ?_⟩
      obtain ⟨rfl, d, hd, hx⟩ := Y.yld i H x H' eH hlt y
      obtain ⟨P, Re, k1, k2, k3⟩ := hs ds i d hds hd
      refine ⟨hwp x, w.turn gg hD (fun l' a' => by have := hA ds i l' hds a'; have := hz ds hds; omega) P (fun F'' e'' => (k3 F'' (s1.sub.trans e'') x (Rp.mono e'' _ _ hx)).1) (fun hp F'' e'' => (k3 F'' (s1.sub.trans e'') x (Rp.mono e'' _ _ hx)).2 hp) (fun hp l' x' => k1 hp l' x') (fun hp l' => k2 hp l')⟩
    · have hE : i = ds.length := Nat.le_antisymm hi (Nat.le_of_not_lt hlt)
      subst hE
      refine .inl ⟨Y.stop H eH, ?_⟩
      obtain ⟨F2, l2, a2, s2, r2⟩ := w.done gg hD
      exact q _ _ F2 H ⟨ds, l2, rfl, hds, a2⟩ (s1.trans s2) r2
theorem take_succ {ds : List PyData} {i : Nat} {d : PyData} (h : ds[i]? = some d) : ds.take (i + 1) = ds.take i ++ [d] := by
  rw [List.take_add_one, h]; rfl
/-- the same where test and item are known -/
theorem g_lcI {j : Nat} {vs : List Nat} {ds : List PyData} (p : PyData → Bool) (f : PyData → PyData) (hw : WiG K pt wi σ F (· = ds)) (hz : ds.length ≤ 50000) (hwp : ∀ x, wipe ((wipe σ vs).set j (some x)) vs = wipe σ vs)
    (ht : ∀ d ∈ ds, ∀ F', Ex F F' → ∀ x, Rp K F' x d → EtG pt t ((wipe σ vs).set j (some x)) F' (· = p d))
    (he : ∀ d ∈ ds, p d = true → ∀ F', Ex F F' → ∀ x, Rp K F' x d → EvG K pt te ((wipe σ vs).set j (some x)) F' (Is (f d))) :
    EvG K pt (tLc wi (gName j) t te vs) σ F (Is (.list ((ds.filter p).map f))) := by
  refine (g_lc (RS := (· = ds)) (fun ds i l => l = ((ds.take i).filter p).map f) hw (fun _ e => e ▸ hz) hwp (fun ds i l _ a => ?_) (fun _ _ => by simp) (fun ds' i d e hd => ?_)).imp fun x hx => ?_
  · rw [a, List.length_map]
    exact Nat.le_trans (List.length_filter_le _ _) (by rw [List.length_take]; exact Nat.min_le_left _ _)
  · subst e
    have hm : d ∈ ds' := List.mem_of_getElem? hd
    refine ⟨(· = p d), Is (f d), fun hp l x a ex => ?_, fun hp l a => ?_, fun F' e x hx => ⟨ht d hm F' e x hx, fun hp => he d hm hp.symm F' e x hx⟩⟩
    · rw [take_succ hd, List.filter_append, List.map_append, a, ex]
      simp [hp.symm]
    · rw [take_succ hd, List.filter_append, List.map_append, a]
      simp [hp.symm]
  · obtain ⟨ds', l, e1, e2, e3⟩ := hx
    subst e2
    rw [List.take_length] at e3
    show x = _
    rw [e1, e3]
/-- .. without a test -/
theorem g_lcM {j : Nat} {vs : List Nat} {ds : List PyData} (f : PyData → PyData) (hw : WiG K pt wi σ F (· = ds)) (hz : ds.length ≤ 50000) (hwp : ∀ x, wipe ((wipe σ vs).set j (some x)) vs = wipe σ vs)
    (he : ∀ d ∈ ds, ∀ F', Ex F F' → ∀ x, Rp K F' x d → EvG K pt te ((wipe σ vs).set j (some x)) F' (Is (f d))) :
    EvG K pt (tLc wi (gName j) tYes te vs) σ F (Is (.list (ds.map f))) :=
  (g_lcI (fun _ => true) f hw hz hwp (fun _ _ _ _ _ _ => et_yes) (fun d hd _ => he d hd)).is (congrArg (fun l => PyData.list (List.map f l)) (show ds.filter (fun _ => true) = ds from List.filter_eq_self.mpr (fun _ _ => rfl)))

/-! ### promises of defs that change nothing, calls -/
def PSp {ι : Type} (K : PySem.W.Frag) (A : ι → List PyData) (P : ι → Prop) (f : ι → PyData) : Sp := fun vs H Q _ => ∃ i F, P i ∧ Ex F H ∧ RpAll K F vs (A i) ∧ ∀ v F2 H2, Step none F H F2 H2 → Rp K F2 v (f i) → Q v H2
theorem PSp.len {ι : Type} {A : ι → List PyData} {P : ι → Prop} {f : ι → PyData} {n : Nat} (h : ∀ i, (A i).length = n) : ∀ vs H Q E, PSp K A P f vs H Q E → vs.length = n := fun vs H Q E ⟨i, F, _, _, r, _⟩ => by rw [r.length, h]
theorem g_call {ι : Type} {A : ι → List PyData} {P : ι → Prop} {f : ι → PyData} {ds : List PyData} {E : XK} (i : ι) (h : EvsG K pt ts σ F (· = ds)) (ha : ds = A i) (hp : P i) : EvG K pt (tCall (PSp K A P f) [] E ts) σ F (Is (f i)) := fun H1 e g Q q =>
  h H1 e g _ fun ds' vs F2 H2 hd s hv => by
    rw [hd, ha] at hv
    refine ⟨i, F2, hp, s.inn, by rw [List.append_nil]; exact hv, fun v F3 H3 s3 hv3 => q _ v F3 H3 rfl (s.trans (s3.lift s.good)) hv3⟩
end

/-! ### statements -/
section
variable {K : PySem.W.Frag} {pt : Option Pt} {σ : L2.St} {F0 H0 F H F' : Hp} {te ta tb : TE} {ts tr : TA} {t u : TT} {R R1 S2 R3 : PD} {d e z : PyData} {wi : TI} {D : Ends} {tu tw tz : TS}
theorem t_ret (s : Step pt F0 H0 F H) (h : EvG K pt te σ F R) (q : ∀ d v F2 H2, R d → Step pt F0 H0 F2 H2 → Rp K F2 v d → D.rt v H2) : tRet te D σ H := h H s.inn s.good _ fun d v F2 H2 hd s2 hv => q d v F2 H2 hd (s.trans s2) hv
theorem t_retI (s : Step pt F0 H0 F H) (h : EvG K pt te σ F (Is d)) (q : ∀ v F2 H2, Step pt F0 H0 F2 H2 → Rp K F2 v d → D.rt v H2) : tRet te D σ H := t_ret s h fun d' v F2 H2 e s2 hv => q v F2 H2 s2 (by rw [← (show d' = d from e)]; exact hv)
theorem t_asg {i : Nat} (s : Step pt F0 H0 F H) (h : EvG K pt te σ F R) (q : ∀ d v F2 H2, R d → Step pt F0 H0 F2 H2 → Ex F F2 → Rp K F2 v d → tz D (σ.set i (some v)) H2) : tSeq (tAsg te (gName i)) tz D σ H :=
  h H s.inn s.good _ fun d v F2 H2 hd s2 hv => q d v F2 H2 hd (s.trans s2) s2.sub hv
theorem t_asgI {i : Nat} (s : Step pt F0 H0 F H) (h : EvG K pt te σ F (Is d)) (q : ∀ v F2 H2, Step pt F0 H0 F2 H2 → Ex F F2 → Rp K F2 v d → tz D (σ.set i (some v)) H2) : tSeq (tAsg te (gName i)) tz D σ H :=
  t_asg s h fun d' v F2 H2 e s2 e2 hv => q v F2 H2 s2 e2 (by rw [← (show d' = d from e)]; exact hv)
theorem t_if {b : Bool} (s : Step pt F0 H0 F H) (h : EtG pt t σ F (· = b)) (h1 : b = true → ∀ F2 H2, Step pt F0 H0 F2 H2 → Ex F F2 → tu { D with nx := tz D } σ H2) (h2 : b = false → ∀ F2 H2, Step pt F0 H0 F2 H2 → Ex F F2 → tw { D with nx := tz D } σ H2) :
    tSeq (tIfS t tu tw) tz D σ H := h H s.inn s.good _ fun c F2 H2 hc s2 => by
  subst hc
  cases c with
  | true => exact h1 rfl F2 H2 (s.trans s2) s2.sub
  | false => exact h2 rfl F2 H2 (s.trans s2) s2.sub
theorem t_when {b : Bool} (s : Step pt F0 H0 F H) (h : EtG pt t σ F (· = b)) (h1 : b = true → ∀ F2 H2, Step pt F0 H0 F2 H2 → Ex F F2 → tu { D with nx := tz D } σ H2) (h2 : b = false → ∀ F2 H2, Step pt F0 H0 F2 H2 → Ex F F2 → tz D σ H2) :
    tSeq (tIfS t tu tNext) tz D σ H := t_if s h h1 h2
theorem t_if1 {b : Bool} (s : Step pt F0 H0 F H) (h : EtG pt t σ F (· = b)) (h1 : b = true → ∀ F2 H2, Step pt F0 H0 F2 H2 → Ex F F2 → tu D σ H2) (h2 : b = false → ∀ F2 H2, Step pt F0 H0 F2 H2 → Ex F F2 → tw D σ H2) :
    tIfS t tu tw D σ H := h H s.inn s.good _ fun c F2 H2 hc s2 => by
  subst hc
  cases c with
  | true => exact h1 rfl F2 H2 (s.trans s2) s2.sub
  | false => exact h2 rfl F2 H2 (s.trans s2) s2.sub
theorem t_drop (s : Step pt F0 H0 F H) (h : EvG K pt te σ F R) (q : ∀ F2 H2, Step pt F0 H0 F2 H2 → Ex F F2 → tz D σ H2) : tSeq (tDrop te) tz D σ H := h H s.inn s.good _ fun d v F2 H2 _ s2 _ => q F2 H2 (s.trans s2) s2.sub
/-- for x in ..: I tells the slots behind i turns -/
theorem t_for {j : Nat} {ds : List PyData} (s : Step pt F0 H0 F H) (hw : WiG K pt wi σ F (· = ds)) (I : Nat → L2.St → Hp → Prop) (h0 : ∀ F2, Ex F F2 → I 0 σ F2)
    (hs : ∀ i d, ds[i]? = some d → ∀ σ' F' H' x, I i σ' F' → Step pt F0 H0 F' H' → Ex F F' → Rp K F' x d →
      ∀ N : L2.St → Hp → Prop, (∀ σ2 F2 H2, I (i + 1) σ2 F2 → Step pt F0 H0 F2 H2 → Ex F' F2 → N σ2 H2) → tu { D with nx := N, ct := N, bk := tz D } (σ'.set j (some x)) H')
    (hd : ∀ σ' F' H', I ds.length σ' F' → Step pt F0 H0 F' H' → Ex F F' → tz D σ' H') : tSeq (tFor wi (gName j) tu) tz D σ H :=
  hw H s.inn s.good _ fun ds' J F1 H1 e s1 Y => by
    subst e
    refine ⟨fun i m σ' H' => m = ds'.length - i ∧ i ≤ ds'.length ∧ ∃ F', Step pt F0 H0 F' H' ∧ Ex F1 F' ∧ I i σ' F', ⟨ds'.length, by simp, Nat.zero_le _, F1, s.trans s1, Ex.refl _, h0 F1 s1.sub⟩, ?_⟩
    rintro i m σ' H' ⟨rfl, hi, F', s', e', p⟩
    have eH : Ex F1 H' := e'.trans s'.inn
    by_cases hlt : i < ds'.length
    · refine .inr ⟨Y.go i H' eH hlt, fun σ2 H2 => ∃ F2, Step pt F0 H0 F2 H2 ∧ Ex F1 F2 ∧ I (i + 1) σ2 F2, fun σ2 H2 ⟨F2, a, b, c⟩ => ⟨ds'.length - (i + 1), by omega, rfl, hlt, F2, a, b, c⟩, fun x H2 y => ?_⟩
      obtain ⟨rfl, d, hdd, hx⟩ := Y.yld i H' x H2 eH hlt y
      exact hs i d hdd σ' F' _ x p s' (s1.sub.trans e') (Rp.mono e' _ _ hx) _ fun σ2 F2 H2 a b c => ⟨F2, b, e'.trans c, a⟩
    · have hE : i = ds'.length := Nat.le_antisymm hi (Nat.le_of_not_lt hlt)
      subst hE
      exact .inl ⟨Y.stop H' eH, hd σ' F' H' p s' (s1.sub.trans e')⟩
end
end Fv

namespace Fv
open PySem L2 Evl
/-! ### == of data -/
/-- a tuple of whole numbers, a list and a tuple of such -/
abbrev dT (ns : List Int) : PyData := .tuple (ns.map PyData.int)
abbrev dLT (ls : List (List Int)) : PyData := .list (ls.map dT)
abbrev dTT (ls : List (List Int)) : PyData := .tuple (ls.map dT)
theorem eqvAll_ints : ∀ ns ms : List Int, PyData.eqvAll (ns.map .int) (ms.map .int) = decide (ns = ms)
  | [], [] => by simp [PyData.eqvAll]
  | [], m :: ms => by simp [PyData.eqvAll]
  | n :: ns, [] => by simp [PyData.eqvAll]
  | n :: ns, m :: ms => by
    simp only [List.map_cons, PyData.eqvAll, PyData.eqv, eqvAll_ints ns ms]
    by_cases h : n = m <;> by_cases k : ns = ms <;> simp [h, k]
theorem eqv_dT (ns ms : List Int) : PyData.eqv (dT ns) (dT ms) = decide (ns = ms) := by
  simp only [PyData.eqv]; exact eqvAll_ints ns ms
theorem any_dT (ls : List (List Int)) (m : List Int) : (ls.map dT).any (fun z => PyData.eqv z (dT m)) = decide (m ∈ ls) := by
  rw [List.any_map]
  induction ls with
  | nil => simp
  | cons l ls ih =>
    rw [List.any_cons, ih]
    simp only [Function.comp, eqv_dT]
    by_cases h : l = m
    · subst h; simp
    · by_cases k : m ∈ ls <;> simp [h, k, Ne.symm h]
theorem shaped_of {d : PyData} (h1 : d.canLay0 = true) (h2 : d.depth ≤ 64) : SeqAt.shaped d = true := by unfold SeqAt.shaped; simp [h1, h2]
theorem canLayAll_ints : ∀ ns : List Int, PyData.canLayAll0 (ns.map .int) = true
  | [] => by simp [PyData.canLayAll0]
  | n :: ns => by simp [PyData.canLayAll0, PyData.canLay0, canLayAll_ints ns]
theorem depthAll_ints : ∀ ns : List Int, PyData.depthAll (ns.map .int) ≤ 1
  | [] => by simp [PyData.depthAll]
  | n :: ns => by
    have := depthAll_ints ns
    simp only [List.map_cons, PyData.depthAll, PyData.depth]
    omega
theorem canLay_dT (ns : List Int) : (dT ns).canLay0 = true := by simp [dT, PyData.canLay0, canLayAll_ints]
theorem depth_dT (ns : List Int) : (dT ns).depth ≤ 2 := by
  have := depthAll_ints ns
  simp only [dT, PyData.depth]; omega
theorem shaped_dT (ns : List Int) : SeqAt.shaped (dT ns) = true := shaped_of (canLay_dT ns) (by have := depth_dT ns; omega)
theorem canLayAll_dT : ∀ ls : List (List Int), PyData.canLayAll0 (ls.map dT) = true
  | [] => by simp [PyData.canLayAll0]
  | n :: ns => by simp only [List.map_cons, PyData.canLayAll0, canLay_dT, canLayAll_dT ns]; rfl
theorem depthAll_dT : ∀ ls : List (List Int), PyData.depthAll (ls.map dT) ≤ 2
  | [] => by simp [PyData.depthAll]
  | n :: ns => by
    have := depthAll_dT ns
    have := depth_dT n
    simp only [List.map_cons, PyData.depthAll]
    omega
theorem shaped_dLT (ls : List (List Int)) : SeqAt.shaped (dLT ls) = true := shaped_of (by simp only [dLT, PyData.canLay0]; exact canLayAll_dT ls) (by have := depthAll_dT ls; simp only [dLT, PyData.depth]; omega)
section
variable {K : PySem.W.Frag} {pt : Option Pt} {σ : L2.St} {F F' H : Hp} {te ta tb : TE} {ts tr : TA} {t u : TT} {R R1 S2 R3 : PD} {d e z : PyData} {r : L2.R2} {wi wi1 : TI}
/-! ### operations -/
theorem rv_add {i j : Int} : RvG K (rI0 fun i j => .int (i + j)) (.int i) (.int j) (Is (.int (i + j))) := rv_I0 (f := fun i j => .int (i + j)) fun F => .int _
theorem rv_sub {i j : Int} : RvG K (rI0 fun i j => .int (i - j)) (.int i) (.int j) (Is (.int (i - j))) := rv_I0 (f := fun i j => .int (i - j)) fun F => .int _
theorem rv_bl {g : Int → Int → Bool} {i j : Int} : RvG K (rI0 fun i j => .bl (g i j)) (.int i) (.int j) (Is (.bool (g i j))) := rv_I0 (f := fun i j => .bool (g i j)) fun F => .bl _
/-- flat things of data -/
def flatD : PyData → Bool
  | .none => true | .bool _ => true | .int _ => true | .str _ => true | _ => false
def unV : PyData → V
  | .none => .non | .bool b => .bl b | .int i => .int i | .str x => .str x | _ => .non
theorem rp_flat {v : V} (h : flatD d = true) (r : Rp K F v d) : v = unV d := by
  cases d <;> first | (cases r; rfl) | (cases h)
def isNone : PyData → Bool
  | .none => true
  | _ => false
theorem rp_isN {v : V} (r : Rp K F v d) : decide (v = .non) = isNone d := by
  cases r <;> simp [isNone]
theorem rv_isN {d : PyData} : RvG K (fun x y H Q => y = .non ∧ Q (.bl (decide (x = .non))) H) d .none (Is (.bool (isNone d))) := rv_val fun F H x y _ hx hy => ⟨_, fun Q q => ⟨rp_none hy, q⟩, by rw [rp_isN hx]; exact .bl _⟩
theorem rv_notN {d : PyData} : RvG K (fun x y H Q => y = .non ∧ Q (.bl (!decide (x = .non))) H) d .none (Is (.bool (!isNone d))) := rv_val fun F H x y _ hx hy => ⟨_, fun Q q => ⟨rp_none hy, q⟩, by rw [rp_isN hx]; exact .bl _⟩
theorem inV_ints (i : Int) (ns : List Int) : inV (.int i) (ns.map V.int) = decide (i ∈ ns) := by
  unfold inV
  rw [List.any_map]
  induction ns with
  | nil => simp
  | cons n ns ih =>
    rw [List.any_cons, ih]
    by_cases h : n = i
    · subst h; simp [eqV]
    · by_cases k : i ∈ ns <;> simp [eqV, h, k, Ne.symm h]
theorem flat_ints (ns : List Int) : (ns.map V.int).all flatV = true := by induction ns <;> simp_all [flatV]
theorem rv_inT {i : Int} {ns : List Int} : RvG K (rIn K false) (.int i) (dT ns) (Is (.bool (decide (i ∈ ns)))) := rv_val fun F H x y e hx hy => by
  obtain ⟨a, xs, rfl, hl, ha⟩ := rp_tup hy
  have e1 := rpAll_ints ha
  subst e1
  rw [rp_int hx]
  exact ⟨_, fun Q q => ⟨a, _, rfl, .inr (tx e hl), rfl, flat_ints ns, q⟩, by rw [inV_ints]; exact .bl _⟩
theorem rv_ninT {i : Int} {ns : List Int} : RvG K (rIn K true) (.int i) (dT ns) (Is (.bool (!decide (i ∈ ns)))) := rv_val fun F H x y e hx hy => by
  obtain ⟨a, xs, rfl, hl, ha⟩ := rp_tup hy
  have e1 := rpAll_ints ha
  subst e1
  rw [rp_int hx]
  exact ⟨_, fun Q q => ⟨a, _, rfl, .inr (tx e hl), rfl, flat_ints ns, q⟩, by rw [inV_ints]; exact .bl _⟩
theorem rv_inD {m : List Int} {ls : List (List Int)} : RvG K (rInD K) (dT m) (dLT ls) (Is (.bool (decide (m ∈ ls)))) := rv_val fun F H x y e hx hy =>
  ⟨_, fun Q q => ⟨dT m, ls.map dT, Rp.dp _ _ (Rp.mono e _ _ hx), Rp.dp _ _ (Rp.mono e _ _ hy), shaped_dT m, shaped_dLT ls, q⟩, by rw [any_dT]; exact .bl _⟩
theorem rv_ninD {m : List Int} {ls : List (List Int)} : RvG K (rNotInD K) (dT m) (dLT ls) (Is (.bool (!decide (m ∈ ls)))) := rv_val fun F H x y e hx hy =>
  ⟨_, fun Q q => ⟨dT m, ls.map dT, Rp.dp _ _ (Rp.mono e _ _ hx), Rp.dp _ _ (Rp.mono e _ _ hy), shaped_dT m, shaped_dLT ls, q⟩, by rw [any_dT]; exact .bl _⟩
theorem rv_neT {m n : List Int} : RvG K (rNeD K) (dT m) (dT n) (Is (.bool (!decide (m = n)))) := fun F H x y i hx hy Q q => rv_neD (shaped_dT m) (shaped_dT n) F H x y i hx hy Q fun z v F2 H2 hz => q z v F2 H2 (by rw [show z = _ from hz, eqv_dT])
theorem atI_rp {ds : List PyData} {xs : List V} {i : Int} (h : RpAll K F xs ds) (e : atI ds i = some d) : ∃ v, atI xs i = some v ∧ Rp K F v d := by
  unfold atI at e ⊢
  rw [h.length]
  cases q : ixN ds.length i with
  | none => rw [q] at e; cases e
  | some j =>
    rw [q] at e
    exact h.getD e
theorem rv_ixT {ds : List PyData} {i : Int} (h : atI ds i = some d) : RvG K (rIxT K) (.tuple ds) (.int i) (Is d) := rv_val fun F H x y e hx hy => by
  obtain ⟨a, xs, rfl, hl, ha⟩ := rp_tup hx
  obtain ⟨v, e1, r1⟩ := atI_rp ha h
  exact ⟨v, fun Q q => ⟨a, xs, i, v, rfl, rp_int hy, tx e hl, e1, q⟩, r1⟩
theorem rv_ixL {ds : List PyData} {i : Int} (h : atI ds i = some d) : RvG K (rIxL K) (.list ds) (.int i) (Is d) := rv_val fun F H x y e hx hy => by
  obtain ⟨a, xs, rfl, hl, ha⟩ := rp_lst hx
  obtain ⟨v, e1, r1⟩ := atI_rp ha h
  exact ⟨v, fun Q q => ⟨a, xs, i, v, rfl, rp_int hy, sq_of (e _ _ hl), e1, q⟩, r1⟩
theorem rv_cat {ds es : List PyData} (hz : ds.length + es.length ≤ 100000) : RvG K rCat (.list ds) (.list es) (Is (.list (ds ++ es))) := fun F H x y e hx hy Q q => by
  obtain ⟨a, xs, rfl, hl, ha⟩ := rp_lst hx
  obtain ⟨b, ys, rfl, hm, hb⟩ := rp_lst hy
  refine ⟨a, b, xs, ys, rfl, rfl, e _ _ hl, e _ _ hm, by rw [ha.length, hb.length]; exact sz_of hz, fun p hp => ?_⟩
  have s : Step none F H (upd F p (.lst (xs ++ ys))) (upd H p (.lst (xs ++ ys))) := .laid e .nil hp
  exact q _ _ _ _ rfl s (.lst upd_same (RpAll.mono s.sub _ _ (ha.append hb)))
/-! ### calls of built-ins -/
theorem rc_all {bs : List Bool} : RcG K (rAll K) [.list (bs.map .bool)] (Is (.bool (bs.all id))) := rc_val fun F H vs e h => by
  cases h with
  | cons h1 h2 =>
    cases h2
    obtain ⟨a, xs, rfl, hl, ha⟩ := rp_lst h1
    have e1 := rpAll_bools ha
    subst e1
    exact ⟨_, fun Q q => ⟨a, bs, rfl, sq_of (e _ _ hl), q⟩, .bl _⟩
theorem rc_any {bs : List Bool} : RcG K (rAny K) [.list (bs.map .bool)] (Is (.bool (bs.any id))) := rc_val fun F H vs e h => by
  cases h with
  | cons h1 h2 =>
    cases h2
    obtain ⟨a, xs, rfl, hl, ha⟩ := rp_lst h1
    have e1 := rpAll_bools ha
    subst e1
    exact ⟨_, fun Q q => ⟨a, bs, rfl, sq_of (e _ _ hl), q⟩, .bl _⟩
theorem rc_tupL {ds : List PyData} : RcG K (fun xs H Q => ∃ p ys, xs = [.ref p] ∧ ((SqL K H p ys ∧ ∀ l, H l = none → Q (.ref l) (upd H l (.tup ys))) ∨ (SqT K H p ys ∧ Q (.ref p) H))) [.list ds] (Is (.tuple ds)) := fun F H vs e h Q q => by
  cases h with
  | cons h1 h2 =>
    cases h2
    obtain ⟨a, xs, rfl, hl, ha⟩ := rp_lst h1
    refine ⟨a, xs, rfl, .inl ⟨sq_of (e _ _ hl), fun p hp => ?_⟩⟩
    have s : Step none F H (upd F p (.tup xs)) (upd H p (.tup xs)) := .laid e .nil hp
    exact q _ _ _ _ rfl s (.tup upd_same (RpAll.mono s.sub _ _ ha))
theorem rc_tupT {ds : List PyData} : RcG K (fun xs H Q => ∃ p ys, xs = [.ref p] ∧ ((SqL K H p ys ∧ ∀ l, H l = none → Q (.ref l) (upd H l (.tup ys))) ∨ (SqT K H p ys ∧ Q (.ref p) H))) [.tuple ds] (Is (.tuple ds)) := rc_val fun F H vs e h => by
  cases h with
  | cons h1 h2 =>
    cases h2
    obtain ⟨a, xs, rfl, hl, ha⟩ := rp_tup h1
    exact ⟨_, fun Q q => ⟨a, xs, rfl, .inr ⟨tx e hl, q⟩⟩, .tup hl ha⟩
theorem rc_lenL {ds : List PyData} : RcG K (fun xs H Q => ∃ p ys, xs = [.ref p] ∧ (SqL K H p ys ∨ SqT K H p ys) ∧ Q (.int ys.length) H) [.list ds] (Is (.int ds.length)) := rc_val fun F H vs e h => by
  cases h with
  | cons h1 h2 =>
    cases h2
    obtain ⟨a, xs, rfl, hl, ha⟩ := rp_lst h1
    exact ⟨_, fun Q q => ⟨a, xs, rfl, .inl (sq_of (e _ _ hl)), q⟩, by rw [← ha.length]; exact .int _⟩
theorem rc_lenT {ds : List PyData} : RcG K (fun xs H Q => ∃ p ys, xs = [.ref p] ∧ (SqL K H p ys ∨ SqT K H p ys) ∧ Q (.int ys.length) H) [.tuple ds] (Is (.int ds.length)) := rc_val fun F H vs e h => by
  cases h with
  | cons h1 h2 =>
    cases h2
    obtain ⟨a, xs, rfl, hl, ha⟩ := rp_tup h1
    exact ⟨_, fun Q q => ⟨a, xs, rfl, .inr (tx e hl), q⟩, by rw [← ha.length]; exact .int _⟩
/-- the built-in class of data -/
def tyD : PyData → String
  | .none => "NoneType" | .bool _ => "bool" | .int _ => "int" | .str _ => "str" | .list _ => "list" | .tuple _ => "tuple" | .dict _ => "dict"
theorem rp_ty {v : V} (r : Rp K F v d) : TyX K F v (.type (tyD d)) := by
  cases r with
  | non => exact .base .non
  | bl b => exact .base (.bl b)
  | int i => exact .base (.int i)
  | str x => exact .base (.str x)
  | lst h _ => exact .base (.lst h)
  | tup h _ =>
    exact .base (.tup h)
/-- isinstance(x, T), T a built-in class -/
theorem g_isi {T : String} {b : Bool} (h : EvG K pt te σ F (Is d)) (hk : kitB (tyD d) T = some b) : EvG K pt (tCB (rIsi K) (tCons te (tCons (tC (.ty T)) tNil))) σ F (Is (.bool b)) := fun H1 i g Q q =>
  h H1 i g _ fun d' v F2 H2 hd s hv => by
    subst hd
    exact ⟨v, .ty T, _, _, b, rfl, .ty T, rp_ty (Rp.mono s.inn _ _ hv), kit_ty hk, q _ _ F2 H2 rfl s (.bl b)⟩
/-- isinstance(x, (S, T)) -/
theorem g_isi2 {S T : String} {b c : Bool} (h : EvG K pt te σ F (Is d)) (hk : kitB (tyD d) S = some b) (hk2 : kitB (tyD d) T = some c) : EvG K pt (tCB (rIsiT K) (tCons te (tCons (tTup (tCons (tC (.ty S)) (tCons (tC (.ty T)) tNil))) tNil))) σ F (Is (.bool (b || c))) := fun H1 i g Q q =>
  h H1 i g _ fun d' v F2 H2 hd s hv => by
    subst hd
    refine ⟨sz_of (by show 2 ≤ 100000; decide), fun p hp => ?_⟩
    have s3 : Step pt F2 H2 (upd F2 p (.tup [.ty S, .ty T])) (upd H2 p (.tup [.ty S, .ty T])) := .laid s.inn s.good hp
    refine ⟨v, p, _, _, [.type S, .type T], b || c, rfl, upd_same, .cons (.ty S) (.cons (.ty T) .nil), rp_ty (Rp.mono (s3.sub.trans s3.inn) _ _ hv), ?_, q _ _ _ _ rfl (s.trans s3) (.bl _)⟩
    refine kitAny_cons (kit_ty hk) (fun hb => ?_) (fun hb => by rw [hb]; rfl)
    subst hb
    refine kitAny_cons (kit_ty hk2) (fun hc => ?_) (fun hc => by rw [hc]; rfl)
    subst hc
    exact kitAny_nil
/-- the truth of a list, a tuple -/
theorem et_truL {ds : List PyData} (h : EvG K pt te σ F (Is (.list ds))) : EtG pt (fun σ H Q => te σ H fun x H' => ∃ k, TruV K x H' k ∧ Q k H') σ F (· = !ds.isEmpty) := fun H1 i g Q q =>
  h H1 i g _ fun d' v F2 H2 hd s hv => by
    subst hd
    obtain ⟨a, xs, rfl, hl, ha⟩ := rp_lst hv
    have e : xs.isEmpty = ds.isEmpty := by have := ha.length; cases xs <;> cases ds <;> simp_all
    exact ⟨!ds.isEmpty, .inl ⟨xs, sq_of (s.inn _ _ hl), by rw [e]⟩, q _ F2 H2 rfl s⟩
theorem et_truT {ds : List PyData} (h : EvG K pt te σ F (Is (.tuple ds))) : EtG pt (fun σ H Q => te σ H fun x H' => ∃ k, TruV K x H' k ∧ Q k H') σ F (· = !ds.isEmpty) := fun H1 i g Q q =>
  h H1 i g _ fun d' v F2 H2 hd s hv => by
    subst hd
    obtain ⟨a, xs, rfl, hl, ha⟩ := rp_tup hv
    have e : xs.isEmpty = ds.isEmpty := by have := ha.length; cases xs <;> cases ds <;> simp_all
    exact ⟨!ds.isEmpty, .inr (.inl ⟨xs, tx s.inn hl, by rw [e]⟩), q _ F2 H2 rfl s⟩
theorem et_truI {n : Int} (h : EvG K pt te σ F (Is (.int n))) : EtG pt (fun σ H Q => te σ H fun x H' => ∃ k, TruV K x H' k ∧ Q k H') σ F (· = (n != 0)) := fun H1 i g Q q =>
  h H1 i g _ fun d' v F2 H2 hd s hv => by
    subst hd
    rw [rp_int hv]
    exact ⟨n != 0, rfl, q _ F2 H2 rfl s⟩
end
end Fv

/-! the rules with K told, so that they stand within comprehensions -/
namespace Fv
open PySem PySem.Spec PyProof.Rows L2 Evl StX
section
variable {X : Cx} {K : PySem.W.Frag} {tg : Expr}
abbrev rLen (K : PySem.W.Frag) : List V → Hp → VK → Prop := fun xs H Q => ∃ p ys, xs = [.ref p] ∧ (SqL K H p ys ∨ SqT K H p ys) ∧ Q (.int ys.length) H
abbrev rTup (K : PySem.W.Frag) : List V → Hp → VK → Prop := fun xs H Q => ∃ p ys, xs = [.ref p] ∧ ((SqL K H p ys ∧ ∀ l, H l = none → Q (.ref l) (upd H l (.tup ys))) ∨ (SqT K H p ys ∧ Q (.ref p) H))
abbrev rList (K : PySem.W.Frag) : List V → Hp → VK → Prop := fun xs H Q => ∃ p ys, xs = [.ref p] ∧ (SqL K H p ys ∨ SqT K H p ys) ∧ ∀ l, H l = none → Q (.ref l) (upd H l (.lst ys))
theorem o_in (h : X.K = K := by rfl) : OpR X (compareOp .In) (rIn K false) := h ▸ op_in_seq
theorem o_notIn (h : X.K = K := by rfl) : OpR X (compareOp .NotIn) (rIn K true) := h ▸ op_notIn_seq
theorem o_inD (hu : X.A.units + 65 < cLine) (h : X.K = K := by rfl) : OpR X (compareOp .In) (rInD K) := h ▸ op_inD hu
theorem o_notInD (hu : X.A.units + 65 < cLine) (h : X.K = K := by rfl) : OpR X (compareOp .NotIn) (rNotInD K) := h ▸ op_notInD hu
theorem o_eqD (hu : X.A.units + 64 < cLine) (h : X.K = K := by rfl) : OpR X (compareOp .Eq) (rEqD K) := h ▸ op_eqD hu
theorem o_neD (hu : X.A.units + 64 < cLine) (h : X.K = K := by rfl) : OpR X (compareOp .NotEq) (rNeD K) := h ▸ op_neD hu
theorem o_ixT (h : X.K = K := by rfl) : IxR X (rIxT K) := h ▸ ix_tup
theorem o_ixL (h : X.K = K := by rfl) : IxR X (rIxL K) := h ▸ ix_list
theorem o_catT (h : X.K = K := by rfl) : OpR X (binaryOp .Add) (rCatT K) := h ▸ op_catT
theorem c_all (hc : X.calm = true := by rfl) (h : X.K = K := by rfl) : CallR X (.builtin "all") (rAll K) := h ▸ cr_all hc
theorem c_any (hc : X.calm = true := by rfl) (h : X.K = K := by rfl) : CallR X (.builtin "any") (rAny K) := h ▸ cr_any hc
theorem c_len (h : X.K = K := by rfl) : CallR X (.builtin "len") (rLen K) := h ▸ call_len_seq
theorem c_tup (h : X.K = K := by rfl) : CallR X (.type "tuple") (rTup K) := h ▸ call_tuple_of
theorem c_list (h : X.K = K := by rfl) : CallR X (.type "list") (rList K) := h ▸ call_list_of
theorem c_isi (h : X.K = K := by rfl) : CallR X (.builtin "isinstance") (rIsi K) := h ▸ call_isi
theorem c_isiT (h : X.K = K := by rfl) : CallR X (.builtin "isinstance") (rIsiT K) := h ▸ call_isiT
theorem s_list (h : X.K = K := by rfl) : SlR X (rSlL K) := h ▸ sl_list
theorem s_tup (h : X.K = K := by rfl) : SlR X (rSlA K) := h ▸ sl_tupA
theorem i_list {l : Expr} {tl : TE} (hl : PE X l tl) (h : X.K = K := by rfl) : PI X tg l (iList K tl) := h ▸ pi_list hl
theorem i_tup {l : Expr} {tl : TE} (hl : PE X l tl) (h : X.K = K := by rfl) : PI X tg l (iTup K tl) := h ▸ pi_tup hl
theorem e_fld {e : Expr} {ta : TE} {f : Str} {pos : Pos} (he : PE X e ta) (hb : attributeBase e f X.env (eval e X.env) = eval e X.env) (h : X.K = K := by rfl) : PE X (.Attribute e f pos) (tFld K ta f) := h ▸ pe_fld he hb
theorem e_truth {a : Expr} {ta : TE} (ha : PE X a ta) (he : ∀ whole, isTrue a X.env whole = (do let v ← whole; standAt a.pos; holding [v] (truthy v)) := by intro _; rfl) (h : X.K = K := by rfl) :
    PT X a (fun σ H Q => ta σ H fun x H' => ∃ k, TruV K x H' k ∧ Q k H') := h ▸ pt_truth ha he
theorem a_star {e : Expr} {te : TE} {es : List Expr} {t : TA} {p : Pos} (he : PE X e te) (hr : PA X es t) (hs : starEach (.Starred e p :: es) X.env = (true, eval e X.env) :: starEach es X.env := by rfl) (h : X.K = K := by rfl) : PA X (.Starred e p :: es) (tStar K te t) := h ▸ pa_star he hr hs
end
section
variable {K : PySem.W.Frag} {pt : Option Pt} {σ : L2.St} {F F' H : Hp} {te ta tb : TE} {ts tr : TA} {t u : TT} {R R1 S2 R3 : PD} {d e z : PyData} {r : L2.R2}
theorem rc_list {ds : List PyData} {src : PyData} (hs : src = .list ds ∨ src = .tuple ds) : RcG K (rList K) [src] (Is (.list ds)) := fun F H vs e h Q q => by
  cases h with
  | cons h1 h2 =>
    cases h2
    have go : ∀ a xs, (SqL K H a xs ∨ SqT K H a xs) → RpAll K F xs ds → rList K [.ref a] H Q := fun a xs hl ha => ⟨a, xs, rfl, hl, fun p hp => by
      have s : Step none F H (upd F p (.lst xs)) (upd H p (.lst xs)) := .laid e .nil hp
      exact q _ _ _ _ rfl s (.lst upd_same (RpAll.mono s.sub _ _ ha))⟩
    rcases hs with rfl | rfl
    · obtain ⟨a, xs, rfl, hl, ha⟩ := rp_lst h1
      exact go a xs (.inl (sq_of (e _ _ hl))) ha
    · obtain ⟨a, xs, rfl, hl, ha⟩ := rp_tup h1
      exact go a xs (.inr (tx e hl)) ha
theorem rv_catT {ds es : List PyData} (h0 : ds ≠ []) (hz : ds.length + es.length ≤ 100000) : RvG K (rCatT K) (.tuple ds) (.tuple es) (Is (.tuple (ds ++ es))) := fun F H x y e hx hy Q q => by
  obtain ⟨a, xs, rfl, hl, ha⟩ := rp_tup hx
  obtain ⟨b, ys, rfl, hm, hb⟩ := rp_tup hy
  refine ⟨a, b, xs, ys, rfl, rfl, tx e hl, tx e hm, ?_, by rw [ha.length, hb.length]; exact sz_of hz, ?_, fun _ p hp => ?_⟩
  · rintro rfl
    cases ha
    exact h0 rfl
  · rintro rfl
    cases hb
    exact q _ _ F H rfl (.refl e .nil) (.tup hl (by rw [List.append_nil]; exact ha))
  · have s : Step none F H (upd F p (.tup (xs ++ ys))) (upd H p (.tup (xs ++ ys))) := .laid e .nil hp
    exact q _ _ _ _ rfl s (.tup upd_same (RpAll.mono s.sub _ _ (ha.append hb)))
/-- *xs in a display -/
theorem gs_star {ds es : List PyData} {src : PyData} (hs : src = .list ds ∨ src = .tuple ds) (h : EvG K pt te σ F (Is src)) (hr : EvsG K pt tr σ F (· = es)) : EvsG K pt (tStar K te tr) σ F (· = ds ++ es) := fun H1 i g Q q =>
  h H1 i g _ fun d v F2 H2 hd s hv => by
    subst hd
    have go : ∀ a xs, v = .ref a → (F2 a = some (.tup xs) ∨ F2 a = some (.lst xs)) → RpAll K F2 xs ds → ∃ p xs, v = V.ref p ∧ (SqT K H2 p xs ∨ SqL K H2 p xs) ∧ tr σ H2 fun ys H3 => Q (xs ++ ys) H3 := fun a xs ev hl ha => by
      refine ⟨a, xs, ev, ?_, hr.mono s.sub H2 s.inn s.good _ fun es' ys F3 H3 he s3 hy => ?_⟩
      · rcases hl with hl | hl
        · exact .inl (tx s.inn hl)
        · exact .inr (sq_of (s.inn _ _ hl))
      · subst he
        exact q _ _ F3 H3 rfl (s.trans s3) (RpAll.append (RpAll.mono s3.sub _ _ ha) hy)
    rcases hs with rfl | rfl
    · obtain ⟨a, xs, rfl, hl, ha⟩ := rp_lst hv
      exact go a xs rfl (.inr hl) ha
    · obtain ⟨a, xs, rfl, hl, ha⟩ := rp_tup hv
      exact go a xs rfl (.inl hl) ha
end
end Fv

namespace Fv
open PySem PySem.Spec PyProof.Rows L2 Evl StX
/-! ### set(t), sorted of it -/
def rSetT (K : PySem.W.Frag) (w : World) : List V → Hp → VK → Prop := fun xs H Q => ∃ (p : Addr) (ns : List Int), xs = [.ref p] ∧ SqT K H p (ns.map V.int) ∧ ns.length ≤ 60 ∧
  ∀ a c, H a = none → c ≤ ns.length → Q (.ref a) (upd H a (SetO w a (fun j => decide (j ∈ ns)) c))
theorem c_setT {X : Cx} {K : PySem.W.Frag} {w : World} (hc : X.calm = true := by rfl) (h : X.K = K := by rfl) (hw : X.w = w := by rfl) : CallR X (.type "set") (rSetT K w) := by
  subst h; subst hw
  intro pins s σ H xs us Q I r h
  obtain ⟨p, ns, rfl, hq, hl, q⟩ := h
  rw [Vals.ref1 r]
  obtain ⟨its, rv, ht, hz⟩ := I.tuple hq
  have hi : IntsAre its.toArray.toList ns := ints_of_vals rv
  refine call_set_tupI ns (I.ok.hd hc) ht hi (by unfold scanBound; omega) fun h' tk c R1 hcn k => ?_
  exact ⟨.ref s.heap.objs.size, _, I.laid (t' := tk) k (Nat.le_refl _) (setO_new R1), rfl, q _ c (I.hok.fresh (Nat.le_refl _)) hcn⟩
theorem c_sortedSet {X : Cx} {w : World} (hc : X.calm = true := by rfl) (hw : X.w = w := by rfl) : CallR X (.builtin "sorted") (rSortedSet w) := hw ▸ cr_sortedSet hc
/-- an object that is laid beside -/
theorem Step.litter {pt : Option Pt} {F H : Hp} {p : Addr} {o : HO} (e : Ex F H) (g : Good pt F H) (hp : H p = none) : Step pt F H F (upd H p o) :=
  ⟨Ex.refl F, e.trans (Ex.new hp), Keep.of (Ex.new hp), fun q hq => ⟨(g q hq).1, (g q hq).2.mono (Ex.new hp)⟩, New.refl F H⟩
section
variable {K : PySem.W.Frag} {w : World} {pt : Option Pt} {σ : L2.St} {F F' H : Hp} {te ta tb : TE} {ts tr : TA} {t u : TT} {R R1 S2 R3 : PD} {d e z : PyData} {r : L2.R2}
theorem g_sortedSet {ns : List Int} (h : EvG K pt te σ F (Is (dT ns))) (hz : ns.length ≤ 60) : EvG K pt (tCB (rSortedSet w) (tCons (tCB (rSetT K w) (tCons te tNil)) tNil)) σ F
    (fun x => ∃ ms : List Int, x = .list (ms.map .int) ∧ ms.Pairwise (· < ·) ∧ ∀ k, k ∈ ms ↔ k ∈ ns) := fun H1 i g Q q =>
  h H1 i g _ fun d v F2 H2 hd s hv => by
    subst hd
    obtain ⟨a, xs, rfl, hl, ha⟩ := rp_tup hv
    have e1 := rpAll_ints ha
    subst e1
    refine ⟨a, ns, rfl, tx s.inn hl, hz, fun b c hb hc => ?_⟩
    have s3 : Step pt F2 H2 F2 (upd H2 b (SetO w b (fun j => decide (j ∈ ns)) c)) := .litter s.inn s.good hb
    refine ⟨b, _, c, rfl, upd_same, by omega, fun ms p hp hm hlen hn => ?_⟩
    have s4 : Step pt F2 (upd H2 b (SetO w b (fun j => decide (j ∈ ns)) c)) (upd F2 p (.lst (ms.map V.int))) _ := .laid s3.inn s3.good hn
    exact q _ _ _ _ ⟨ms, rfl, hp, fun k => by rw [hm k, decide_eq_true_eq]⟩ ((s.trans s3).trans s4) (.lst upd_same (rpAll_of_ints ms))
/-- the one ascending row of the members of ns below n -/
def lotOf (n : Nat) (ns : List Int) : List Int := ((List.range n).map Int.ofNat).filter fun k => decide (k ∈ ns)
theorem pw_range (n : Nat) : ((List.range n).map Int.ofNat).Pairwise (· < ·) := by
  rw [List.pairwise_map]
  exact (List.pairwise_lt_range (n := n)).imp fun h => by simp only [Int.ofNat_eq_natCast]; omega
theorem asc_unique : ∀ {a b : List Int}, a.Pairwise (· < ·) → b.Pairwise (· < ·) → (∀ k, k ∈ a ↔ k ∈ b) → a = b
  | [], [], _, _, _ => rfl
  | [], y :: b, _, _, h => absurd ((h y).mpr (by simp)) (by simp)
  | x :: a, [], _, _, h => absurd ((h x).mp (by simp)) (by simp)
  | x :: a, y :: b, ha, hb, h => by
    have ha' := List.pairwise_cons.mp ha
    have hb' := List.pairwise_cons.mp hb
    have exy : x = y := by
      have h1 : x ∈ y :: b := (h x).mp (by simp)
      have h2 : y ∈ x :: a := (h y).mpr (by simp)
      rcases List.mem_cons.mp h1 with e | m
      · exact e
      · rcases List.mem_cons.mp h2 with e | m'
        · exact e.symm
        · have := hb'.1 x m
          have := ha'.1 y m'
          omega
    subst exy
    refine congrArg (x :: ·) (asc_unique ha'.2 hb'.2 fun k => ⟨fun m => ?_, fun m => ?_⟩)
    · have h1 : k ∈ x :: b := (h k).mp (List.mem_cons_of_mem _ m)
      rcases List.mem_cons.mp h1 with e | m'
      · have := ha'.1 k m; omega
      · exact m'
    · have h1 : k ∈ x :: a := (h k).mpr (List.mem_cons_of_mem _ m)
      rcases List.mem_cons.mp h1 with e | m'
      · have := hb'.1 k m; omega
      · exact m'
theorem lotOf_asc (n : Nat) (ns : List Int) : (lotOf n ns).Pairwise (· < ·) := (pw_range n).filter _
theorem mem_lotOf {n : Nat} {ns : List Int} {k : Int} : k ∈ lotOf n ns ↔ (0 ≤ k ∧ k < n) ∧ k ∈ ns := by
  unfold lotOf
  rw [List.mem_filter, List.mem_map, decide_eq_true_eq]
  constructor
  · rintro ⟨⟨j, hj, rfl⟩, h⟩
    rw [List.mem_range] at hj
    exact ⟨⟨by simp only [Int.ofNat_eq_natCast]; omega, by simp only [Int.ofNat_eq_natCast]; omega⟩, h⟩
  · rintro ⟨⟨h1, h2⟩, h⟩
    exact ⟨⟨k.toNat, by rw [List.mem_range]; omega, by simp only [Int.ofNat_eq_natCast]; omega⟩, h⟩
theorem lotOf_len (n : Nat) (ns : List Int) : (lotOf n ns).length ≤ n := by
  unfold lotOf
  exact Nat.le_trans (List.length_filter_le _ _) (by simp)
theorem sorted_is {n : Nat} {ns ms : List Int} (hp : ms.Pairwise (· < ·)) (hm : ∀ k, k ∈ ms ↔ k ∈ ns) (hb : ∀ k ∈ ns, 0 ≤ k ∧ k < n) : ms = lotOf n ns :=
  asc_unique hp (lotOf_asc n ns) fun k => by rw [mem_lotOf, hm]; exact ⟨fun h => ⟨hb k h, h⟩, fun h => h.2⟩

/-! ### max(t, default=d) -/
/-- the greatest of ns, d if there is none -/
def maxOf (d : Int) : List Int → Int
  | [] => d
  | n :: r => r.foldl max n
def rMaxD (K : PySem.W.Frag) : List V → List V → Hp → VK → Prop := fun xs zs H Q => ∃ (p : Addr) (ns : List Int) (d : Int), xs = [.ref p] ∧ zs = [.int d] ∧ SqT K H p (ns.map V.int) ∧
  Q (.int (maxOf d ns)) H
theorem intOf {v : Value} {h : Heap} {i : Int} {bs : List Addr} (r : Reads h v (.int i) bs) : ∃ t, v = Value.int i t := by
  cases r with
  | int i t => exact ⟨t, rfl⟩
theorem c_maxD {X : Cx} {K : PySem.W.Frag} (hu : X.A.units + 3 < cLine) (hc : X.calm = true := by rfl) (h : X.K = K := by rfl) : CallRK X (.builtin "max") [Str.ofString "default"] (rMaxD K) := by
  subst h
  intro pins s σ H xs zs us ws Q I r rz h
  obtain ⟨p, ns, d, rfl, rfl, hq, q⟩ := h
  rw [Vals.ref1 r]
  obtain ⟨tk, rfl⟩ : ∃ t, ws = [Value.int d t] := by
    cases rz with
    | cons r1 r2 => cases r2; obtain ⟨t, rfl⟩ := r1; exact ⟨t, rfl⟩
  obtain ⟨its, rv, ht, hz⟩ := I.tuple hq
  obtain ⟨as, hr⟩ := Dp.readsAll I (ns.map .int) _ its (RpAll.dp _ _ (rpAll_of_ints ns)) rv
  have kept : ∀ (v : V) (u : Value) (h' : Heap) (tk : Nat), RelV v u → (∀ b o, s.heap.get? b = some o → h'.get? b = some o) → Q v H → EP X pins σ Q u { s with heap := h', toks := tk } := fun v u h' tk rvu k hq => ⟨v, H, I.kept (t' := tk) k, rvu, hq⟩
  refine PySem.W.max_tuple_default (I.ok.hd hc) ht hr ⟨?_, ?_⟩ ?_ (fun hn h' tk k => ?_) (fun y ys i v h' tk bs e hv hrd k => ?_)
  · intro x hx y hy
    obtain ⟨a, _, rfl⟩ := List.mem_map.mp hx
    obtain ⟨b, _, rfl⟩ := List.mem_map.mp hy
    rfl
  · intro x hx
    obtain ⟨a, _, rfl⟩ := List.mem_map.mp hx
    intro z; cases z
  · have := depthAll_ints ns
    omega
  · have : ns = [] := List.map_eq_nil_iff.mp hn
    subst this
    exact kept (.int d) _ h' tk ⟨_, rfl⟩ k q
  · cases ns with
    | nil => cases e
    | cons n r =>
      simp only [List.map_cons, List.cons.injEq] at e
      obtain ⟨rfl, rfl⟩ := e
      rw [PySem.W.maxD_ints] at hrd
      obtain ⟨t, rfl⟩ := intOf hrd
      exact kept (.int _) _ h' tk ⟨_, rfl⟩ k q
theorem g_maxD {ns : List Int} {c : Int} (h : EvG K pt te σ F (Is (dT ns))) (hd : EvG K pt ta σ F (Is (.int c))) : EvG K pt (tCKw (rMaxD K) (tCons te tNil) (tCons ta tNil)) σ F (Is (.int (maxOf c ns))) := fun H1 i g Q q =>
  h H1 i g _ fun d v F2 H2 hd' s hv => hd.mono s.sub H2 s.inn s.good _ fun d2 v2 F3 H3 hd2 s3 hv2 => by
    subst hd'; subst hd2
    obtain ⟨a, xs, rfl, hl, ha⟩ := rp_tup hv
    have e1 := rpAll_ints ha
    subst e1
    refine ⟨a, ns, c, rfl, by rw [rp_int hv2], tx s3.inn (s3.sub _ _ hl), ?_⟩
    exact q _ _ F3 H3 rfl (s.trans s3) (.int _)
/-! ### () + t -/
theorem c_catT0 : True := trivial
end
end Fv

namespace Fv
open PySem PySem.Spec PyProof.Rows L2 Evl StX
theorem hu3 {k : Nat} {A : Around} (hr : Room k A) : A.units + 3 < cLine := Nat.lt_of_le_of_lt (Nat.add_le_add_left (by decide : 3 ≤ 64) _) hr.units
theorem hu65 {k : Nat} {A : Around} (hr : Room k A) : A.units + 65 < cLine := by have := hr.un; omega
theorem o_catA {X : Cx} {K : PySem.W.Frag} (h : X.K = K := by rfl) : OpR X (binaryOp .Add) (rCatA K) := h ▸ op_catA
section
variable {K : PySem.W.Frag} {w : World} {pt : Option Pt} {σ : L2.St} {F F' H : Hp} {te ta tb : TE} {ts tr : TA} {t u : TT} {R R1 S2 R3 : PD} {d e z : PyData} {r : L2.R2} {wi wi1 : TI}
theorem rv_catA {ds es : List PyData} (hz : ds.length + es.length ≤ 100000) : RvG K (rCatA K) (.tuple ds) (.tuple es) (Is (.tuple (ds ++ es))) := fun F H x y e hx hy Q q => by
  obtain ⟨a, xs, rfl, hl, ha⟩ := rp_tup hx
  obtain ⟨b, ys, rfl, hm, hb⟩ := rp_tup hy
  refine ⟨a, b, xs, ys, rfl, rfl, tx e hl, tx e hm, by rw [ha.length, hb.length]; exact sz_of hz, ?_, ?_, fun _ _ p hp => ?_⟩
  · rintro rfl
    cases ha
    exact q _ _ F H rfl (.refl e .nil) (.tup hm hb)
  · rintro _ rfl
    cases hb
    exact q _ _ F H rfl (.refl e .nil) (.tup hl (by rw [List.append_nil]; exact ha))
  · have s : Step none F H (upd F p (.tup (xs ++ ys))) (upd H p (.tup (xs ++ ys))) := .laid e .nil hp
    exact q _ _ _ _ rfl s (.tup upd_same (RpAll.mono s.sub _ _ (ha.append hb)))
theorem get_map {α : Type} {enc : α → PyData} {xs : List α} {i : Nat} {d : PyData} (h : (xs.map enc)[i]? = some d) : ∃ x, xs[i]? = some x ∧ d = enc x := by
  rw [List.getElem?_map] at h
  cases e : xs[i]? with
  | none => rw [e] at h; cases h
  | some x => rw [e] at h; exact ⟨x, rfl, (Option.some.inj h).symm⟩
theorem take_succA {α : Type} {ds : List α} {i : Nat} {d : α} (h : ds[i]? = some d) : ds.take (i + 1) = ds.take i ++ [d] := by
  rw [List.take_add_one, h]; rfl
theorem g_lcE {α : Type} {j : Nat} {vs : List Nat} (enc : α → PyData) (xs : List α) (p : α → Bool) (g : α → PyData) (hw : WiG K pt wi σ F (· = xs.map enc)) (hz : xs.length ≤ 50000) (hwp : ∀ x, wipe ((wipe σ vs).set j (some x)) vs = wipe σ vs)
    (ht : ∀ x ∈ xs, ∀ F', Ex F F' → ∀ v, Rp K F' v (enc x) → EtG pt t ((wipe σ vs).set j (some v)) F' (· = p x))
    (he : ∀ x ∈ xs, p x = true → ∀ F', Ex F F' → ∀ v, Rp K F' v (enc x) → EvG K pt te ((wipe σ vs).set j (some v)) F' (Is (g x))) :
    EvG K pt (tLc wi (gName j) t te vs) σ F (Is (.list ((xs.filter p).map g))) := by
  refine (g_lc (RS := (· = xs.map enc)) (fun _ i l => l = ((xs.take i).filter p).map g) hw (fun _ e => by rw [e, List.length_map]; exact hz) hwp (fun ds i l _ a => ?_) (fun _ _ => by simp) (fun ds' i d e hd => ?_)).imp fun x hx => ?_
  · rw [a, List.length_map]
    exact Nat.le_trans (List.length_filter_le _ _) (by rw [List.length_take]; exact Nat.min_le_left _ _)
  · subst e
    obtain ⟨x, hx, rfl⟩ := get_map hd
    have hm : x ∈ xs := List.mem_of_getElem? hx
    refine ⟨(· = p x), Is (g x), fun hp l y a ex => ?_, fun hp l a => ?_, fun F' e v hv => ⟨ht x hm F' e v hv, fun hp => he x hm hp.symm F' e v hv⟩⟩
    · rw [take_succA hx, List.filter_append, List.map_append, a, ex]
      simp [hp.symm]
    · rw [take_succA hx, List.filter_append, List.map_append, a]
      simp [hp.symm]
  · obtain ⟨ds', l, e1, e2, e3⟩ := hx
    subst e2
    rw [List.length_map, List.take_length] at e3
    show x = _
    rw [e1, e3]
theorem g_lcEM {α : Type} {j : Nat} {vs : List Nat} (enc : α → PyData) (xs : List α) (g : α → PyData) (hw : WiG K pt wi σ F (· = xs.map enc)) (hz : xs.length ≤ 50000) (hwp : ∀ x, wipe ((wipe σ vs).set j (some x)) vs = wipe σ vs)
    (he : ∀ x ∈ xs, ∀ F', Ex F F' → ∀ v, Rp K F' v (enc x) → EvG K pt te ((wipe σ vs).set j (some v)) F' (Is (g x))) :
    EvG K pt (tLc wi (gName j) tYes te vs) σ F (Is (.list (xs.map g))) :=
  (g_lcE enc xs (fun _ => true) g hw hz hwp (fun _ _ _ _ _ _ => et_yes) (fun d hd _ => he d hd)).is (congrArg (fun l => PyData.list (List.map g l)) (show xs.filter (fun _ => true) = xs from List.filter_eq_self.mpr (fun _ _ => rfl)))
/-- the items are drawn: each has P -/
theorem g_lcR {α β : Type} {j : Nat} {vs : List Nat} (enc : β → PyData) (P : β → Prop) {RS : List PyData → Prop} (hw : WiG K pt wi σ F RS) (hz : ∀ ds, RS ds → ds.length ≤ 50000) (hwp : ∀ x, wipe ((wipe σ vs).set j (some x)) vs = wipe σ vs)
    (he : ∀ F', Ex F F' → ∀ v, EvG K pt te ((wipe σ vs).set j (some v)) F' (fun x => ∃ y, x = enc y ∧ P y)) :
    EvG K pt (tLc wi (gName j) tYes te vs) σ F (fun x => ∃ (ds : List PyData) (ys : List β), RS ds ∧ x = .list (ys.map enc) ∧ ys.length = ds.length ∧ ∀ y ∈ ys, P y) := by
  refine (g_lc (RS := RS) (fun _ i l => ∃ ys : List β, l = ys.map enc ∧ ys.length = i ∧ ∀ y ∈ ys, P y) hw hz hwp (fun ds i l _ a => ?_) (fun _ _ => ⟨[], rfl, rfl, by simp⟩) (fun ds' i d e hd => ?_)).imp fun x hx => ?_
  · obtain ⟨ys, rfl, e, _⟩ := a
    rw [List.length_map, e]; exact Nat.le_refl _
  · refine ⟨(· = true), fun x => ∃ y, x = enc y ∧ P y, fun _ l x a ex => ?_, (fun hp => by cases hp), fun F' e v hv => ⟨et_yes, fun _ => he F' e v⟩⟩
    obtain ⟨ys, rfl, e, hP⟩ := a
    obtain ⟨y, rfl, py⟩ := ex
    refine ⟨ys ++ [y], by simp, by simp [e], fun z hz => ?_⟩
    rcases List.mem_append.mp hz with m | m
    · exact hP z m
    · rw [List.mem_singleton.mp m]; exact py
  · obtain ⟨ds', l, e1, e2, ys, rfl, e4, e5⟩ := hx
    exact ⟨ds', ys, e2, e1, e4, e5⟩
theorem yes_of {σ : L2.St} {H : Hp} {Q : Bool → Hp → Prop} (h : Q true H) : tYes σ H Q := h
theorem ite_t {p q : Prop} (h : p) : (if true = true then p else q) := by rw [if_pos rfl]; exact h
/-- [e for x in .. for y in .. if ..] -/
theorem g_lc2E {α β : Type} {j j1 : Nat} {vs vs1 : List Nat} (enc : α → PyData) (enc1 : β → PyData) (xs : List α) (ys : α → List β) (p : α → β → Bool) (g : α → β → PyData) (hw : WiG K pt wi σ F (· = xs.map enc)) (hz : xs.length ≤ 300) (hz1 : ∀ x ∈ xs, (ys x).length ≤ 300)
    (hwp : ∀ x, wipe ((wipe σ vs).set j (some x)) vs = wipe σ vs) (hwp1 : ∀ x y, wipe ((wipe ((wipe σ vs).set j (some x)) vs1).set j1 (some y)) vs1 = wipe ((wipe σ vs).set j (some x)) vs1)
    (hw1 : ∀ x ∈ xs, ∀ F', Ex F F' → ∀ v, Rp K F' v (enc x) → WiG K pt wi1 ((wipe σ vs).set j (some v)) F' (· = (ys x).map enc1))
    (ht : ∀ x ∈ xs, ∀ y ∈ ys x, ∀ F', Ex F F' → ∀ v u, Rp K F' v (enc x) → Rp K F' u (enc1 y) → EtG pt t ((wipe ((wipe σ vs).set j (some v)) vs1).set j1 (some u)) F' (· = p x y))
    (he : ∀ x ∈ xs, ∀ y ∈ ys x, p x y = true → ∀ F', Ex F F' → ∀ v u, Rp K F' v (enc x) → Rp K F' u (enc1 y) → EvG K pt te ((wipe ((wipe σ vs).set j (some v)) vs1).set j1 (some u)) F' (Is (g x y))) :
    EvG K pt (tLc2 wi (gName j) tYes wi1 (gName j1) t te vs vs1) σ F (Is (.list (xs.flatMap fun x => ((ys x).filter (p x)).map (g x)))) := fun H0 i0 g0 Q q =>
  hw H0 i0 g0 _ fun ds J F1 H1 hds s1 Y => fun Dl hD => by
    subst hds
    have gi := s1.inn
    have gg := s1.good
    let fl := fun l : List α => l.flatMap fun x => ((ys x).filter (p x)).map (g x)
    have hfl : ∀ i, i ≤ xs.length → (fl (xs.take i)).length ≤ i * 300 := by
      intro i
      induction i with
      | zero => intro _; simp [fl]
      | succ i ih =>
        intro hi
        have e := List.getElem?_eq_getElem (show i < xs.length by omega)
        rw [take_succA e]
        show ((xs.take i ++ [xs[i]]).flatMap _).length ≤ _
        rw [List.flatMap_append, List.length_append]
        have h1 := ih (by omega)
        have h2 := hz1 _ (List.mem_of_getElem? e)
        have h3 := List.length_filter_le (p xs[i]) (ys xs[i])
        simp only [List.flatMap_cons, List.flatMap_nil, List.append_nil, List.length_map]
        show (fl (xs.take i)).length + _ ≤ _
        omega
    refine ⟨fun i m H => m = xs.length - i ∧ i ≤ xs.length ∧ Grow K pt F1 H1 Dl (· = fl (xs.take i)) H, ⟨xs.length, by simp, Nat.zero_le _, .start gi gg hD (by simp [fl])⟩, ?_⟩
    rintro i m H ⟨rfl, hi, w⟩
    obtain ⟨F', l, acc, s, f, e, r, a⟩ := id w
    have eH : Ex F1 H := s.sub.trans s.inn
    by_cases hlt : i < xs.length
    · refine .inr ⟨Y.go i H eH (by rw [List.length_map]; exact hlt), Grow K pt F1 H1 Dl (· = fl (xs.take (i + 1))), fun H' p' => ⟨xs.length - (i + 1), by omega, rfl, hlt, p'⟩, fun v H' y => ?_⟩
      obtain ⟨rfl, d, hd, hx⟩ := Y.yld i H v H' eH (by rw [List.length_map]; exact hlt) y
      obtain ⟨x, hxx, rfl⟩ := get_map hd
      have hm : x ∈ xs := List.mem_of_getElem? hxx
      refine ⟨hwp v, ?_⟩
      refine yes_of (ite_t ?_)
      -- the inner walk
      refine hw1 x hm F' (s1.sub.trans s.sub) v (Rp.mono s.sub _ _ hx) H' s.inn s.good _ fun ds1 J1 F2 H2 hds1 s2 Y1 => ?_
      subst hds1
      obtain ⟨f2, e2⟩ := s2.beside gg hD f e
      let fi := fun k : Nat => fl (xs.take i) ++ (((ys x).take k).filter (p x)).map (g x)
      refine ⟨fun k m H => m = (ys x).length - k ∧ k ≤ (ys x).length ∧ ∃ F3 acc, Step pt F1 H1 F3 H ∧ Ex F2 F3 ∧ F3 Dl = none ∧ H Dl = some (.lst acc) ∧ RpAll K F3 acc (fi k), ⟨(ys x).length, by simp, Nat.zero_le _, F2, acc, s.trans s2, Ex.refl _, f2, e2, ?_⟩, ?_⟩
      · show RpAll K F2 acc (fl (xs.take i) ++ (((ys x).take 0).filter (p x)).map (g x))
        rw [List.take_zero, List.filter_nil, List.map_nil, List.append_nil, ← a]
        exact RpAll.mono s2.sub _ _ r
      rintro k m H3 ⟨rfl, hk, F3, acc3, s3, e23, f3, e3, r3⟩
      have eH3 : Ex F2 H3 := e23.trans s3.inn
      by_cases hkl : k < (ys x).length
      · refine .inr ⟨Y1.go k H3 eH3 (by rw [List.length_map]; exact hkl), fun H => ∃ F3 acc, Step pt F1 H1 F3 H ∧ Ex F2 F3 ∧ F3 Dl = none ∧ H Dl = some (.lst acc) ∧ RpAll K F3 acc (fi (k + 1)), fun H' p' => ⟨(ys x).length - (k + 1), by omega, rfl, hkl, p'⟩, fun u H' yy => ?_⟩
        obtain ⟨rfl, d1, hd1, hu⟩ := Y1.yld k H3 u H' eH3 (by rw [List.length_map]; exact hkl) yy
        obtain ⟨y, hyy, rfl⟩ := get_map hd1
        have hmy : y ∈ ys x := List.mem_of_getElem? hyy
        have hv3 : Rp K F3 v (enc x) := Rp.mono s3.sub _ _ hx
        have hu3 : Rp K F3 u (enc1 y) := Rp.mono e23 _ _ hu
        refine ⟨hwp1 v u, ?_⟩
        refine ht x hm y hmy F3 (s1.sub.trans s3.sub) v u hv3 hu3 H' s3.inn s3.good _ fun b F4 H4 hb s4 => ?_
        obtain ⟨f4, e4⟩ := s4.beside gg hD f3 e3
        subst hb
        cases hp : p x y with
        | true =>
          rw [if_pos rfl]
          refine he x hm y hmy hp F4 ((s1.sub.trans s3.sub).trans s4.sub) v u (Rp.mono s4.sub _ _ hv3) (Rp.mono s4.sub _ _ hu3) H4 s4.inn s4.good _ fun z zv F5 H5 hzz s5 hzv => ?_
          obtain ⟨f5, e5⟩ := s5.beside gg hD f4 e4
          subst hzz
          refine ⟨acc3, e5, sz_lt ?_, F5, acc3 ++ [zv], ((s3.trans s4).trans s5).put gg hD f5, (e23.trans s4.sub).trans s5.sub, f5, upd_same, ?_⟩
          · rw [r3.length]
            show (fl (xs.take i) ++ (((ys x).take k).filter (p x)).map (g x)).length < 100000
            rw [List.length_append, List.length_map]
            have h1 := hfl i hi
            have h2 := List.length_filter_le (p x) ((ys x).take k)
            have h3 := hz1 x hm
            rw [List.length_take] at h2
            have h4 : i * 300 ≤ 300 * 300 := Nat.mul_le_mul_right _ (by omega)
            omega
          · show RpAll K F5 _ (fl (xs.take i) ++ (((ys x).take (k + 1)).filter (p x)).map (g x))
            rw [take_succA hyy, List.filter_append, List.map_append]
            have : [y].filter (p x) = [y] := by simp [hp]
            rw [this, List.map_cons, List.map_nil, ← List.append_assoc]
            exact RpAll.append (RpAll.mono (s4.sub.trans s5.sub) _ _ r3) (.one hzv)
        | false =>
          rw [if_neg Bool.false_ne_true]
          refine ⟨F4, acc3, s3.trans s4, e23.trans s4.sub, f4, e4, ?_⟩
          show RpAll K F4 _ (fl (xs.take i) ++ (((ys x).take (k + 1)).filter (p x)).map (g x))
          rw [take_succA hyy, List.filter_append, List.map_append]
          have : [y].filter (p x) = [] := by simp [hp]
          rw [this, List.map_nil, List.append_nil]
          exact RpAll.mono s4.sub _ _ r3
      · have hE : k = (ys x).length := Nat.le_antisymm hk (Nat.le_of_not_lt hkl)
        subst hE
        refine .inl ⟨by have := Y1.stop H3 eH3; rw [List.length_map] at this; exact this, F3, fl (xs.take (i + 1)), acc3, s3, f3, e3, ?_, rfl⟩
        have e6 : fl (xs.take (i + 1)) = fi (ys x).length := by
          show (xs.take (i + 1)).flatMap _ = fl (xs.take i) ++ (((ys x).take (ys x).length).filter (p x)).map (g x)
          rw [take_succA hxx, List.flatMap_append, List.take_length]
          simp only [List.flatMap_cons, List.flatMap_nil, List.append_nil]
          rfl
        rw [e6]
        exact r3
    · have hE : i = xs.length := Nat.le_antisymm hi (Nat.le_of_not_lt hlt)
      subst hE
      refine .inl ⟨by have := Y.stop H eH; rw [List.length_map] at this; exact this, ?_⟩
      obtain ⟨F2, l2, a2, s2, r2⟩ := w.done gg hD
      refine q _ _ F2 H ?_ (s1.trans s2) r2
      show PyData.list l2 = _
      rw [a2, List.take_length]
theorem rc_allM {α : Type} (a : List α) (p : α → Bool) : RcG K (rAll K) [.list (a.map fun x => .bool (p x))] (Is (.bool (a.all p))) := by
  have h := rc_all (K := K) (bs := a.map p)
  rw [List.map_map] at h
  have e : (a.map p).all id = a.all p := by induction a <;> simp_all
  rw [e] at h
  exact h
theorem rc_anyM {α : Type} (a : List α) (p : α → Bool) : RcG K (rAny K) [.list (a.map fun x => .bool (p x))] (Is (.bool (a.any p))) := by
  have h := rc_any (K := K) (bs := a.map p)
  rw [List.map_map] at h
  have e : (a.map p).any id = a.any p := by induction a <;> simp_all
  rw [e] at h
  exact h
theorem g_cbI {r : List V → Hp → VK → Prop} {ds : List PyData} (h : EvsG K pt ts σ F (· = ds)) (hr : RcG K r ds R) : EvG K pt (tCB r ts) σ F R := g_cb h fun _ e => e ▸ hr
theorem g_consR (h : EvG K pt te σ F R) : EvsG K pt (tCons te tNil) σ F (fun l => ∃ d, l = [d] ∧ R d) := fun H1 i g Q q => gs_cons h gs_nil H1 i g Q fun l vs F2 H2 hl s hv => by
  obtain ⟨d, ds, e, h1, h2⟩ := hl
  exact q l vs F2 H2 ⟨d, by rw [e, h2], h1⟩ s hv
/-- one argument -/
theorem gs_one (h : EvG K pt te σ F (Is d)) : EvsG K pt (tCons te tNil) σ F (· = [d]) := gs_consI h gs_nil
theorem gs_two (h : EvG K pt ta σ F (Is d)) (h2 : EvG K pt tb σ F (Is e)) : EvsG K pt (tCons ta (tCons tb tNil)) σ F (· = [d, e]) := gs_consI h (gs_one h2)
theorem gs_three {tc : TE} (h : EvG K pt ta σ F (Is d)) (h2 : EvG K pt tb σ F (Is e)) (h3 : EvG K pt tc σ F (Is z)) : EvsG K pt (tCons ta (tCons tb (tCons tc tNil))) σ F (· = [d, e, z]) := gs_consI h (gs_two h2 h3)
theorem g_un1 {i : Int} (h : EvG K pt te σ F (Is (.int i))) : EvG K pt (tUn (rU fun i => .int (-i)) te) σ F (Is (.int (-i))) := fun H1 i' g Q q => h H1 i' g _ fun d v F2 H2 hd s hv => by
  subst hd
  exact ⟨i, rp_int hv, q _ _ F2 H2 rfl s (.int _)⟩
theorem g_opI (ha : EvG K pt ta σ F (Is d)) (hb : EvG K pt tb σ F (Is e)) (hr : RvG K r d e R) : EvG K pt (tOp r ta tb) σ F R := g_op ha hb fun _ _ h1 h2 => h1 ▸ h2 ▸ hr
end
section
variable {K : PySem.W.Frag} {pt : Option Pt} {σ : L2.St} {F0 H0 F H F' : Hp} {te ta tb : TE} {t u : TT} {R : PD} {d e z : PyData} {D : Ends} {tu tw tz : TS}
theorem t_asg1 {i : Nat} (s : Step pt F0 H0 F H) (h : EvG K pt te σ F R) (q : ∀ d v F2 H2, R d → Step pt F0 H0 F2 H2 → Ex F F2 → Rp K F2 v d → D.nx (σ.set i (some v)) H2) : tAsg te (gName i) D σ H :=
  h H s.inn s.good _ fun d v F2 H2 hd s2 hv => q d v F2 H2 hd (s.trans s2) s2.sub hv
theorem t_for1 {wi : TI} {j : Nat} {ds : List PyData} (s : Step pt F0 H0 F H) (hw : WiG K pt wi σ F (· = ds)) (I : Nat → L2.St → Hp → Prop) (h0 : ∀ F2, Ex F F2 → I 0 σ F2)
    (hs : ∀ i d, ds[i]? = some d → ∀ σ' F' H' x, I i σ' F' → Step pt F0 H0 F' H' → Ex F F' → Rp K F' x d →
      ∀ N : L2.St → Hp → Prop, (∀ σ2 F2 H2, I (i + 1) σ2 F2 → Step pt F0 H0 F2 H2 → Ex F' F2 → N σ2 H2) → tu { D with nx := N, ct := N, bk := D.nx } (σ'.set j (some x)) H')
    (hd : ∀ σ' F' H', I ds.length σ' F' → Step pt F0 H0 F' H' → Ex F F' → D.nx σ' H') : tFor wi (gName j) tu D σ H :=
  t_for (D := { D with nx := D.nx }) (tz := fun D' σ H => D.nx σ H) s hw I h0 hs hd
/-- a test that fails: the suite is skipped -/
theorem t_skip (s : Step pt F0 H0 F H) (h : EtG pt t σ F (· = false)) (q : ∀ F2 H2, Step pt F0 H0 F2 H2 → Ex F F2 → tz D σ H2) : tSeq (tIfS t tu tNext) tz D σ H := t_when s h (fun z => by cases z) fun _ => q
end
end Fv

namespace Fv
open PySem PySem.Spec PyProof.Rows L2 Evl StX
theorem o_ix {X : Cx} {K : PySem.W.Frag} (h : X.K = K := by rfl) : IxR X (rIx K) := h ▸ ix_seq
theorem m_append {X : Cx} : MtR X "list.append" rAppend := mt_append
section
variable {K : PySem.W.Frag} {w : World} {pt : Option Pt} {σ : L2.St} {F F' H : Hp} {te ta tb : TE} {ts tr : TA} {t u : TT} {R R1 S2 R3 : PD} {d e z : PyData} {r : L2.R2} {wi wi1 : TI}
theorem rv_ix {ds : List PyData} {src : PyData} {i : Int} (hs : src = .list ds ∨ src = .tuple ds) (h : atI ds i = some d) : RvG K (rIx K) src (.int i) (Is d) := fun F H x y e hx hy Q q => by
  rcases hs with rfl | rfl
  · exact .inl (rv_ixL h F H x y e hx hy Q q)
  · exact .inr (.inl (rv_ixT h F H x y e hx hy Q q))
theorem rv_eqI {i j : Int} : RvG K rEq (.int i) (.int j) (Is (.bool (decide (i = j)))) := rv_val fun F H x y _ hx hy => by
  rw [rp_int hx, rp_int hy]
  refine ⟨.bl (decide (V.int i = V.int j)), fun Q q => ⟨rfl, q⟩, ?_⟩
  have : decide (V.int i = V.int j) = decide (i = j) := by by_cases h : i = j <;> simp [h]
  rw [this]; exact .bl _
theorem rc_lenS {ds : List PyData} {src : PyData} (hs : src = .list ds ∨ src = .tuple ds) : RcG K (rLen K) [src] (Is (.int ds.length)) := by
  rcases hs with rfl | rfl
  · exact rc_lenL
  · exact rc_lenT
end
/-! ### a list that grows -/
/-- at l a list of ls beside the part that stays; it was made behind H0 -/
structure Gst (K : PySem.W.Frag) (pt : Option Pt) (F0 H0 : Hp) (l : Addr) (F H : Hp) (ls : List PyData) : Prop where
  step : Step pt F0 H0 F H
  off : F l = none
  ex : ∃ acc, H l = some (.lst acc) ∧ RpAll K F acc ls
section
variable {K : PySem.W.Frag} {pt : Option Pt} {σ : L2.St} {F0 H0 F H F' F2 H2 : Hp} {te ta tb : TE} {ts tr : TA} {t u : TT} {R R1 S2 R3 : PD} {d e z : PyData} {wi : TI} {D : Ends} {tu tw tz : TS} {l : Addr} {ls : List PyData}
theorem Gst.run (g0 : Good pt F0 H0) (h0 : H0 l = none) (g : Gst K pt F0 H0 l F H ls) (s : Step pt F H F2 H2) : Gst K pt F0 H0 l F2 H2 ls := by
  obtain ⟨acc, e, r⟩ := g.ex
  obtain ⟨f2, e2⟩ := s.beside g0 h0 g.off e
  -- the pot is off l
  exact ⟨g.step.trans s, f2, acc, e2, RpAll.mono s.sub _ _ r⟩
theorem Gst.put (g0 : Good pt F0 H0) (h0 : H0 l = none) (g : Gst K pt F0 H0 l F H ls) {v : V} (hv : Rp K F v d) : ∃ acc, H l = some (.lst acc) ∧ acc.length = ls.length ∧ Gst K pt F0 H0 l F (upd H l (.lst (acc ++ [v]))) (ls ++ [d]) := by
  obtain ⟨acc, e, r⟩ := g.ex
  exact ⟨acc, e, r.length, g.step.put g0 h0 g.off, g.off, _, upd_same, r.append (.one hv)⟩
theorem Gst.done (g0 : Good pt F0 H0) (h0 : H0 l = none) (g : Gst K pt F0 H0 l F H ls) : ∃ F2, Step pt F0 H0 F2 H ∧ Ex F F2 ∧ Rp K F2 (.ref l) (.list ls) := by
  obtain ⟨acc, e, r⟩ := g.ex
  have e1 : Ex F (upd F l (.lst acc)) := Ex.new g.off
  refine ⟨upd F l (.lst acc), ⟨g.step.sub.trans e1, fun b u hb => ?_, g.step.keep, fun q hq => ⟨?_, (g.step.good q hq).2⟩, fun b h1 h2 => ?_⟩, e1, .lst upd_same (RpAll.mono e1 _ _ r)⟩
  · by_cases z : b = l
    · rw [z, upd_same] at hb; rw [z, e]; exact hb
    · rw [upd_ne z] at hb; exact g.step.inn b u hb
  · rw [upd_ne (off_pot g0 h0 q hq).1.symm]; exact (g.step.good q hq).1
  · have z : b ≠ l := fun z => h2 (by rw [z]; exact h0)
    rw [upd_ne z]; exact g.step.new b h1 h2
/-- x = [] -/
theorem t_newL {i : Nat} (s : Step pt F0 H0 F H) (q : ∀ l, H0 l = none → H l = none → Gst K pt F0 H0 l F (upd H l (.lst [])) [] → tz D (σ.set i (some (.ref l))) (upd H l (.lst []))) (hb : ∀ l, H l = none → H0 l = none) : tSeq (tAsg (tLst tNil) (gName i)) tz D σ H :=
  ⟨Nat.zero_le _, fun l hl => by
    have f : F l = none := by
      cases e : F l with
      | none => rfl
      | some o => rw [s.inn _ _ e] at hl; cases hl
    exact q l (hb l hl) hl ⟨s.trans (.litter s.inn s.good hl), f, [], upd_same, .nil⟩⟩
/-- x.append(e) -/
theorem t_app {i : Nat} (g0 : Good pt F0 H0) (h0 : H0 l = none) (g : Gst K pt F0 H0 l F H ls) (hi : σ[i]? = some (some (.ref l))) (h : EvG K pt te σ F R) (hz : ls.length < 100000)
    (q : ∀ d F2 H2, R d → Gst K pt F0 H0 l F2 H2 (ls ++ [d]) → Ex F F2 → D.nx σ H2) : tDrop (tBM K "list" rAppend (tVar i) (tCons te tNil)) D σ H := by
  obtain ⟨acc, e, r⟩ := g.ex
  refine ⟨.ref l, hi, .inl ⟨rfl, acc, sq_of e⟩, h H g.step.inn g.step.good _ fun d v F2 H2 hd s hv => ?_⟩
  obtain ⟨acc2, e2, hlen, g2⟩ := (g.run g0 h0 s).put g0 h0 hv
  exact ⟨l, acc2, v, rfl, rfl, e2, sz_lt (by rw [hlen]; exact hz), q d F2 _ hd g2 s.sub⟩
/-- a loop beside a list that grows: I tells the slots and the list behind i turns -/
theorem t_forG {j : Nat} {ds : List PyData} (g0 : Good pt F0 H0) (h0 : H0 l = none) (g : Gst K pt F0 H0 l F H ls) (hw : WiG K pt wi σ F (· = ds)) (I : Nat → L2.St → Hp → List PyData → Prop) (hi : ∀ F2, Ex F F2 → I 0 σ F2 ls)
    (hs : ∀ i d, ds[i]? = some d → ∀ σ' F' H' x ls', I i σ' F' ls' → Gst K pt F0 H0 l F' H' ls' → Ex F F' → Rp K F' x d →
      ∀ N : L2.St → Hp → Prop, (∀ σ2 F2 H2 ls2, I (i + 1) σ2 F2 ls2 → Gst K pt F0 H0 l F2 H2 ls2 → Ex F' F2 → N σ2 H2) → tu { D with nx := N, ct := N, bk := tz D } (σ'.set j (some x)) H')
    (hd : ∀ σ' F' H' ls', I ds.length σ' F' ls' → Gst K pt F0 H0 l F' H' ls' → Ex F F' → tz D σ' H') : tSeq (tFor wi (gName j) tu) tz D σ H :=
  hw H g.step.inn g.step.good _ fun ds' J F1 H1 e s1 Y => by
    subst e
    refine ⟨fun i m σ' H' => m = ds'.length - i ∧ i ≤ ds'.length ∧ ∃ F' ls', Gst K pt F0 H0 l F' H' ls' ∧ Ex F1 F' ∧ I i σ' F' ls', ⟨ds'.length, by simp, Nat.zero_le _, F1, ls, g.run g0 h0 s1, Ex.refl _, hi F1 s1.sub⟩, ?_⟩
    rintro i m σ' H' ⟨rfl, hil, F', ls', g', e', p⟩
    have eH : Ex F1 H' := e'.trans g'.step.inn
    by_cases hlt : i < ds'.length
    · refine .inr ⟨Y.go i H' eH hlt, fun σ2 H2 => ∃ F2 ls2, Gst K pt F0 H0 l F2 H2 ls2 ∧ Ex F1 F2 ∧ I (i + 1) σ2 F2 ls2, fun σ2 H2 ⟨F2, ls2, a, b, c⟩ => ⟨ds'.length - (i + 1), by omega, rfl, hlt, F2, ls2, a, b, c⟩, fun x H2 y => ?_⟩
      obtain ⟨rfl, d, hdd, hx⟩ := Y.yld i H' x H2 eH hlt y
      exact hs i d hdd σ' F' _ x ls' p g' (s1.sub.trans e') (Rp.mono e' _ _ hx) _ fun σ2 F2 H2 ls2 a b c => ⟨F2, ls2, b, e'.trans c, a⟩
    · have hE : i = ds'.length := Nat.le_antisymm hil (Nat.le_of_not_lt hlt)
      subst hE
      exact .inl ⟨Y.stop H' eH, hd σ' F' H' ls' p g' (s1.sub.trans e')⟩
end
end Fv
namespace Fv
open PySem L2 Evl
theorem Step.back {pt : Option Pt} {F0 H0 F H : Hp} (s : Step pt F0 H0 F H) (l : Addr) (h : H l = none) : H0 l = none := by
  cases e : H0 l with
  | none => rfl
  | some o => exact absurd h (s.keep.there (F := F) s.good (by rw [e]; simp))
end Fv

/-! a dict comprehension whose keys are tuples -/
namespace Fv
open PySem PySem.Spec PyProof.Rows L2 Evl StX
/-- the store of one entry, the key a tuple that stands -/
theorem putT {Y : Cx} {pins : List (Addr × Obj)} {τ : L2.St} {G : Hp} {s : Shared} {E : Value → Shared → Prop} {D b : Addr} {es : List (List Key × V)} {k : List Key} {v : V} {u r : Value} {Q : Unit → Shared → Prop}
    (hu : Y.A.units + 1 < cLine) (I : Inv Y pins τ G s) (hD : G D = some (.dT es)) (hk : G b = some (.tup (k.map kV))) (hz : es.length < sizeLine) (ru : RelV (.ref b) u) (rr : RelV v r)
    (fin : ∀ s', Inv Y pins τ (upd G D (.dT (putK es k v))) s' → Q () s') : wpAny (model Y.prog Y.w) Y.A (dictSet D u r) Q E s := by
  cases (show u = Value.ref b from ru)
  obtain ⟨hl, hsys, ts, kt, of⟩ := dt_of I.hok hD
  refine wpAny_dictSet_heap (hsz := by rw [← Paired.length kt]; exact hl) (show (tupleKind (mixKind Y.prog Y.w)).room Y.A from Nat.lt_of_succ_lt hu) (key_of I.hok hk) of fun hp' new same => fin _ ?_
  obtain ⟨o, ar, n, e1, e2, e3, e4, _, e6⟩ := new
  have fit : (putK es k v).length ≤ sizeLine := by have := length_putK es k v; omega
  refine d_write I (by rw [hD]; trivial) same ⟨o, e1⟩ ⟨fit, hsys, _, (kt.put k hk rr).keeps fun c ys ec => ?_, o, ar, n, e1, e2, e3, e4, e6⟩
  have : c ≠ D := ne_of ec hD (fun z => by cases z)
  rw [upd_ne this]; exact ec
/-- {k: v for target in iter if ..}: D is the new dict, each key a tuple of ints and texts -/
def tDcT (wi : TI) (g : TG) (tt : TT) (tk tv : TE) (vs : List Nat) : TE := fun σ H Q => wi σ H fun J H1 => ∀ D, H1 D = none →
  ∃ W : Nat → Nat → Hp → Prop, (∃ m, W 0 m (upd H1 D (.dT []))) ∧ ∀ i m H, W i m H →
    (J.stop i H ∧ Q (.ref D) H) ∨
    (J.go i H ∧ ∃ Nx : Hp → Prop, (∀ H', Nx H' → ∃ m', m' < m ∧ W (i + 1) m' H') ∧
      ∀ x H', J.yld i H x H' → g x (wipe σ vs) H' fun σ2 H2 => wipe σ2 vs = wipe σ vs ∧ tt σ2 H2 fun b H3 =>
        if b = true then tk σ2 H3 fun y H4 => tv σ2 H4 fun z H5 => ∃ es k q, y = .ref q ∧ H5 q = some (.tup (k.map kV)) ∧ H5 D = some (.dT es) ∧ es.length < sizeLine ∧ Nx (upd H5 D (.dT (putK es k z)))
        else Nx H3)
section
variable {X : Cx} {kx vx tg iter : Expr} {ifs : List Expr} {scope : Scope} {own : List (Str × Nat)} {pos : Pos} {wi : TI} {g : TG} {tt : TT} {tk tv : TE}
/-- the scope's block of a comprehension, whatever its own frame -/
abbrev Blk (X : Cx) (scope : Scope) (P : Cx → Prop) : Prop := ∀ (s : Shared) (H : Hp) (C : Addr) (cl : List (Str × Addr)) (fp : List Addr), P (X.blk s H scope (compEnvC scope cl C X.env) fp)
theorem pe_dcT (hc : X.calm = true) (hu : X.A.units + 1 < cLine) (hN : X.N.Nodup) (hi : PI X tg iter wi) (ok : BlkOk X.N X.env.scope scope own)
    (hg : Blk X scope fun Y => PG Y tg g) (ht : Blk X scope fun Y => PTs Y ifs tt) (hk : Blk X scope fun Y => PE Y kx tk) (hv : Blk X scope fun Y => PE Y vx tv) (hs : ∀ x, foldedSetIterable iter X.env x = pure x := by intro _; rfl) :
    PE X (.DictComp kx vx [⟨tg, iter, ifs, 0⟩] scope pos) (tDcT wi g tt tk tv (own.map (·.2))) := by
  refine ⟨fun pins s σ H Q I q => ?_⟩
  rw [arm_eval_DictComp]
  have clo : ∀ n ∈ scope.names, n.2 = .free → ∃ c, X.env.cells.lookup n.1 = some c := fun n hn e => (ok.free n hn e).elim (fun z => I.ok.has _ (.inl z)) fun z => I.ok.has _ (.inr z)
  refine wpAny_comprehension_free (use := none) rfl hs (closure_ok clo) ok.kind (fun n hn e => by rw [ok.uniq n hn, e]) (thn (hi.run pins s σ H _ I q) fun xv sa ha => thn ha fun itv sb hb => ?_)
  obtain ⟨it, fp, tn, J, Hb, rfl, Ib, T, tb, fb, qb⟩ := hb
  refine wpAny_newObj_type (newEnv_comp ?_)
  -- the dict D, then the block's frame C
  generalize eD : sb.heap.objs.size = D
  have freeD : Hb D = none := Ib.hok.fresh (Nat.le_of_eq eD)
  obtain ⟨W, ⟨m0, w0⟩, turn⟩ := qb D freeD
  generalize ec : ({ sb with heap := sb.heap.push { cls := .type "dict", data := .dict #[] } } : Shared) = sc
  have push : sc.heap = sb.heap.push { cls := .type "dict", data := .dict #[] } := by rw [← ec]
  have Ic : Inv X pins σ (upd Hb D (.dT [])) sc := by
    subst eD; subst ec
    exact Ib.laid (t' := sb.toks) (fun _ _ e => Heap.get?_push_of_some _ e) (Nat.le_refl _) (dt_empty sb.heap Ib.big)
  have fc : ∀ b ∈ fp, FpOk X pins (upd Hb D (.dT [])) b ∧ b < sc.heap.objs.size := fun b hb => by
    obtain ⟨o, e, _⟩ := T.obj _ _ tb b hb
    have lt := Heap.lt_size e
    have ne : b ≠ D := fun z => by rw [z, ← eD] at lt; exact Nat.lt_irrefl _ lt
    exact ⟨⟨by rw [upd_ne ne]; exact (fb b hb).1, (fb b hb).2⟩, by rw [push, Heap.size_push]; exact Nat.lt_succ_of_lt lt⟩
  have tc : tn 0 sc.heap := T.keep _ _ _ tb fun _ _ _ e => by rw [push]; exact Heap.get?_push_of_some _ e
  have Id := block_start Ic ok hN fc
  have none3 : ∀ b ∈ fp, upd Hb D (.dT []) b = none := fun b hb => (fc b hb).1.1
  have bg := hg sc (upd Hb D (.dT [])) sc.heap.objs.size (cellsFrom (sc.heap.objs.size + 1) scope.names (cloFrom X.env.cells scope.names [])) fp
  have bt := ht sc (upd Hb D (.dT [])) sc.heap.objs.size (cellsFrom (sc.heap.objs.size + 1) scope.names (cloFrom X.env.cells scope.names [])) fp
  have bk := hk sc (upd Hb D (.dT [])) sc.heap.objs.size (cellsFrom (sc.heap.objs.size + 1) scope.names (cloFrom X.env.cells scope.names [])) fp
  have bv := hv sc (upd Hb D (.dT [])) sc.heap.objs.size (cellsFrom (sc.heap.objs.size + 1) scope.names (cloFrom X.env.cells scope.names [])) fp
  show codeAny _ _ (.compStart (.DictComp kx vx [⟨tg, iter, ifs, 0⟩] scope pos) 0 (.ref it) (.ref D) (compEnvC scope (cellsFrom (sc.heap.objs.size + 1) scope.names (cloFrom X.env.cells scope.names [])) sc.heap.objs.size X.env))
    (compPost (model X.prog X.w) X.A X.xe none (EP X pins σ Q) (.ref D) sc.heap.objs.size) { sc with heap := pushCells (sc.heap.push { cls := .type "dict", data := .dict #[] }) scope.names }
  have td : tn 0 (pushCells (sc.heap.push { cls := .type "dict", data := .dict #[] }) scope.names) := T.keep _ _ _ tc fun _ _ _ e => pushCells_keeps _ _ _ _ (Heap.get?_push_of_some _ e)
  generalize eY : compEnvC scope (cellsFrom (sc.heap.objs.size + 1) scope.names (cloFrom X.env.cells scope.names [])) sc.heap.objs.size X.env = env1 at Id bg bt bk bv ⊢
  have locY : env1.locals = sc.heap.objs.size := by rw [← eY]; rfl
  generalize eH : upd Hb D (.dT []) = Hc at Ic Id bg bt bk bv w0 none3 fc
  generalize es0 : ({ sc with heap := pushCells (sc.heap.push { cls := .type "dict", data := .dict #[] }) scope.names } : Shared) = sd at Id ⊢
  have td' : tn 0 sd.heap := by rw [← es0]; exact td
  generalize eZ : X.blk sc Hc scope env1 fp = Y at Id bg bt bk bv
  have YA : Y.A = X.A := by rw [← eZ]
  have own1 : ∀ {τ : L2.St} {G : Hp} {s' : Shared}, Inv Y [] τ G s' → (∀ b ∈ fp, G b = none) → ∀ b ∈ fp, FpOk Y [] G b := fun {τ G s'} J1 hn b hb => by
    subst eZ
    exact ⟨hn b hb, (J1.ok.exf b hb).1, J1.ok.exfs b hb, .inl hb, fun x c e => (J1.ok.exf b hb).2 x c e, fun p hp => by simp at hp⟩
  have main : codeAny (model X.prog X.w) X.A (.compLoop (.DictComp kx vx [⟨tg, iter, ifs, 0⟩] scope pos) 0 (.ref it) (.ref D) env1) (compPost (model X.prog X.w) X.A X.xe none (EP X pins σ Q) (.ref D) sc.heap.objs.size) sd := by
    refine compLoop_anyD (fun n s' => ∃ i G, Inv Y [] (wipe σ (own.map (·.2))) G s' ∧ tn i s'.heap ∧ (∀ b ∈ fp, G b = none) ∧ W i n G) ?_ m0 ⟨0, Hc, Id, td', none3, w0⟩
    rintro n s1 ⟨i, G, J1, t1, n1, w1⟩
    rcases turn i n G w1 with ⟨stp, qq⟩ | ⟨go, Nx, hNx, step⟩
    · -- the end: back in the def's own frame
      have z := T.done Y (by subst eZ; rfl) (by subst eZ; rfl) (by subst eZ; rfl) (by subst eZ; exact hc) i [] s1 _ G (fun _ _ => False) J1 (own1 J1 n1) t1 stp
      rw [YA] at z
      refine thnF z fun r s2 ⟨er, J2⟩ => ?_
      subst er; subst eZ
      have nC : G sc.heap.objs.size = none := by
        have z : G env1.locals = none := J2.free
        rw [locY] at z; exact z
      obtain ⟨m, hm, _⟩ := J2.loc
      have hm : s2.heap.Ns env1.locals m := hm
      rw [locY] at hm
      have back : Inv X pins σ G s2 := Ic.call' (ch := fp) J2.os J2.base J2.hok J2.bare fun b hb => let y := (fc b hb).1.2; ⟨y.2.2.1, y.1, y.2.2.2.1, y.2.2.2.2⟩
      obtain ⟨f0, f1, f2, f3, f4, f5⟩ := Ic.fpOk (Nat.le_refl _) nC
      exact ⟨m, hm, fun h3 sb3 => ⟨.ref D, G, back.turned (t' := s2.toks) (fun b o hb e => (sb3.2 b hb).trans e) f0 f1 f3 f4 f5, rfl, qq⟩⟩
    · have z := T.item Y (by subst eZ; rfl) (by subst eZ; rfl) (by subst eZ; rfl) (by subst eZ; exact hc) i [] s1 _ G (fun _ _ => False) J1 (own1 J1 n1) t1 go
      rw [YA] at z
      refine thnF z fun r s2 ⟨u, er, h2⟩ => ?_
      subst er
      refine thnF h2 fun _ s3 ⟨x, G3, J3, r3, y3, t3, n3⟩ => ?_
      have J3' := J3.pinned (own1 J3 n3) (T.obj _ _ t3)
      have zg := bg.run _ s3 _ G3 x u _ J3' r3 (step x G3 y3)
      subst eZ
      refine thnF zg fun _ s4 ⟨τ, G4, J4, hw4, q4⟩ => ?_
      refine thnF (bt.run _ s4 τ G4 _ J4 q4) fun b s5 ⟨G5, J5, q5⟩ => ?_
      have len : (wipe σ (own.map (·.2))).length = τ.length := by rw [← hw4, wipe_length]
      have close : ∀ {s' : Shared} {G' : Hp}, Inv (X.blk sc Hc scope env1 fp) ([] ++ pinsAt fp s3.heap) τ G' s' → Nx G' → ∃ m, m < n ∧ ∃ i G, Inv (X.blk sc Hc scope env1 fp) [] (wipe σ (own.map (·.2))) G s' ∧ tn i s'.heap ∧ (∀ b ∈ fp, G b = none) ∧ W i m G := fun {s' G'} J' nx => by
        obtain ⟨m', lt, w'⟩ := hNx G' nx
        have held : ∀ b ∈ fp, ∀ o, s3.heap.get? b = some o → s'.heap.get? b = some o ∧ G' b = none := fun b hb o e =>
          have y := J'.pin (b, o) (List.mem_append_right _ (List.mem_append_right _ (mem_pinsAt hb e)))
          ⟨y.1, y.2.1⟩
        refine ⟨m', lt, i + 1, G', (J'.unpinned (pins := [])).weak len (fun j v e => (wipe_some (hw4 ▸ e)).1), T.keep _ _ _ t3 fun b hb o e => (held b hb o e).1, fun b hb => ?_, w'⟩
        obtain ⟨o, e, _⟩ := T.obj _ _ t3 b hb
        exact (held b hb o e).2
      cases b with
      | false => exact close J5 (by simpa using q5)
      | true =>
        have q5' := q5
        simp only [if_true] at q5'
        refine thnF (bk.run _ s5 τ G5 _ J5 q5') fun kv s6 ⟨yk, G6, J6, r6, q6⟩ => ?_
        refine thnF (bv.run _ s6 τ G6 _ J6 q6) fun vv s7 ⟨yv, G7, J7, r7, es, k, q, ek, hq, hD, hz, nx⟩ => ?_
        subst ek
        exact putT (Y := X.blk sc Hc scope env1 fp) hu J7 hD hq hz r6 r7 fun s8 J8 => close J8 nx
  exact codeAny_compStart_dict main (T.self X.A 0 _ _ _ td' main)
end
end Fv

/-! sorted of a list of rows of whole numbers -/
namespace Fv
open PySem PySem.Spec PyProof.Rows L2 Evl StX
/-- the rows in Python's order -/
def sortL (ls : List (List Int)) : List (List Int) := ls.mergeSort (PySem.W.dataLe false dT)
theorem sortL_perm (ls : List (List Int)) : (sortL ls).Perm ls := List.mergeSort_perm _ _
theorem each_of_vals {β : Type} {f : β → V} : ∀ {bs : List β} {us : List Value}, Vals (bs.map f) us → PySem.W.EachIs (fun u b => RelV (f b) u) us bs
  | [], _, h => by cases h; exact .nil
  | b :: bs, _, h => by
    cases h with
    | cons r t => exact .cons r (each_of_vals t)
theorem vals_of_each {β : Type} {f : β → V} : ∀ {bs : List β} {us : List Value}, PySem.W.EachIs (fun u b => RelV (f b) u) us bs → Vals (bs.map f) us
  | [], _, h => by cases h; exact .nil
  | b :: bs, _, h => by
    cases h with
    | cons r t => exact .cons r (vals_of_each t)
theorem sorts_unit {prog : Program} {w : World} {A : Around} {s : Shared} {vs : List Value} (e : PySem.W.EachIs (fun v d => ∃ as, Reads s.heap v d as) vs [dT []]) (hu : A.units + 1 < cLine) : PySem.W.SortsAt prog w A s (PySem.W.dataKind s.heap [dT []]) vs := by
  have one : ∀ d, d ∈ [dT []] → d = dT [] := fun d h => List.mem_singleton.mp h
  refine ⟨fun v hv => ?_, general', fun E x y a b Q ha hb hq => ?_, fun h2 => ?_⟩
  · obtain ⟨d, hd, as, r⟩ := e.left v hv
    exact ⟨_, PySem.W.dataKind_some (fun d h d' h' => by rw [one d h, one d' h']; rfl) hd r⟩
  · obtain ⟨d, as, hd, ra, rfl⟩ := PySem.W.dataKind_inv ha
    obtain ⟨d', as', hd', rb, rfl⟩ := PySem.W.dataKind_inv hb
    have e1 := one d hd
    have e2 := one d' hd'
    subst e1 e2
    show wpAny _ _ (oneLt' false x y) Q E s
    exact PySem.W.oneLt_alike (f := false) (fun z => by cases z) ra rb rfl (fun z => by cases z) (by have : (dT []).depth = 1 := by decide
                                                                                                     rw [this]; omega) hq
  · have := e.length
    simp at this
    omega
/-- sorted(xs), xs a list of rows -/
def rSortLL (K : PySem.W.Frag) : List V → Hp → VK → Prop := fun xs H Q => ∃ (l : Addr) (ps : List (V × List Int)), xs = [.ref l] ∧ H l = some (.lst (ps.map (·.1))) ∧ (∀ p ∈ ps, Rp K H p.1 (dT p.2)) ∧
  ((∀ p ∈ ps, p.2 ≠ []) ∨ ps.map (·.2) = [[]]) ∧ ∀ (qs : List (V × List Int)) p, qs.Perm ps → qs.map (·.2) = sortL (ps.map (·.2)) → H p = none → Q (.ref p) (upd H p (.lst (qs.map (·.1))))
theorem c_sortLL {X : Cx} {K : PySem.W.Frag} (hu : X.A.units + 65 < cLine) (h : X.K = K := by rfl) : CallR X (.builtin "sorted") (rSortLL K) := by
  subst h
  intro pins s σ H xs us Q I r q
  obtain ⟨l, ps, rfl, hl, hp, hk, q⟩ := q
  rw [Vals.ref1 r]
  obtain ⟨its, rv, pl, hz⟩ := I.list (SqL.of hl)
  have ea : PySem.W.EachIs (fun u b => RelV b.1 u) its ps := each_of_vals rv
  have rd : ∀ u (b : V × List Int), b ∈ ps → RelV b.1 u → ∃ as, Reads s.heap u (dT b.2) as := fun u b hb ru => Dp.reads I (dT b.2) b.1 u (Rp.dp _ _ (hp b hb)) ru
  let hS : Heap := PySem.W.sortingHeap (PySem.W.copyHeap s.heap its) (s.heap.objs.size + 1) its
  have er0 : PySem.W.EachIs (fun u (b : V × List Int) => ∃ as, Reads hS u (dT b.2) as) its ps := (PySem.W.each_mem ea).mono fun u b ⟨ru, hb⟩ => by
    obtain ⟨as, x⟩ := rd u b hb ru
    exact ⟨as, PyProof.Rows.Reads.keeps (fun _ _ => PySem.W.sorting_copy_old) x⟩
  have er1 : PySem.W.EachIs (fun u d => ∃ as, Reads hS u d as) its (ps.map fun b => dT b.2) := PySem.W.each_map (R := fun u d => ∃ as, Reads hS u d as) (fun b : V × List Int => dT b.2) er0
  have al : PySem.W.AllAlike (ps.map fun b => dT b.2) := PySem.W.AllAlike.of fun b b' => PySem.W.alike_ints b.2 b'.2
  have dep : ∀ b : V × List Int, (dT b.2).depth ≤ 2 := fun b => depth_dT b.2
  have S : PySem.W.SortsAt X.prog X.w X.A.in1.in1 { s with heap := hS } (PySem.W.dataKind hS (ps.map fun b => dT b.2)) its := by
    rcases hk with hne | h1
    · refine PySem.W.SortsAt.data (s := { s with heap := hS }) er1 al (.inl fun d hd => ?_) fun d hd => ?_
      · obtain ⟨b, hb, rfl⟩ := List.mem_map.mp hd
        have := hne b hb
        cases e : b.2 with
        | nil => exact absurd e this
        | cons x r => exact ⟨.int x, r.map .int, by simp [dT]⟩
      · obtain ⟨b, hb, rfl⟩ := List.mem_map.mp hd
        have := dep b
        show X.A.units + 1 + 1 + _ < _
        omega
    · have e2 : (ps.map fun b => dT b.2) = [dT []] := by
        have := congrArg (List.map dT) h1
        simpa [List.map_map, Function.comp_def] using this
      rw [e2] at er1 ⊢
      exact sorts_unit (s := { s with heap := hS }) er1 (by show X.A.units + 1 + 1 + 1 < _; omega)
  have out := PySem.W.sortVals_data (h' := hS) (enc := fun b : V × List Int => dT b.2) false ea er0 al
  refine PySem.W.sorted_vals pl.isList S (by rw [← rv.length]; exact hz) ?_
  generalize PySem.W.sortVals (PySem.W.dataKind hS (ps.map fun b => dT b.2)) false its its = ou at out
  generalize eq : ps.mergeSort (PySem.W.dataLe false fun b : V × List Int => dT b.2) = qs at out
  have pq : qs.Perm ps := eq ▸ List.mergeSort_perm _ _
  have snd : qs.map (·.2) = sortL (ps.map (·.2)) := by
    rw [← eq]
    exact PySem.W.sort_maps (s := PySem.W.dataLe false dT) (fun x : V × List Int => x.2) fun _ _ _ _ => rfl
  have vo : Vals (qs.map (·.1)) ou := vals_of_each out
  obtain ⟨c, hc⟩ := PyProof.Rows.sortedAll_at s.heap its ou.toArray
  have fr : H (s.heap.objs.size + 1) = none := I.hok.fresh (Nat.le_succ _)
  have len : (qs.map (·.1)).length ≤ sizeLine := by
    rw [List.length_map, pq.length_eq, ← List.length_map (f := (·.1))]; exact hz
  exact ⟨.ref (s.heap.objs.size + 1), upd H (s.heap.objs.size + 1) (.lst (qs.map (·.1))), I.laid (t' := s.toks) (fun _ _ => PyProof.Rows.sortedAll_old) (Nat.le_succ _) ⟨len, ou, c, vo, hc⟩, rfl, q qs _ pq snd fr⟩
section
variable {K : PySem.W.Frag} {w : World} {pt : Option Pt} {σ : L2.St} {F F' H : Hp} {te : TE}
theorem rp_rows : ∀ {xs : List V} {ls : List (List Int)}, RpAll K F xs (ls.map dT) → (xs.zip ls).map (·.1) = xs ∧ (xs.zip ls).map (·.2) = ls ∧ ∀ p ∈ xs.zip ls, Rp K F p.1 (dT p.2)
  | _, [], h => by cases h; simp
  | _, l :: ls, h => by
    cases h with
    | cons h1 h2 =>
      obtain ⟨e1, e2, e3⟩ := rp_rows h2
      refine ⟨by simp [e1], by simp [e2], fun p hp => ?_⟩
      rw [List.zip_cons_cons] at hp
      rcases List.mem_cons.mp hp with rfl | m
      · exact h1
      · exact e3 p m
theorem rows_rp : ∀ {ps : List (V × List Int)}, (∀ p ∈ ps, Rp K F p.1 (dT p.2)) → RpAll K F (ps.map (·.1)) ((ps.map (·.2)).map dT)
  | [], _ => .nil
  | p :: ps, h => .cons (h p (by simp)) (rows_rp fun q m => h q (List.mem_cons_of_mem _ m))
theorem g_sortLL {ls : List (List Int)} (h : EvG K pt te σ F (Is (dLT ls))) (hk : (∀ l ∈ ls, l ≠ []) ∨ ls = [[]]) : EvG K pt (tCB (rSortLL K) (tCons te tNil)) σ F (Is (dLT (sortL ls))) := fun H1 i g Q q =>
  h H1 i g _ fun d v F2 H2 hd s hv => by
    subst hd
    obtain ⟨a, xs, rfl, hl, ha⟩ := rp_lst hv
    obtain ⟨e1, e2, e3⟩ := rp_rows ha
    refine ⟨a, xs.zip ls, rfl, by rw [e1]; exact s.inn _ _ hl, fun p hp => Rp.mono s.inn _ _ (e3 p hp), ?_, fun qs p pq es hp => ?_⟩
    · rcases hk with hk | hk
      · exact .inl fun p hp => hk _ (by rw [← e2]; exact List.mem_map_of_mem hp)
      · exact .inr (by rw [e2]; exact hk)
    · have s3 : Step pt F2 H2 (upd F2 p (.lst (qs.map (·.1)))) (upd H2 p (.lst (qs.map (·.1)))) := .laid s.inn s.good hp
      refine q _ _ _ _ rfl (s.trans s3) (.lst upd_same ?_)
      rw [e2] at es
      rw [← es]
      exact rows_rp fun r hr => Rp.mono s3.sub _ _ (e3 r (pq.mem_iff.mp hr))
end
end Fv

/-! dicts with rows as keys; objects -/
namespace Fv
open PySem PySem.Spec PyProof.Rows L2 Evl StX
abbrev key (l : List Int) : List Key := l.map Sum.inl
theorem key_kV (l : List Int) : (key l).map kV = l.map V.int := by simp [key, Function.comp_def, kV]
def letD (ls : List (List Int)) : List (List Key × V) := ls.foldl (fun es l => putK es (key l) (.bl true)) []
theorem letD_snoc (ls : List (List Int)) (l : List Int) : letD (ls ++ [l]) = putK (letD ls) (key l) (.bl true) := by simp [letD]
theorem key_inj {a b : List Int} (h : key a = key b) : a = b := by
  have := congrArg (List.map kV) h
  rw [key_kV, key_kV] at this
  exact (List.map_inj_right (fun x y h => by injection h)).mp this
theorem letD_len (ls : List (List Int)) : (letD ls).length ≤ ls.length := by
  unfold letD
  suffices ∀ (es : List (List Key × V)), (ls.foldl (fun es l => putK es (key l) (.bl true)) es).length ≤ es.length + ls.length by simpa using this []
  induction ls with
  | nil => intro es; simp
  | cons l ls ih =>
    intro es
    have h1 := ih (putK es (key l) (.bl true))
    have h2 := length_putK es (key l) (.bl true)
    simp only [List.foldl_cons, List.length_cons]
    omega
theorem valV_letD (ls : List (List Int)) (m : List Int) : valV (letD ls) (key m) = if m ∈ ls then some (.bl true) else none := by
  unfold letD
  suffices ∀ (es : List (List Key × V)), valV (ls.foldl (fun es l => putK es (key l) (.bl true)) es) (key m) = if m ∈ ls then some (.bl true) else valV es (key m) by simpa [valV_nil] using this []
  induction ls with
  | nil => intro es; simp
  | cons l ls ih =>
    intro es
    rw [List.foldl_cons, ih, valV_put]
    by_cases h : m ∈ ls
    · simp [h]
    · by_cases k : m = l
      · subst k; simp
      · have : key m ≠ key l := fun z => k (key_inj z)
        simp [h, k, this]
/-- a value that is no data: told by what stands in the part that stays -/
def EvX (pt : Option Pt) (te : TE) (σ : L2.St) (F : Hp) (Φ : V → Hp → Prop) : Prop :=
  ∀ H1, Ex F H1 → Good pt F H1 → ∀ Q : VK, (∀ v F2 H2, Φ v F2 → Step pt F H1 F2 H2 → Q v H2) → te σ H1 Q
section
variable {K : PySem.W.Frag} {w : World} {pt : Option Pt} {σ : L2.St} {F F' H : Hp} {te tv : TE} {t : TT} {wi : TI}
/-- {l: True for l in rows} -/
theorem x_dcT {j : Nat} {vs : List Nat} {ls : List (List Int)} (hw : WiG K pt wi σ F (· = ls.map dT)) (hz : ls.length ≤ 300) (hwp : ∀ x, wipe ((wipe σ vs).set j (some x)) vs = wipe σ vs)
    (hk : ∀ l ∈ ls, ∀ F', Ex F F' → ∀ v, Rp K F' v (dT l) → EvG K pt te ((wipe σ vs).set j (some v)) F' (Is (dT l))) (hv : ∀ F', Ex F F' → ∀ v, EvG K pt tv ((wipe σ vs).set j (some v)) F' (Is (.bool true))) :
    EvX pt (tDcT wi (gName j) tYes te tv vs) σ F (fun v F2 => ∃ D, v = .ref D ∧ F2 D = some (.dT (letD ls))) := fun H0 i0 g0 Q q =>
  hw H0 i0 g0 _ fun ds J F1 H1 hds s1 Y => fun D hD => by
    subst hds
    have gi := s1.inn
    have gg := s1.good
    have f1 : F1 D = none := by
      cases w : F1 D with
      | none => rfl
      | some o => rw [gi _ _ w] at hD; cases hD
    refine ⟨fun i m H => m = ls.length - i ∧ i ≤ ls.length ∧ ∃ F', Step pt F1 H1 F' H ∧ F' D = none ∧ H D = some (.dT (letD (ls.take i))), ⟨ls.length, by simp, Nat.zero_le _, F1, .litter gi gg hD, f1, upd_same⟩, ?_⟩
    rintro i m H ⟨rfl, hi, F', s, f, e⟩
    have eH : Ex F1 H := s.sub.trans s.inn
    by_cases hlt : i < ls.length
    · refine .inr ⟨Y.go i H eH (by rw [List.length_map]; exact hlt), fun H => ∃ F', Step pt F1 H1 F' H ∧ F' D = none ∧ H D = some (.dT (letD (ls.take (i + 1)))), fun H' p' => ⟨ls.length - (i + 1), by omega, rfl, hlt, p'⟩, fun v H' y => ?_⟩
      obtain ⟨rfl, d, hd, hx⟩ := Y.yld i H v H' eH (by rw [List.length_map]; exact hlt) y
      obtain ⟨l, hl, rfl⟩ := get_map hd
      have hm : l ∈ ls := List.mem_of_getElem? hl
      refine ⟨hwp v, yes_of (ite_t ?_)⟩
      refine hk l hm F' (s1.sub.trans s.sub) v (Rp.mono s.sub _ _ hx) H' s.inn s.good _ fun d2 y2 F2 H2 hd2 s2 hy2 => ?_
      have off : ∀ q, pt = some q → D ≠ q.p := fun q hq => (off_pot gg hD q hq).1
      have f2 := s2.new D f (by rw [e]; simp)
      have e2 := s2.keep D _ off e
      refine hv F2 ((s1.sub.trans s.sub).trans s2.sub) v H2 s2.inn s2.good _ fun d3 y3 F3 H3 hd3 s3 hy3 => ?_
      have f3 := s3.new D f2 (by rw [e2]; simp)
      have e3 := s3.keep D _ off e2
      subst hd2; subst hd3
      rw [rp_bool hy3]
      obtain ⟨q2, xs, rfl, hq2, ha⟩ := rp_tup hy2
      have e1 := rpAll_ints ha
      subst e1
      refine ⟨_, key l, q2, rfl, by rw [key_kV]; exact s3.inn _ _ (s3.sub _ _ hq2), e3, sz_lt ?_, F3, ((s.trans s2).trans s3).put gg hD f3, f3, ?_⟩
      · have := letD_len (ls.take i)
        rw [List.length_take] at this
        omega
      · rw [take_succA hl, letD_snoc]
        exact upd_same
    · have hE : i = ls.length := Nat.le_antisymm hi (Nat.le_of_not_lt hlt)
      subst hE
      rw [List.take_length] at e
      refine .inl ⟨by have := Y.stop H eH; rw [List.length_map] at this; exact this, q _ (upd F' D (.dT (letD ls))) H ⟨D, rfl, upd_same⟩ (s1.trans ⟨s.sub.trans (Ex.new f), fun b u hb => ?_, s.keep, fun z hz => ⟨?_, (s.good z hz).2⟩, fun b h1 h2 => ?_⟩)⟩
      · by_cases z : b = D
        · rw [z, upd_same] at hb; rw [z, e]; exact hb
        · rw [upd_ne z] at hb; exact s.inn b u hb
      · rw [upd_ne (off_pot gg hD z hz).1.symm]; exact (s.good z hz).1
      · have z : b ≠ D := fun z => h2 (by rw [z]; exact hD)
        rw [upd_ne z]; exact s.new b h1 h2
end
/-- H without a -/
def del (H : Hp) (a : Addr) : Hp := fun b => if b = a then none else H b
theorem del_same {H : Hp} {a : Addr} : del H a a = none := by unfold del; rw [if_pos rfl]
theorem del_ne {H : Hp} {a b : Addr} (h : b ≠ a) : del H a b = H b := by unfold del; rw [if_neg h]
theorem del_ex {H : Hp} {a : Addr} : Ex (del H a) H := fun b o h => by
  by_cases z : b = a
  · rw [z, del_same] at h; cases h
  · rw [del_ne z] at h; exact h
/-- what stands for itself within a body: the object at x is the body's own -/
theorem Step.own {F H : Hp} (e : Ex F H) (x dx : Addr) : Step none F (del (del H x) dx) F H := ⟨Ex.refl F, e, Keep.of fun a o h => del_ex _ _ (del_ex _ _ h), .nil, New.refl F _⟩
section
variable {K : PySem.W.Frag} {pt : Option Pt} {σ : L2.St} {F0 H0 F H : Hp} {te : TE} {R : PD} {d : PyData} {D : Ends} {tz : TS} {x dx C : Addr} {fs : List (Str × V)} {i : Nat} {f : Str}
theorem EvG.toX (h : EvG K pt te σ F (Is d)) : EvX pt te σ F (fun v F2 => Rp K F2 v d) := fun H1 i g Q q => h H1 i g Q fun d' v F2 H2 hd s hv => q v F2 H2 (by rw [← (show d' = d from hd)]; exact hv) s
/-- self.f = e -/
theorem t_fld1 {Φ : V → Hp → Prop} (s : Step none F0 H0 F H) (h0 : H0 x = none) (hx : F x = none) (hi : σ[i]? = some (some (.ref x))) (ho : H x = some (.ins C dx fs)) (cl : Cls K C) (na : NoAttr K C f) (hz : fs.length < 1000) (h : EvX none te σ F Φ)
    (q : ∀ v F2 H2, Φ v F2 → Step none F0 H0 F2 H2 → Ex F F2 → F2 x = none → H2 x = some (.ins C dx (putF f v fs)) → D.nx σ H2) : sFld K (tVar i) te f D σ H :=
  h H s.inn .nil _ fun v F2 H2 hv s2 => by
    have f2 : F2 x = none := s2.new x hx (by rw [ho]; simp)
    exact ⟨.ref x, hi, x, C, dx, fs, rfl, s2.keep.ex x _ ho, cl, na, hz, q v F2 _ hv ((s.trans s2).put .nil h0 f2) s2.sub f2 upd_same⟩
theorem t_fld {Φ : V → Hp → Prop} (s : Step none F0 H0 F H) (h0 : H0 x = none) (hx : F x = none) (hi : σ[i]? = some (some (.ref x))) (ho : H x = some (.ins C dx fs)) (cl : Cls K C) (na : NoAttr K C f) (hz : fs.length < 1000) (h : EvX none te σ F Φ)
    (q : ∀ v F2 H2, Φ v F2 → Step none F0 H0 F2 H2 → Ex F F2 → F2 x = none → H2 x = some (.ins C dx (putF f v fs)) → tz D σ H2) : tSeq (sFld K (tVar i) te f) tz D σ H :=
  t_fld1 (D := { D with nx := tz D }) s h0 hx hi ho cl na hz h q
end
end Fv
namespace Fv
open PySem L2 Evl
theorem Step.own1 {F H : Hp} (e : Ex F H) (x : Addr) : Step none F (del H x) F H := ⟨Ex.refl F, e, Keep.of del_ex, .nil, New.refl F _⟩
theorem Step.less {F B B' F2 H2 : Hp} (s : Step none F B F2 H2) (e : Ex B' B) : Step none F B' F2 H2 :=
  ⟨s.sub, s.inn, Keep.of fun a o h => s.keep.ex a o (e a o h), .nil, fun a h1 h2 => s.new a h1 (by
    cases w : B' a with
    | none => exact absurd w h2
    | some o => rw [e a o w]; simp)⟩
theorem Step.add {F B F2 H2 : Hp} {a : Addr} {o : HO} (s : Step none F B F2 H2) (f : F2 a = none) (h : H2 a = some o) (b : B a = none) : Step none F B (upd F2 a o) H2 :=
  ⟨s.sub.trans (Ex.new f), fun c u hc => by
    by_cases z : c = a
    · rw [z, upd_same] at hc; rw [z, h]; exact hc
    · rw [upd_ne z] at hc; exact s.inn c u hc, s.keep, .nil, fun c h1 h2 => by
    have z : c ≠ a := fun z => h2 (by rw [z]; exact b)
    rw [upd_ne z]; exact s.new c h1 h2⟩
end Fv

/-! ranges as rows, slices, fields, keys, static methods -/
namespace Fv
open PySem PySem.Spec PyProof.Rows L2 Evl StX
section
variable {K : PySem.W.Frag} {w : World} {pt : Option Pt} {σ : L2.St} {F F' H : Hp} {te ta tb tv : TE} {t : TT} {wi : TI} {d : PyData} {R : PD}
theorem rgV_rng (a b : Int) (F : Hp) : RpAll K F (rgV a b) (rng a (b - a).toNat) := by
  unfold rgV rng
  have : ∀ (l : List Nat), RpAll K F (l.map fun i => V.int (a + (i : Nat))) (l.map fun (k : Nat) => PyData.int (a + (k : Int))) := by
    intro l
    induction l with
    | nil => exact .nil
    | cons x r ih => exact .cons (.int _) ih
  exact this _
theorem g_tupR1 {n : Int} (h : EvG K pt te σ F (Is (.int n))) (h0 : 0 ≤ n) (h1 : n ≤ 16777216) : EvG K pt (tTupRg (tRg1 te)) σ F (Is (.tuple (rng 0 n.toNat))) := fun H1 i g Q q =>
  h H1 i g _ fun d v F2 H2 hd s hv => by
    subst hd
    refine ⟨n, rp_int hv, .of_le (Int.le_refl _) h1 (by omega) h0, fun p hp => ?_⟩
    have s3 : Step pt F2 H2 (upd F2 p (.tup (rgV 0 n))) (upd H2 p (.tup (rgV 0 n))) := .laid s.inn s.good hp
    exact q _ _ _ _ rfl (s.trans s3) (.tup upd_same (by simpa using rgV_rng (K := K) 0 n (upd F2 p (.tup (rgV 0 n)))))
theorem g_tupR2 {a b : Int} (ha : EvG K pt ta σ F (Is (.int a))) (hb : EvG K pt tb σ F (Is (.int b))) (h0 : 0 ≤ a) (h1 : b ≤ 16777216) (h2 : a ≤ 16777216) (h3 : 0 ≤ b) : EvG K pt (tTupRg (tRg2 ta tb)) σ F (Is (.tuple (rng a (b - a).toNat))) := fun H1 i g Q q =>
  ha H1 i g _ fun d v F2 H2 hd s hv => hb.mono s.sub H2 s.inn s.good _ fun e u F3 H3 he s2 hu => by
    subst hd; subst he
    refine ⟨a, b, rp_int hv, rp_int hu, .of_le h0 h1 h2 h3, fun p hp => ?_⟩
    have s3 : Step pt F3 H3 (upd F3 p (.tup (rgV a b))) (upd H3 p (.tup (rgV a b))) := .laid s2.inn s2.good hp
    exact q _ _ _ _ rfl ((s.trans s2).trans s3) (.tup upd_same (rgV_rng a b _))
/-- t[i:] -/
theorem g_slA {ds : List PyData} {i : Nat} (h : EvG K pt te σ F (Is (.tuple ds))) (hi : EvG K pt ta σ F (Is (.int (i : Int)))) : EvG K pt (tSl (rSlA K) te (tPart ta) tNoPart) σ F (Is (.tuple (ds.drop i))) := fun H1 i' g Q q =>
  h H1 i' g _ fun d v F2 H2 hd s hv => hi.mono s.sub H2 s.inn s.good _ fun e u F3 H3 he s2 hu => by
    subst hd; subst he
    obtain ⟨a, xs, rfl, hl, ha⟩ := rp_tup hv
    refine ⟨(i : Int), rp_int hu, a, xs, rfl, tx s2.inn (s2.sub _ _ hl), fun hw => ?_, fun hw p hp => ?_⟩
    · rw [HT.sIx_nat] at hw
      have : ds.drop i = ds := by
        have hl := ha.length
        by_cases z : xs.length = 0
        · have : ds = [] := List.eq_nil_of_length_eq_zero (by omega)
          rw [this]; simp
        · have : i = 0 := by have := hw.1; omega
          rw [this]; rfl
      refine q _ _ F3 H3 rfl (s.trans s2) ?_
      rw [this]
      exact .tup (s2.sub _ _ hl) (RpAll.mono s2.sub _ _ ha)
    · have e1 : cutV xs (some (i : Int)) none = xs.drop i := by
        unfold cutV
        rw [HT.sIx_nat, HT.sIx_none]
        by_cases z : i ≤ xs.length
        · rw [Nat.min_eq_left z]
          exact List.take_of_length_le (by rw [List.length_drop]; omega)
        · rw [Nat.min_eq_right (by omega), Nat.sub_self, List.take_zero, List.drop_eq_nil_of_le (by omega)]
      rw [e1]
      have s3 : Step pt F3 H3 (upd F3 p (.tup (xs.drop i))) (upd H3 p (.tup (xs.drop i))) := .laid s2.inn s2.good hp
      refine q _ _ _ _ rfl ((s.trans s2).trans s3) (.tup upd_same (RpAll.mono (s2.sub.trans s3.sub) _ _ ?_))
      have : ∀ (n : Nat) {xs : List V} {ds : List PyData}, RpAll K F2 xs ds → RpAll K F2 (xs.drop n) (ds.drop n) := by
        intro n
        induction n with
        | zero => intro _ _ h; exact h
        | succ n ih =>
          intro xs ds h
          cases h with
          | nil => exact .nil
          | cons h1 h2 => exact ih h2
      exact this i ha
/-- o.f, o's fields told in the part that stays -/
theorem x_fld {Φ : V → Hp → Prop} {i : Nat} {x C dx : Addr} {fs : List (Str × V)} {f : Str} {v : V} (hi : σ[i]? = some (some (.ref x))) (ho : F x = some (.ins C dx fs)) (cl : Cls K C) (na : NoAttr K C f) (hl : fs.lookup f = some v) (hv : ∀ F', Ex F F' → Φ v F') : EvX pt (tFld K (tVar i) f) σ F Φ := fun H1 i' g Q q =>
  ⟨.ref x, hi, x, C, dx, fs, v, rfl, i' _ _ ho, cl, na, hl, q v F H1 (hv F (Ex.refl F)) (.refl i' g)⟩
theorem g_fld {i : Nat} {x C dx : Addr} {fs : List (Str × V)} {f : Str} {v : V} (hi : σ[i]? = some (some (.ref x))) (ho : F x = some (.ins C dx fs)) (cl : Cls K C) (na : NoAttr K C f) (hl : fs.lookup f = some v) (hv : Rp K F v d) : EvG K pt (tFld K (tVar i) f) σ F (Is d) := fun H1 i' g Q q =>
  ⟨.ref x, hi, x, C, dx, fs, v, rfl, i' _ _ ho, cl, na, hl, q d v F H1 rfl (.refl i' g) hv⟩
theorem EvX.mono {Φ : V → Hp → Prop} (hm : ∀ v F1 F2, Ex F1 F2 → Φ v F1 → Φ v F2) (h : EvX pt te σ F Φ) (e : Ex F F') : EvX pt te σ F' Φ := fun H1 i g Q q =>
  h H1 (e.trans i) (g.less e) Q fun v F2 H2 hv s => q v _ H2 (hm v _ _ join_l hv) (s.wide e i g)
/-- a row among the keys of a dict -/
theorem g_din {m : List Int} {ls : List (List Int)} (hk : EvG K pt te σ F (Is (dT m))) (hd : ∀ F', Ex F F' → EvX pt ta σ F' (fun v F2 => ∃ D, v = .ref D ∧ F2 D = some (.dT (letD ls)))) : EvG K pt (tDIn te ta) σ F (Is (.bool (decide (m ∈ ls)))) := fun H1 i g Q q =>
  hk H1 i g _ fun d v F2 H2 hd' s hv => hd F2 s.sub H2 s.inn s.good _ fun u F3 H3 ⟨D, hu, hD⟩ s2 => by
    subst hd'
    obtain ⟨a, xs, rfl, hl, ha⟩ := rp_tup hv
    have e1 := rpAll_ints ha
    subst e1
    refine ⟨D, _, hu, DGet.t (k := key m) (s2.inn _ _ hD) (by rw [key_kV]; exact s2.inn _ _ (s2.sub _ _ hl)), q _ _ F3 H3 rfl (s.trans s2) ?_⟩
    rw [valV_letD]
    by_cases z : m ∈ ls
    · rw [if_pos z]; simp only [Option.isSome_some, z, decide_true]; exact .bl true
    · rw [if_neg z]; simp only [Option.isSome_none, z, decide_false]; exact .bl false
end
/-! ### C.m(..), m a static method -/
structure SMet (K : PySem.W.Frag) (C : Addr) (mc : Value) (m : Str) (p g : Addr) : Prop where
  at_ : PySem.W.findCls K (.ref C) mc m = some (.get (.builtin "staticmethod.__get__") (.ref p) .none (.ref C))
  rc : ∃ rest, PySem.W.recIn K p "staticmethod" = some (.ref g :: rest)
  kp : PySem.W.keepIn K (.ref g) = true
theorem pe_smeth {X : Cx} {CX : CXT} {k : Nat} {C p g : Addr} {fd : FuncData} {ps : List Str} {sp : Sp} {dvs : List V} {ds : List Value} {E : XK} {mc : Value} {x m : Str} {px apos pos : Pos} {e : Expr} {es : List Expr} {t : TA} {pl : Sem Bool}
    (hg : Gl X x) (hm : X.mg x = some (.ref C)) (r : ClX.CRead X.K C mc) (c : SMet X.K C mc m p g) (F : FnOk X.prog X.w X.K X.mg X.base CX k g fd ps sp) (hr : Room k X.A) (hb : Binds X.K fd ps ds) (hd : Vals dvs ds) (hx : Passes CX X E) (ha : PA X (e :: es) t)
    (hdb : (x == ("__debug__" : Str)) = false := by decide) (hst : starEach (e :: es) X.env = (false, eval e X.env) :: starEach es X.env := by rfl) (hpl : (backTo pos (starEach es X.env)).any (·.1) = false := by rfl)
    (ht : eval (.Call (.Attribute (.Name x px) m apos) (e :: es) [] pos) X.env = (do
      let ov ← eval (.Name x px) X.env
      standAt apos.atName
      let (f, first) ← holding [ov] (getMethod ov m pl)
      callWith pos f first (backTo pos (starEach (e :: es) X.env)) (backToKw pos (keywordEach [] X.env))) := by rfl) :
    PE X (.Call (.Attribute (.Name x px) m apos) (e :: es) [] pos) (tCall sp dvs E t) := by
  refine ⟨fun pins s σ H Q I q => ?_⟩
  obtain ⟨rest, rec_⟩ := c.rc
  refine PySem.W.methodCall_KW (pl := pl) (ld_glob I hg hm ?_ hdb) ht
  refine PySem.W.method_cls I.kIn r.ga (PySem.W.cls_bind I.kIn r.rd c.at_ (wpAny_call (PySem.W.sm_get (s := { s with toks := s.toks + 1 }) I.kIn rec_ (PySem.W.handed_on rfl ?_))))
  refine PySem.W.callWith_K (h₀ := X.base) I.ok.mod.kin c.kp (thn (ha.run pos pins _ σ H _ (I.tok (s.toks + 1)) q) fun us s1 ⟨vs, H1, I1, rr, q1⟩ => ⟨I1.kIn, ?_⟩) hst hpl
  exact run_fn F hr hb hd hx I1 rr q1
end Fv

/-! the pot: expressions that lay nothing -/
namespace Fv
open PySem PySem.Spec PyProof.Rows L2 Evl StX
def EvC (te : TE) (σ : L2.St) (H : Hp) (v : V) : Prop := ∀ Q : VK, Q v H → te σ H Q
def EtC (t : TT) (σ : L2.St) (H : Hp) (b : Bool) : Prop := ∀ Q : Bool → Hp → Prop, Q b H → t σ H Q
section
variable {K : PySem.W.Frag} {σ : L2.St} {H : Hp} {te ta tb : TE} {t u : TT} {x y z : V} {r : L2.R2}
theorem ec_var {i : Nat} (h : σ[i]? = some (some x)) : EvC (tVar i) σ H x := fun Q q => ⟨x, h, q⟩
theorem ec_int {i : Int} : EvC (tC (.int i)) σ H (.int i) := fun Q q => q
theorem ec_op (ha : EvC ta σ H x) (hb : EvC tb σ H y) (hr : ∀ Q : VK, Q z H → r x y H Q) : EvC (tOp r ta tb) σ H z := fun Q q => ha _ (hb _ (hr Q q))
theorem ec_I0 {g : Int → Int → V} {i j : Int} (ha : EvC ta σ H (.int i)) (hb : EvC tb σ H (.int j)) : EvC (tOp (rI0 g) ta tb) σ H (g i j) := ec_op ha hb fun Q q => ⟨i, j, rfl, rfl, q⟩
theorem ec_I {C : Int → Int → Prop} {g : Int → Int → V} {i j : Int} (ha : EvC ta σ H (.int i)) (hb : EvC tb σ H (.int j)) (hc : C i j) : EvC (tOp (rI C g) ta tb) σ H (g i j) := ec_op ha hb fun Q q => ⟨i, j, rfl, rfl, hc, q⟩
theorem ec_eq {i j : Int} (ha : EvC ta σ H (.int i)) (hb : EvC tb σ H (.int j)) : EvC (tOp rEq ta tb) σ H (.bl (decide (i = j))) := ec_op ha hb fun Q q => by
  have : decide (V.int i = V.int j) = decide (i = j) := by by_cases h : i = j <;> simp [h]
  exact ⟨rfl, by rw [this]; exact q⟩
theorem ec_ixL {p : Addr} {xs : List V} {i : Int} {v : V} (ha : EvC ta σ H (.ref p)) (hb : EvC tb σ H (.int i)) (hp : H p = some (.lst xs)) (hi : atI xs i = some v) : EvC (tOp (rIxL K) ta tb) σ H v := ec_op ha hb fun Q q => ⟨p, xs, i, v, rfl, rfl, SqL.of hp, hi, q⟩
theorem ec_int1 {i : Int} (h : EvC te σ H (.int i)) : EvC (tCB (fun xs H Q => (∃ i, xs = [.int i] ∧ Q (.int i) H) ∨ ∃ k, xs = [.bl k] ∧ Q (.int (if k then 1 else 0)) H) (tCons te tNil)) σ H (.int i) := fun Q q => h _ (.inl ⟨i, rfl, q⟩)
theorem ec_len {p : Addr} {xs : List V} (h : EvC te σ H (.ref p)) (hp : H p = some (.lst xs)) : EvC (tCB (rLen K) (tCons te tNil)) σ H (.int xs.length) := fun Q q => h _ ⟨p, xs, rfl, .inl (SqL.of hp), q⟩
theorem etc_of {b : Bool} (h : EvC te σ H (.bl b)) : EtC (tTest te) σ H b := fun Q q => h _ ⟨b, rfl, q⟩
theorem etc_and {a b : Bool} (h1 : EtC t σ H a) (h2 : a = true → EtC u σ H b) : EtC (tAnd t u) σ H (a && b) := fun Q q => h1 _ (by
  cases a with
  | true => exact h2 rfl Q q
  | false => exact q)
/-- the pot as it stands -/
structure Pot (H : Hp) (q : Pt) (a b c : Int) : Prop where
  at_ : H q.p = some (.lst [.int a, .int b, .int c, .ref q.l])
  ls : H q.l = some (.lst (q.ns.map V.int))
  ne : q.l ≠ q.p
  few : q.ns.length ≤ 60
  a0 : 0 ≤ a
  b0 : 0 ≤ b
  b1 : b < 2147483647
  c0 : 0 ≤ c
  c1 : c ≤ q.ns.length
theorem Pot.of {q : Pt} (h : PotAt H q) : ∃ a b c, Pot H q a b c := by
  obtain ⟨a, b, c, h1, h2, h3, h4, h5, h6⟩ := h.ex
  exact ⟨a, b, c, h1, h.ls, h.ne, h.few, h2, h3, h4, h5, h6⟩
theorem Pot.pot {q : Pt} {a b c : Int} (h : Pot H q a b c) : PotAt H q := ⟨h.ne, h.ls, h.few, a, b, c, h.at_, h.a0, h.b0, h.b1, h.c0, h.c1⟩
theorem Pot.put {q : Pt} {a b c a' b' c' : Int} (h : Pot H q a b c) (h1 : 0 ≤ a') (h2 : 0 ≤ b') (h3 : b' < 2147483647) (h4 : 0 ≤ c') (h5 : c' ≤ q.ns.length) : Pot (upd H q.p (.lst [.int a', .int b', .int c', .ref q.l])) q a' b' c' :=
  ⟨upd_same, by rw [upd_ne h.ne]; exact h.ls, h.ne, h.few, h1, h2, h3, h4, h5⟩
theorem Step.pot {F : Hp} {q : Pt} {o : HO} (e : Ex F H) (g : Good (some q) F H) (h : PotAt (upd H q.p o) q) : Step (some q) F H F (upd H q.p o) := by
  have fp := (g q rfl).1
  refine ⟨Ex.refl F, fun a u h => ?_, fun a u hq h => ?_, fun q' hq => ?_, New.refl F H⟩
  · rw [upd_ne (fun z => by rw [z, fp] at h; cases h)]; exact e _ _ h
  · rw [upd_ne (hq q rfl)]; exact h
  · obtain rfl := Option.some.inj hq
    exact ⟨fp, h⟩
/-- pot[i] = e -/
theorem ts_put {q : Pt} {D : Ends} {tz : TS} {i : Int} {j : Nat} {v : V} {xs : List V} (h : EvC te σ H v) (h0 : σ[0]? = some (some (.ref q.p))) (hp : H q.p = some (.lst xs)) (hj : ixN xs.length i = some j) (k : tz D σ (upd H q.p (.lst (xs.set j v)))) :
    tSeq (tAsg te (gSub (tVar 0) (tC (.int i)) rSetL)) tz D σ H := h _ ⟨_, h0, ⟨q.p, xs, i, j, rfl, rfl, hp, hj, k⟩⟩
theorem ts_put1 {q : Pt} {D : Ends} {i : Int} {j : Nat} {v : V} {xs : List V} (h : EvC te σ H v) (h0 : σ[0]? = some (some (.ref q.p))) (hp : H q.p = some (.lst xs)) (hj : ixN xs.length i = some j) (k : D.nx σ (upd H q.p (.lst (xs.set j v)))) :
    tAsg te (gSub (tVar 0) (tC (.int i)) rSetL) D σ H := h _ ⟨_, h0, ⟨q.p, xs, i, j, rfl, rfl, hp, hj, k⟩⟩
theorem ts_asg {D : Ends} {tz : TS} {i : Nat} {v : V} (h : EvC te σ H v) (k : tz D (σ.set i (some v)) H) : tSeq (tAsg te (gName i)) tz D σ H := h _ k
theorem ts_ret {D : Ends} {v : V} (h : EvC te σ H v) (k : D.rt v H) : tRet te D σ H := h _ k
theorem ts_if {D : Ends} {tu tw tz : TS} {b : Bool} (h : EtC t σ H b) (k1 : b = true → tu { D with nx := tz D } σ H) (k2 : b = false → tw { D with nx := tz D } σ H) : tSeq (tIfS t tu tw) tz D σ H := h _ (by
  cases b with
  | true => exact k1 rfl
  | false => exact k2 rfl)
theorem ts_if1 {D : Ends} {tu tw : TS} {b : Bool} (h : EtC t σ H b) (k1 : b = true → tu D σ H) (k2 : b = false → tw D σ H) : tIfS t tu tw D σ H := h _ (by
  cases b with
  | true => exact k1 rfl
  | false => exact k2 rfl)
end
end Fv
namespace Fv
open PySem PySem.Spec PyProof.Rows L2 Evl StX
section
variable {σ : L2.St} {H : Hp} {t : TT}
theorem ts_when {D : Ends} {tu tz : TS} {b : Bool} (J : L2.St → Hp → Prop) (h : EtC t σ H b) (k1 : b = true → ∀ N : L2.St → Hp → Prop, (∀ σ' H', J σ' H' → N σ' H') → tu { D with nx := N } σ H) (k2 : b = false → J σ H) (k : ∀ σ' H', J σ' H' → tz D σ' H') :
    tSeq (tIfS t tu tNext) tz D σ H := ts_if h (fun e => k1 e _ fun σ' H' j => k σ' H' j) fun e => k σ H (k2 e)
end
theorem fm0 (i : Int) {j : Int} (h : 0 < j) : 0 ≤ i.fmod j ∧ i.fmod j < j := ⟨Int.fmod_nonneg_of_pos i h, Int.fmod_lt_of_pos i h⟩
theorem fd0 {i j : Int} (h : 0 ≤ i) (hj : 0 ≤ j) : 0 ≤ i.fdiv j := Int.fdiv_nonneg h hj
end Fv

namespace Fv
open PySem PySem.Spec PyProof.Rows L2 Evl StX
/-- a promise of a def that takes the pot and a number -/
def spP (K : PySem.W.Frag) (P : Int → Prop) (R : Int → PD) : Sp := fun vs H Q _ => ∃ (q : Pt) (m : Int) (F : Hp), vs = [.ref q.p, .int m] ∧ P m ∧ Ex F H ∧ Good (some q) F H ∧ ∀ d v F2 H2, R m d → Step (some q) F H F2 H2 → Rp K F2 v d → Q v H2
theorem spP.len {K : PySem.W.Frag} {P : Int → Prop} {R : Int → PD} : ∀ vs H Q E, spP K P R vs H Q E → vs.length = 2 := fun vs H Q E ⟨_, _, _, h, _⟩ => by rw [h]; rfl
section
variable {K : PySem.W.Frag} {pt : Option Pt} {σ : L2.St} {F F' H : Hp} {te ta tb : TE} {ts tr : TA} {t u : TT} {R R1 S2 R3 : PD} {d e z : PyData} {r : L2.R2}
theorem g_callP {P : Int → Prop} {R : Int → PD} {E : XK} {q : Pt} {i : Nat} {m : Int} (h0 : σ[i]? = some (some (.ref q.p))) (h : EvG K (some q) te σ F (Is (.int m))) (hp : P m) : EvG K (some q) (tCall (spP K P R) [] E (tCons (tVar i) (tCons te tNil))) σ F (R m) := fun H1 e g Q k =>
  ⟨_, h0, h H1 e g _ fun d v F2 H2 hd s hv => by
    subst hd
    obtain rfl := rp_int hv
    exact ⟨q, m, F2, rfl, hp, s.inn, s.good, fun d v F3 H3 hr s3 hv3 => k d v F3 H3 hr (s.trans s3) hv3⟩⟩
theorem rv_mul {i j : Int} (h : CMul i j) : RvG K (rI CMul fun i j => .int (i * j)) (.int i) (.int j) (Is (.int (i * j))) := rv_I (f := fun i j => .int (i * j)) h fun F => .int _
theorem rv_shl {j : Nat} (h : j ≤ 60) : RvG K (rI CPow fun i j => .int (i * 2 ^ j.toNat)) (.int 1) (.int (j : Int)) (Is (.int (2 ^ j))) := fun F H x y i hx hy Q q => rv_I (f := fun i j => .int (i * 2 ^ j.toNat)) (C := CPow) (show CPow 1 (j : Int) from ⟨by omega, by omega, by decide⟩) (fun F => .int _) F H x y i hx hy Q fun z v F2 H2 hz s hv => q z v F2 H2 (by rw [show z = _ from hz]; simp) s hv
theorem rv_shr {i j : Int} (h : 0 ≤ j) : RvG K (rI (fun _ j => 0 ≤ j) fun i j => .int (i / 2 ^ j.toNat)) (.int i) (.int j) (Is (.int (i / 2 ^ j.toNat))) := rv_I (f := fun i j => .int (i / 2 ^ j.toNat)) h fun F => .int _
theorem rv_and {i j : Int} : RvG K (rI0 fun i j => .int (Builtin.bitAnd i j)) (.int i) (.int j) (Is (.int (Builtin.bitAnd i j))) := rv_I0 (f := fun i j => .int (Builtin.bitAnd i j)) fun F => .int _
theorem rc_int1 {i : Int} : RcG K (fun xs H Q => (∃ i, xs = [.int i] ∧ Q (.int i) H) ∨ ∃ k, xs = [.bl k] ∧ Q (.int (if k then 1 else 0)) H) [.int i] (Is (.int i)) := rc_val fun F H vs e h => by
  have hv : vs = [.int i] := rpAll_ints (ns := [i]) h
  exact ⟨.int i, fun Q q => .inl ⟨i, hv, q⟩, .int i⟩
theorem ex_seq {a : Addr} {xs : List V} (e : Ex F H) (h : SqL K F a xs) : SqL K H a xs := ex_l e h
/-- script[0:60] -/
theorem g_slS {a : Addr} {ns : List Int} {i : Nat} (h0 : σ[i]? = some (some (.ref a))) (h : SqL K F a (ns.map V.int)) : EvG K pt (tSl (rSlL K) (tVar i) (tPart (tC (.int 0))) (tPart (tC (.int 60)))) σ F (Is (.list ((ns.take 60).map .int))) := fun H1 e g Q q => by
  refine ⟨_, h0, 0, rfl, 60, rfl, a, ns.map V.int, rfl, ex_l e h, fun p hp => ?_⟩
  have e1 : cutV (ns.map V.int) (some 0) (some 60) = (ns.take 60).map V.int := by
    unfold cutV
    rw [show HT.sIx (ns.map V.int).length 0 (some 0) = min 0 (ns.map V.int).length from HT.sIx_nat _ _ 0, show HT.sIx (ns.map V.int).length (ns.map V.int).length (some 60) = min 60 (ns.map V.int).length from HT.sIx_nat _ _ 60, Nat.zero_min, List.drop_zero, Nat.sub_zero, List.map_take]
    by_cases z : 60 ≤ (ns.map V.int).length
    · rw [Nat.min_eq_left z]
    · rw [Nat.min_eq_right (by omega), List.take_of_length_le (Nat.le_refl _), List.take_of_length_le (by omega)]
  rw [e1]
  have s3 : Step pt F H1 (upd F p (.lst ((ns.take 60).map V.int))) (upd H1 p (.lst ((ns.take 60).map V.int))) := .laid e g hp
  exact q _ _ _ _ rfl s3 (.lst upd_same (rpAll_of_ints _))
/-- o.m(..), o.f of an instance, by a promise about what stands -/
theorem g_methD {C x dx : Addr} {fs : List (Str × V)} {m : Str} {sp : Sp} {E : XK} {i : Nat} {ds : List PyData} {z : PyData} (h0 : σ[i]? = some (some (.ref x))) (ho : F x = some (.ins C dx fs)) (hl : fs.lookup m = none) (h : EvsG K pt ts σ F (· = ds))
    (hs : ∀ F1 H1 vs, Ex F F1 → Ex F1 H1 → RpAll K F1 vs ds → ∀ Q : VK, (∀ v F2 H2, Step none F1 H1 F2 H2 → Rp K F2 v z → Q v H2) → sp (.ref x :: vs) H1 Q E) : EvG K pt (tMeth C m sp [] E (tVar i) ts) σ F (Is z) := fun H1 e g Q q =>
  ⟨_, h0, x, dx, fs, rfl, e _ _ ho, hl, h H1 e g _ fun ds' vs F2 H2 hd s hv => by
    subst hd
    rw [List.append_nil]
    exact hs F2 H2 vs s.sub s.inn hv Q fun v F3 H3 s3 hv3 => q _ v F3 H3 rfl (s.trans (s3.lift s.good)) hv3⟩
theorem g_propD {C x dx : Addr} {fs : List (Str × V)} {sp : Sp} {E : XK} {i : Nat} {z : PyData} (h0 : σ[i]? = some (some (.ref x))) (ho : F x = some (.ins C dx fs))
    (hs : ∀ F1 H1, Ex F F1 → Ex F1 H1 → ∀ Q : VK, (∀ v F2 H2, Step none F1 H1 F2 H2 → Rp K F2 v z → Q v H2) → sp [.ref x] H1 Q E) : EvG K pt (tProp C sp [] E (tVar i)) σ F (Is z) := fun H1 e g Q q =>
  ⟨_, h0, x, dx, fs, rfl, e _ _ ho, hs F H1 (Ex.refl F) e Q fun v F3 H3 s3 hv3 => q _ v F3 H3 rfl (s3.lift g) hv3⟩
end
section
variable {K : PySem.W.Frag} {pt : Option Pt} {σ : L2.St} {F0 H0 F H : Hp} {te : TE} {D : Ends} {tz : TS} {Φ : V → Hp → Prop}
theorem t_asgX {i : Nat} (s : Step pt F0 H0 F H) (h : EvX pt te σ F Φ) (q : ∀ v F2 H2, Φ v F2 → Step pt F0 H0 F2 H2 → Ex F F2 → tz D (σ.set i (some v)) H2) : tSeq (tAsg te (gName i)) tz D σ H :=
  h H s.inn s.good _ fun v F2 H2 hv s2 => q v F2 H2 hv (s.trans s2) s2.sub
theorem t_asgX1 {i : Nat} (s : Step pt F0 H0 F H) (h : EvX pt te σ F Φ) (q : ∀ v F2 H2, Φ v F2 → Step pt F0 H0 F2 H2 → Ex F F2 → D.nx (σ.set i (some v)) H2) : tAsg te (gName i) D σ H :=
  h H s.inn s.good _ fun v F2 H2 hv s2 => q v F2 H2 hv (s.trans s2) s2.sub
theorem t_retLst {ts : TA} {ds : List PyData} (s : Step pt F0 H0 F H) (h : EvsG K pt ts σ F (· = ds)) (k : ∀ vs F2 H2, Step pt F0 H0 F2 H2 → RpAll K F2 vs ds → vs.length ≤ sizeLine ∧ ∀ p, H2 p = none → D.rt (.ref p) (upd H2 p (.lst vs))) : tRet (tLst ts) D σ H :=
  h H s.inn s.good _ fun ds' vs F2 H2 hd s2 hv => by
    subst hd
    exact k vs F2 H2 (s.trans s2) hv
theorem t_retX (s : Step pt F0 H0 F H) (h : EvX pt te σ F Φ) (q : ∀ v F2 H2, Φ v F2 → Step pt F0 H0 F2 H2 → D.rt v H2) : tRet te D σ H :=
  h H s.inn s.good _ fun v F2 H2 hv s2 => q v F2 H2 hv (s.trans s2)
end
end Fv

namespace Fv
open PySem PySem.Spec PyProof.Rows L2 Evl StX
section
variable {K : PySem.W.Frag} {pt : Option Pt} {σ : L2.St} {F F' F0 H0 H : Hp} {te ta tb : TE} {ts tr : TA} {t u : TT} {R R1 S2 R3 : PD} {d e z : PyData} {r : L2.R2} {D : Ends} {tu tw tz : TS}
theorem rv_eqB {a b : Bool} : RvG K rEq (.bool a) (.bool b) (Is (.bool (decide (a = b)))) := rv_val fun F H x y _ hx hy => by
  rw [rp_bool hx, rp_bool hy]
  refine ⟨.bl (decide (V.bl a = V.bl b)), fun Q q => ⟨rfl, q⟩, ?_⟩
  have : decide (V.bl a = V.bl b) = decide (a = b) := by cases a <;> cases b <;> rfl
  rw [this]; exact .bl _
theorem rv_neB {a b : Bool} : RvG K rNe (.bool a) (.bool b) (Is (.bool (!decide (a = b)))) := rv_val fun F H x y _ hx hy => by
  rw [rp_bool hx, rp_bool hy]
  refine ⟨.bl (!decide (V.bl a = V.bl b)), fun Q q => ⟨rfl, q⟩, ?_⟩
  have : decide (V.bl a = V.bl b) = decide (a = b) := by cases a <;> cases b <;> rfl
  rw [this]; exact .bl _
theorem g_notTL {ds : List PyData} (h : EvG K pt te σ F (Is (.list ds))) : EvG K pt (tNotT K te) σ F (Is (.bool ds.isEmpty)) := fun H1 i g Q q => h H1 i g _ fun d v F2 H2 hd s hv => by
  subst hd
  obtain ⟨a, xs, rfl, hl, ha⟩ := rp_lst hv
  have hn := ha.length
  refine ⟨!xs.isEmpty, .inl ⟨xs, SqL.of (s.inn _ _ hl), rfl⟩, ?_⟩
  have e : (!(!xs.isEmpty)) = ds.isEmpty := by
    cases xs with
    | nil =>
      cases ds with
      | nil => rfl
      | cons _ _ => simp at hn
    | cons _ _ =>
      cases ds with
      | nil => simp at hn
      | cons _ _ => rfl
  rw [e]
  exact q _ _ F2 H2 rfl s (.bl _)
/-- two ways that join -/
theorem t_ifJ {b : Bool} (J : L2.St → Hp → Prop) (s : Step pt F0 H0 F H) (h : EtG pt t σ F (· = b))
    (h1 : b = true → ∀ F2 H2, Step pt F0 H0 F2 H2 → Ex F F2 → ∀ N : L2.St → Hp → Prop, (∀ σ' F' H', J σ' F' → Step pt F0 H0 F' H' → Ex F F' → N σ' H') → tu { D with nx := N } σ H2)
    (h2 : b = false → ∀ F2 H2, Step pt F0 H0 F2 H2 → Ex F F2 → ∀ N : L2.St → Hp → Prop, (∀ σ' F' H', J σ' F' → Step pt F0 H0 F' H' → Ex F F' → N σ' H') → tw { D with nx := N } σ H2)
    (k : ∀ σ' F' H', J σ' F' → Step pt F0 H0 F' H' → Ex F F' → tz D σ' H') : tSeq (tIfS t tu tw) tz D σ H :=
  t_if s h (fun e F2 H2 s2 e2 => h1 e F2 H2 s2 e2 _ k) (fun e F2 H2 s2 e2 => h2 e F2 H2 s2 e2 _ k)
end
end Fv

/-! rows with gaps: None or a whole number at each place -/
namespace Fv
open PySem PySem.Spec PyProof.Rows L2 Evl StX
def optD : Option Int → PyData
  | none => .none
  | some i => .int i
def optV : Option Int → V
  | none => .non
  | some i => .int i
abbrev dO (v : List (Option Int)) : PyData := .tuple (v.map optD)
abbrev dLO (vs : List (List (Option Int))) : PyData := .list (vs.map dO)
abbrev natD (k : Nat) : PyData := .int (k : Int)
abbrev dN (ks : List Nat) : PyData := .tuple (ks.map natD)
theorem rng_nat (n : Nat) : rng 0 n = (List.range n).map natD := by
  unfold rng
  refine List.map_congr_left fun k _ => ?_
  simp
section
variable {K : PySem.W.Frag} {pt : Option Pt} {σ : L2.St} {F F' H : Hp} {te ta tb : TE} {ts tr : TA} {t u : TT} {R R1 : PD} {d e z : PyData}
theorem rp_opt {v : V} {o : Option Int} (h : Rp K F v (optD o)) : v = optV o := by
  cases o with
  | none => exact rp_none h
  | some i => exact rp_int h
theorem scal_opt (a b : Option Int) : scal (optV a) (optV b) = true := by
  cases a <;> cases b <;> rfl
theorem dec_opt (a b : Option Int) : decide (optV a = optV b) = decide (a = b) := by
  cases a <;> cases b <;> simp [optV]
theorem rv_eqO {a b : Option Int} : RvG K rEq (optD a) (optD b) (Is (.bool (decide (a = b)))) := rv_val fun F H x y _ hx hy => by
  rw [rp_opt hx, rp_opt hy]
  exact ⟨_, fun Q q => ⟨scal_opt a b, q⟩, by rw [dec_opt]; exact .bl _⟩
theorem rv_neO {a b : Option Int} : RvG K rNe (optD a) (optD b) (Is (.bool (!decide (a = b)))) := rv_val fun F H x y _ hx hy => by
  rw [rp_opt hx, rp_opt hy]
  exact ⟨_, fun Q q => ⟨scal_opt a b, q⟩, by rw [dec_opt]; exact .bl _⟩
theorem isNone_opt (a : Option Int) : isNone (optD a) = a.isNone := by cases a <;> rfl
theorem rv_isO {a : Option Int} : RvG K (fun x y H Q => y = .non ∧ Q (.bl (decide (x = .non))) H) (optD a) .none (Is (.bool a.isNone)) := isNone_opt a ▸ rv_isN
theorem rv_notO {a : Option Int} : RvG K (fun x y H Q => y = .non ∧ Q (.bl (!decide (x = .non))) H) (optD a) .none (Is (.bool (!a.isNone))) := isNone_opt a ▸ rv_notN
theorem rv_isB {a b : Bool} : RvG K rIsB (.bool a) (.bool b) (Is (.bool (decide (a = b)))) := rv_val fun F H x y _ hx hy => ⟨_, fun Q q => ⟨a, b, rp_bool hx, rp_bool hy, q⟩, .bl _⟩
/-- v[k] of a row with gaps -/
theorem rv_ixO {v : List (Option Int)} {k : Nat} (h : k < v.length) : RvG K (rIxT K) (dO v) (natD k) (Is (optD (v.getD k none))) := rv_ixT (atI_nat (by rw [List.getElem?_map, List.getD_eq_getElem?_getD, List.getElem?_eq_getElem h]; rfl))
theorem g_ixO {v : List (Option Int)} {k : Nat} (ha : EvG K pt ta σ F (Is (dO v))) (hb : EvG K pt tb σ F (Is (natD k))) (h : k < v.length) : EvG K pt (tOp (rIxT K) ta tb) σ F (Is (optD (v.getD k none))) := g_opI ha hb (rv_ixO h)
/-- range(len(x)) -/
theorem w_len {ds : List PyData} {n : Nat} (h : EvG K pt te σ F (Is (.tuple ds))) (hn : ds.length = n) (hz : n ≤ 100000) : WiG K pt (iRng1 (tCons (tCB (rLen K) (tCons te tNil)) tNil)) σ F (· = (List.range n).map natD) := by
  have := w_rng1I (K := K) (pt := pt) (σ := σ) (F := F) (n := (n : Int)) (gs_one ((g_cbI (gs_one h) rc_lenT).is (by rw [hn]))) (by omega) (by omega)
  rw [show (n : Int).toNat = n by omega, rng_nat] at this
  exact this
theorem w_range {n : Nat} (h : EvG K pt te σ F (Is (.int (n : Int)))) (hz : n ≤ 100000) : WiG K pt (iRng1 (tCons te tNil)) σ F (· = (List.range n).map natD) := by
  have := w_rng1I (K := K) (pt := pt) (σ := σ) (F := F) (n := (n : Int)) (gs_one h) (by omega) (by omega)
  rw [show (n : Int).toNat = n by omega, rng_nat] at this
  exact this
/-- tuple([k for k in range(len(x)) if ..]) -/
theorem rv_inN {k : Nat} {ns : List Nat} : RvG K (rIn K false) (natD k) (dN ns) (Is (.bool (decide (k ∈ ns)))) := by
  have h := rv_inT (K := K) (i := (k : Int)) (ns := ns.map fun k : Nat => (k : Int))
  have e : (decide ((k : Int) ∈ ns.map fun k : Nat => (k : Int))) = decide (k ∈ ns) := by
    refine decide_eq_decide.mpr ⟨fun h => ?_, fun h => List.mem_map.mpr ⟨k, h, rfl⟩⟩
    obtain ⟨j, hj, ej⟩ := List.mem_map.mp h
    have : j = k := by omega
    rw [← this]; exact hj
  rw [e] at h
  have e2 : dT (ns.map fun k : Nat => (k : Int)) = dN ns := by simp [dT, dN, Function.comp_def]
  rw [e2] at h
  exact h
end
end Fv

namespace Fv
open PySem PySem.Spec PyProof.Rows L2 Evl StX
/-- a promise of a def that takes the pot and data -/
def spQ {ι : Type} (K : PySem.W.Frag) (A : ι → List PyData) (P : ι → Prop) (R : ι → PD) : Sp := fun vs H Q _ => ∃ (q : Pt) (i : ι) (F : Hp) (as : List V), vs = .ref q.p :: as ∧ P i ∧ Ex F H ∧ Good (some q) F H ∧ RpAll K F as (A i) ∧ ∀ d v F2 H2, R i d → Step (some q) F H F2 H2 → Rp K F2 v d → Q v H2
theorem spQ.len {ι : Type} {K : PySem.W.Frag} {A : ι → List PyData} {P : ι → Prop} {R : ι → PD} {n : Nat} (h : ∀ i, (A i).length = n) : ∀ vs H Q E, spQ K A P R vs H Q E → vs.length = n + 1 := fun vs H Q E ⟨_, i, _, _, e, _, _, _, r, _⟩ => by rw [e, List.length_cons, r.length, h]
section
variable {K : PySem.W.Frag} {pt : Option Pt} {σ : L2.St} {F F' F0 H0 H : Hp} {te ta tb : TE} {ts tr : TA} {t u : TT} {R R1 : PD} {d e z : PyData} {D : Ends} {tz tu : TS} {wi : TI}
theorem g_callQ {ι : Type} {A : ι → List PyData} {P : ι → Prop} {R : ι → PD} {E : XK} {q : Pt} {i : Nat} {ds : List PyData} (x : ι) (h0 : σ[i]? = some (some (.ref q.p))) (h : EvsG K (some q) ts σ F (· = ds)) (ha : ds = A x) (hp : P x) : EvG K (some q) (tCall (spQ K A P R) [] E (tCons (tVar i) ts)) σ F (R x) := fun H1 e g Q k =>
  ⟨_, h0, h H1 e g _ fun ds' vs F2 H2 hd s hv => by
    rw [hd, ha] at hv
    exact ⟨q, x, F2, vs, by rw [List.append_nil], hp, s.inn, s.good, hv, fun d v F3 H3 hr s3 hv3 => k d v F3 H3 hr (s.trans s3) hv3⟩⟩
/-- a loop; I tells slots and heaps behind i turns -/
theorem t_forH {j : Nat} {ds : List PyData} (i0 : Ex F H) (g : Good pt F H) (hw : WiG K pt wi σ F (· = ds)) (I : Nat → L2.St → Hp → Hp → Prop) (h0 : ∀ F1 H1, Step pt F H F1 H1 → I 0 σ F1 H1) (hI : ∀ i σ' F' H', I i σ' F' H' → Ex F' H')
    (hs : ∀ i d, ds[i]? = some d → ∀ σ' F' H' x, I i σ' F' H' → Ex F F' → Rp K F' x d →
      ∀ N : L2.St → Hp → Prop, (∀ σ2 F2 H2, I (i + 1) σ2 F2 H2 → Ex F' F2 → N σ2 H2) → tu { D with nx := N, ct := N, bk := tz D } (σ'.set j (some x)) H')
    (hd : ∀ σ' F' H', I ds.length σ' F' H' → Ex F F' → tz D σ' H') : tSeq (tFor wi (gName j) tu) tz D σ H :=
  hw H i0 g _ fun ds' J F1 H1 e s1 Y => by
    subst e
    refine ⟨fun i m σ' H' => m = ds'.length - i ∧ i ≤ ds'.length ∧ ∃ F', I i σ' F' H' ∧ Ex F1 F', ⟨ds'.length, by simp, Nat.zero_le _, F1, h0 F1 H1 s1, Ex.refl _⟩, ?_⟩
    rintro i m σ' H' ⟨rfl, hil, F', p, e'⟩
    have eH : Ex F1 H' := e'.trans (hI i σ' F' H' p)
    by_cases hlt : i < ds'.length
    · refine .inr ⟨Y.go i H' eH hlt, fun σ2 H2 => ∃ F2, I (i + 1) σ2 F2 H2 ∧ Ex F1 F2, fun σ2 H2 ⟨F2, a, b⟩ => ⟨ds'.length - (i + 1), by omega, rfl, hlt, F2, a, b⟩, fun x H2 y => ?_⟩
      obtain ⟨rfl, d, hdd, hx⟩ := Y.yld i H' x H2 eH hlt y
      exact hs i d hdd σ' F' _ x p (s1.sub.trans e') (Rp.mono e' _ _ hx) _ fun σ2 F2 H2 a b => ⟨F2, a, e'.trans b⟩
    · have hE : i = ds'.length := Nat.le_antisymm hil (Nat.le_of_not_lt hlt)
      subst hE
      exact .inl ⟨Y.stop H' eH, hd σ' F' H' p (s1.sub.trans e')⟩
/-! ### two lists of one's own -/
structure Two (K : PySem.W.Frag) (pt : Option Pt) (F0 H0 : Hp) (l m : Addr) (F H : Hp) (ls ms : List PyData) : Prop where
  step : Step pt F0 H0 F H
  ne : l ≠ m
  h1 : H0 l = none
  h2 : H0 m = none
  o1 : F l = none
  o2 : F m = none
  e1 : ∃ xs, H l = some (.lst xs) ∧ RpAll K F xs ls
  e2 : ∃ xs, H m = some (.lst xs) ∧ RpAll K F xs ms
variable {l m : Addr} {ls ms : List PyData} {F2 H2 : Hp}
theorem Two.run (g0 : Good pt F0 H0) (w : Two K pt F0 H0 l m F H ls ms) (s : Step pt F H F2 H2) : Two K pt F0 H0 l m F2 H2 ls ms := by
  obtain ⟨xs, a1, a2⟩ := w.e1
  obtain ⟨ys, b1, b2⟩ := w.e2
  obtain ⟨f1, k1⟩ := s.beside g0 w.h1 w.o1 a1
  obtain ⟨f2, k2⟩ := s.beside g0 w.h2 w.o2 b1
  exact ⟨w.step.trans s, w.ne, w.h1, w.h2, f1, f2, ⟨xs, k1, RpAll.mono s.sub _ _ a2⟩, ⟨ys, k2, RpAll.mono s.sub _ _ b2⟩⟩
theorem Two.swap (w : Two K pt F0 H0 l m F H ls ms) : Two K pt F0 H0 m l F H ms ls := ⟨w.step, w.ne.symm, w.h2, w.h1, w.o2, w.o1, w.e2, w.e1⟩
theorem Two.put1 (g0 : Good pt F0 H0) (w : Two K pt F0 H0 l m F H ls ms) {xs : List V} {ls' : List PyData} (r : RpAll K F xs ls') : Two K pt F0 H0 l m F (upd H l (.lst xs)) ls' ms := by
  obtain ⟨ys, b1, b2⟩ := w.e2
  exact ⟨w.step.put g0 w.h1 w.o1, w.ne, w.h1, w.h2, w.o1, w.o2, ⟨xs, upd_same, r⟩, ⟨ys, by rw [upd_ne w.ne.symm]; exact b1, b2⟩⟩
theorem RpAll.erase : ∀ {ds : List PyData} {vs : List V} (i : Nat), RpAll K F vs ds → RpAll K F (vs.eraseIdx i) (ds.eraseIdx i)
  | [], _, i, h => by cases h; cases i <;> exact .nil
  | d :: ds, _, 0, h => by
    cases h with
    | cons h1 h2 => exact h2
  | d :: ds, _, i + 1, h => by
    cases h with
    | cons h1 h2 => exact .cons h1 (RpAll.erase i h2)
/-- the length of one's own list -/
theorem Two.len (w : Two K pt F0 H0 l m F H ls ms) : ∃ xs, H l = some (.lst xs) ∧ xs.length = ls.length := by
  obtain ⟨xs, a1, a2⟩ := w.e1
  exact ⟨xs, a1, a2.length⟩
/-- m.append(l.pop(draw(pot, len(l)))) -/
theorem t_popApp {q : Pt} {P : Int → Prop} {R : Int → PD} {E : XK} {il im ip : Nat} (g0 : Good (some q) F0 H0) (w : Two K (some q) F0 H0 l m F H ls ms) (hl : σ[il]? = some (some (.ref l))) (hm : σ[im]? = some (some (.ref m))) (hp : σ[ip]? = some (some (.ref q.p)))
    (hP : P (ls.length : Int)) (hz : ls.length ≤ 1000) (hz2 : ms.length < 100000) (hR : ∀ d, R (ls.length : Int) d → ∃ k : Nat, d = .int (k : Int) ∧ k < ls.length)
    (k : ∀ (i : Nat) (hi : i < ls.length) F2 H2, Two K (some q) F0 H0 l m F2 H2 (ls.eraseIdx i) (ms ++ [ls[i]]) → Ex F F2 → D.nx σ H2) :
    tDrop (tBM K "list" rAppend (tVar im) (tCons (tBM K "list" rPopAt (tVar il) (tCons (tCall (spP K P R) [] E (tCons (tVar ip) (tCons (tCB (rLen K) (tCons (tVar il) tNil)) tNil))) tNil)) tNil)) D σ H := by
  obtain ⟨xs, a1, a2⟩ := w.e1
  obtain ⟨ys, b1, b2⟩ := w.e2
  refine ⟨.ref m, hm, .inl ⟨rfl, ys, sq_of b1⟩, .ref l, hl, .inl ⟨rfl, xs, sq_of a1⟩, _, hp, .ref l, hl, l, xs, rfl, .inl (SqL.of a1), ?_⟩
  refine ⟨q, (xs.length : Int), F, rfl, by rw [a2.length]; exact hP, w.step.inn, w.step.good, fun d v F2 H2 hd s hv => ?_⟩
  rw [a2.length] at hd
  obtain ⟨j, rfl, hj⟩ := hR d hd
  obtain rfl := rp_int hv
  have w2 := w.run g0 s
  obtain ⟨xs', c1, c2⟩ := w2.e1
  have hxl := c2.length
  obtain ⟨y, hy, ry⟩ := RpAll.getD c2 (List.getElem?_eq_getElem hj)
  have w3 := w2.put1 g0 (RpAll.erase j c2)
  obtain ⟨ys', e1, e2⟩ := w3.e2
  refine ⟨l, xs', (j : Int), j, y, rfl, rfl, c1, by omega, by omega, seqIndex_of (by omega) (by omega), hy, ?_⟩
  refine ⟨m, ys', y, rfl, rfl, e1, sz_lt (by rw [e2.length]; exact hz2), ?_⟩
  have w4 := (w3.swap.put1 g0 (e2.append (RpAll.one ry))).swap
  exact k j hj _ _ w4 s.sub
theorem Two.gst (w : Two K pt F0 H0 l m F H ls ms) : Gst K pt F0 H0 m F H ms := ⟨w.step, w.o2, w.e2⟩
theorem not_in {F H : Hp} {l : Addr} (e : Ex F H) (h : H l = none) : F l = none := by
  cases z : F l with
  | none => rfl
  | some o => have := e _ _ z; rw [h] at this; cases this
/-- l = list(x); m = [] -/
theorem t_two {i j : Nat} {src : PyData} {ds : List PyData} (g0 : Good pt F0 H0) (s : Step pt F0 H0 F H) (h : EvG K pt te σ F (Is src)) (hs : src = .list ds ∨ src = .tuple ds)
    (k : ∀ l m F2 H2, Two K pt F0 H0 l m F2 H2 ds [] → Ex F F2 → tz D ((σ.set i (some (.ref l))).set j (some (.ref m))) H2) :
    tSeq (tAsg (tCB (rList K) (tCons te tNil)) (gName i)) (tSeq (tAsg (tLst tNil) (gName j)) tz) D σ H :=
  h H s.inn s.good _ fun d v F2 H2 hd s2 hv => by
    subst hd
    obtain ⟨a, xs, rfl, hq, hxs⟩ : ∃ a xs, v = .ref a ∧ (SqL K H2 a xs ∨ SqT K H2 a xs) ∧ RpAll K F2 xs ds := by
      rcases hs with rfl | rfl
      · obtain ⟨a, xs, e, h1, h2⟩ := rp_lst hv
        exact ⟨a, xs, e, .inl (SqL.of (s2.inn _ _ h1)), h2⟩
      · obtain ⟨a, xs, e, h1, h2⟩ := rp_tup hv
        exact ⟨a, xs, e, .inr (tx s2.inn h1), h2⟩
    refine ⟨a, xs, rfl, hq, fun l hl => ?_⟩
    refine ⟨Nat.zero_le _, fun m hm => ?_⟩
    have s3 := s.trans s2
    have hml : m ≠ l := fun z => by rw [z, upd_same] at hm; cases hm
    have hm2 : H2 m = none := by rw [upd_ne hml] at hm; exact hm
    have hl0 := s3.back l hl
    have hm0 := s3.back m hm2
    have fl := not_in s3.inn hl
    have fm := not_in s3.inn hm2
    refine k l m F2 _ ⟨((s3.put g0 hl0 fl).put g0 hm0 fm), hml.symm, hl0, hm0, fl, fm, ⟨xs, by rw [upd_ne hml.symm, upd_same], hxs⟩, ⟨[], upd_same, .nil⟩⟩ s2.sub
end
end Fv

namespace Fv
open PySem PySem.Spec PyProof.Rows L2 Evl StX
section
variable {K : PySem.W.Frag} {pt : Option Pt} {σ : L2.St} {F0 H0 F H F' F2 H2 : Hp} {te : TE} {R : PD} {D : Ends} {l : Addr} {ls : List PyData}
/-- x.extend(e), e a new list -/
theorem t_ext {i : Nat} (g0 : Good pt F0 H0) (h0 : H0 l = none) (g : Gst K pt F0 H0 l F H ls) (hi : σ[i]? = some (some (.ref l))) {es : List PyData} (h : EvG K pt te σ F (Is (.list es))) (hz : ls.length + es.length ≤ 100000)
    (q : ∀ F2 H2, Gst K pt F0 H0 l F2 H2 (ls ++ es) → Ex F F2 → D.nx σ H2) : tDrop (tBM K "list" rExtend (tVar i) (tCons te tNil)) D σ H := by
  obtain ⟨acc, e, r⟩ := g.ex
  refine ⟨.ref l, hi, .inl ⟨rfl, acc, sq_of e⟩, h H g.step.inn g.step.good _ fun d v F2 H2 hd s hv => ?_⟩
  subst hd
  obtain ⟨b, zs, rfl, hb, hzs⟩ := rp_lst hv
  have g2 := g.run g0 h0 s
  obtain ⟨acc2, e2, r2⟩ := g2.ex
  refine ⟨l, b, acc2, zs, rfl, rfl, e2, s.inn _ _ hb, by rw [r2.length, hzs.length]; exact sz_of hz, q F2 _ ⟨g2.step.put g0 h0 g2.off, g2.off, _, upd_same, r2.append hzs⟩ s.sub⟩
end
end Fv

/-! C.__init__(self, ..) of an exception class C of the program whose __init__ is ValueError's -/
namespace Fv
open PySem PySem.Spec PyProof.Rows L2 Evl StX
section
variable {X : Cx} {e : Expr} {es : List Expr} {ta : TA} {p1 p2 pos : Pos} {x : Str} {C : Addr} {mc : Value}
theorem pe_fminit {pl : Sem Bool} (hg : Gl X x) (hm : X.mg x = some (.ref C)) (r : ClX.CRead X.K C mc) (vV : PySem.W.findCls X.K (.ref C) mc "__init__" = some (.val (.builtin "ValueError.__init__"))) (ha : PA X (e :: es) ta)
    (hdb : (x == ("__debug__" : Str)) = false := by decide)
    (hc : eval (.Call (.Attribute (.Name x p1) "__init__" p2) (e :: es) [] pos) X.env = (do
      let ov ← eval (.Name x p1) X.env
      standAt p2.atName
      let (f, first) ← holding [ov] (getMethod ov "__init__" pl)
      callWith pos f first (backTo pos (starEach (e :: es) X.env)) (backToKw pos (keywordEach [] X.env))) := by rfl)
    (he : starEach (e :: es) X.env = (false, eval e X.env) :: starEach es X.env := by rfl) (hpl : (backTo pos (starEach es X.env)).any (·.1) = false := by rfl) :
    PE X (.Call (.Attribute (.Name x p1) "__init__" p2) (e :: es) [] pos) (tVeI X.K ta) := by
  refine ⟨fun pins s σ H Q I h => ?_⟩
  refine PySem.W.methodCall_KW (pl := pl) (ld_glob I hg hm ?_ hdb) hc
  refine PySem.W.method_cls I.kIn r.ga (PySem.W.cls_value I.kIn r.rd vV (by decide +kernel) ?_)
  show wpAny _ _ (callWith pos (Value.builtin "ValueError.__init__") [] (backTo pos (starEach (e :: es) X.env)) []) _ _ _
  refine PyProof.Rows.callWith_method1 (thn (ha.run pos pins _ σ H _ (I.tok _) h) fun us s1 ⟨vs, H1, I1, r1, a, C, ws, ev, hl, T, ea, q⟩ => ?_) he hpl
  subst ev
  cases r1 with
  | @cons _ u0 _ ur ra rw' =>
    obtain rfl : u0 = Value.ref a := ra
    have hlen : ur.length ≤ sizeLine := by
      rw [← Paired.length rw', sizeLine_eq]
      omega
    exact oinit_ok T I1 ea hlen fun s' J => ⟨.non, H1, J, rfl, q⟩
end
end Fv

/-! promises of defs where no text of a list is being made around them (so that repr of one is known) -/
namespace Fv
open PySem PySem.Spec PyProof.Rows L2 Evl StX
/-- nothing is being shown -/
def Calmly (A : Around) : Prop := A.guards = some []
theorem Calmly.deeper {A : Around} (c : Calmly A) (env : Env) : Calmly (A.deeper env) := c
theorem Calmly.mark {A : Around} (c : Calmly A) (v : Option Value) : Calmly (A.mark v) := c
structure FnG (P : Program) (w : World) (K : PySem.W.Frag) (mg : Str → Option Value) (base : Heap) (CX : CXT) (k : Nat) (f : Addr) (fd : FuncData) (ps : List Str) (sp : Sp) : Prop where
  ln : ∀ vs H Q E, sp vs H Q E → vs.length = ps.length
  go : ∀ (A : Around) (out : List Env) (s : Shared) (H : Hp) (as : Args) (us : List Value) (vs : List V) (Q : VK) (E : XK), Calmly A → Room k A → Env0 P w K mg base A out s H → BindsTo s fd as (ps.zip us) → Vals vs us → sp vs H Q E → codeAny (model P w) A (.call (.ref f) as) (CR CX out P w H s Q E) s
theorem gfn_mk {CX : CXT} {P : Program} {w : World} {K : PySem.W.Frag} {mg : Str → Option Value} {base : Heap} {k : Nat} {f : Addr} {nm ql : Str} {pr : Arguments} {bd : List Stmt} {sc : Scope} {d1 d2 d3 d4 cv d5 oc : Value} {an od : Option Addr} {sl : Array (Option Value)} {N ps : List Str} {sp : Sp}
    (lk : K.lookup f = some ⟨oc, od, .func (PySem.W.fnOf nm ql pr bd sc d1 d2 d3 d4 an cv d5), sl⟩) (hc : PySem.W.codeIn K cv ql = true) (S : FnScope N ps sc) (ln : ∀ vs H Q E, sp vs H Q E → vs.length = ps.length)
    (hb : ∀ (A : Around) (out : List Env) (s : Shared) (H : Hp) (vs : List V) (Q : VK) (E : XK), Calmly A → Room k (A.deeper (envOfC ql sc s.heap.objs.size f cv)) → sp vs H Q E → ∃ t, PSs (cxOf CX P w K mg base N ql sc f cv A out s H E) bd t ∧ t { nx := fun _ H2 => Q .non H2, rt := Q } (start N vs) H) :
    FnG P w K mg base CX (k + 1) f (PySem.W.fnOf nm ql pr bd sc d1 d2 d3 d4 an cv d5) ps sp := by
  refine ⟨ln, fun A out s H as us vs Q E cm room e0 bi rv hs => ?_⟩
  have lv := ln _ _ _ _ hs
  have kin : K.In s.heap := e0.mod.kin.keeps fun b o z => (e0.bs b o z).1
  have nol : s.heap.NoLimit := e0.mod.nolimit.keeps fun b o z => (e0.bs b o z).1
  have kinds : ∀ y ∈ ps.zip us, sc.names.lookup y.1 = some .local ∨ (sc.names.lookup y.1 = some .cell ∧ ((cellsFrom (s.heap.objs.size + 1) sc.names []).lookup y.1).isSome = true) := by
    rintro ⟨x, v⟩ hy
    exact (S.par x (List.of_mem_zip hy).1).imp id fun z => ⟨z, PySem.W.cellsFrom_some _ _ _ (.inl z)⟩
  refine codeAny_call_function room.depth (kin _ _ lk) rfl S.co S.gen rfl (PySem.W.codeRec_of kin hc) (bi _ _ _ _ (wpAny_newFunctionEnv_cells S.kind kinds fun env he s2 y => ?_)); subst he
  refine ⟨nol.keeps y.toInCall.keep, codeAny_func ?_⟩; obtain ⟨t, ht, hq⟩ := hb A out s H vs Q E cm (room.deeper _) hs
  refine wpAny_mono (ht.run [] s2 (start N vs) H _ (inv_start S room.hd e0 lv rv y) hq) (fun fl s3 z => ?_) fun _ _ z => z
  cases fl with
  | brk => exact (z.elim fun _ z => z.elim fun _ z => z.2).elim
  | cont => exact (z.elim fun _ z => z.elim fun _ z => z.2).elim
  | next => obtain ⟨σ2, H2, J, q⟩ := z; exact ⟨V.non, H2, J.os, J.bare, J.base, J.hok, rfl, q⟩
  | ret u => obtain ⟨v, σ2, H2, J, ru, q⟩ := z; exact ⟨v, H2, J.os, J.bare, J.base, J.hok, ru, q⟩
section
variable {X : Cx} {CX : CXT} {k : Nat} {f : Addr} {fd : FuncData} {ps : List Str} {sp : Sp} {ds : List Value} {dvs : List V} {E : XK} {x : Str} {p pos : Pos} {e : Expr} {es : List Expr} {t : TA}
/-- x(e, ..) of such a def -/
theorem pe_callG (F : FnG X.prog X.w X.K X.mg X.base CX k f fd ps sp) (cm : Calmly X.A) (room : Room k X.A) (gl : Gl X x) (hm : X.mg x = some (.ref f)) (kp : PySem.W.keepIn X.K (.ref f) = true) (hb : Binds X.K fd ps ds) (hd : Vals dvs ds) (hx : Passes CX X E) (ha : PA X (e :: es) t)
    (h1 : (x == ("__debug__" : Str)) = false := by decide) (h2 : starEach (e :: es) X.env = (false, eval e X.env) :: starEach es X.env := by rfl) (h3 : (backTo pos (starEach es X.env)).any (·.1) = false := by rfl) : PE X (.Call (.Name x p) (e :: es) [] pos) (tCall sp dvs E t) := by
  constructor
  intro pins s σ H Q I h
  refine wpAny_Call_Name_kw (ld_glob I gl hm (PySem.W.callWith_K (h₀ := X.base) I.ok.mod.kin kp (thn (ha.run pos pins s σ H _ I h) fun us s1 z => ?_) h2 h3) h1)
  obtain ⟨vs, H1, I1, rv, q⟩ := z
  have r2 : Vals (vs ++ dvs) (us ++ ds) := rv.append hd
  have hl : (us ++ ds).length = ps.length := r2.length.symm.trans (F.ln _ _ _ _ q)
  refine ⟨I1.kIn, wpAny_call (codeAny_mono (F.go X.A X.stack s1 H1 ⟨us, []⟩ (us ++ ds) (vs ++ dvs) Q E cm room I1.env0 (hb s1 us I1.kIn hl) r2 q) fun r s' hq => ?_)⟩
  match r, hq with
  | .error er, hq => exact hx pins σ H1 s1 er s' I1 hq
  | .ok (.ret u), hq => exact I1.after hq
end
end Fv

/-! the law's own call: nothing is being shown around it -/
namespace Fv
open PySem PySem.Spec PyProof.Rows L2 Evl StX
theorem calm_top : Calmly callerA := rfl
/-- the law, called from an abstract heap that tracks the script alone, or nothing -/
theorem lawG_core {P : Program} {w : World} {K : PySem.W.Frag} {mg mb : Str → Option Value} {CX : CXT} {k : Nat} {fa a : Addr} {fd : FuncData} {x : Str} {sp : Sp} {s1 : Shared} {ob : Obj} {H : Hp}
    (kin : K.In s1.heap) (n1 : s1.heap.Ns mainGlobals mg) (n2 : s1.heap.Ns builtinsNs mb) (n3 : ∀ y : Str, y ≠ "__name__" → mb y = bootBuiltins y) (lim : s1.heap.NoLimit) (gs : s1.gens = #[]) (ga : s1.heap.get? a = some ob) (nd : ∀ es ep, ob.data ≠ .dict es ep) (room : Room k callerA)
    (F : ∀ base : Heap, K.In base → base.Ns mainGlobals mg → FnG P w K mg base CX k fa fd [x] sp) (bi : ∀ (s : Shared) (u : Value), BindsTo s fd ⟨[u], []⟩ [(x, u)]) (only : Only H) (hs : sp [.ref a] H (fun v _ => v = .bl true) fun _ _ _ => False) (hCX : ∀ e s', CX [] H s1 (fun _ _ _ => False) e s' → False)
    (hok : HOk P w H s1.heap) (hA : ∀ b, H b ≠ none → b = a ∧ K.lookup a = none) :
    codeAny (model P w) callerA (.call (.ref fa) ⟨[.ref a], []⟩) (fun r s' => r = .ok (.ret (.bool true)) ∧ OldK s1.heap s'.heap ∧ s'.os = s1.os ∧ AllBare s'.gens) s1 := by
  have free : ∀ {b : Addr} {o : Obj}, s1.heap.get? b = some o → (∀ z : b = a, False) → H b = none := fun {b o} _ hb => by
    cases q : H b with
    | none => rfl
    | some u => exact (hb (hA b (by rw [q]; exact fun z => by cases z)).1).elim
  have ns : ∀ {b : Addr} {m : Str → Option Value}, s1.heap.Ns b m → (hidT s1.heap H).Ns b m := by
    rintro b m ⟨o, es, ep, z1, z2, z3⟩
    exact ⟨o, es, ep, hidT_get z1 (free z1 fun z => by subst z; rw [ga] at z1; cases z1; exact nd _ _ z2), z2, z3⟩
  have kb : K.In (hidT s1.heap H) := fun b o z => hidT_get (kin b o z) (by
    cases q : H b with
    | none => rfl
    | some u =>
      obtain ⟨rfl, z2⟩ := hA b (by rw [q]; exact fun z => by cases z)
      rw [z2] at z; cases z)
  obtain ⟨mc, c1, c2⟩ := lim
  have md : Mod K mg (hidT s1.heap H) := ⟨kb, ns n1, ⟨mb, ns n2, n3⟩, mc, ns c1, c2⟩
  have e0 : Env0 P w K mg (hidT s1.heap H) callerA [] s1 H := ⟨rfl, md, fun b o z => of_hidT z, Nat.le_of_eq (hidT_size _ _), trivial, fun b z => absurd z (List.not_mem_nil), hok, .of_eq gs⟩
  have run := (F _ kb (ns n1)).go callerA [] s1 H ⟨[.ref a], []⟩ [.ref a] [.ref a] _ _ calm_top room e0 (bi s1 (.ref a)) (.cons rfl .nil) hs
  refine codeAny_mono run fun r s' h => ?_
  match r, h with
  | .error e, h => exact (hCX e s' h).elim
  | .ok (.ret u), h =>
    obtain ⟨v, H2, o2, b2, un, hok2, rv, rfl⟩ := h
    obtain rfl : u = Value.bool true := rv
    refine ⟨rfl, .of_keep fun b o z => ?_, o2, b2⟩
    cases q : H b with
    | none => exact un.keep b o z q (fun m => by cases m) (fun m => by cases m)
    | some u =>
      rcases only b with y | ⟨oo, xs, y⟩
      · rw [q] at y; cases y
      · have g2 := (hok2 b _ (un.frzs b oo _ y)).1
        have g1 := (hok b _ y).1
        rw [z] at g1; cases g1; exact g2
theorem lawG {P : Program} {w : World} {K : PySem.W.Frag} {mg mb : Str → Option Value} {CX : CXT} {k : Nat} {fa a : Addr} {fd : FuncData} {x : Str} {sp : Sp} {s1 : Shared} {vs : List Value} {ns : List Int}
    (kin : K.In s1.heap) (n1 : s1.heap.Ns mainGlobals mg) (n2 : s1.heap.Ns builtinsNs mb) (n3 : ∀ y : Str, y ≠ "__name__" → mb y = bootBuiltins y) (lim : s1.heap.NoLimit) (gs : s1.gens = #[]) (ga : s1.heap.get? a = some { cls := .type "list", data := .seq vs.toArray }) (whs : IntsAre vs ns) (few : ns.length ≤ sizeLine) (room : Room k callerA)
    (F : ∀ base : Heap, K.In base → base.Ns mainGlobals mg → FnG P w K mg base CX k fa fd [x] sp) (bi : ∀ (s : Shared) (u : Value), BindsTo s fd ⟨[u], []⟩ [(x, u)])
    (hs : ∀ H : Hp, Only H → SqL K H a (ns.map V.int) → sp [.ref a] H (fun v _ => v = .bl true) fun _ _ _ => False) (hCX : ∀ H e s', CX [] H s1 (fun _ _ _ => False) e s' → False) :
    codeAny (model P w) callerA (.call (.ref fa) ⟨[.ref a], []⟩) (fun r s' => r = .ok (.ret (.bool true)) ∧ OldK s1.heap s'.heap ∧ s'.os = s1.os ∧ AllBare s'.gens) s1 := by
  have rv := vals_ints whs
  have noD : ∀ es ep, (({ cls := .type "list", data := .seq vs.toArray } : Obj)).data ≠ .dict es ep := fun es ep z => by cases z
  cases hk : K.lookup a with
  | some o =>
    have z := kin a o hk
    rw [ga] at z; cases z
    refine lawG_core (H := fun _ => none) kin n1 n2 n3 lim gs ga noD room F bi (fun _ => .inl rfl) (hs _ (fun _ => .inl rfl) (.inr ⟨_, vs.toArray, _, hk, rfl, rfl, rfl, ?_, by simpa using rv⟩)) (hCX _) (fun b u q => by cases (show (none : Option HO) = some u from q)) fun b z => (z rfl).elim
    rw [List.size_toArray, whs.length]; exact few
  | none =>
    let ob : Obj := { cls := .type "list", data := .seq vs.toArray }
    let H : Hp := fun b => if b = a then some (.frz ob (.lst (ns.map V.int))) else none
    have at_ : H a = some (.frz ob (.lst (ns.map V.int))) := if_pos rfl
    have on : Only H := fun b => (Classical.em (b = a)).elim (fun z => .inr ⟨_, _, if_pos z⟩) fun z => .inl (if_neg z)
    refine lawG_core (H := H) kin n1 n2 n3 lim gs ga noD room F bi on (hs _ on (.inl (.inr ⟨ob, at_⟩))) (hCX _) (fun b u q => ?_) fun b z => ?_
    · by_cases y : b = a
      · subst y
        rw [at_] at q; cases q
        exact ⟨ga, by rw [List.length_map]; exact few, vs, _, rv, ga⟩
      · rw [show H b = none from if_neg y] at q; cases q
    · by_cases y : b = a
      · exact ⟨y, hk⟩
      · exact (z (if_neg y)).elim
theorem walkG {l : PySem.W.OpenLaw} {n k : Nat} {q : Program} {lo : List Str} {XP : (Str → Option Value) → Heap → Prop} {YP : World → Heap → Prop} {d : DefRec} {K : Params → PySem.W.Frag} {CX : World → CXT} {sp : World → Sp} {x : Str} (hn : l.most = some n) (hn2 : n ≤ sizeLine) (hdf : d.params.defaults = []) (room : Room k callerA) (hY : ∀ (w : World) (h : Heap), YP w h → (K w.params).In h)
    (F : ∀ (w : World) (mg : Str → Option Value) (fa : Addr) (h : Heap), (K w.params).In h → h.Ns mainGlobals mg → mg d.name = some (.ref fa) → ∃ fd : FuncData, (∀ (s : Shared) (u : Value), BindsTo s fd ⟨[u], []⟩ [(x, u)]) ∧ ∀ base : Heap, (K w.params).In base → base.Ns mainGlobals mg → FnG l.prog w (K w.params) mg base (CX w) k fa fd [x] (sp w))
    (hs : ∀ (w : World) (H : Hp) (a : Addr) (ns : List Int), ns.length ≤ n → Only H → SqL (K w.params) H a (ns.map V.int) → sp w [.ref a] H (fun v _ => v = .bl true) fun _ _ _ => False) (hCX : ∀ (w : World) (H : Hp) (s : Shared) (e : Value) (s' : Shared), CX w [] H s (fun _ _ _ => False) e s' → False) :
    PySem.W.WalkO q lo XP YP l.row.toRowW d [] (fun f vs => PySem.call f vs) := by
  refine Att.attach_call hn hdf fun w s0 s1 mg mb fa o pm cd doc a vs ns G Y ho hd hcd hmg hobj hints hlen hg => ?_
  obtain ⟨fd, bi, FF⟩ := F w mg fa _ (hY w _ Y) G.T.g hmg
  exact lawG (hY w _ Y) G.T.g G.T.b G.T.builtins G.T.nolimit hg hobj hints (Nat.le_trans hlen hn2) room FF bi (fun H o S => hs w H a ns hlen o S) fun H e s' => hCX w H s1 e s'
end Fv

/-! repr; x in t for a tuple of data of any depth; isinstance of a caught exception with fields -/
namespace Fv
open PySem PySem.Spec PyProof.Rows L2 Evl StX
section
variable {X : Cx} {K : PySem.W.Frag}
/-! ### repr -/
def rRepr (K : PySem.W.Frag) : List V → Hp → VK → Prop := fun xs H Q => ∃ (v : V) (d : PyData), xs = [v] ∧ Dp K H v d ∧ d.showable = true ∧ d.hasDict = false ∧ d.shown.length ≤ sizeLine ∧ d.depth ≤ 60 ∧ Q (.str d.shown) H
theorem c_repr (cm : Calmly X.A) (hu : X.A.units + 65 < cLine) (h : X.K = K := by rfl) : CallR X (.builtin "repr") (rRepr K) := by
  subst h
  intro pins s σ H xs us Q I r q0
  obtain ⟨v, d, rfl, hd, s1, s2, s3, s4, q⟩ := q0
  obtain ⟨u, rfl, rv⟩ := vals1 r
  obtain ⟨as, rd⟩ := Dp.reads I d v u hd rv
  have no : d.hasDict = true → sysModules ∉ as := fun z => by rw [s2] at z; cases z
  have ref : ∀ a, u = .ref a → wpAny (model X.prog X.w) X.A (call (.builtin "repr") [u]) (EP X pins σ Q) X.xe s := fun a z => by
    subst z
    exact repr_of_reads' rd s1 no cm (by omega) (fun _ _ e => e) (fun h' t tk k => ⟨.str d.shown, H, I.kept k, ⟨t, rfl⟩, q⟩) s3
  cases hd with
  | non => cases rv; exact P.repr_of_none ⟨.str _, H, I.tok _, ⟨_, rfl⟩, q⟩
  | bl b => cases rv; exact P.repr_of_bool ⟨.str _, H, I.tok _, ⟨_, rfl⟩, q⟩
  | int i =>
    obtain ⟨t, rfl⟩ := rv
    exact P.repr_of_int (by simpa [PyData.showable] using s1) ⟨.str _, H, I.tok _, ⟨_, rfl⟩, q⟩
  | str x =>
    obtain ⟨t, rfl⟩ := rv
    exact P.repr_of_str ⟨.str _, H, I.tok _, ⟨_, rfl⟩, q⟩ s3
  | lst hs ha => exact ref _ rv
  | tup hs ha => exact ref _ rv
/-! ### in -/
def rInU (K : PySem.W.Frag) (neg : Bool) : R2 := fun x y H Q => ∃ d ds, Dp K H x d ∧ Dp K H y (.tuple ds) ∧ SeqAt.shaped d = true ∧ SeqAt.shaped (.tuple ds) = true ∧ Q (.bl (if neg then !ds.any fun z => PyData.eqv z d else ds.any fun z => PyData.eqv z d)) H
theorem o_inU (hu : X.A.units + 65 < cLine) (h : X.K = K := by rfl) : OpR X (compareOp .In) (rInU K false) := by
  subst h
  intro pins s σ H x y v u Q I rx ry q0
  obtain ⟨d, ds, hd, he, sd, se, q⟩ := q0
  obtain ⟨as, r1⟩ := Dp.reads I d x v hd rx
  obtain ⟨bs, r2⟩ := Dp.reads I _ y u he ry
  exact SeqAt.in_tuple_reads r2 r1 (SeqAt.canLay_of_shaped se) (SeqAt.canLay_of_shaped sd) (room_in_shaped sd hu) ⟨.bl _, H, I, rfl, q⟩
theorem o_ninU (hu : X.A.units + 65 < cLine) (h : X.K = K := by rfl) : OpR X (compareOp .NotIn) (rInU K true) := by
  subst h
  intro pins s σ H x y v u Q I rx ry q0
  obtain ⟨d, ds, hd, he, sd, se, q⟩ := q0
  obtain ⟨as, r1⟩ := Dp.reads I d x v hd rx
  obtain ⟨bs, r2⟩ := Dp.reads I _ y u he ry
  exact SeqAt.notIn_tuple_reads r2 r1 (SeqAt.canLay_of_shaped se) (SeqAt.canLay_of_shaped sd) (room_in_shaped sd hu) ⟨.bl _, H, I, rfl, q⟩
end
end Fv

namespace Fv
open PySem PySem.Spec PyProof.Rows L2 Evl StX
/-- isinstance says yes as soon as the kind of the thing says so -/
theorem isi_yes {K : PySem.W.Frag} {x c t : Value} {Pz : Heap → Prop} (ty : ∀ (M : Model) (h : Heap), K.In h → Pz h → PySem.W.Looks M h (typeOf x) t) (e : PySem.W.kitOne K t c = some true) : Answers (fun s => K.In s.heap ∧ Pz s.heap) x c true := by
  rintro dep tk prog w A R ⟨hp, g, d, n, os⟩ ⟨⟨kin, pz⟩, q⟩
  have L0 := ty (model prog w) hp kin pz
  unfold PySem.W.kitOne at e
  unfold Builtin.«isinstance.nested»; refine wpAny_bind (L0.at ?_)
  by_cases z : (t == c) = true
  · rw [if_pos z]
    first
      | exact wpAny_pure (q n)
      | exact wpAny_bind (wpAny_rule (q n))
      | exact wpAny_bind (wpAny_rule (wpAny_pure (q n)))
      | exact wpAny_pure (wpAny_pure (q n))
      | exact wpAny_bind (wpAny_pure (wpAny_pure (q n)))
  · rw [if_neg z] at e ⊢; obtain ⟨k1, k2, k3⟩ := PySem.W.kit_cls (M := model prog w) kin e
    have k4 : PySem.W.Looks (model prog w) hp (isInstance x c) true := L0.andThen k3
    refine wpAny_bind (k1.at ?_); rw [if_pos (by decide)]; k_delta "plainIsInstance"
    refine wpAny_bind (wpAny_bind (k2.at ?_)); simp only [Bool.not_true, Bool.false_eq_true, if_false]; refine wpAny_bind (k4.at ?_)
    first
      | exact wpAny_pure (wpAny_pure (q n))
      | (simp only [if_true]; first | exact wpAny_pure (wpAny_pure (q n)) | exact wpAny_pure (q n) | exact wpAny_bind (wpAny_pure (wpAny_pure (q n))))
section
variable {X : Cx} {a C : Addr} {oe : Obj} {cls : Value} {d : Option Addr} {pn : List (Addr × Obj)}
/-- isinstance(e, c), e the caught exception: yes -/
def rIsY (K : PySem.W.Frag) (cls : Value) (a : Addr) : List V → Hp → VK → Prop := fun xs H Q => ∃ (c : V) (cv : Value), xs = [.ref a, c] ∧ (∀ u, RelV c u → u = cv) ∧ PySem.W.kitOne K cls cv = some true ∧ Q (.bl true) H
theorem c_isY {K : PySem.W.Frag} (hz : Zc cls d oe) (h : X.K = K := by rfl) : CallR (X.suite a ((a, oe) :: pn)) (.builtin "isinstance") (rIsY K cls a) := by
  subst h
  intro pins s σ H xs us Q I r q0
  obtain ⟨c, cv, rfl, hc, e, q⟩ := q0
  obtain ⟨u0, u1, rfl, ra, rc⟩ : ∃ u0 u1, us = [u0, u1] ∧ RelV (.ref a) u0 ∧ RelV c u1 := by
    cases r with
    | cons r1 r2 =>
      cases r2 with
      | cons r3 r4 => cases r4; exact ⟨_, _, rfl, r1, r3⟩
  obtain rfl : u0 = Value.ref a := ra
  obtain rfl := hc _ rc
  have got := (I.pin (a, oe) (List.mem_append_left _ List.mem_cons_self)).1
  refine call_isinstance (S := fun _ R s => (X.K.In s.heap ∧ s.heap.get? a = some oe) ∧ ∀ tk, R (.ok (.ret (.bool true))) { s with toks := tk })
    (fun prog w A R s hs => isinstance_outer (isi_yes (Pz := fun h => h.get? a = some oe) (fun M h kin z => fun A Q E s k q => wpAny_typeOf_ref (k _ _ z) (by rw [hz.1]; exact q)) e 0 _ prog w A R s hs) (fun z => nomatch z)) ⟨⟨I.kIn, got⟩, fun tk => ⟨.bl true, H, I.tok tk, rfl, q⟩⟩
end
end Fv

/-! set(l) of a list of whole numbers, its members known -/
namespace Fv
open PySem PySem.Spec PyProof.Rows L2 Evl StX
/-- an empty set, as it is laid -/
abbrev set0 (w : World) : Obj := { cls := .type "set", dict := none, data := .set #[] 0 (.fresh 0 0 (!w.params.followText "set-order")) }
section
variable {P : Program} {w : World} {A : Around} {E : Value → Shared → Prop} {s : Shared}
set_option maxHeartbeats 8000000 in
theorem set_of_list {l : Addr} {its : Array Value} (ns : List Int) {Q : Value → Shared → Prop} (calm : A.handled = none) (isl : s.heap.IsList l its) (whole : IntsAre its.toList ns) (few : ns.length + 1 < scanBound)
    (k : ∀ (h2 : Heap) (tk c : Nat), SetR w h2 s.heap.objs.size (fun j => decide (j ∈ ns)) c → c ≤ ns.length → (∀ b o, s.heap.get? b = some o → h2.get? b = some o) → Q (.ref s.heap.objs.size) { s with heap := h2, toks := tk }) : wpAny (model P w) A (call (.type "set") [.ref l]) Q E s := by
  have size : its.size = ns.length := by simpa using IntsAre.length whole
  obtain ⟨c1, tl1, mro1⟩ := F.called_set.mro
  have f1 := F.called_set.made; have f2 := F.called_set.sub
  refine wpAny_call (codeAny_of_tree ?_); show wpAny _ _ (callAny (.type "set") _) _ _ _
  refine wpAny_pure ⟨Code.quiet_builtin _ (by decide +kernel), codeAny_builtin F.entry_type_call ?_⟩; rw [Around.under_plain (weight_type_call_type "set" [.ref l] []) rfl]
  have f3 := F.called_set.notType; have f4 := F.called_set.canCreate; have f5 := F.typeCall_set_1 (.ref l)
  (repeat (any_goals (first | assumption | wp_step)))
  refine codeAny_mono (code_set_led1 (.ref l) (E := E) (Q₁ := fun o s1 => o = .ref s.heap.objs.size ∧ s1 = { s with heap := s.heap.push (set0 w) }) ⟨rfl, rfl⟩) fun r s1 hr => ?_
  cases r with
  | error e => exact hr
  | ok fl =>
    cases fl with
    | ret ob =>
      obtain ⟨rfl, rfl⟩ := hr
      have at0 : (s.heap.push (set0 w)).get? s.heap.objs.size = some (set0 w) := Heap.get?_push_size _ rfl
      have ty0 : Shared.TypeIs { s with heap := s.heap.push (set0 w) } (.ref s.heap.objs.size) "set" := ⟨_, at0, rfl⟩
      have f6 := F.called_set.init.lookup; have f7 := F.called_set.init.bind (.ref s.heap.objs.size)
      (repeat (any_goals (first | assumption | wp_step)))
      refine codeAny_mono (codeAny_call_builtin (R := wants (fun r s2 => r = .none ∧ ∃ h2 tk c, s2 = { s with heap := h2, toks := tk } ∧ SetR w h2 s.heap.objs.size (fun j => decide (j ∈ ns)) c ∧ c ≤ ns.length ∧ (∀ b o, s.heap.get? b = some o → h2.get? b = some o)) E) F.called_set.init.plain F.entry_set_init (check_set_init_1 ty0 ?_)) fun r2 s2 hr2 => ?_
      · obtain ⟨⟨oc, od, oa, os⟩, got, e1, nl, e2⟩ := isl
        simp only at e1 e2; subst e1; subst e2
        have got1 : (s.heap.push (set0 w)).get? l = some { cls := .type "list", dict := od, data := .seq its nl, slots := os } := Heap.get?_push_of_some _ got
        have g1 := F.sub_list_set; have g2 := F.sub_list_frozenset
        have g3 : (Value.type "list" == Value.type "dict") = false := by decide
        have isl1 : (s.heap.push (set0 w)).IsList l its := ⟨_, got1, rfl, nl, rfl⟩
        unfold Builtin.«set.__init__» noKeywords Builtin.Frozenset.updateFrom
        generalize hI : pyIter = PI
        wp_walk
        subst hI; refine wpAny_pyIter_list isl1 (wpAny_bind (wpAny_runValue ?_))
        have lt : l < s.heap.objs.size := Heap.lt_size got
        have calm3 : A.in1.in1.in1.handled = none := by simp [calm]
        have ne1 : l ≠ (s.heap.push (set0 w)).objs.size := by rw [Heap.size_push]; exact Nat.ne_of_lt (Nat.lt_succ_of_lt lt)
        have off : s.heap.objs.size ∉ [(s.heap.push (set0 w)).objs.size, l] := by
          rw [Heap.size_push]; simp only [List.mem_cons, List.not_mem_nil, or_false, not_or]
          exact ⟨Nat.ne_of_lt (Nat.lt_succ_self _), Nat.ne_of_gt lt⟩
        have vals : ∀ (i : Nat) (v : Value), its[i]? = some v → ∃ j t, ns[i]? = some j ∧ v = .int j t := fun i v hv => by
          have hi : i < ns.length := size ▸ (Array.getElem?_eq_some_iff.mp hv).1
          obtain ⟨t, e⟩ := PyProof.Rows.IntsAre.int_at whole i v (by rw [Array.getElem?_toList]; exact hv)
          exact ⟨ns[i], t, List.getElem?_eq_getElem hi, by rw [e, List.getD_eq_getElem?_getD, List.getElem?_eq_getElem hi]; rfl⟩
        refine set_update_ints ((Walks.list calm3 _ l ne1 its).toS) s.heap.objs.size off ns size few vals (its.size - 0) 0 _ (by omega) (Nat.zero_le _) ⟨⟨_, Heap.get?_push_size _ rfl, rfl, rfl⟩, (isl1.push _)⟩ ?first ?rest
        case first => exact ⟨0, Nat.le_refl 0, setR_new_at (Heap.get?_push_of_some _ at0)⟩
        case rest =>
          rintro ⟨h2, g2', d2, t2, o2⟩ c2 hm hc2 hS2
          have z1 : g2' = s.gens := hm.gens; have z2 : d2 = s.drawn := hm.drawn; have z3 : o2 = s.os := hm.os
          subst z1; subst z2; subst z3; show wpAny _ _ _ _ _ _
          refine wpAny_pure ?_; show wpAny _ _ (ret Value.none) _ _ _
          rw [size] at hc2
          refine wpAny_pure ⟨rfl, h2, t2, c2, rfl, hS2, hc2, fun b o e => ?_⟩
          have b0 : b < s.heap.objs.size := Heap.lt_size e
          have b2 : b ≠ (s.heap.push (set0 w)).objs.size := by rw [Heap.size_push]; exact Nat.ne_of_lt (Nat.lt_succ_of_lt b0)
          exact hm.heap b o (by simp only [List.mem_cons, List.not_mem_nil, or_false, not_or]; exact ⟨Nat.ne_of_lt b0, b2⟩) (Heap.get?_push_of_some _ (Heap.get?_push_of_some _ e))
      · match r2, hr2 with
        | .error e, hr2 => exact hr2
        | .ok (.ret r), hr2 =>
          obtain ⟨rfl, h2, tk, c, rfl, y1, y2, y3⟩ := hr2
          (repeat (any_goals (first | assumption | wp_step)))
          exact k _ _ _ y1 y2 y3
        | .ok .next, hr2 => exact hr2.elim
        | .ok .brk, hr2 => exact hr2.elim
        | .ok .cont, hr2 => exact hr2.elim
    | next => exact hr.elim
    | brk => exact hr.elim
    | cont => exact hr.elim
end
def rSetLi (K : PySem.W.Frag) (w : World) : List V → Hp → VK → Prop := fun xs H Q => ∃ (p : Addr) (ns : List Int), xs = [.ref p] ∧ SqL K H p (ns.map V.int) ∧ ns.length ≤ 60 ∧
  ∀ a c, H a = none → c ≤ ns.length → Q (.ref a) (upd H a (SetO w a (fun j => decide (j ∈ ns)) c))
theorem c_setL {X : Cx} {K : PySem.W.Frag} {w : World} (hc : X.calm = true := by rfl) (h : X.K = K := by rfl) (hw : X.w = w := by rfl) : CallR X (.type "set") (rSetLi K w) := by
  subst h; subst hw
  rintro pins s σ H xs us Q I r ⟨p, ns, rfl, hq, hl, q⟩
  rw [Vals.ref1 r]
  obtain ⟨its, rv, ht, hz⟩ := I.list hq
  refine set_of_list ns (I.ok.hd hc) ht.isList (by simpa using ints_of_vals rv) (by unfold scanBound; omega) fun h' tk c R1 hcn k => ?_
  exact ⟨.ref s.heap.objs.size, _, I.laid (t' := tk) k (Nat.le_refl _) (setO_new R1), rfl, q _ c (I.hok.fresh (Nat.le_refl _)) hcn⟩
/-- a list of whole numbers -/
abbrev dI (ns : List Int) : PyData := .list (ns.map PyData.int)
theorem g_sortedSetL {K : PySem.W.Frag} {w : World} {pt : Option Pt} {σ : L2.St} {F : Hp} {te : TE} {ns : List Int} (h : EvG K pt te σ F (Is (dI ns))) (hz : ns.length ≤ 60) : EvG K pt (tCB (rSortedSet w) (tCons (tCB (rSetLi K w) (tCons te tNil)) tNil)) σ F
    (fun x => ∃ ms : List Int, x = .list (ms.map .int) ∧ ms.Pairwise (· < ·) ∧ ∀ k, k ∈ ms ↔ k ∈ ns) := fun H1 i g Q q =>
  h H1 i g _ fun d v F2 H2 hd s hv => by
    subst hd
    obtain ⟨a, xs, rfl, hl, ha⟩ := rp_lst hv
    have e1 := rpAll_ints ha
    subst e1
    refine ⟨a, ns, rfl, SqL.of (s.inn _ _ hl), hz, fun b c hb hc => ?_⟩
    have s3 : Step pt F2 H2 F2 (upd H2 b (SetO w b (fun j => decide (j ∈ ns)) c)) := .litter s.inn s.good hb
    refine ⟨b, _, c, rfl, upd_same, by omega, fun ms p hp hm hlen hn => ?_⟩
    have s4 : Step pt F2 (upd H2 b (SetO w b (fun j => decide (j ∈ ns)) c)) (upd F2 p (.lst (ms.map V.int))) _ := .laid s3.inn s3.good hn
    exact q _ _ _ _ ⟨ms, rfl, hp, fun k => by rw [hm k, decide_eq_true_eq]⟩ ((s.trans s3).trans s4) (.lst upd_same (rpAll_of_ints ms))
end Fv

namespace Fv
open PySem PySem.Spec PyProof.Rows L2 Evl StX
/-! ### bool(t) of a tuple -/
theorem meets_boolU (t : Addr) (its : Array Value) (fit : (its.size : Int) < 2 ^ 63) : Meets (Builtin.«bool.__new__» ⟨[.type "bool", .ref t], []⟩) (fun _ R s => IsTup s.heap t its ∧ ∀ tk, R (.ok (.ret (.bool (!its.isEmpty)))) { s with toks := tk }) :=
  Meets.of_wp fun prog w A R s0 hs => by
    obtain ⟨ht, q⟩ := hs; obtain ⟨hp, g, d, tk, os⟩ := s0
    have f0 := F.conv_sub_bool
    (repeat (any_goals (first | assumption | (with_reducible refine truthy_tuple ht fit ?_) | wp_step)))
    all_goals first | exact ⟨_, rfl, q _⟩ | exact q _ | skip
theorem rv_len {K : PySem.W.Frag} : True := trivial
def rBoolU (K : PySem.W.Frag) : List V → Hp → VK → Prop := fun xs H Q => ∃ (a : Addr) (zs : List V), xs = [.ref a] ∧ SqT K H a zs ∧ Q (.bl (!zs.isEmpty)) H
theorem c_boolU {X : Cx} {K : PySem.W.Frag} (h : X.K = K := by rfl) : CallR X (.type "bool") (rBoolU K) := by
  subst h
  rintro pins s σ H xs us Q I r ⟨a, zs, rfl, hq, q⟩
  obtain rfl := Vals.ref1 r
  obtain ⟨its, rv, pl, hz⟩ := I.tuple hq
  have h0 := sizeLine_eq; have h1 := rv.length
  have e : zs.isEmpty = its.toArray.isEmpty := by cases zs <;> cases its <;> simp_all
  exact call_bool_1 (meets_boolU a its.toArray (by simp only [List.size_toArray]; omega)) ⟨pl, fun tk => ⟨rfl, ⟨.bl (!zs.isEmpty), H, I.tok _, by rw [e]; rfl, q⟩⟩⟩
section
variable {K : PySem.W.Frag} {pt : Option Pt} {σ : L2.St} {F F' F0 H0 H : Hp} {te ta tb : TE} {ts tr : TA} {t u : TT} {R R1 : PD} {d e z : PyData} {D : Ends} {tz tu : TS} {wi : TI}
theorem rc_boolU {ds : List PyData} : RcG K (rBoolU K) [.tuple ds] (Is (.bool (!ds.isEmpty))) := rc_val fun F H vs e h => by
  cases h with
  | cons h1 h2 =>
    cases h2
    obtain ⟨a, xs, rfl, hl, ha⟩ := rp_tup h1
    have e1 : xs.isEmpty = ds.isEmpty := by have := ha.length; cases xs <;> cases ds <;> simp_all
    exact ⟨.bl (!xs.isEmpty), fun Q q => ⟨a, xs, rfl, tx e hl, q⟩, by rw [e1]; exact .bl _⟩
/-! ### choices whose test is not known -/
theorem g_ifR {S : Bool → Prop} (h : EtG pt t σ F S) (h1 : EvG K pt ta σ F R) (h2 : EvG K pt tb σ F R) : EvG K pt (tIf t ta tb) σ F R := fun H1 i g Q q => h H1 i g _ fun c F2 H2 hc s => by
  cases c with
  | true => exact h1.mono s.sub H2 s.inn s.good Q fun d' v' F3 H3 hd' s3 hv' => q d' v' F3 H3 hd' (s.trans s3) hv'
  | false => exact h2.mono s.sub H2 s.inn s.good Q fun d' v' F3 H3 hd' s3 hv' => q d' v' F3 H3 hd' (s.trans s3) hv'
theorem et_truR {S : Int → Prop} (h : EvG K pt te σ F (fun d => ∃ k : Int, d = .int k ∧ S k)) : EtG pt (fun σ H Q => te σ H fun x H' => ∃ k, TruV K x H' k ∧ Q k H') σ F (fun _ => True) := fun H1 i g Q q =>
  h H1 i g _ fun d' v F2 H2 hd s hv => by
    obtain ⟨n, rfl, _⟩ := hd
    rw [rp_int hv]
    exact ⟨n != 0, rfl, q _ F2 H2 trivial s⟩
/-- an item of a written list, at a drawn place -/
theorem g_pick {ds : List PyData} {c : Int} (ha : EvG K pt ta σ F (Is (.list ds))) (hb : EvG K pt tb σ F (fun d => ∃ k : Int, d = .int k ∧ 0 ≤ k ∧ k < c)) (hc : c ≤ (ds.length : Int)) (hP : ∀ d ∈ ds, R d) : EvG K pt (tOp (rIxL K) ta tb) σ F R := g_op ha hb fun d e hd he => by
  obtain ⟨k, rfl, k0, k1⟩ := he
  subst hd
  obtain ⟨j, rfl⟩ : ∃ j : Nat, k = (j : Int) := ⟨k.toNat, by omega⟩
  have hj : j < ds.length := by omega
  intro F H x y i hx hy Q q
  exact rv_ixL (d := ds[j]) (atI_nat (List.getElem?_eq_getElem hj)) F H x y i hx hy Q fun z v F2 H2 hz s hv => q z v F2 H2 (by rw [show z = ds[j] from hz]; exact hP _ (List.getElem_mem hj)) s hv
/-! ### == [] -/
theorem rv_eqNil {ds : List PyData} (h : SeqAt.shaped (.list ds) = true) : RvG K (rEqD K) (.list ds) (.list []) (Is (.bool ds.isEmpty)) := by
  have := rv_eqD (K := K) h (show SeqAt.shaped (.list []) = true by decide)
  have e : PyData.eqv (.list ds) (.list []) = ds.isEmpty := by
    cases ds <;> simp [PyData.eqv, PyData.eqvAll]
  rw [e] at this; exact this
theorem shaped_dI (ns : List Int) : SeqAt.shaped (.list (ns.map PyData.int)) = true := shaped_of (by simp only [PyData.canLay0]; exact canLayAll_ints ns) (by have := depthAll_ints ns; simp only [PyData.depth]; omega)
theorem c_min2 {X : Cx} (hc : X.calm = true := by rfl) : CallR X (.builtin "min") (fun xs H Q => ∃ i j, xs = [.int i, .int j] ∧ Q (.int (if j < i then j else i)) H) := call_min2 hc
theorem rc_min2 {i j : Int} : RcG K (fun xs H Q => ∃ i j, xs = [.int i, .int j] ∧ Q (.int (if j < i then j else i)) H) [.int i, .int j] (Is (.int (if j < i then j else i))) := rc_val fun F H vs e h => by
  cases h with
  | cons h1 h2 =>
    cases h2 with
    | cons h3 h4 =>
      cases h4
      rw [rp_int h1, rp_int h3]
      exact ⟨_, fun Q q => ⟨i, j, rfl, q⟩, .int _⟩
end
end Fv

/-! loops over what is not known beforehand; l[:i] -/
namespace Fv
open PySem PySem.Spec PyProof.Rows L2 Evl StX
section
variable {K : PySem.W.Frag} {pt : Option Pt} {σ : L2.St} {F F' F0 H0 H : Hp} {te ta tb : TE} {ts tr : TA} {t u : TT} {R R1 : PD} {RS : List PyData → Prop} {d e z : PyData} {D : Ends} {tz tu : TS} {wi : TI} {l : Addr} {ls : List PyData}
theorem t_forR {j : Nat} (s : Step pt F0 H0 F H) (hw : WiG K pt wi σ F RS) (I : List PyData → Nat → L2.St → Hp → Prop) (h0 : ∀ ds, RS ds → ∀ F2, Ex F F2 → I ds 0 σ F2)
    (hs : ∀ ds, RS ds → ∀ i d, ds[i]? = some d → ∀ σ' F' H' x, I ds i σ' F' → Step pt F0 H0 F' H' → Ex F F' → Rp K F' x d →
      ∀ N : L2.St → Hp → Prop, (∀ σ2 F2 H2, I ds (i + 1) σ2 F2 → Step pt F0 H0 F2 H2 → Ex F' F2 → N σ2 H2) → tu { D with nx := N, ct := N, bk := tz D } (σ'.set j (some x)) H')
    (hd : ∀ ds, RS ds → ∀ σ' F' H', I ds ds.length σ' F' → Step pt F0 H0 F' H' → Ex F F' → tz D σ' H') : tSeq (tFor wi (gName j) tu) tz D σ H :=
  hw H s.inn s.good _ fun ds J F1 H1 hr s1 Y => by
    refine ⟨fun i m σ' H' => m = ds.length - i ∧ i ≤ ds.length ∧ ∃ F', Step pt F0 H0 F' H' ∧ Ex F1 F' ∧ I ds i σ' F', ⟨ds.length, by simp, Nat.zero_le _, F1, s.trans s1, Ex.refl _, h0 ds hr F1 s1.sub⟩, ?_⟩
    rintro i m σ' H' ⟨rfl, hi, F', s', e', p⟩
    have eH : Ex F1 H' := e'.trans s'.inn
    by_cases hlt : i < ds.length
    · refine .inr ⟨Y.go i H' eH hlt, fun σ2 H2 => ∃ F2, Step pt F0 H0 F2 H2 ∧ Ex F1 F2 ∧ I ds (i + 1) σ2 F2, fun σ2 H2 ⟨F2, a, b, c⟩ => ⟨ds.length - (i + 1), by omega, rfl, hlt, F2, a, b, c⟩, fun x H2 y => ?_⟩
      obtain ⟨rfl, d, hdd, hx⟩ := Y.yld i H' x H2 eH hlt y
      exact hs ds hr i d hdd σ' F' _ x p s' (s1.sub.trans e') (Rp.mono e' _ _ hx) _ fun σ2 F2 H2 a b c => ⟨F2, b, e'.trans c, a⟩
    · have hE : i = ds.length := Nat.le_antisymm hi (Nat.le_of_not_lt hlt)
      subst hE
      exact .inl ⟨Y.stop H' eH, hd ds hr σ' F' H' p s' (s1.sub.trans e')⟩
theorem t_forGR {j : Nat} (g0 : Good pt F0 H0) (h0 : H0 l = none) (g : Gst K pt F0 H0 l F H ls) (hw : WiG K pt wi σ F RS) (I : List PyData → Nat → L2.St → Hp → List PyData → Prop) (hi : ∀ ds, RS ds → ∀ F2, Ex F F2 → I ds 0 σ F2 ls)
    (hs : ∀ ds, RS ds → ∀ i d, ds[i]? = some d → ∀ σ' F' H' x ls', I ds i σ' F' ls' → Gst K pt F0 H0 l F' H' ls' → Ex F F' → Rp K F' x d →
      ∀ N : L2.St → Hp → Prop, (∀ σ2 F2 H2 ls2, I ds (i + 1) σ2 F2 ls2 → Gst K pt F0 H0 l F2 H2 ls2 → Ex F' F2 → N σ2 H2) → tu { D with nx := N, ct := N, bk := tz D } (σ'.set j (some x)) H')
    (hd : ∀ ds, RS ds → ∀ σ' F' H' ls', I ds ds.length σ' F' ls' → Gst K pt F0 H0 l F' H' ls' → Ex F F' → tz D σ' H') : tSeq (tFor wi (gName j) tu) tz D σ H :=
  hw H g.step.inn g.step.good _ fun ds J F1 H1 hr s1 Y => by
    refine ⟨fun i m σ' H' => m = ds.length - i ∧ i ≤ ds.length ∧ ∃ F' ls', Gst K pt F0 H0 l F' H' ls' ∧ Ex F1 F' ∧ I ds i σ' F' ls', ⟨ds.length, by simp, Nat.zero_le _, F1, ls, g.run g0 h0 s1, Ex.refl _, hi ds hr F1 s1.sub⟩, ?_⟩
    rintro i m σ' H' ⟨rfl, hil, F', ls', g', e', p⟩
    have eH : Ex F1 H' := e'.trans g'.step.inn
    by_cases hlt : i < ds.length
    · refine .inr ⟨Y.go i H' eH hlt, fun σ2 H2 => ∃ F2 ls2, Gst K pt F0 H0 l F2 H2 ls2 ∧ Ex F1 F2 ∧ I ds (i + 1) σ2 F2 ls2, fun σ2 H2 ⟨F2, ls2, a, b, c⟩ => ⟨ds.length - (i + 1), by omega, rfl, hlt, F2, ls2, a, b, c⟩, fun x H2 y => ?_⟩
      obtain ⟨rfl, d, hdd, hx⟩ := Y.yld i H' x H2 eH hlt y
      exact hs ds hr i d hdd σ' F' _ x ls' p g' (s1.sub.trans e') (Rp.mono e' _ _ hx) _ fun σ2 F2 H2 ls2 a b c => ⟨F2, ls2, b, e'.trans c, a⟩
    · have hE : i = ds.length := Nat.le_antisymm hil (Nat.le_of_not_lt hlt)
      subst hE
      exact .inl ⟨Y.stop H' eH, hd ds hr σ' F' H' ls' p g' (s1.sub.trans e')⟩
theorem RpAll.take : ∀ {ds : List PyData} {vs : List V} (i : Nat), RpAll K F vs ds → RpAll K F (vs.take i) (ds.take i)
  | [], _, i, h => by cases h; simp; exact .nil
  | d :: ds, _, 0, h => by simp; exact .nil
  | d :: ds, _, i + 1, h => by
    cases h with
    | cons h1 h2 => exact .cons h1 (RpAll.take i h2)
/-- xs[:i] -/
theorem g_slTo {ds : List PyData} {i : Nat} (h : EvG K pt te σ F (Is (.list ds))) : EvG K pt (tSl (rSlL K) te tNoPart (tPart (tC (.int (i : Int))))) σ F (Is (.list (ds.take i))) := fun H1 e g Q q =>
  h H1 e g _ fun d v F2 H2 hd s hv => by
    subst hd
    obtain ⟨a, xs, rfl, hl, ha⟩ := rp_lst hv
    refine ⟨_, rfl, a, xs, rfl, SqL.of (s.inn _ _ hl), fun p hp => ?_⟩
    have e1 : cutV xs none (some (i : Int)) = xs.take i := by
      unfold cutV
      rw [show HT.sIx xs.length 0 none = 0 from rfl, show HT.sIx xs.length xs.length (some (i : Int)) = min i xs.length from HT.sIx_nat _ _ i, List.drop_zero, Nat.sub_zero]
      by_cases z : i ≤ xs.length
      · rw [Nat.min_eq_left z]
      · rw [Nat.min_eq_right (by omega), List.take_of_length_le (Nat.le_refl _), List.take_of_length_le (by omega)]
    rw [e1]
    have s3 : Step pt F2 H2 (upd F2 p (.lst (xs.take i))) (upd H2 p (.lst (xs.take i))) := .laid s.inn s.good hp
    exact q _ _ _ _ rfl (s.trans s3) (.lst upd_same (RpAll.mono s3.sub _ _ (RpAll.take i ha)))
end
end Fv

namespace K7
open PySem PySem.Spec PyProof.Rows L2 Fv Evl
def topS (i : Nat) : Stmt := PySem.Challenge.pw_firmvalues_k07_whole_firm_by_all_lots.main.body.getD i (.Pass ⟨0, 0, 0, 0⟩)
structure Tx (mg : Str → Option Value) : Prop where
  isinstance : mg "isinstance" = none
  list : mg "list" = none
  tuple : mg "tuple" = none
  bool : mg "bool" = none
  int : mg "int" = none
  str : mg "str" = none
  all : mg "all" = none
  any : mg "any" = none
  range : mg "range" = none
  sorted : mg "sorted" = none
  set : mg "set" = none
  max : mg "max" = none
  len : mg "len" = none
  min : mg "min" = none
  repr : mg "repr" = none
abbrev s_is_whole : Stmt := topS 7
theorem sc_is_whole : FnScope ["thing", "low", "high"] ["thing", "low", "high"] (defScope s_is_whole) := ⟨rfl, rfl, rfl, by decide +kernel, rfl, by decide +kernel, by decide +kernel⟩
abbrev s_is_sequence : Stmt := topS 8
theorem sc_is_sequence : FnScope ["thing"] ["thing"] (defScope s_is_sequence) := ⟨rfl, rfl, rfl, by decide +kernel, rfl, by decide +kernel, by decide +kernel⟩
abbrev s_check_lot : Stmt := topS 11
theorem sc_check_lot : FnScope ["houses", "lot", "house"] ["houses", "lot"] (defScope s_check_lot) := ⟨rfl, rfl, rfl, by decide +kernel, rfl, by decide +kernel, by decide +kernel⟩
abbrev s_lot_within : Stmt := topS 12
theorem sc_lot_within : FnScope ["one", "other", "house"] ["one", "other"] (defScope s_lot_within) := ⟨rfl, rfl, rfl, by decide +kernel, rfl, by decide +kernel, by decide +kernel⟩
abbrev s_lots_of_size : Stmt := topS 13
theorem sc_lots_of_size : FnScope ["houses", "size", "lots", "_", "lot", "house"] ["houses", "size"] (defScope s_lots_of_size) := ⟨rfl, rfl, rfl, by decide +kernel, rfl, by decide +kernel, by decide +kernel⟩
/-- is_whole has two defaults -/
abbrev FunW (K : PySem.W.Frag) (f : Addr) (fd : FuncData) : Prop := L2.FunD K "is_whole" "is_whole" (defArgs s_is_whole) (defBody s_is_whole) (defScope s_is_whole) [.non, .non] [] f fd
theorem okD {P : Program} {w : World} {K : PySem.W.Frag} {mg : Str → Option Value} {base : Heap} {x qual : Str} {params : Arguments} {body : List Stmt} {scope : Scope} {dvs : List V} {kws : List (Str × V)} {f : Addr} {fd : FuncData} {N ps : List Str} {k : Nat} {sp : Sp} (F : L2.FunD K x qual params body scope dvs kws f fd) (S : FnScope N ps scope) (len : ∀ vs H Q E, sp vs H Q E → vs.length = ps.length)
    (hbody : ∀ (cdv : Value) (A : Around) (outer : List Env) (s : Shared) (H : Hp) (vs : List V) (Q : VK) (E : XK), Room k (A.deeper (envOfC qual scope s.heap.objs.size f cdv)) → sp vs H Q E →
      ∃ t, PSs (cxOf CX0 P w K mg base N qual scope f cdv A outer s H E).nox body t ∧ t { nx := fun _ H' => Q .non H', rt := Q } (start N vs) H) : FnOk P w K mg base CX0 (k + 1) f fd ps sp :=
  F.ok S len fun cdv A outer s H vs Q E hr h => by
    obtain ⟨t, h1, q⟩ := hbody cdv A outer s H vs Q E hr h
    exact ⟨t, h1.nox, q⟩
def isL : PyData → Bool
  | .list _ => true
  | _ => false
def isT : PyData → Bool
  | .tuple _ => true
  | _ => false
def isB : PyData → Bool
  | .bool _ => true
  | _ => false
def isI : PyData → Bool
  | .bool _ => true
  | .int _ => true
  | _ => false
theorem kit_list : ∀ d : PyData, kitB (tyD d) "list" = some (isL d)
  | .none => by decide +kernel
  | .bool _ => by show kitB "bool" "list" = some false; decide +kernel
  | .int _ => by show kitB "int" "list" = some false; decide +kernel
  | .str _ => by show kitB "str" "list" = some false; decide +kernel
  | .list _ => by show kitB "list" "list" = some true; decide +kernel
  | .tuple _ => by show kitB "tuple" "list" = some false; decide +kernel
  | .dict _ => by show kitB "dict" "list" = some false; decide +kernel
theorem kit_tuple : ∀ d : PyData, kitB (tyD d) "tuple" = some (isT d)
  | .none => by decide +kernel
  | .bool _ => by show kitB "bool" "tuple" = some false; decide +kernel
  | .int _ => by show kitB "int" "tuple" = some false; decide +kernel
  | .str _ => by show kitB "str" "tuple" = some false; decide +kernel
  | .list _ => by show kitB "list" "tuple" = some false; decide +kernel
  | .tuple _ => by show kitB "tuple" "tuple" = some true; decide +kernel
  | .dict _ => by show kitB "dict" "tuple" = some false; decide +kernel
theorem kit_bool : ∀ d : PyData, kitB (tyD d) "bool" = some (isB d)
  | .none => by decide +kernel
  | .bool _ => by show kitB "bool" "bool" = some true; decide +kernel
  | .int _ => by show kitB "int" "bool" = some false; decide +kernel
  | .str _ => by show kitB "str" "bool" = some false; decide +kernel
  | .list _ => by show kitB "list" "bool" = some false; decide +kernel
  | .tuple _ => by show kitB "tuple" "bool" = some false; decide +kernel
  | .dict _ => by show kitB "dict" "bool" = some false; decide +kernel
theorem kit_int : ∀ d : PyData, kitB (tyD d) "int" = some (isI d)
  | .none => by decide +kernel
  | .bool _ => by show kitB "bool" "int" = some true; decide +kernel
  | .int _ => by show kitB "int" "int" = some true; decide +kernel
  | .str _ => by show kitB "str" "int" = some false; decide +kernel
  | .list _ => by show kitB "list" "int" = some false; decide +kernel
  | .tuple _ => by show kitB "tuple" "int" = some false; decide +kernel
  | .dict _ => by show kitB "dict" "int" = some false; decide +kernel
/-- None or a whole number -/
def oD : Option Int → PyData
  | none => .none
  | some i => .int i
def loOk (i : Int) : Option Int → Bool
  | none => true
  | some l => decide (l ≤ i)
def hiOk (i : Int) : Option Int → Bool
  | none => true
  | some h => decide (i ≤ h)
def isWhole (lo hi : Option Int) : PyData → Bool
  | .int i => loOk i lo && hiOk i hi
  | _ => false
section
variable {P : Program} {w : World} {K : PySem.W.Frag} {mg : Str → Option Value} {base : Heap}
theorem rpAll1 {F : Hp} {vs : List V} {d : PyData} (h : RpAll K F vs [d]) : ∃ v, vs = [v] ∧ Rp K F v d := by
  cases h with
  | cons h1 h2 => cases h2; exact ⟨_, rfl, h1⟩
theorem rpAll2 {F : Hp} {vs : List V} {d e : PyData} (h : RpAll K F vs [d, e]) : ∃ v x, vs = [v, x] ∧ Rp K F v d ∧ Rp K F x e := by
  cases h with
  | cons h1 h2 =>
    obtain ⟨x, rfl, hx⟩ := rpAll1 h2
    exact ⟨_, x, rfl, h1, hx⟩
theorem rpAll3 {F : Hp} {vs : List V} {d e g : PyData} (h : RpAll K F vs [d, e, g]) : ∃ v x y, vs = [v, x, y] ∧ Rp K F v d ∧ Rp K F x e ∧ Rp K F y g := by
  cases h with
  | cons h1 h2 =>
    obtain ⟨x, y, rfl, hx, hy⟩ := rpAll2 h2
    exact ⟨_, x, y, rfl, h1, hx, hy⟩
/-! is_sequence -/
abbrev spSeq (K : PySem.W.Frag) : Sp := PSp K (fun d : PyData => [d]) (fun _ => True) (fun d => .bool (isL d || isT d))
theorem ok_seq {f : Addr} {fd : FuncData} (Fn : Fun K "is_sequence" "is_sequence" s_is_sequence f fd) (T : Tx mg) : FnOk P w K mg base CX0 1 f fd ["thing"] (spSeq K) := by
  refine Fn.ok sc_is_sequence (PSp.len (fun _ => rfl)) (fun cdv A outer s H vs Q E hr h => ?_)
  obtain ⟨d, F, _, e, ha, q⟩ := h
  obtain ⟨v, rfl, hv⟩ := rpAll1 ha
  exact ⟨_, (pss_one (ps_ret (pe_callB (c_isiT (K := K)) (by rfl) T.isinstance (by decide +kernel) (pa_cons (pv 0) (pa_cons (pe_tup (pa_cons (pe_bltn (v := .ty "list") (by rfl) T.list (by decide +kernel) rfl) (pa_cons (pe_bltn (v := .ty "tuple") (by rfl) T.tuple (by decide +kernel) rfl) pa_nil))) pa_nil))))), t_retI (Step.refl e .nil) (g_isi2 (g_var rfl hv) (kit_list d) (kit_tuple d)) q⟩
/-! is_whole -/
abbrev spWhole (K : PySem.W.Frag) : Sp := PSp K (fun i : PyData × Option Int × Option Int => [i.1, oD i.2.1, oD i.2.2]) (fun _ => True) (fun i => .bool (isWhole i.2.1 i.2.2 i.1))
theorem ok_whole {f : Addr} {fd : FuncData} (Fn : FunW K f fd) (T : Tx mg) : FnOk P w K mg base CX0 1 f fd ["thing", "low", "high"] (spWhole K) := by
  refine okD Fn sc_is_whole (PSp.len (fun _ => rfl)) (fun cdv A outer s H vs Q E hr h => ?_)
  obtain ⟨⟨d, lo, hi⟩, F, _, e, ha, q⟩ := h
  obtain ⟨v, x, y, rfl, hv, hx, hy⟩ := rpAll3 ha
  refine ⟨_, (pss_cons (ps_if (PW.pt (pw_or (pt_val (pe_callB (c_isi (K := K)) (by rfl) T.isinstance (by decide +kernel) (pa_cons (pv 0) (pa_cons (pe_bltn (v := .ty "bool") (by rfl) T.bool (by decide +kernel) rfl) pa_nil)))) (pw_or1 (pt_not (pt_val (pe_callB (c_isi (K := K)) (by rfl) T.isinstance (by decide +kernel) (pa_cons (pv 0) (pa_cons (pe_bltn (v := .ty "int") (by rfl) T.int (by decide +kernel) rfl) pa_nil)))))))) (pss_one (ps_ret pe_bl)) pss_nil)
    (pss_one (ps_ret (pe_and (pe_or (pe_cmpR op_isN (pv 1) pe_non (nomark _)) (pe_one (pe_cmpR op_ge (pv 0) (pv 1) (nomark _)))) (pe_one (pe_or (pe_cmpR op_isN (pv 2) pe_non (nomark _)) (pe_one (pe_cmpR op_le (pv 0) (pv 2) (nomark _))))))))), ?_⟩
  refine t_when (b := isB d || !isI d) (Step.refl e .nil) (et_or (et_B (g_isi (g_var rfl hv) (kit_bool d))) fun _ => et_not (et_B (g_isi (g_var rfl hv) (kit_int d)))) (fun hb F2 H2 s2 e2 => ?_) (fun hb F2 H2 s2 e2 => ?_)
  · refine t_retI (K := K) s2 g_bl fun v F3 H3 s3 hv3 => q v F3 H3 s3 ?_
    have : isWhole lo hi d = false := by cases d <;> simp_all [isB, isI, isWhole]
    show Rp K F3 v (.bool (isWhole lo hi d))
    rw [this]; exact hv3
  · obtain ⟨i, rfl⟩ : ∃ i, d = .int i := by cases d <;> simp_all [isB, isI]
    have v1 := Rp.mono e2 _ _ hv
    have x1 := Rp.mono e2 _ _ hx
    have y1 := Rp.mono e2 _ _ hy
    refine t_retI s2 (g_andV (a := loOk i lo) (b := hiOk i hi) ?_ fun _ => ?_) q
    · refine (g_orV (a := isNone (oD lo)) (b := loOk i lo) (g_op (g_var rfl x1) g_non fun _ _ h1 h2 => h1 ▸ h2 ▸ rv_isN) fun hn => ?_).is ?_
      · cases lo with
        | none => cases hn
        | some l => exact g_op (g_var rfl v1) (g_var rfl x1) fun _ _ h1 h2 => h1 ▸ h2 ▸ rv_bl (g := fun i j => decide (j ≤ i))
      · cases lo <;> simp [oD, isNone, loOk]
    · refine (g_orV (a := isNone (oD hi)) (b := hiOk i hi) (g_op (g_var rfl y1) g_non fun _ _ h1 h2 => h1 ▸ h2 ▸ rv_isN) fun hn => ?_).is ?_
      · cases hi with
        | none => cases hn
        | some l => exact g_op (g_var rfl v1) (g_var rfl y1) fun _ _ h1 h2 => h1 ▸ h2 ▸ rv_bl (g := fun i j => decide (i ≤ j))
      · cases hi <;> simp [oD, isNone, hiOk]
/-! lot_within -/
abbrev spWithin (K : PySem.W.Frag) : Sp := PSp K (fun i : List Int × List Int => [dT i.1, dT i.2]) (fun i => i.1.length ≤ 50000) (fun i => .bool (i.1.all fun x => decide (x ∈ i.2)))
theorem ok_within {f : Addr} {fd : FuncData} (Fn : Fun K "lot_within" "lot_within" s_lot_within f fd) (T : Tx mg) : FnOk P w K mg base CX0 1 f fd ["one", "other"] (spWithin K) := by
  refine Fn.ok sc_lot_within (PSp.len (fun _ => rfl)) (fun cdv A outer s H vs Q E hr h => ?_)
  obtain ⟨⟨a, b⟩, F, hz, e, ha, q⟩ := h
  obtain ⟨v, x, rfl, hv, hx⟩ := rpAll2 ha
  refine ⟨_, (pss_one (ps_ret (pe_callB (c_all (K := K)) (by rfl) T.all (by decide +kernel) (pa_cons (pe_lc (own := [("house", 2)]) (g := gName 2) rfl sc_lot_within.nd (i_tup (K := K) (pv 0)) (blkOk_by (own := [("house", 2)]) (N := ["one", "other", "house"]) (sc := (defScope s_lot_within)) (by decide +kernel)) (fun _ _ _ _ _ => pg_name (i := 2) sc_lot_within.nd rfl (by first | exact Or.inl rfl | exact Or.inr rfl)) (fun _ _ _ _ _ => pts_nil) (fun _ _ _ _ _ => (pe_cmpR (o_in (K := K)) (pv 2) (pv 1) (by rfl)))) pa_nil)))), ?_⟩
  exact t_retI (Step.refl e .nil) (g_cbI (gs_one (g_lcEM PyData.int a (fun i => .bool (decide (i ∈ b))) (w_tupI (g_var rfl hv)) hz (fun _ => rfl) fun i hi F' e' y hy =>
    g_op (g_var rfl hy) (g_var rfl (Rp.mono e' _ _ hx)) fun d1 d2 h1 h2 => h1 ▸ h2 ▸ rv_inT)) (rc_allM a _)) q
/-! check_lot -/
abbrev spLot (K : PySem.W.Frag) : Sp := PSp K (fun i : Nat × List Int => [.int i.1, dI i.2]) (fun i => i.2.length ≤ 60 ∧ ∀ k ∈ i.2, 0 ≤ k ∧ k < (i.1 : Int)) (fun i => dT (lotOf i.1 i.2))
theorem ok_lot {f fS fW : Addr} {fd fdS fdW : FuncData} (Fn : Fun K "check_lot" "check_lot" s_check_lot f fd) (T : Tx mg)
    (F_is_sequence : Fun K "is_sequence" "is_sequence" s_is_sequence fS fdS) (b_is_sequence : Binds K fdS ["thing"] []) (g_is_sequence : mg "is_sequence" = some (.ref fS))
    (F_is_whole : FunW K fW fdW) (b_is_whole : Binds K fdW ["thing", "low", "high"] []) (g_is_whole : mg "is_whole" = some (.ref fW)) :
    FnOk P w K mg base CX0 2 f fd ["houses", "lot"] (spLot K) := by
  have G_is_sequence : FnOk P w K mg base CX0 1 fS fdS ["thing"] (spSeq K) := ok_seq F_is_sequence T
  have G_is_whole : FnOk P w K mg base CX0 1 fW fdW ["thing", "low", "high"] (spWhole K) := ok_whole F_is_whole T
  refine Fn.ok sc_check_lot (PSp.len (fun _ => rfl)) (fun cdv A outer s H vs Q E hr h => ?_)
  obtain ⟨⟨n, ns⟩, F, ⟨hz, hb⟩, e, ha, q⟩ := h
  obtain ⟨v, x, rfl, hv, hx⟩ := rpAll2 ha
  refine ⟨_, (pss_cons (ps_if (PW.pt (pw_or (pt_not (pt_val (pe_call G_is_sequence (hr.mono (by decide)) (by rfl) g_is_sequence F_is_sequence.kp b_is_sequence .nil pass0 (pa_cons (pv 1) pa_nil)))) (pw_or1 (pt_not (pt_val (pe_callB (c_all (K := K)) (by rfl) T.all (by decide +kernel) (pa_cons (pe_lc (own := [("house", 2)]) (g := gName 2) rfl sc_check_lot.nd (i_list (K := K) (pv 1)) (blkOk_by (own := [("house", 2)]) (N := ["houses", "lot", "house"]) (sc := (defScope s_check_lot)) (by decide +kernel)) (fun _ _ _ _ _ => pg_name (i := 2) sc_check_lot.nd rfl (by first | exact Or.inl rfl | exact Or.inr rfl)) (fun _ _ _ _ _ => pts_nil) (fun _ _ _ _ _ => (pe_call G_is_whole (hr.mono (by decide)) (by rfl) g_is_whole F_is_whole.kp b_is_whole .nil pass0 (pa_cons (pv 2) (pa_cons pe_int (pa_cons (pe_op op_sub (pv 0) pe_int) pa_nil)))))) pa_nil))))))) (pss_one ps_never) pss_nil)
    (pss_one (ps_ret (pe_callTy (c_tup (K := K)) (by rfl) T.tuple (by decide +kernel) (pa_cons (pe_callB (c_sortedSet (w := w)) (by rfl) T.sorted (by decide +kernel) (pa_cons (pe_callTy (c_setL (K := K) (w := w)) (by rfl) T.set (by decide +kernel) (pa_cons (pv 1) pa_nil)) pa_nil)) pa_nil))))), ?_⟩
  have hall : (ns.all fun k => isWhole (some 0) (some ((n : Int) - 1)) (.int k)) = true := by
    rw [List.all_eq_true]
    intro k hk
    have := hb k hk
    simp only [isWhole, loOk, hiOk, Bool.and_eq_true, decide_eq_true_eq]
    simp only at this
    omega
  refine t_skip (Step.refl e .nil) ((et_or (a := false) (b := false) ((et_not (b := true) (et_B (g_call (dI ns) (gs_one (g_var rfl hx)) rfl trivial))).is rfl) fun _ => ?_).is rfl) (fun F2 H2 s2 e2 => ?_)
  · refine (et_not (b := true) ?_).is rfl
    refine (et_B (g_cbI (gs_one (g_lcEM PyData.int ns (fun k => .bool (isWhole (some 0) (some ((n : Int) - 1)) (.int k))) (w_listI (g_var rfl hx)) (Nat.le_trans hz (by decide)) (fun _ => rfl) fun k hk F' e' y hy => ?_)) (rc_allM ns _))).is hall
    exact g_call (PyData.int k, some 0, some ((n : Int) - 1)) (gs_three (g_var rfl hy) g_int (g_op (g_var rfl (Rp.mono e' _ _ hv)) g_int fun _ _ h1 h2 => h1 ▸ h2 ▸ rv_sub)) rfl trivial
  · refine t_retI s2 (g_cb (g_consR (g_sortedSetL (g_var rfl (Rp.mono e2 _ _ hx)) hz)) fun ds hds => ?_) q
    obtain ⟨d, rfl, ms, rfl, hp, hm⟩ := hds
    have := sorted_is hp hm hb
    subst this
    exact rc_tupL
end
end K7

namespace K7
open PySem PySem.Spec PyProof.Rows L2 Fv Evl
abbrev s_lots_by_size : Stmt := topS 14
theorem sc_lots_by_size : FnScope ["houses", "size", "lot"] ["houses"] (defScope s_lots_by_size) := ⟨rfl, rfl, rfl, by decide +kernel, rfl, by decide +kernel, by decide +kernel⟩
/-- the houses 0 .. n - 1 -/
def hs (n : Nat) : List Int := (List.range n).map Int.ofNat
theorem rng_hs (n : Nat) : rng 0 n = (hs n).map PyData.int := by
  unfold rng hs
  rw [List.map_map]
  refine List.map_congr_left fun k _ => ?_
  simp
def growLots (n : Nat) (lots : List (List Int)) : List (List Int) := lots.flatMap fun l => ((hs n).filter fun h => decide (maxOf (-1) l < h)).map fun h => l ++ [h]
def lotsOf (n : Nat) : Nat → List (List Int)
  | 0 => [[]]
  | k + 1 => growLots n (lotsOf n k)
theorem lots_few : ∀ n ∈ List.range 6, ∀ k ∈ List.range 6, (lotsOf n k).length ≤ 300 ∧ ∀ l ∈ lotsOf n k, l.length ≤ 60 := by decide +kernel
section
variable {P : Program} {w : World} {K : PySem.W.Frag} {mg : Str → Option Value} {base : Heap}
abbrev spSize (K : PySem.W.Frag) : Sp := PSp K (fun i : Nat × Nat => [.int i.1, .int i.2]) (fun i => i.1 ≤ 5 ∧ i.2 ≤ 5) (fun i => dTT (lotsOf i.1 i.2))
theorem ok_size {f : Addr} {fd : FuncData} (Fn : Fun K "lots_of_size" "lots_of_size" s_lots_of_size f fd) (T : Tx mg) : FnOk P w K mg base CX0 1 f fd ["houses", "size"] (spSize K) := by
  refine Fn.ok sc_lots_of_size (PSp.len (fun _ => rfl)) (fun cdv A outer s H vs Q E hr h => ?_)
  obtain ⟨⟨n, k⟩, F, ⟨hn, hk⟩, e, ha, q⟩ := h
  simp only at hn hk
  obtain ⟨v, x, rfl, hv, hx⟩ := rpAll2 ha
  refine ⟨_, (pss_cons (ps_set (i := 2) sc_lots_of_size.nd rfl (by first | exact Or.inl rfl | exact Or.inr rfl) (pe_lst (pa_cons (pe_tup pa_nil) pa_nil)))
    (pss_cons (ps_for PassesOwn.never rfl (pi_range1 (by rfl) T.range (pa_cons (pv 1) pa_nil)) (pg_name (i := 3) sc_lots_of_size.nd rfl (by first | exact Or.inl rfl | exact Or.inr rfl)) (pss_one (ps_setLc2 (i := 2) (own := [("lot", 4), ("house", 5)]) (vs1 := [5]) (g := gName 4) (g1 := gName 5) rfl sc_lots_of_size.nd rfl rfl (sw_true rfl rfl rfl (by decide +kernel)) (i_list (K := K) (pv 2)) (blkOk_by (own := [("lot", 4), ("house", 5)]) (N := ["houses", "size", "lots", "_", "lot", "house"]) (sc := (defScope s_lots_of_size)) (by decide +kernel)) (by decide) (fun _ _ _ _ _ => pg_name (i := 4) sc_lots_of_size.nd rfl (by first | exact Or.inl rfl | exact Or.inr rfl)) (fun _ _ _ _ _ => pts_nil) (fun _ _ _ _ _ => (pi_range1 (by rfl) T.range (pa_cons (pv 0) pa_nil))) (fun _ _ _ _ _ => pg_name (i := 5) sc_lots_of_size.nd rfl (by first | exact Or.inl rfl | exact Or.inr rfl)) (fun _ _ _ _ _ => (pts_one (pt_cmpR op_gt (pv 5) (pe_callBK (c_maxD (K := K) (hu3 hr)) (by rfl) T.max (by decide +kernel) (pa_cons (pv 4) pa_nil) (pk_cons (pe_un un_neg pe_int) pk_nil)) (nomark _)))) (fun _ _ _ _ _ => (pe_op (o_catA (K := K)) (pv 4) (pe_tup (pa_cons (pv 5) pa_nil)))))))
    (pss_one (ps_ret (pe_callTy (c_tup (K := K)) (by rfl) T.tuple (by decide +kernel) (pa_cons (pv 2) pa_nil)))))), ?_⟩
  refine t_asgI (K := K) (Step.refl e .nil) (g_lstI (gs_one (g_tupI gs_nil (by simp))) (by simp)) fun y F1 H1 s1 e1 hy => ?_
  refine t_for (K := K) s1 (w_rng1I (n := k) (gs_one (g_var rfl (Rp.mono e1 _ _ hx))) (by omega) (by omega)) (fun i σ' F' => ∃ y u, σ' = [some v, some x, some y, u, none, none] ∧ Rp K F' y (dLT (lotsOf n i)) ∧ i ≤ k) (fun F2 e2 => ⟨y, none, rfl, Rp.mono e2 _ _ hy, Nat.zero_le _⟩) (fun i d hd σ' F' H' z hI s' e' hz N hN => ?_) (fun σ' F' H' hI s' e' => ?_)
  · obtain ⟨y', u, rfl, hy', hi⟩ := hI
    have hik : i < k := by
      have := (List.getElem?_eq_some_iff.mp hd).1
      rw [rng_len] at this
      simpa using this
    have hf := lots_few n (by rw [List.mem_range]; omega) i (by rw [List.mem_range]; omega)
    have hv' : Rp K F' v (.int n) := Rp.mono (e1.trans e') _ _ hv
    refine t_asg1 (K := K) s' (g_lc2E dT PyData.int (lotsOf n i) (fun _ => hs n) (fun l h => decide (maxOf (-1) l < h)) (fun l h => dT (l ++ [h])) (w_listI (g_var rfl hy')) hf.1 (fun _ _ => by simp [hs]; omega) (fun _ => rfl) (fun _ _ => rfl) (fun l hl F2 e2 v1 hv1 => ?_) (fun l hl h hh F2 e2 v1 u1 hv1 hu1 => ?_) (fun l hl h hh hp F2 e2 v1 u1 hv1 hu1 => ?_)) fun d2 v2 F3 H3 hd2 s3 e3 hv3 => hN _ F3 H3 ⟨v2, some z, rfl, ?_, hik⟩ s3 e3
    · rw [← rng_hs]
      exact w_rng1I (n := n) (gs_one (g_var rfl (Rp.mono e2 _ _ hv'))) (by omega) (by omega)
    · exact et_of (g_op (g_var rfl hu1) (g_maxD (g_var rfl hv1) (g_un1 g_int)) fun _ _ h1 h2 => h1 ▸ h2 ▸ rv_bl (g := fun i j => decide (j < i)))
    · exact g_op (g_var rfl hv1) (g_tupI (gs_one (g_var rfl hu1)) (by simp)) fun _ _ h1 h2 => h1 ▸ h2 ▸ (by
        have := rv_catA (K := K) (ds := l.map PyData.int) (es := [.int h]) (by have := hf.2 l hl; simp; omega)
        simpa [dT] using this)
    · have : d2 = dLT (lotsOf n (i + 1)) := by
        rw [show d2 = _ from hd2]
        simp [dLT, lotsOf, growLots, List.map_flatMap, Function.comp_def]
      rw [← this]; exact hv3
  · obtain ⟨y', u, rfl, hy', hi⟩ := hI
    rw [rng_len] at hy'
    exact t_retI s' (g_cbI (gs_one (g_var rfl hy')) (rc_tupL (ds := (lotsOf n (k : Int).toNat).map dT))) (by simpa using q)
end
end K7

namespace K7
open PySem PySem.Spec PyProof.Rows L2 Fv Evl
abbrev s_checked_lots : Stmt := topS 15
theorem sc_checked_lots : FnScope ["houses", "lots", "checked", "index", "lot"] ["houses", "lots"] (defScope s_checked_lots) := ⟨rfl, rfl, rfl, by decide +kernel, rfl, by decide +kernel, by decide +kernel⟩
def allLots (n : Nat) : List (List Int) := (List.range (n + 1)).flatMap (lotsOf n)
theorem all_few : ∀ n ∈ List.range 6, (allLots n).length ≤ 300 ∧ ∀ l ∈ allLots n, l.length ≤ 60 := by decide +kernel
section
variable {P : Program} {w : World} {K : PySem.W.Frag} {mg : Str → Option Value} {base : Heap}
abbrev spAll (K : PySem.W.Frag) : Sp := PSp K (fun n : Nat => [.int n]) (fun n => n ≤ 5) (fun n => dLT (allLots n))
theorem ok_bySize {f fS : Addr} {fd fdS : FuncData} (Fn : Fun K "_lots_by_size" "_lots_by_size" s_lots_by_size f fd) (T : Tx mg)
    (F_lots_of_size : Fun K "lots_of_size" "lots_of_size" s_lots_of_size fS fdS) (b_lots_of_size : Binds K fdS ["houses", "size"] []) (g_lots_of_size : mg "lots_of_size" = some (.ref fS)) :
    FnOk P w K mg base CX0 2 f fd ["houses"] (spAll K) := by
  have G_lots_of_size : FnOk P w K mg base CX0 1 fS fdS ["houses", "size"] (spSize K) := ok_size F_lots_of_size T
  refine Fn.ok sc_lots_by_size (PSp.len (fun _ => rfl)) (fun cdv A outer s H vs Q E hr h => ?_)
  obtain ⟨n, F, hn, e, ha, q⟩ := h
  obtain ⟨v, rfl, hv⟩ := rpAll1 ha
  refine ⟨_, (pss_one (ps_ret (pe_lc2 (own := [("size", 1), ("lot", 2)]) (vs1 := [2]) (g := gName 1) (g1 := gName 2) rfl sc_lots_by_size.nd (pi_range1 (by rfl) T.range (pa_cons (pe_op op_add (pv 0) pe_int) pa_nil)) (blkOk_by (own := [("size", 1), ("lot", 2)]) (N := ["houses", "size", "lot"]) (sc := (defScope s_lots_by_size)) (by decide +kernel)) (by decide) (fun _ _ _ _ _ => pg_name (i := 1) sc_lots_by_size.nd rfl (by first | exact Or.inl rfl | exact Or.inr rfl)) (fun _ _ _ _ _ => pts_nil) (fun _ _ _ _ _ => (i_tup (K := K) (pe_call G_lots_of_size (hr.mono (by decide)) (by rfl) g_lots_of_size F_lots_of_size.kp b_lots_of_size .nil pass0 (pa_cons (pv 0) (pa_cons (pv 1) pa_nil))))) (fun _ _ _ _ _ => pg_name (i := 2) sc_lots_by_size.nd rfl (by first | exact Or.inl rfl | exact Or.inr rfl)) (fun _ _ _ _ _ => pts_nil) (fun _ _ _ _ _ => (pv 2))))), ?_⟩
  have hsz : ∀ k ∈ List.range (n + 1), k ≤ 5 := fun k hk => by rw [List.mem_range] at hk; omega
  have eR : rng 0 ((n : Int) + 1).toNat = (List.range (n + 1)).map fun k : Nat => PyData.int k := by
    unfold rng
    rw [show ((n : Int) + 1).toNat = n + 1 by omega]
    refine List.map_congr_left fun k _ => ?_
    simp
  refine t_retI (Step.refl e .nil) ((g_lc2E (fun k : Nat => PyData.int k) dT (List.range (n + 1)) (lotsOf n) (fun _ _ => true) (fun _ l => dT l) ?_ (by simp; omega) (fun k hk => (lots_few n (by rw [List.mem_range]; omega) k (by rw [List.mem_range]; have := hsz k hk; omega)).1) (fun _ => rfl) (fun _ _ => rfl) (fun k hk F2 e2 v1 hv1 => ?_) (fun _ _ _ _ _ _ _ _ _ _ => et_yes) (fun k hk l hl _ F2 e2 v1 u1 hv1 hu1 => g_var rfl hu1)).is ?_) q
  · rw [← eR]
    exact w_rng1I (n := (n : Int) + 1) (gs_one (g_op (g_var rfl hv) g_int fun _ _ h1 h2 => h1 ▸ h2 ▸ rv_add)) (by omega) (by omega)
  · exact w_tupI (g_call (n, k) (gs_two (g_var rfl (Rp.mono e2 _ _ hv)) (g_var rfl hv1)) rfl ⟨hn, hsz k hk⟩)
  · show PyData.list _ = PyData.list ((allLots n).map dT)
    unfold allLots
    rw [List.map_flatMap]
    refine congrArg PyData.list (congrArg (fun f => List.flatMap f (List.range (n + 1))) (funext fun k => ?_))
    show List.map _ (List.filter (fun _ => true) (lotsOf n k)) = _
    rw [show (lotsOf n k).filter (fun _ => true) = lotsOf n k from List.filter_eq_self.mpr (fun _ _ => rfl)]
/-- a list or a tuple of lots -/
inductive LotsD : PyData → List (List Int) → Prop
  | l (ls : List (List Int)) : LotsD (.list (ls.map dI)) ls
  | t (ls : List (List Int)) : LotsD (.tuple (ls.map dI)) ls
theorem LotsD.seq {d : PyData} {ls : List (List Int)} (h : LotsD d ls) : d = .list (ls.map dI) ∨ d = .tuple (ls.map dI) := by
  cases h
  · exact .inl rfl
  · exact .inr rfl
def GoodLots (n : Nat) (ls : List (List Int)) : Prop := ls.length ≤ 60 ∧ ∀ l ∈ ls, l.length ≤ 60 ∧ (∀ k ∈ l, 0 ≤ k ∧ k < (n : Int)) ∧ (lotOf n l).length ≠ n
abbrev spChecked (K : PySem.W.Frag) : Sp := PSp K (fun i : Nat × PyData × List (List Int) => [.int i.1, i.2.1]) (fun i => i.1 ≤ 5 ∧ LotsD i.2.1 i.2.2 ∧ GoodLots i.1 i.2.2) (fun i => dLT (i.2.2.map (lotOf i.1)))
theorem ok_checked {f fS fW fL : Addr} {fd fdS fdW fdL : FuncData} (Fn : Fun K "_checked_lots" "_checked_lots" s_checked_lots f fd) (T : Tx mg)
    (F_is_sequence : Fun K "is_sequence" "is_sequence" s_is_sequence fS fdS) (b_is_sequence : Binds K fdS ["thing"] []) (g_is_sequence : mg "is_sequence" = some (.ref fS))
    (F_is_whole : FunW K fW fdW) (b_is_whole : Binds K fdW ["thing", "low", "high"] []) (g_is_whole : mg "is_whole" = some (.ref fW))
    (F_check_lot : Fun K "check_lot" "check_lot" s_check_lot fL fdL) (b_check_lot : Binds K fdL ["houses", "lot"] []) (g_check_lot : mg "check_lot" = some (.ref fL)) :
    FnOk P w K mg base CX0 3 f fd ["houses", "lots"] (spChecked K) := by
  have G_check_lot : FnOk P w K mg base CX0 2 fL fdL ["houses", "lot"] (spLot K) := ok_lot F_check_lot T F_is_sequence b_is_sequence g_is_sequence F_is_whole b_is_whole g_is_whole
  refine Fn.ok sc_checked_lots (PSp.len (fun _ => rfl)) (fun cdv A outer s H vs Q E hr h => ?_)
  obtain ⟨⟨n, src, ls⟩, F, ⟨hn, hsrc, hz, hls⟩, e, ha, q⟩ := h
  simp only at hn hsrc hz hls
  obtain ⟨v, x, rfl, hv, hx⟩ := rpAll2 ha
  refine ⟨_, (pss_cons (ps_set (i := 2) sc_checked_lots.nd rfl (by first | exact Or.inl rfl | exact Or.inr rfl) (pe_lst pa_nil))
    (pss_cons (ps_for PassesOwn.never rfl (pi_range1 (by rfl) T.range (pa_cons (pe_callB (c_len (K := K)) (by rfl) T.len (by decide +kernel) (pa_cons (pv 1) pa_nil)) pa_nil)) (pg_name (i := 3) sc_checked_lots.nd rfl (by first | exact Or.inl rfl | exact Or.inr rfl)) (pss_cons (ps_try_thru0 (pss_one (ps_set (i := 4) sc_checked_lots.nd rfl (by first | exact Or.inl rfl | exact Or.inr rfl) (pe_call G_check_lot (hr.mono (by decide)) (by rfl) g_check_lot F_check_lot.kp b_check_lot .nil pass0 (pa_cons (pv 0) (pa_cons (pe_ix (o_ix (K := K)) (pv 1) (pv 3) (fun _ _ => rfl)) pa_nil))))))
    (pss_cons (ps_if (pt_cmpR op_eq (pe_callB (c_len (K := K)) (by rfl) T.len (by decide +kernel) (pa_cons (pv 4) pa_nil)) (pv 0) (nomark _)) (pss_one ps_never) pss_nil)
    (pss_one (ps_expr (pe_bm PySem.F.plainAttrs_list PySem.F.slot_list_append PySem.F.type_list_append mt_append (pv 2) (pa_cons (pv 4) pa_nil)))))))
    (pss_one (ps_ret (pv 2))))), ?_⟩
  have g0 : Good none F H := .nil
  refine t_newL (K := K) (Step.refl e .nil) (fun l h0 hl g => ?_) (fun _ h => h)
  have hx' : Rp K F x src := hx
  refine t_forG (K := K) (ds := rng 0 (ls.length : Int).toNat) g0 h0 g (w_rng1I (n := (ls.length : Int)) (gs_one ((g_cbI (gs_one (g_var rfl hx')) (rc_lenS hsrc.seq)).is (by simp))) (by omega) (by omega))
    (fun i σ' F' l' => (∃ y z, σ' = [some v, some x, some (.ref l), y, z]) ∧ l' = (ls.take i).map fun m => dT (lotOf n m)) (fun F2 e2 => ⟨⟨none, none, rfl⟩, by simp⟩) (fun i d hd σ' F' H' u l' hI g' e' hu N hN => ?_) (fun σ' F' H' l' hI g' e' => ?_)
  · obtain ⟨⟨y, z, rfl⟩, rfl⟩ := hI
    have hil : i < ls.length := by
      have := (List.getElem?_eq_some_iff.mp hd).1
      rw [rng_len] at this
      simpa using this
    have ed : d = .int (i : Int) := by
      rw [rng_get (by simpa using hil)] at hd
      have := Option.some.inj hd
      rw [← this]; simp
    subst ed
    have hm : ls[i] ∈ ls := List.getElem_mem hil
    obtain ⟨hm1, hm2, hm3⟩ := hls _ hm
    have hat : atI (ls.map dI) (i : Int) = some (dI ls[i]) := atI_nat (by rw [List.getElem?_map, List.getElem?_eq_getElem hil]; rfl)
    -- lot = check_lot(houses, lots[index])
    refine t_asg (K := K) (Step.refl g'.step.inn .nil) (g_call (n, ls[i]) (gs_two (g_var rfl (Rp.mono e' _ _ hv)) (g_op (g_var rfl (Rp.mono e' _ _ hx')) (g_var rfl hu) fun _ _ h1 h2 => h1 ▸ h2 ▸ rv_ix hsrc.seq hat)) rfl ⟨hm1, hm2⟩) fun d2 v2 F2 H2 hd2 s2 e2 hv2 => ?_
    subst hd2
    have g2 := g'.run g0 h0 s2
    -- if len(lot) == houses
    refine t_skip (Step.refl g2.step.inn .nil) ((et_of (K := K) (b := decide ((((lotOf n ls[i]).map PyData.int).length : Int) = (n : Int))) (g_op (g_cbI (gs_one (g_var rfl hv2)) rc_lenT) (g_var rfl (Rp.mono (e'.trans e2) _ _ hv)) fun _ _ h1 h2 => by subst h1 h2; exact rv_eqI)).is ?_) fun F3 H3 s3 e3 => ?_
    · simp only [List.length_map, decide_eq_false_iff_not]
      intro z
      exact hm3 (by omega)
    · refine t_app (K := K) g0 h0 (g2.run g0 h0 s3) rfl (g_var rfl (Rp.mono e3 _ _ hv2)) (by simp; omega) fun d4 F4 H4 hd4 g4 e4 => ?_
      subst hd4
      refine hN _ F4 H4 _ ⟨⟨_, _, rfl⟩, ?_⟩ g4 ((e2.trans e3).trans e4)
      rw [take_succA (List.getElem?_eq_getElem hil), List.map_append]
      rfl
  · obtain ⟨⟨y, z, rfl⟩, rfl⟩ := hI
    obtain ⟨F2, s2, e2, r2⟩ := g'.done g0 h0
    refine t_retI (K := K) s2 (g_var rfl r2) fun v3 F3 H3 s3 hv3 => q v3 F3 H3 s3 ?_
    rw [rng_len] at hv3
    simpa [dLT, Function.comp_def] using hv3
end
end K7

namespace K7
open PySem PySem.Spec PyProof.Rows L2 Fv Evl StX
abbrev s_Falls___init__ : Stmt := inClass (topS 16) 0
theorem sc_Falls___init__ : FnScope ["self", "houses", "lots", "given", "let", "lot", "other", "greatest"] ["self", "houses", "lots"] (defScope s_Falls___init__) := ⟨rfl, rfl, rfl, by decide +kernel, rfl, by decide +kernel, by decide +kernel⟩
/-- the lots that a family lets, its greatest ones -/
def within (a b : List Int) : Bool := a.all fun x => decide (x ∈ b)
def letOf (n : Nat) (ls : List (List Int)) : List (List Int) := (allLots n).filter fun l => ([] :: ls.map (lotOf n)).any fun o => within l o
def greatOf (n : Nat) (ls : List (List Int)) : List (List Int) := (letOf n ls).filter fun l => !((letOf n ls).any fun o => (!decide (l = o)) && within l o)
theorem all_once : ∀ n ∈ List.range 6, (allLots n).Nodup ∧ [] ∈ allLots n := by decide +kernel
theorem let_few {n : Nat} (hn : n ≤ 5) (ls : List (List Int)) : (letOf n ls).length ≤ 300 ∧ ∀ l ∈ letOf n ls, l.length ≤ 60 := by
  have h := all_few n (by rw [List.mem_range]; omega)
  exact ⟨Nat.le_trans (List.length_filter_le _ _) h.1, fun l hl => h.2 l (List.mem_filter.mp hl).1⟩
theorem great_few {n : Nat} (hn : n ≤ 5) (ls : List (List Int)) : (greatOf n ls).length ≤ 300 := Nat.le_trans (List.length_filter_le _ _) (let_few hn ls).1
theorem let_nil {n : Nat} (hn : n ≤ 5) (ls : List (List Int)) : [] ∈ letOf n ls := List.mem_filter.mpr ⟨(all_once n (by rw [List.mem_range]; omega)).2, by simp [within]⟩
theorem great_kinds {n : Nat} (hn : n ≤ 5) (ls : List (List Int)) : (∀ l ∈ greatOf n ls, l ≠ []) ∨ greatOf n ls = [[]] := by
  by_cases h : [] ∈ greatOf n ls
  · right
    have nd : (letOf n ls).Nodup := (all_once n (by rw [List.mem_range]; omega)).1.filter _
    have h1 := (List.mem_filter.mp h).2
    have only : ∀ o ∈ letOf n ls, o = [] := fun o ho => by
      simp only [Bool.not_eq_true', List.any_eq_false, Bool.and_eq_true, not_and] at h1
      have := h1 o ho
      by_cases z : o = []
      · exact z
      · exact absurd (by simp [within] : within [] o = true) (this (by simp; exact fun w => z w))
    have e1 : letOf n ls = [[]] := by
      cases e : letOf n ls with
      | nil => have := let_nil hn ls; rw [e] at this; simp at this
      | cons a r =>
        rw [e] at only nd
        have ha := only a (by simp)
        subst ha
        cases r with
        | nil => rfl
        | cons b r2 =>
          have hb := only b (by simp)
          subst hb
          simp at nd
    unfold greatOf
    rw [e1]
    simp [within]
  · left
    intro l hl z
    exact h (z ▸ hl)
/-- an instance of Falls for the lots ls over n houses -/
structure Fam (K : PySem.W.Frag) (C : Addr) (F : Hp) (x : Addr) (n : Nat) (ls : List (List Int)) : Prop where
  ex : ∃ dx lt d, F x = some (.ins C dx [("n", .int n), ("lots", lt), ("_let", .ref d)]) ∧ F dx = some (.own x) ∧ Rp K F lt (dTT (sortL (greatOf n ls))) ∧ F d = some (.dT (letD (letOf n ls)))
theorem Fam.mono {K : PySem.W.Frag} {C : Addr} {F F' : Hp} {x : Addr} {n : Nat} {ls : List (List Int)} (h : Fam K C F x n ls) (e : Ex F F') : Fam K C F' x n ls := by
  obtain ⟨dx, lt, d, h1, h2, h3, h4⟩ := h.ex
  exact ⟨dx, lt, d, e _ _ h1, e _ _ h2, Rp.mono e _ _ h3, e _ _ h4⟩
/-- the class as the text has it -/
structure FallsC (K : PySem.W.Frag) (C : Addr) : Prop where
  cl : Cls K C
  nN : NoAttr K C "n"
  nL : NoAttr K C "lots"
  nF : NoAttr K C "_let"
section
variable {P : Program} {w : World} {K : PySem.W.Frag} {mg : Str → Option Value} {base : Heap}
def spInit (K : PySem.W.Frag) (C : Addr) : Sp := fun vs H Q _ => ∃ x dx n src ls F v, vs = [.ref x, .int (n : Nat), v] ∧ H x = some (.ins C dx []) ∧ H dx = some (.own x) ∧ dx ≠ x ∧ F x = none ∧ F dx = none ∧ Ex F H ∧ Rp K F v src ∧
  LotsD src ls ∧ (2 ≤ n ∧ n ≤ 5) ∧ GoodLots n ls ∧ ls.length ≤ 32 ∧ ∀ F2 H2, Step none F (Fv.del (Fv.del H x) dx) F2 H2 → Fam K C F2 x n ls → Q .non H2
theorem ok_init {f fS fW fL fC fI fB fZ C : Addr} {fd fdS fdW fdL fdC fdI fdB fdZ : FuncData} (Fn : Fun K "__init__" "Falls.__init__" s_Falls___init__ f fd) (T : Tx mg) (FC : FallsC K C) {tM : Tok} (c_MOST_LOTS : mg "MOST_LOTS" = some (.int 32 tM))
    (F_is_sequence : Fun K "is_sequence" "is_sequence" s_is_sequence fS fdS) (b_is_sequence : Binds K fdS ["thing"] []) (g_is_sequence : mg "is_sequence" = some (.ref fS))
    (F_is_whole : FunW K fW fdW) (b_is_whole : Binds K fdW ["thing", "low", "high"] []) (g_is_whole : mg "is_whole" = some (.ref fW))
    (F_check_lot : Fun K "check_lot" "check_lot" s_check_lot fL fdL) (b_check_lot : Binds K fdL ["houses", "lot"] []) (g_check_lot : mg "check_lot" = some (.ref fL))
    (F_checked_lots : Fun K "_checked_lots" "_checked_lots" s_checked_lots fC fdC) (b_checked_lots : Binds K fdC ["houses", "lots"] []) (g_checked_lots : mg "_checked_lots" = some (.ref fC))
    (F_lot_within : Fun K "lot_within" "lot_within" s_lot_within fI fdI) (b_lot_within : Binds K fdI ["one", "other"] []) (g_lot_within : mg "lot_within" = some (.ref fI))
    (F_lots_of_size : Fun K "lots_of_size" "lots_of_size" s_lots_of_size fZ fdZ) (b_lots_of_size : Binds K fdZ ["houses", "size"] []) (g_lots_of_size : mg "lots_of_size" = some (.ref fZ))
    (F_lots_by_size : Fun K "_lots_by_size" "_lots_by_size" s_lots_by_size fB fdB) (b_lots_by_size : Binds K fdB ["houses"] []) (g_lots_by_size : mg "_lots_by_size" = some (.ref fB)) :
    FnOk P w K mg base CX0 4 f fd ["self", "houses", "lots"] (spInit K C) := by
  have G_is_sequence : FnOk P w K mg base CX0 1 fS fdS ["thing"] (spSeq K) := ok_seq F_is_sequence T
  have G_is_whole : FnOk P w K mg base CX0 1 fW fdW ["thing", "low", "high"] (spWhole K) := ok_whole F_is_whole T
  have G_checked_lots : FnOk P w K mg base CX0 3 fC fdC ["houses", "lots"] (spChecked K) := ok_checked F_checked_lots T F_is_sequence b_is_sequence g_is_sequence F_is_whole b_is_whole g_is_whole F_check_lot b_check_lot g_check_lot
  have G_lot_within : FnOk P w K mg base CX0 1 fI fdI ["one", "other"] (spWithin K) := ok_within F_lot_within T
  have G_lots_by_size : FnOk P w K mg base CX0 2 fB fdB ["houses"] (spAll K) := ok_bySize F_lots_by_size T F_lots_of_size b_lots_of_size g_lots_of_size
  refine Fn.ok sc_Falls___init__ (fun vs H Q E ⟨_, _, _, _, _, _, _, h, _⟩ => by rw [h]; rfl) (fun cdv A outer s H vs Q E hr h => ?_)
  obtain ⟨x, dx, n, src, ls, F, v, rfl, hox, hodx, hne, fx, fdx, e, hv, hsrc, ⟨hn2, hn5⟩, hgood, hfew, q⟩ := h
  refine ⟨_, (pss_cons (ps_if (pt_not (pt_val (pe_call G_is_whole (hr.mono (by decide)) (by rfl) g_is_whole F_is_whole.kp b_is_whole .nil pass0 (pa_cons (pv 1) (pa_cons pe_int (pa_cons pe_int pa_nil)))))) (pss_one ps_never) pss_nil)
    (pss_cons (ps_if (PW.pt (pw_or (pt_not (pt_val (pe_call G_is_sequence (hr.mono (by decide)) (by rfl) g_is_sequence F_is_sequence.kp b_is_sequence .nil pass0 (pa_cons (pv 2) pa_nil)))) (pw_or1 (pt_cmpR op_gt (pe_callB (c_len (K := K)) (by rfl) T.len (by decide +kernel) (pa_cons (pv 2) pa_nil)) (pe_glob (v := .int 32) (by rfl) c_MOST_LOTS ⟨_, rfl⟩) (nomark _))))) (pss_one ps_never) pss_nil)
    (pss_cons (ps_set (i := 3) sc_Falls___init__.nd rfl (by first | exact Or.inl rfl | exact Or.inr rfl) (pe_lst (pa_cons (pe_tup pa_nil) (a_star (K := K) (pe_call G_checked_lots (hr.mono (by decide)) (by rfl) g_checked_lots F_checked_lots.kp b_checked_lots .nil pass0 (pa_cons (pv 1) (pa_cons (pv 2) pa_nil))) pa_nil))))
    (pss_cons (ps_set (i := 4) sc_Falls___init__.nd rfl (by first | exact Or.inl rfl | exact Or.inr rfl) (pe_lc (own := [("lot", 5)]) (g := gName 5) rfl sc_Falls___init__.nd (i_list (K := K) (pe_call G_lots_by_size (hr.mono (by decide)) (by rfl) g_lots_by_size F_lots_by_size.kp b_lots_by_size .nil pass0 (pa_cons (pv 1) pa_nil))) (blkOk_by (own := [("lot", 5)]) (N := ["self", "houses", "lots", "given", "let", "lot", "other", "greatest"]) (sc := (defScope s_Falls___init__)) (by decide +kernel)) (fun _ _ _ _ _ => pg_name (i := 5) sc_Falls___init__.nd rfl (by first | exact Or.inl rfl | exact Or.inr rfl)) (fun _ _ _ _ _ => (pts_one (pt_val (pe_callB (c_any (K := K)) (by rfl) T.any (by decide +kernel) (pa_cons (pe_lc (own := [("other", 6)]) (g := gName 6) rfl sc_Falls___init__.nd (i_list (K := K) (pv 3)) (blkOk_by (own := [("other", 6)]) (N := ["self", "houses", "lots", "given", "let", "lot", "other", "greatest"]) (by rfl)) (fun _ _ _ _ _ => pg_name (i := 6) sc_Falls___init__.nd rfl (by first | exact Or.inl rfl | exact Or.inr rfl)) (fun _ _ _ _ _ => pts_nil) (fun _ _ _ _ _ => (pe_call G_lot_within (hr.mono (by decide)) (by rfl) g_lot_within F_lot_within.kp b_lot_within .nil pass0 (pa_cons (pv 5) (pa_cons (pv 6) pa_nil))))) pa_nil))))) (fun _ _ _ _ _ => (pv 5))))
    (pss_cons (ps_setLc (i := 7) (own := [("lot", 5)]) (g := gName 5) rfl sc_Falls___init__.nd rfl rfl (sw_true rfl rfl rfl (by decide +kernel)) (i_list (K := K) (pv 4)) (blkOk_by (own := [("lot", 5)]) (N := ["self", "houses", "lots", "given", "let", "lot", "other", "greatest"]) (sc := (defScope s_Falls___init__)) (by decide +kernel)) (fun _ _ _ _ _ => pg_name (i := 5) sc_Falls___init__.nd rfl (by first | exact Or.inl rfl | exact Or.inr rfl)) (fun _ _ _ _ _ => (pts_one (pt_not (pt_val (pe_callB (c_any (K := K)) (by rfl) T.any (by decide +kernel) (pa_cons (pe_lc (own := [("other", 6)]) (g := gName 6) rfl sc_Falls___init__.nd (i_list (K := K) (pv 4)) (blkOk_by (own := [("other", 6)]) (N := ["self", "houses", "lots", "given", "let", "lot", "other", "greatest"]) (by rfl)) (fun _ _ _ _ _ => pg_name (i := 6) sc_Falls___init__.nd rfl (by first | exact Or.inl rfl | exact Or.inr rfl)) (fun _ _ _ _ _ => pts_nil) (fun _ _ _ _ _ => (pe_and (pe_cmpR (o_neD (K := K) hr.units) (pv 5) (pv 6) (nomark _)) (pe_one (pe_call G_lot_within (hr.mono (by decide)) (by rfl) g_lot_within F_lot_within.kp b_lot_within .nil pass0 (pa_cons (pv 5) (pa_cons (pv 6) pa_nil))))))) pa_nil)))))) (fun _ _ _ _ _ => (pv 5)))
    (pss_cons (ps_fld (pv 0) (pv 1) rfl)
    (pss_cons (ps_fld (pv 0) (pe_callTy (c_tup (K := K)) (by rfl) T.tuple (by decide +kernel) (pa_cons (pe_callB (c_sortLL (K := K) (hu65 hr)) (by rfl) T.sorted (by decide +kernel) (pa_cons (pv 7) pa_nil)) pa_nil)) rfl)
    (pss_one (ps_fld (pv 0) (pe_dcT (own := [("lot", 5)]) (g := gName 5) rfl (hu_of hr) sc_Falls___init__.nd (i_list (K := K) (pv 4)) (blkOk_by (own := [("lot", 5)]) (N := ["self", "houses", "lots", "given", "let", "lot", "other", "greatest"]) (sc := (defScope s_Falls___init__)) (by decide +kernel)) (fun _ _ _ _ _ => pg_name (i := 5) sc_Falls___init__.nd rfl (by first | exact Or.inl rfl | exact Or.inr rfl)) (fun _ _ _ _ _ => pts_nil) (fun _ _ _ _ _ => (pv 5)) (fun _ _ _ _ _ => pe_bl)) rfl))))))))), ?_⟩
  have h0x : Fv.del (Fv.del H x) dx x = none := by rw [Fv.del_ne hne.symm, Fv.del_same]
  have h0d : Fv.del (Fv.del H x) dx dx = none := Fv.del_same
  have hz : (ls.map dI).length ≤ 32 := by rw [List.length_map]; exact hfew
  -- the first tests
  refine t_skip (Step.refl e .nil) ((et_not (b := true) ((et_B (g_call (.int n, some 2, some 5) (gs_three (g_var (v := .int n) rfl (.int _)) g_int g_int) rfl trivial)).is ?_)).is rfl) fun F1 H1 s1 e1 => ?_
  · simp only [isWhole, loOk, hiOk, Bool.and_eq_true, decide_eq_true_eq]; omega
  refine t_skip s1 ((et_or (a := false) (b := false) ((et_not (b := true) ((et_B (g_call src (gs_one (g_var rfl (Rp.mono e1 _ _ hv))) rfl trivial)).is ?_)).is rfl) fun _ => ((et_of (K := K) (g_op (g_cbI (gs_one (g_var rfl (Rp.mono e1 _ _ hv))) (rc_lenS hsrc.seq)) g_int fun _ _ h1 h2 => by subst h1 h2; exact rv_bl (g := fun i j => decide (j < i)))).is ?_)).is rfl) fun F2 H2 s2 e2 => ?_
  · cases hsrc <;> rfl
  · simp only [decide_eq_false_iff_not]; omega
  -- given
  have e12 := e1.trans e2
  refine t_asgI (K := K) s2 (g_lstI (gs_consI (g_tupI gs_nil (by simp)) (gs_star (.inl rfl) (g_call (n, src, ls) (gs_two (g_var (v := .int n) rfl (.int _)) (g_var rfl (Rp.mono e12 _ _ hv))) rfl ⟨hn5, hsrc, hgood⟩) gs_nil)) (by simp; omega)) fun gv F3 H3 s3 e3 hg => ?_
  have hg' : Rp K F3 gv (dLT ([] :: ls.map (lotOf n))) := by simpa [dLT, dT] using hg
  have few := all_few n (by rw [List.mem_range]; omega)
  have lf := let_few hn5 ls
  -- let
  refine t_asgI (K := K) s3 (g_lcE dT (allLots n) (fun l => ([] :: ls.map (lotOf n)).any fun o => within l o) dT (w_listI (g_call n (gs_one (g_var (v := .int n) rfl (.int _))) rfl hn5)) (by omega) (fun _ => rfl) (fun l hl F' e' u hu => ?_) (fun l hl _ F' e' u hu => g_var rfl hu)) fun lv F4 H4 s4 e4 hlv => ?_
  · exact et_B (g_cbI (gs_one (g_lcEM dT ([] :: ls.map (lotOf n)) (fun o => .bool (within l o)) (w_listI (g_var rfl (Rp.mono e' _ _ hg'))) (by simp; omega) (fun _ => rfl) fun o ho F'' e'' y hy =>
      g_call (l, o) (gs_two (g_var rfl (Rp.mono e'' _ _ hu)) (g_var rfl hy)) rfl (by have := few.2 l hl; simp only; omega))) (rc_anyM _ (within l)))
  have hlv' : Rp K F4 lv (dLT (letOf n ls)) := hlv
  -- greatest
  refine t_asgI (K := K) s4 (g_lcE dT (letOf n ls) (fun l => !((letOf n ls).any fun o => (!decide (l = o)) && within l o)) dT (w_listI (g_var rfl hlv')) (by omega) (fun _ => rfl) (fun l hl F' e' u hu => ?_) (fun l hl _ F' e' u hu => g_var rfl hu)) fun mv F5 H5 s5 e5 hmv => ?_
  · exact et_not (et_B (g_cbI (gs_one (g_lcEM dT (letOf n ls) (fun o => .bool ((!decide (l = o)) && within l o)) (w_listI (g_var rfl (Rp.mono e' _ _ hlv'))) (by omega) (fun _ => rfl) fun o ho F'' e'' y hy =>
      g_andV (g_op (g_var rfl (Rp.mono e'' _ _ hu)) (g_var rfl hy) fun _ _ h1 h2 => by subst h1 h2; exact rv_neT) fun _ => g_call (l, o) (gs_two (g_var rfl (Rp.mono e'' _ _ hu)) (g_var rfl hy)) rfl (by have := lf.2 l hl; simp only; omega))) (rc_anyM _ fun o => (!decide (l = o)) && within l o)))
  have hmv' : Rp K F5 mv (dLT (greatOf n ls)) := hmv
  -- what the instance has been through
  have f5x : F5 x = none := s5.new x fx (by rw [hox]; simp)
  have h5x : H5 x = some (.ins C dx []) := s5.keep.ex x _ hox
  have b0 : Fv.del H x x = none := Fv.del_same
  refine t_fld (K := K) ((Step.own1 e x).trans s5) b0 f5x rfl h5x FC.cl FC.nN (by decide) (EvG.toX (g_var (K := K) (d := .int n) (v := .int n) rfl (.int _))) fun v6 F6 H6 hv6 s6 e6 f6x h6x => ?_
  have hv6' := rp_int hv6
  subst hv6'
  refine t_fld (K := K) s6 b0 f6x rfl h6x FC.cl FC.nL (by show 1 < 1000; decide) (EvG.toX (g_cbI (gs_one (g_sortLL (g_var rfl (Rp.mono e6 _ _ hmv')) (great_kinds hn5 ls))) rc_tupL)) fun v7 F7 H7 hv7 s7 e7 f7x h7x => ?_
  refine t_fld1 (K := K) s7 b0 f7x rfl h7x FC.cl FC.nF (by show 2 < 1000; decide) (x_dcT (K := K) (w_listI (g_var rfl (Rp.mono ((e5.trans e6).trans e7) _ _ hlv'))) lf.1 (fun _ => rfl) (fun l hl F' e' u hu => g_var rfl hu) (fun _ _ _ => g_bl)) fun v8 F8 H8 hv8 s8 e8 f8x h8x => ?_
  obtain ⟨D, rfl, hD⟩ := hv8
  have hdx : (Fv.del H x) dx = some (.own x) := by rw [Fv.del_ne hne]; exact hodx
  have f8d : F8 dx = none := s8.new dx fdx (by rw [hdx]; simp)
  have h8d : H8 dx = some (.own x) := s8.keep.ex dx _ hdx
  have s9 : Step none F (Fv.del (Fv.del H x) dx) (upd F8 dx (.own x)) H8 := (s8.less Fv.del_ex).add f8d h8d Fv.del_same
  have f9x : upd F8 dx (.own x) x = none := by rw [upd_ne hne.symm]; exact f8x
  have s10 := s9.add (a := x) f9x h8x (by rw [Fv.del_ne hne.symm, Fv.del_same])
  have ee : Ex F8 (upd (upd F8 dx (.own x)) x (.ins C dx (putF "_let" (.ref D) (putF "lots" v7 (putF "n" (.int n) []))))) := (Ex.new f8d).trans (Ex.new f9x)
  refine q _ H8 s10 ⟨dx, v7, D, upd_same, ?_, Rp.mono (e8.trans ee) _ _ hv7, ee _ _ hD⟩
  rw [upd_ne hne]; exact upd_same
end
end K7

namespace K7
open PySem PySem.Spec PyProof.Rows L2 Fv Evl StX
abbrev s_Falls_lets : Stmt := inClass (topS 16) 4
theorem sc_Falls_lets : FnScope ["self", "lot"] ["self", "lot"] (defScope s_Falls_lets) := ⟨rfl, rfl, rfl, by decide +kernel, rfl, by decide +kernel, by decide +kernel⟩
theorem hs_mem {n : Nat} {k : Int} : k ∈ hs n ↔ 0 ≤ k ∧ k < (n : Int) := by
  unfold hs
  rw [List.mem_map]
  constructor
  · rintro ⟨j, hj, rfl⟩
    rw [List.mem_range] at hj
    simp only [Int.ofNat_eq_natCast]; omega
  · rintro ⟨h1, h2⟩
    exact ⟨k.toNat, by rw [List.mem_range]; omega, by simp only [Int.ofNat_eq_natCast]; omega⟩
theorem hs_len (n : Nat) : (hs n).length = n := by simp [hs]
def coN (n : Nat) (lot : List Int) : List Int := (hs n).filter fun h => !decide (h ∈ lot)
def famLots (n : Nat) (ls : List (List Int)) : List (List Int) := sortL (greatOf n ls)
def sureOf (n : Nat) (L : List (List Int)) : List Int := (hs n).filter fun h => !(L.any fun l => decide (h ∈ l))
def coverAt (n : Nat) (L : List (List Int)) (i : Nat) : Option (List Int × List Int) := ((L.drop (i + 1)).find? fun o => within (hs n) (L.getD i [] ++ o)).map fun o => (L.getD i [], o)
def coverOf (n : Nat) (L : List (List Int)) : Option (List Int × List Int) := (List.range L.length).findSome? (coverAt n L)
def coverD : Option (List Int × List Int) → PyData
  | none => .none
  | some (a, b) => .tuple [dT a, dT b]
theorem famLots_few {n : Nat} (hn : n ≤ 5) (ls : List (List Int)) : (famLots n ls).length ≤ 300 ∧ ∀ l ∈ famLots n ls, l.length ≤ 60 := by
  have p := sortL_perm (greatOf n ls)
  refine ⟨by unfold famLots; rw [p.length_eq]; exact great_few hn ls, fun l hl => ?_⟩
  have : l ∈ greatOf n ls := p.mem_iff.mp hl
  exact (let_few hn ls).2 l (List.mem_filter.mp this).1
section
variable {P : Program} {w : World} {K : PySem.W.Frag} {mg : Str → Option Value} {base : Heap}
theorem x_make {pt : Option Pt} {σ : L2.St} {F : Hp} {ts : TA} {C : Addr} {E : XK} {n : Nat} {src : PyData} {ls : List (List Int)} (h : EvsG K pt ts σ F (· = [.int (n : Int), src])) (h1 : LotsD src ls) (h2 : 2 ≤ n ∧ n ≤ 5) (h3 : GoodLots n ls) (h4 : ls.length ≤ 32) :
    EvX pt (tMake C (spInit K C) [] E ts) σ F (fun v F2 => ∃ x, v = .ref x ∧ Fam K C F2 x n ls) := fun H1 i g Q q =>
  h H1 i g _ fun ds vs F2 H2 hd s hv => by
    subst hd
    obtain ⟨a, v, rfl, ha, hv⟩ := rpAll2 hv
    rw [rp_int ha]
    intro x dx hx hdx hne
    have fr : ∀ {a : Addr}, H2 a = none → F2 a = none := fun {a} h => by
      cases w : F2 a with
      | none => rfl
      | some o => rw [s.inn _ _ w] at h; cases h
    have n1 : (upd H2 dx (.own x)) x = none := by rw [upd_ne hne.symm]; exact hx
    have e1 : Ex H2 (upd (upd H2 dx (.own x)) x (.ins C dx [])) := (Ex.new hdx).trans (Ex.new n1)
    refine ⟨x, dx, n, src, ls, F2, v, rfl, upd_same, by rw [upd_ne hne]; exact upd_same, hne, fr hx, fr hdx, s.inn.trans e1, hv, h1, h2, h3, h4, fun F3 H3 s3 fam => ⟨rfl, ?_⟩⟩
    have back : Fv.del (Fv.del (upd (upd H2 dx (.own x)) x (.ins C dx [])) x) dx = H2 := by
      funext b
      by_cases z : b = dx
      · rw [z, Fv.del_same, hdx]
      · rw [Fv.del_ne z]
        by_cases y : b = x
        · rw [y, Fv.del_same, hx]
        · rw [Fv.del_ne y, upd_ne y, upd_ne z]
    rw [back] at s3
    exact q _ F3 H3 ⟨x, rfl, fam⟩ (s.trans (s3.lift s.good))
/-- a promise about an instance -/
def spFam {ι : Type} (K : PySem.W.Frag) (C : Addr) (A : ι → List PyData) (f : Nat → List (List Int) → ι → PyData) (P : Nat → ι → Prop) : Sp := fun vs H Q _ => ∃ x n ls i F as, vs = .ref x :: as ∧ n ≤ 5 ∧ P n i ∧ Ex F H ∧ Fam K C F x n ls ∧ RpAll K F as (A i) ∧
  ∀ v F2 H2, Step none F H F2 H2 → Rp K F2 v (f n ls i) → Q v H2
abbrev spFLets (K : PySem.W.Frag) (C : Addr) : Sp := spFam K C (fun l : List Int => [dT l]) (fun n ls l => .bool (decide (lotOf n l ∈ letOf n ls))) (fun n l => l.length ≤ 60 ∧ ∀ k ∈ l, 0 ≤ k ∧ k < (n : Int))
theorem ok_flets {f C : Addr} {fd : FuncData} (Fn : Fun K "lets" "Falls.lets" s_Falls_lets f fd) (T : Tx mg) (FC : FallsC K C) : FnOk P w K mg base CX0 1 f fd ["self", "lot"] (spFLets K C) := by
  refine Fn.ok sc_Falls_lets (fun vs H Q E ⟨_, _, _, _, _, _, h, _, _, _, _, r, _⟩ => by rw [h, List.length_cons, r.length]; rfl) (fun cdv A outer s H vs Q E hr h => ?_)
  obtain ⟨x, n, ls, lot, F, as, rfl, hn, ⟨hz, hb⟩, e, fam, ha, q⟩ := h
  obtain ⟨v, rfl, hv⟩ := rpAll1 ha
  obtain ⟨dx, lt, d, o1, o2, o3, o4⟩ := fam.ex
  refine ⟨_, (pss_one (ps_ret (pe_cmp (pc_din (hu_of hr) (pe_callTy (c_tup (K := K)) (by rfl) T.tuple (by decide +kernel) (pa_cons (pe_callB (c_sortedSet (w := w)) (by rfl) T.sorted (by decide +kernel) (pa_cons (pe_callTy (c_setT (K := K) (w := w)) (by rfl) T.set (by decide +kernel) (pa_cons (pv 1) pa_nil)) pa_nil)) pa_nil)) (e_fld (K := K) (pv 0) rfl)) rfl))), ?_⟩
  refine t_retI (K := K) (Step.refl e .nil) (g_din (m := lotOf n lot) (ls := letOf n ls) (g_cb (g_consR (g_sortedSet (g_var rfl hv) hz)) fun ds hds => ?_) fun F' e' => x_fld rfl (e' _ _ o1) FC.cl FC.nF rfl fun F'' e'' => ⟨d, rfl, e'' _ _ (e' _ _ o4)⟩) q
  obtain ⟨d, rfl, ms, rfl, hp, hm⟩ := hds
  have := sorted_is hp hm hb
  subst this
  exact rc_tupL
end
end K7

namespace K7
open PySem PySem.Spec PyProof.Rows L2 Fv Evl StX
abbrev s_law_pot : Stmt := topS 34
theorem sc_law_pot : FnScope ["_law_script", "_law_salt", "_law_cell"] ["_law_script", "_law_salt"] (defScope s_law_pot) := ⟨rfl, rfl, rfl, by decide +kernel, rfl, by decide +kernel, by decide +kernel⟩
abbrev s_law_draw : Stmt := topS 29
theorem sc_law_draw : FnScope ["_law_pot_here", "_law_many_here", "_law_cell", "_law_digit"] ["_law_pot_here", "_law_many_here"] (defScope s_law_draw) := ⟨rfl, rfl, rfl, by decide +kernel, rfl, by decide +kernel, by decide +kernel⟩
section
variable {P : Program} {w : World} {K : PySem.W.Frag} {mg : Str → Option Value} {base : Heap}
abbrev spDraw (K : PySem.W.Frag) : Sp := spP K (fun m => 1 ≤ m ∧ m < 1073741824) (fun m d => ∃ k : Int, d = .int k ∧ 0 ≤ k ∧ k < m)
theorem cm {i j : Int} (h0 : 0 ≤ i) (h1 : i < 2147483647) : CMul i j := .inl ⟨by omega, by omega⟩
theorem ok_draw {f : Addr} {fd : FuncData} (Fn : Fun K "_law_draw" "_law_draw" s_law_draw f fd) (T : Tx mg) : FnOk P w K mg base CX0 1 f fd ["_law_pot_here", "_law_many_here"] (spDraw K) := by
  refine Fn.ok sc_law_draw spP.len (fun cdv A outer s H vs Q E hr h => ?_)
  obtain ⟨q, m, F, rfl, ⟨m1, m2⟩, e, g, k0⟩ := h
  have k : ∀ k F2 H2, 0 ≤ k → k < m → Step (some q) F H F2 H2 → Q (.int k) H2 := fun k F2 H2 h1 h2 s => k0 _ _ F2 H2 ⟨k, rfl, h1, h2⟩ s (.int k)
  refine ⟨_, (pss_cons (ps_if (PW.pt (pw_and (pt_cmpR op_eq (pe_ix (o_ixL (K := K)) (pv 0) pe_int (fun _ _ => rfl)) pe_int (nomark _)) (pw_and1 (pt_cmpR op_lt (pe_ix (o_ixL (K := K)) (pv 0) pe_int (fun _ _ => rfl)) (pe_callB (c_len (K := K)) (by rfl) T.len (by decide +kernel) (pa_cons (pe_ix (o_ixL (K := K)) (pv 0) pe_int (fun _ _ => rfl)) pa_nil)) (nomark _))))) (pss_cons (ps_set (i := 2) sc_law_draw.nd rfl (by first | exact Or.inl rfl | exact Or.inr rfl) (pe_ix (o_ixL (K := K)) (pe_ix (o_ixL (K := K)) (pv 0) pe_int (fun _ _ => rfl)) (pe_ix (o_ixL (K := K)) (pv 0) pe_int (fun _ _ => rfl)) (fun _ _ => rfl)))
    (pss_cons (ps_asg (pe_op op_add (pe_ix (o_ixL (K := K)) (pv 0) pe_int (fun _ _ => rfl)) pe_int) (pg_sub (pv 0) pe_int set_list))
    (pss_one (ps_if (pt_cmpR op_ge (pv 2) pe_int (nomark _)) (pss_one (ps_asg (pv 2) (pg_sub (pv 0) pe_int set_list))) (pss_one (ps_asg (pe_op op_modN (pe_op op_add (pe_op op_add (pe_op op_mul (pe_ix (o_ixL (K := K)) (pv 0) pe_int (fun _ _ => rfl)) pe_int) (pe_op op_mul (pe_op op_modN (pe_callTy call_int1 (by rfl) T.int (by decide +kernel) (pa_cons (pv 2) pa_nil)) pe_int) pe_int)) pe_int) pe_int) (pg_sub (pv 0) pe_int set_list))))))) pss_nil)
    (pss_cons (ps_if (pt_cmpR op_gt (pe_ix (o_ixL (K := K)) (pv 0) pe_int (fun _ _ => rfl)) pe_int (nomark _)) (pss_cons (ps_set (i := 3) sc_law_draw.nd rfl (by first | exact Or.inl rfl | exact Or.inr rfl) (pe_op op_modN (pe_callTy call_int1 (by rfl) T.int (by decide +kernel) (pa_cons (pe_ix (o_ixL (K := K)) (pv 0) pe_int (fun _ _ => rfl)) pa_nil)) (pv 1)))
    (pss_cons (ps_asg (pe_op op_fdivN (pe_ix (o_ixL (K := K)) (pv 0) pe_int (fun _ _ => rfl)) (pv 1)) (pg_sub (pv 0) pe_int set_list))
    (pss_one (ps_ret (pv 3))))) pss_nil)
    (pss_cons (ps_asg (pe_op op_modN (pe_op op_add (pe_op op_mul (pe_ix (o_ixL (K := K)) (pv 0) pe_int (fun _ _ => rfl)) pe_int) pe_int) pe_int) (pg_sub (pv 0) pe_int set_list))
    (pss_one (ps_ret (pe_op op_modN (pe_op op_fdivN (pe_callTy call_int1 (by rfl) T.int (by decide +kernel) (pa_cons (pe_op op_modN (pe_op op_mul (pe_ix (o_ixL (K := K)) (pv 0) pe_int (fun _ _ => rfl)) pe_int) pe_int) pa_nil)) pe_int) (pv 1))))))), ?_⟩
  have get : ∀ {σ : L2.St} {H' : Hp} {a b c : Int}, σ[0]? = some (some (.ref q.p)) → Pot H' q a b c → ∀ {i : Int} {v : V}, atI [V.int a, .int b, .int c, .ref q.l] i = some v → EvC (tOp (rIxL K) (tVar 0) (tC (.int i))) σ H' v := fun h p _ _ hi => ec_ixL (ec_var h) ec_int p.at_ hi
  obtain ⟨a, b, c, p⟩ := Pot.of (g q rfl).2
  let J : L2.St → Hp → Prop := fun σ' H' => ∃ a b c x y, σ' = [some (.ref q.p), some (.int m), x, y] ∧ Pot H' q a b c ∧ Step (some q) F H F H'
  have mk : ∀ {H' : Hp} {a b c : Int}, Pot H' q a b c → Step (some q) F H F H' → ∀ {a' b' c' : Int}, 0 ≤ a' → 0 ≤ b' → b' < 2147483647 → 0 ≤ c' → c' ≤ q.ns.length → Pot (upd H' q.p (.lst [.int a', .int b', .int c', .ref q.l])) q a' b' c' ∧ Step (some q) F H F (upd H' q.p (.lst [.int a', .int b', .int c', .ref q.l])) := fun p s _ _ _ h1 h2 h3 h4 h5 => by
    have p' := p.put h1 h2 h3 h4 h5
    exact ⟨p', s.trans (Step.pot s.inn s.good p'.pot)⟩
  have s0 : Step (some q) F H F H := Step.refl e g
  refine ts_when J (b := decide (a = 0) && decide (c < (q.ns.map V.int).length)) (etc_and (etc_of (ec_eq (get rfl p rfl) ec_int)) fun _ => etc_of (ec_I0 (g := fun i j => .bl (decide (i < j))) (get rfl p rfl) (ec_len (get rfl p rfl) p.ls))) (fun hb N hN => ?_) (fun _ => ⟨a, b, c, none, none, rfl, p, s0⟩) (fun σ' H' hJ => ?_)
  · simp only [Bool.and_eq_true, decide_eq_true_eq, List.length_map] at hb
    obtain ⟨_, hc⟩ := hb
    have c0 := p.c0
    obtain ⟨j, rfl⟩ : ∃ j : Nat, c = (j : Int) := ⟨c.toNat, by omega⟩
    have hj : j < q.ns.length := by omega
    have hcell : atI (q.ns.map V.int) (j : Int) = some (.int q.ns[j]) := atI_nat (by rw [List.getElem?_map, List.getElem?_eq_getElem hj]; rfl)
    refine ts_asg (ec_ixL (get rfl p rfl) (get rfl p rfl) p.ls hcell) ?_
    -- pot[2] = pot[2] + 1
    obtain ⟨p1, s1⟩ := mk p s0 (a' := a) (b' := b) (c' := (j : Int) + 1) p.a0 p.b0 p.b1 (by omega) (by omega)
    refine ts_put (q := q) (j := 2) (ec_I0 (g := fun i j => .int (i + j)) (get rfl p rfl) ec_int) rfl p.at_ rfl ?_
    show tIfS _ _ _ _ _ (upd H q.p (.lst [.int a, .int b, .int ((j : Int) + 1), .ref q.l]))
    refine ts_if1 (etc_of (ec_I0 (g := fun i j => .bl (decide (j ≤ i))) (ec_var rfl) ec_int)) (fun hb2 => ?_) (fun hb2 => ?_)
    · simp only [decide_eq_true_eq] at hb2
      obtain ⟨p2, s2⟩ := mk p1 s1 (a' := q.ns[j]) (b' := b) (c' := (j : Int) + 1) (by omega) p.b0 p.b1 (by omega) (by omega)
      refine ts_put1 (q := q) (j := 0) (ec_var rfl) rfl p1.at_ rfl ?_
      exact hN _ _ ⟨_, _, _, _, _, rfl, p2, s2⟩
    · obtain ⟨z1, z2⟩ := fm0 (b * 48271 + (q.ns[j]).fmod 1000003 * 69621 + 77) (j := 2147483647) (by decide)
      obtain ⟨p2, s2⟩ := mk p1 s1 (a' := a) (c' := (j : Int) + 1) p.a0 z1 z2 (by omega) (by omega)
      have e1 : EvC _ _ _ _ := ec_I (C := CMul) (g := fun i j => .int (i * j)) (get (σ := [some (.ref q.p), some (.int m), some (.int q.ns[j]), none]) rfl p1 (i := 1) rfl) (ec_int (i := 48271)) (cm p.b0 p.b1)
      have e2 : EvC _ _ _ _ := ec_I (C := CMul) (g := fun i j => .int (i * j)) (ec_I (C := fun _ j => j ≠ 0) (g := fun i j => .int (i.fmod j)) (ec_int1 (ec_var (σ := [some (.ref q.p), some (.int m), some (.int q.ns[j]), none]) (i := 2) (H := upd H q.p (.lst [.int a, .int b, .int ((j : Int) + 1), .ref q.l])) rfl)) (ec_int (i := 1000003)) (by decide)) (ec_int (i := 69621)) (cm (fm0 _ (by decide)).1 (Int.lt_trans (fm0 _ (by decide)).2 (by decide)))
      refine ts_put1 (q := q) (j := 1) (ec_I (C := fun _ j => j ≠ 0) (g := fun i j => .int (i.fmod j)) (ec_I0 (g := fun i j => .int (i + j)) (ec_I0 (g := fun i j => .int (i + j)) e1 e2) ec_int) ec_int (show (2147483647 : Int) ≠ 0 by decide)) rfl p1.at_ rfl ?_
      exact hN _ _ ⟨_, _, _, _, _, rfl, p2, s2⟩
  · obtain ⟨a, b, c, x, y, rfl, p, s⟩ := hJ
    have m0 : m ≠ 0 := by omega
    refine ts_if (etc_of (ec_I0 (g := fun i j => .bl (decide (j < i))) (get rfl p rfl) ec_int)) (fun hb => ?_) (fun hb => ?_)
    · obtain ⟨z1, z2⟩ := fm0 a (j := m) (by omega)
      refine ts_asg (ec_I (C := fun _ j => j ≠ 0) (g := fun i j => .int (i.fmod j)) (ec_int1 (get rfl p rfl)) (ec_var rfl) m0) ?_
      obtain ⟨p1, s1⟩ := mk p s (a' := a.fdiv m) (b' := b) (c' := c) (fd0 p.a0 (by omega)) p.b0 p.b1 p.c0 p.c1
      refine ts_put (q := q) (j := 0) (ec_I (C := CDivN) (g := fun i j => .int (i.fdiv j)) (get rfl p rfl) (ec_var rfl) ⟨m0, by omega⟩) rfl p.at_ rfl ?_
      exact ts_ret (ec_var rfl) (k _ _ _ z1 z2 s1)
    · obtain ⟨z1, z2⟩ := fm0 (b * 48271 + 1013904223) (j := 2147483647) (by decide)
      obtain ⟨p1, s1⟩ := mk p s (a' := a) (c' := c) p.a0 z1 z2 p.c0 p.c1
      refine ts_put (q := q) (j := 1) (ec_I (C := fun _ j => j ≠ 0) (g := fun i j => .int (i.fmod j)) (ec_I0 (g := fun i j => .int (i + j)) (ec_I (C := CMul) (g := fun i j => .int (i * j)) (get rfl p rfl) ec_int (cm p.b0 p.b1)) ec_int) ec_int (show (2147483647 : Int) ≠ 0 by decide)) rfl p.at_ rfl ?_
      obtain ⟨y1, y2⟩ := fm0 ((((b * 48271 + 1013904223).fmod 2147483647 * 16807).fmod 2147483629).fdiv 5) (j := m) (by omega)
      refine ts_ret (ec_I (C := fun _ j => j ≠ 0) (g := fun i j => .int (i.fmod j)) (ec_I (C := CDivN) (g := fun i j => .int (i.fdiv j)) (ec_int1 (ec_I (C := fun _ j => j ≠ 0) (g := fun i j => .int (i.fmod j)) (ec_I (C := CMul) (g := fun i j => .int (i * j)) (get rfl p1 rfl) ec_int (cm p1.b0 p1.b1)) ec_int (show (2147483629 : Int) ≠ 0 by decide))) ec_int (show CDivN _ 5 from ⟨by decide, by decide⟩)) (ec_var rfl) m0) (k _ _ _ y1 y2 s1)
def spPot (K : PySem.W.Frag) : Sp := fun vs H Q _ => ∃ (a : Addr) (ns : List Int) (c : Int) (F : Hp), vs = [.ref a, .int c] ∧ SqL K F a (ns.map V.int) ∧ 0 ≤ c ∧ c < 2147483647 ∧ Ex F H ∧
  ∀ (q : Pt) F2 H2, Step none F H F2 H2 → Good (some q) F2 H2 → H q.p = none → Q (.ref q.p) H2
theorem ok_pot {f : Addr} {fd : FuncData} (Fn : Fun K "_law_pot" "_law_pot" s_law_pot f fd) (T : Tx mg) : FnOk P w K mg base CX0 1 f fd ["_law_script", "_law_salt"] (spPot K) := by
  refine Fn.ok sc_law_pot (fun vs H Q E ⟨_, _, _, _, h, _⟩ => by rw [h]; rfl) (fun cdv A outer s H vs Q E hr h => ?_)
  obtain ⟨a, ns, c, F, rfl, hl, c0, c1, e, k⟩ := h
  refine ⟨_, (pss_one (ps_ret (pe_lst (pa_cons pe_int (pa_cons (pv 1) (pa_cons pe_int (pa_cons (pe_lc (own := [("_law_cell", 2)]) (g := gName 2) rfl sc_law_pot.nd (i_list (K := K) (pe_slice (s_list (K := K)) (pv 0) (po_some pe_int) (po_some pe_int))) (blkOk_by (own := [("_law_cell", 2)]) (N := ["_law_script", "_law_salt", "_law_cell"]) (sc := (defScope s_law_pot)) (by decide +kernel)) (fun _ _ _ _ _ => pg_name (i := 2) sc_law_pot.nd rfl (by first | exact Or.inl rfl | exact Or.inr rfl)) (fun _ _ _ _ _ => pts_nil) (fun _ _ _ _ _ => (pe_callTy call_int1 (by rfl) T.int (by decide +kernel) (pa_cons (pv 2) pa_nil)))) pa_nil))))))), ?_⟩
  have hz : (ns.take 60).length ≤ 60 := by rw [List.length_take]; omega
  refine t_retLst (K := K) (Step.refl e .nil) (gs_consI (K := K) g_int (gs_consI (g_var (v := .int c) (d := .int c) rfl (.int c)) (gs_consI g_int (gs_one (g_lcEM PyData.int (ns.take 60) PyData.int (w_listI (g_slS (i := 0) rfl hl)) (by omega) (fun _ => rfl) fun i hi F' e' y hy => g_cbI (gs_one (g_var rfl hy)) rc_int1))))) fun vs F2 H2 s hv => ?_
  obtain ⟨v4, rfl, hv4⟩ : ∃ v4, vs = [.int 0, .int c, .int 0, v4] ∧ Rp K F2 v4 (.list ((ns.take 60).map .int)) := by
    cases hv with
    | cons a1 b1 =>
      cases b1 with
      | cons a2 b2 =>
        cases b2 with
        | cons a3 b3 =>
          cases b3 with
          | cons a4 b4 =>
            cases b4
            rw [rp_int a1, rp_int a2, rp_int a3]
            exact ⟨_, rfl, a4⟩
  obtain ⟨l, xs, rfl, hl4, hxs⟩ := rp_lst hv4
  have := rpAll_ints hxs
  subst this
  refine ⟨by show 4 ≤ _; decide, fun p hp => ?_⟩
  have hlp : l ≠ p := fun z => by rw [z] at hl4; have := s.inn _ _ hl4; rw [hp] at this; cases this
  have fp : F2 p = none := by
    cases z : F2 p with
    | none => rfl
    | some o => have := s.inn _ _ z; rw [hp] at this; cases this
  refine k ⟨p, l, ns.take 60⟩ F2 _ ?_ ?_ (s.back p hp)
  · exact ⟨s.sub, s.inn.trans (Ex.new hp), s.keep.trans (Keep.of (Ex.new hp)), .nil, s.new⟩
  · intro q hq
    obtain rfl := Option.some.inj hq
    refine ⟨fp, hlp, ?_, hz, 0, c, 0, upd_same, Int.le_refl _, c0, c1, Int.le_refl _, by omega⟩
    show upd H2 p _ l = _
    rw [upd_ne hlp]; exact s.inn _ _ hl4
end
end K7

namespace Fv
open PySem PySem.Spec PyProof.Rows L2 Evl StX
theorem rv_neI {K : PySem.W.Frag} {i j : Int} : RvG K rNe (.int i) (.int j) (Is (.bool (!decide (i = j)))) := rv_val fun F H x y _ hx hy => by
  rw [rp_int hx, rp_int hy]
  refine ⟨.bl (!decide (V.int i = V.int j)), fun Q q => ⟨rfl, q⟩, ?_⟩
  have : decide (V.int i = V.int j) = decide (i = j) := by by_cases h : i = j <;> simp [h]
  rw [this]; exact .bl _
end Fv
namespace K7
open PySem PySem.Spec PyProof.Rows L2 Fv Evl StX
abbrev s_law_lot : Stmt := topS 37
theorem sc_law_lot : FnScope ["_law_pot_here", "_law_n", "_law_bits", "_law_house"] ["_law_pot_here", "_law_n"] (defScope s_law_lot) := ⟨rfl, rfl, rfl, by decide +kernel, rfl, by decide +kernel, by decide +kernel⟩
abbrev s_law_lots : Stmt := topS 38
theorem sc_law_lots : FnScope ["_law_pot_here", "_law_n", "_law_word_here", "_law_singles", "_law_house", "_law_k", "_law_sure", "_law_rows_here", "_law_lot_here", "_law_cut"] ["_law_pot_here", "_law_n"] (defScope s_law_lots) := ⟨rfl, rfl, rfl, by decide +kernel, rfl, by decide +kernel, by decide +kernel⟩
def OneGood (n : Nat) (l : List Int) : Prop := l.length ≤ 60 ∧ (∀ k ∈ l, 0 ≤ k ∧ k < (n : Int)) ∧ (lotOf n l).length ≠ n
theorem not_all {n : Nat} {l : List Int} {k : Int} (h0 : 0 ≤ k) (h1 : k < n) (h : k ∉ l) : (lotOf n l).length ≠ n := by
  have hl : ((List.range n).map Int.ofNat).length = n := by simp
  intro e
  rw [← hl] at e
  unfold lotOf at e
  rw [hl] at e
  have e2 : (((List.range n).map Int.ofNat).filter fun k => decide (k ∈ l)).length = ((List.range n).map Int.ofNat).length := by rw [hl]; exact e
  rw [List.length_filter_eq_length_iff] at e2
  have := e2 k (by rw [List.mem_map]; exact ⟨k.toNat, by rw [List.mem_range]; omega, by simp only [Int.ofNat_eq_natCast]; omega⟩)
  simp at this; exact h this
def bitLot (n : Nat) (bits : Int) : List Int := (hs n).filter fun h => (Builtin.bitAnd (bits / 2 ^ h.toNat) 1 != 0)
theorem bits_good : ∀ n ∈ List.range 6, ∀ b ∈ List.range (2 ^ n - 1), (bitLot n b).length ≤ 60 ∧ (∀ k ∈ bitLot n b, 0 ≤ k ∧ k < (n : Int)) ∧ (lotOf n (bitLot n b)).length ≠ n := by decide +kernel
section
variable {P : Program} {w : World} {K : PySem.W.Frag} {mg : Str → Option Value} {base : Heap}
/-- n as the law has it -/
abbrev NOk (m : Int) : Prop := 2 ≤ m ∧ m ≤ 5
abbrev RO (n : Nat) : PD := fun d => ∃ l, d = dT l ∧ OneGood n l
abbrev RL (n c : Nat) : PD := fun d => ∃ ls, d = dLT ls ∧ (∀ l ∈ ls, OneGood n l) ∧ ls.length ≤ c
abbrev spLawLot (K : PySem.W.Frag) : Sp := spP K NOk (fun m => RO m.toNat)
theorem ok_law_lot {f fD : Addr} {fd fdD : FuncData} (Fn : Fun K "_law_lot" "_law_lot" s_law_lot f fd) (T : Tx mg)
    (F_law_draw : Fun K "_law_draw" "_law_draw" s_law_draw fD fdD) (b_law_draw : Binds K fdD ["_law_pot_here", "_law_many_here"] []) (g_law_draw : mg "_law_draw" = some (.ref fD)) : FnOk P w K mg base CX0 2 f fd ["_law_pot_here", "_law_n"] (spLawLot K) := by
  have G_law_draw : FnOk P w K mg base CX0 1 fD fdD ["_law_pot_here", "_law_many_here"] (spDraw K) := ok_draw F_law_draw T
  refine Fn.ok sc_law_lot spP.len (fun cdv A outer s H vs Q E hr h => ?_)
  obtain ⟨q, m, F, rfl, ⟨m1, m2⟩, e, g, k⟩ := h
  obtain ⟨n, rfl⟩ : ∃ n : Nat, m = (n : Int) := ⟨m.toNat, by omega⟩
  refine ⟨_, (pss_cons (ps_set (i := 2) sc_law_lot.nd rfl (by first | exact Or.inl rfl | exact Or.inr rfl) (pe_call G_law_draw (hr.mono (by decide)) (by rfl) g_law_draw F_law_draw.kp b_law_draw .nil pass0 (pa_cons (pv 0) (pa_cons (pe_op op_sub (pe_op op_shl pe_int (pv 1)) pe_int) pa_nil))))
    (pss_one (ps_ret (pe_callTy (c_tup (K := K)) (by rfl) T.tuple (by decide +kernel) (pa_cons (pe_lc (own := [("_law_house", 3)]) (g := gName 3) rfl sc_law_lot.nd (pi_range1 (by rfl) T.range (pa_cons (pv 1) pa_nil)) (blkOk_by (own := [("_law_house", 3)]) (N := ["_law_pot_here", "_law_n", "_law_bits", "_law_house"]) (sc := (defScope s_law_lot)) (by decide +kernel)) (fun _ _ _ _ _ => pg_name (i := 3) sc_law_lot.nd rfl (by first | exact Or.inl rfl | exact Or.inr rfl)) (fun _ _ _ _ _ => (pts_one (e_truth (K := K) (pe_op op_and (pe_op op_shr (pv 2) (pv 3)) pe_int)))) (fun _ _ _ _ _ => (pv 3))) pa_nil))))), ?_⟩
  have p1 : (1 : Int) ≤ 2 ^ n - 1 ∧ (2 : Int) ^ n - 1 < 1073741824 := by
    have : n = 2 ∨ n = 3 ∨ n = 4 ∨ n = 5 := by omega
    rcases this with rfl | rfl | rfl | rfl <;> decide
  refine t_asg (K := K) (Step.refl e g) (g_callP (m := 2 ^ n - 1) rfl (g_op (g_op g_int (g_var (v := .int n) (d := .int n) rfl (.int _)) fun _ _ h1 h2 => by subst h1 h2; exact rv_shl (by omega)) g_int fun _ _ h1 h2 => by subst h1 h2; exact rv_sub) p1) fun d v F1 H1 hd s1 e1 hv => ?_
  obtain ⟨b, rfl, b0, b1⟩ := hd
  obtain ⟨b, rfl⟩ : ∃ b' : Nat, b = (b' : Int) := ⟨b.toNat, by omega⟩
  refine t_retI (K := K) s1 (g_cbI (gs_one (g_lcE PyData.int (hs n) (fun h => (Builtin.bitAnd ((b : Int) / 2 ^ h.toNat) 1 != 0)) PyData.int ?_ (by rw [hs_len]; omega) (fun _ => rfl) (fun h hh F' e' u hu => ?_) (fun h _ _ F' e' u hu => g_var rfl hu))) rc_tupL) fun v F2 H2 s2 hv => k _ v F2 H2 ⟨bitLot n b, rfl, ?_⟩ s2 hv
  · have := w_rng1I (K := K) (pt := some q) (σ := [some (.ref q.p), some (.int n), some v, none]) (F := F1) (n := (n : Int)) (gs_one (g_var (v := .int n) (i := 1) rfl (.int _))) (by omega) (by omega)
    rw [show (n : Int).toNat = n by omega, rng_hs] at this
    exact this
  · exact et_truI (g_op (g_op (g_var rfl (Rp.mono e' _ _ hv)) (g_var rfl hu) fun _ _ h1 h2 => by subst h1 h2; exact rv_shr (hs_mem.mp hh).1) g_int fun _ _ h1 h2 => by subst h1 h2; exact rv_and)
  · have hb : b < 2 ^ n - 1 := by
      have : ((2 ^ n : Nat) : Int) = 2 ^ n := by simp
      omega
    rw [show (n : Int).toNat = n by omega]
    exact bits_good n (by rw [List.mem_range]; omega) b (List.mem_range.mpr hb)
/-! lists of good lots -/
variable {pt : Option Pt} {σ : L2.St} {F : Hp} {te ta tb : TE} {ts tr : TA} {n a b : Nat}
theorem OneGood.to (h : EvG K pt te σ F (RO n)) : True := trivial
abbrev RLs (n c : Nat) : List PyData → Prop := fun ds => ∃ ls : List (List Int), ds = ls.map dT ∧ (∀ l ∈ ls, OneGood n l) ∧ ls.length ≤ c
theorem gs_nilR : EvsG K pt tNil σ F (RLs n 0) := fun H1 i g Q q => gs_nil (K := K) H1 i g Q fun ds vs F2 H2 hd s hv => q ds vs F2 H2 ⟨[], by rw [hd]; rfl, by simp, by simp⟩ s hv
theorem gs_consRO (h : EvG K pt te σ F (RO n)) (h2 : EvsG K pt ts σ F (RLs n a)) : EvsG K pt (tCons te ts) σ F (RLs n (a + 1)) := fun H1 i g Q q => gs_cons h h2 H1 i g Q fun ds vs F2 H2 hd s hv => by
  obtain ⟨d, ds', rfl, ⟨l, rfl, hl⟩, ls, rfl, hls, hz⟩ := hd
  refine q _ vs F2 H2 ⟨l :: ls, rfl, fun x hx => ?_, by simp; omega⟩ s hv
  rcases List.mem_cons.mp hx with rfl | m
  · exact hl
  · exact hls x m
theorem g_lstRL (h : EvsG K pt ts σ F (RLs n a)) (hz : a ≤ 100) : EvG K pt (tLst ts) σ F (RL n a) := (g_lst h fun ds ⟨ls, e, _, hl⟩ => by rw [e, List.length_map]; omega).imp fun d ⟨ds, e, ls, e2, hg, hl⟩ => ⟨ls, by rw [e, e2], hg, hl⟩
theorem g_catRL (ha : EvG K pt ta σ F (RL n a)) (hb : EvG K pt tb σ F (RL n b)) (hz : a + b ≤ 100) : EvG K pt (tOp rCat ta tb) σ F (RL n (a + b)) := g_op ha hb fun d e ⟨ls, e1, g1, l1⟩ ⟨ms, e2, g2, l2⟩ => by
  subst e1 e2
  intro F H x y i hx hy Q q
  refine rv_cat (by simp; omega) F H x y i hx hy Q fun z v F2 H2 hz' s hv => q z v F2 H2 ⟨ls ++ ms, by rw [show z = _ from hz']; exact congrArg PyData.list List.map_append.symm, fun l hl => ?_, by simp; omega⟩ s hv
  rcases List.mem_append.mp hl with m | m
  · exact g1 l m
  · exact g2 l m
theorem roI {l : List Int} (h : EvG K pt te σ F (Is (dT l))) (hg : OneGood n l) : EvG K pt te σ F (RO n) := h.imp fun d e => ⟨l, e, hg⟩
theorem rlI {ls : List (List Int)} (h : EvG K pt te σ F (Is (dLT ls))) (hg : ∀ l ∈ ls, OneGood n l) (hz : ls.length ≤ a) : EvG K pt te σ F (RL n a) := h.imp fun d e => ⟨ls, e, hg, hz⟩
theorem w_hs {i : Nat} (h : σ[i]? = some (some (.int (n : Int)))) (hn : NOk (n : Int)) : WiG K pt (iRng1 (tCons (tVar i) tNil)) σ F (· = (hs n).map .int) := by
  have := w_rng1I (K := K) (pt := pt) (σ := σ) (F := F) (n := (n : Int)) (gs_one (g_var (v := .int n) (i := i) h (.int _))) (by omega) (by omega)
  rw [show (n : Int).toNat = n by omega, rng_hs] at this
  exact this
theorem w_rngD {c : Int} (hc : c ≤ 100) (h : EvG K pt te σ F (fun d => ∃ k : Int, d = .int k ∧ 0 ≤ k ∧ k < c)) : WiG K pt (iRng1 (tCons (tOp (rI0 fun i j => .int (i + j)) (tC (.int 1)) te) tNil)) σ F (fun l => l.length ≤ c.toNat) := fun H1 i g RR q =>
  w_rng1 (R0 := fun ds => ∃ k : Int, ds = [.int (1 + k)] ∧ 0 ≤ k ∧ k < c) (fun H1 i g Q q => g_consR (R := fun d => ∃ k : Int, d = .int (1 + k) ∧ 0 ≤ k ∧ k < c) (g_op g_int h fun d e hd ⟨k, he, k0, k1⟩ => by
      subst hd he
      intro F H x y i hx hy Q q
      exact rv_add F H x y i hx hy Q fun z v F2 H2 hz s hv => q z v F2 H2 ⟨k, hz, k0, k1⟩ s hv) H1 i g Q fun ds vs F2 H2 ⟨d, hd, k, hk, k0, k1⟩ s hv => q ds vs F2 H2 ⟨k, by rw [hd, hk], k0, k1⟩ s hv)
    (fun ds ⟨k, e, k0, k1⟩ => ⟨_, e, by omega, by omega⟩) H1 i g RR fun ds J F2 H2 ⟨n, ⟨k, e, k0, k1⟩, hl⟩ => q ds J F2 H2 (by
      show ds.length ≤ c.toNat
      rw [hl, rng_len]
      have : n = 1 + k := by simpa using e
      omega)
def singles (n : Nat) : List (List Int) := (hs n).map fun h => [h]
theorem singles_good (h : 2 ≤ n) : (∀ l ∈ singles n, OneGood n l) ∧ (singles n).length ≤ n := by
  refine ⟨fun l hl => ?_, by simp [singles, hs_len]⟩
  obtain ⟨k, hk, rfl⟩ := List.mem_map.mp hl
  have := hs_mem.mp hk
  refine ⟨by simp, by simp; omega, ?_⟩
  by_cases z : k = 0
  · exact not_all (k := 1) (by omega) (by omega) (by simp [z])
  · exact not_all (k := 0) (by omega) (by omega) (by simpa using fun e => z e.symm)
abbrev spLawLots (K : PySem.W.Frag) : Sp := spP K NOk (fun m => RL m.toNat 20)
theorem ok_law_lots {f fD fL : Addr} {fd fdD fdL : FuncData} (Fn : Fun K "_law_lots" "_law_lots" s_law_lots f fd) (T : Tx mg)
    (F_law_draw : Fun K "_law_draw" "_law_draw" s_law_draw fD fdD) (b_law_draw : Binds K fdD ["_law_pot_here", "_law_many_here"] []) (g_law_draw : mg "_law_draw" = some (.ref fD))
    (F_law_lot : Fun K "_law_lot" "_law_lot" s_law_lot fL fdL) (b_law_lot : Binds K fdL ["_law_pot_here", "_law_n"] []) (g_law_lot : mg "_law_lot" = some (.ref fL)) : FnOk P w K mg base CX0 3 f fd ["_law_pot_here", "_law_n"] (spLawLots K) := by
  have G_law_draw : FnOk P w K mg base CX0 1 fD fdD ["_law_pot_here", "_law_many_here"] (spDraw K) := ok_draw F_law_draw T
  have G_law_lot : FnOk P w K mg base CX0 2 fL fdL ["_law_pot_here", "_law_n"] (spLawLot K) := ok_law_lot F_law_lot T F_law_draw b_law_draw g_law_draw
  refine Fn.ok sc_law_lots spP.len (fun cdv A outer s H vs Q E hr h => ?_)
  obtain ⟨q, m, F, rfl, ⟨m1, m2⟩, e, g, k0⟩ := h
  obtain ⟨n, rfl⟩ : ∃ n : Nat, m = (n : Int) := ⟨m.toNat, by omega⟩
  have k : ∀ d v F2 H2, RL n 20 d → Step (some q) F H F2 H2 → Rp K F2 v d → Q v H2 := k0
  have hn : NOk (n : Int) := ⟨m1, m2⟩
  have toN : (n : Int).toNat = n := by omega
  refine ⟨_, (pss_cons (ps_set (i := 2) sc_law_lots.nd rfl (by first | exact Or.inl rfl | exact Or.inr rfl) (pe_call G_law_draw (hr.mono (by decide)) (by rfl) g_law_draw F_law_draw.kp b_law_draw .nil pass0 (pa_cons (pv 0) (pa_cons pe_int pa_nil))))
    (pss_cons (ps_setLc (i := 3) (own := [("_law_house", 4)]) (g := gName 4) rfl sc_law_lots.nd rfl rfl (sw_true rfl rfl rfl (by decide +kernel)) (pi_range1 (by rfl) T.range (pa_cons (pv 1) pa_nil)) (blkOk_by (own := [("_law_house", 4)]) (N := ["_law_pot_here", "_law_n", "_law_word_here", "_law_singles", "_law_house", "_law_k", "_law_sure", "_law_rows_here", "_law_lot_here", "_law_cut"]) (sc := (defScope s_law_lots)) (by decide +kernel)) (fun _ _ _ _ _ => pg_name (i := 4) sc_law_lots.nd rfl (by first | exact Or.inl rfl | exact Or.inr rfl)) (fun _ _ _ _ _ => pts_nil) (fun _ _ _ _ _ => (pe_tup (pa_cons (pv 4) pa_nil))))
    (pss_cons (ps_if (pt_cmpR op_lt (pv 2) pe_int (nomark _)) (pss_one (ps_ret (pv 3))) pss_nil)
    (pss_cons (ps_if (pt_cmpR op_eq (pv 2) pe_int (nomark _)) (pss_one (ps_ret (pe_lc (own := [("_law_k", 5)]) (g := gName 5) rfl sc_law_lots.nd (pi_range1 (by rfl) T.range (pa_cons (pe_op op_add pe_int (pe_call G_law_draw (hr.mono (by decide)) (by rfl) g_law_draw F_law_draw.kp b_law_draw .nil pass0 (pa_cons (pv 0) (pa_cons pe_int pa_nil)))) pa_nil)) (blkOk_by (own := [("_law_k", 5)]) (N := ["_law_pot_here", "_law_n", "_law_word_here", "_law_singles", "_law_house", "_law_k", "_law_sure", "_law_rows_here", "_law_lot_here", "_law_cut"]) (sc := (defScope s_law_lots)) (by decide +kernel)) (fun _ _ _ _ _ => pg_name (i := 5) sc_law_lots.nd rfl (by first | exact Or.inl rfl | exact Or.inr rfl)) (fun _ _ _ _ _ => pts_nil) (fun _ _ _ _ _ => (pe_call G_law_lot (hr.mono (by decide)) (by rfl) g_law_lot F_law_lot.kp b_law_lot .nil pass0 (pa_cons (pv 0) (pa_cons (pv 1) pa_nil))))))) pss_nil)
    (pss_cons (ps_if (pt_cmpR op_eq (pv 2) pe_int (nomark _)) (pss_one (ps_ret (pe_op op_cat (pv 3) (pe_lc (own := [("_law_k", 5)]) (g := gName 5) rfl sc_law_lots.nd (pi_range1 (by rfl) T.range (pa_cons (pe_op op_add pe_int (pe_call G_law_draw (hr.mono (by decide)) (by rfl) g_law_draw F_law_draw.kp b_law_draw .nil pass0 (pa_cons (pv 0) (pa_cons pe_int pa_nil)))) pa_nil)) (blkOk_by (own := [("_law_k", 5)]) (N := ["_law_pot_here", "_law_n", "_law_word_here", "_law_singles", "_law_house", "_law_k", "_law_sure", "_law_rows_here", "_law_lot_here", "_law_cut"]) (sc := (defScope s_law_lots)) (by decide +kernel)) (fun _ _ _ _ _ => pg_name (i := 5) sc_law_lots.nd rfl (by first | exact Or.inl rfl | exact Or.inr rfl)) (fun _ _ _ _ _ => pts_nil) (fun _ _ _ _ _ => (pe_call G_law_lot (hr.mono (by decide)) (by rfl) g_law_lot F_law_lot.kp b_law_lot .nil pass0 (pa_cons (pv 0) (pa_cons (pv 1) pa_nil)))))))) pss_nil)
    (pss_cons (ps_if (pt_cmpR op_eq (pv 2) pe_int (nomark _)) (pss_cons (ps_set (i := 6) sc_law_lots.nd rfl (by first | exact Or.inl rfl | exact Or.inr rfl) (pe_call G_law_draw (hr.mono (by decide)) (by rfl) g_law_draw F_law_draw.kp b_law_draw .nil pass0 (pa_cons (pv 0) (pa_cons (pv 1) pa_nil))))
    (pss_cons (ps_set (i := 7) sc_law_lots.nd rfl (by first | exact Or.inl rfl | exact Or.inr rfl) (pe_op op_cat (pv 3) (pe_lst (pa_cons (pe_call G_law_lot (hr.mono (by decide)) (by rfl) g_law_lot F_law_lot.kp b_law_lot .nil pass0 (pa_cons (pv 0) (pa_cons (pv 1) pa_nil))) (pa_cons (pe_call G_law_lot (hr.mono (by decide)) (by rfl) g_law_lot F_law_lot.kp b_law_lot .nil pass0 (pa_cons (pv 0) (pa_cons (pv 1) pa_nil))) pa_nil)))))
    (pss_one (ps_ret (pe_lc (own := [("_law_lot_here", 8)]) (g := gName 8) rfl sc_law_lots.nd (i_list (K := K) (pv 7)) (blkOk_by (own := [("_law_lot_here", 8)]) (N := ["_law_pot_here", "_law_n", "_law_word_here", "_law_singles", "_law_house", "_law_k", "_law_sure", "_law_rows_here", "_law_lot_here", "_law_cut"]) (sc := (defScope s_law_lots)) (by decide +kernel)) (fun _ _ _ _ _ => pg_name (i := 8) sc_law_lots.nd rfl (by first | exact Or.inl rfl | exact Or.inr rfl)) (fun _ _ _ _ _ => pts_nil) (fun _ _ _ _ _ => (pe_callTy (c_tup (K := K)) (by rfl) T.tuple (by decide +kernel) (pa_cons (pe_lc (own := [("_law_house", 4)]) (g := gName 4) rfl sc_law_lots.nd (i_tup (K := K) (pv 8)) (blkOk_by (own := [("_law_house", 4)]) (N := ["_law_pot_here", "_law_n", "_law_word_here", "_law_singles", "_law_house", "_law_k", "_law_sure", "_law_rows_here", "_law_lot_here", "_law_cut"]) (by rfl)) (fun _ _ _ _ _ => pg_name (i := 4) sc_law_lots.nd rfl (by first | exact Or.inl rfl | exact Or.inr rfl)) (fun _ _ _ _ _ => (pts_one (pt_cmpR op_ne (pv 4) (pv 6) (nomark _)))) (fun _ _ _ _ _ => (pv 4))) pa_nil)))))))) pss_nil)
    (pss_cons (ps_set (i := 9) sc_law_lots.nd rfl (by first | exact Or.inl rfl | exact Or.inr rfl) (pe_op op_add (pe_call G_law_draw (hr.mono (by decide)) (by rfl) g_law_draw F_law_draw.kp b_law_draw .nil pass0 (pa_cons (pv 0) (pa_cons (pe_op op_sub (pv 1) pe_int) pa_nil))) pe_int))
    (pss_one (ps_ret (pe_op op_cat (pv 3) (pe_lst (pa_cons (pe_tupRg rfl (by rfl) T.tuple (prg_1 (by rfl) T.range (pv 9))) (pa_cons (pe_tupRg rfl (by rfl) T.tuple (prg_2 (by rfl) T.range (pv 9) (pv 1))) (pa_cons (pe_call G_law_lot (hr.mono (by decide)) (by rfl) g_law_lot F_law_lot.kp b_law_lot .nil pass0 (pa_cons (pv 0) (pa_cons (pv 1) pa_nil))) pa_nil)))))))))))))), ?_⟩
  have lot : ∀ {F' : Hp} {σ' : L2.St} {E' : XK}, σ'[0]? = some (some (.ref q.p)) → σ'[1]? = some (some (.int n)) → EvG K (some q) (tCall (spLawLot K) [] E' (tCons (tVar 0) (tCons (tVar 1) tNil))) σ' F' (RO n) := fun {F' σ' E'} h0 h1 =>
    (g_callP (E := E') (F := F') (P := NOk) (R := fun m => RO m.toNat) (m := n) h0 (g_var (v := .int n) (d := .int n) h1 (.int _)) hn).imp fun d hd => by
      obtain ⟨l, h1, h2⟩ := hd
      exact ⟨l, h1, by rw [toN] at h2; exact h2⟩
  -- the word
  refine t_asg (K := K) (Step.refl e g) (g_callP (m := 6) rfl g_int (by decide)) fun d v F1 H1 hd s1 e1 hv => ?_
  obtain ⟨b, rfl, b0, b1⟩ := hd
  -- singles
  refine t_asgI (K := K) s1 (g_lcEM PyData.int (hs n) (fun h => dT [h]) (w_hs rfl hn) (by rw [hs_len]; omega) (fun _ => rfl) fun h hh F' e' u hu => g_tupI (gs_one (g_var rfl hu)) (by simp)) fun sv F2 H2 s2 e2 hsv => ?_
  obtain rfl := rp_int hv
  have hsv' : Rp K F2 sv (dLT (singles n)) := by unfold singles dLT; rw [List.map_map]; exact hsv
  obtain ⟨sg, sl⟩ := singles_good (n := n) (by omega)
  have lots : ∀ {F' : Hp} {σ' : L2.St} {j c : Nat} {te : TE} {te' : TE} {vs : List Nat}, (c : Int) ≤ 100 → EvG K (some q) te' σ' F' (fun d => ∃ k : Int, d = .int k ∧ 0 ≤ k ∧ k < (c : Int)) → (∀ x, wipe ((wipe σ' vs).set j (some x)) vs = wipe σ' vs) → (∀ F'' v, EvG K (some q) te ((wipe σ' vs).set j (some v)) F'' (RO n)) →
      EvG K (some q) (tLc (iRng1 (tCons (tOp (rI0 fun i j => .int (i + j)) (tC (.int 1)) te') tNil)) (gName j) tYes te vs) σ' F' (RL n c) := fun {F' σ' j c te te' vs} hc h hw he =>
    (g_lcR (α := Unit) dT (OneGood n) (w_rngD hc h) (fun ds hd => by omega) hw fun F'' _ v => he F'' v).imp fun d ⟨ds, ys, hds, hd, hl, hg⟩ => ⟨ys, hd, hg, by have : ds.length ≤ (c : Int).toNat := hds; omega⟩
  -- word < 2
  refine t_when s2 (et_of (K := K) (g_op (g_var rfl (.int b)) g_int fun _ _ h1 h2 => by subst h1 h2; exact rv_bl (g := fun i j => decide (i < j)))) (fun _ F3 H3 s3 e3 => ?_) (fun _ F3 H3 s3 e3 => ?_)
  · exact t_ret s3 (rlI (g_var rfl (Rp.mono e3 _ _ hsv')) sg (a := 20) (by omega)) fun d v F4 H4 hd s4 hv => k d v F4 H4 hd s4 hv
  -- word == 2
  refine t_when s3 (et_of (K := K) (g_op (g_var rfl (.int b)) g_int fun _ _ h1 h2 => by subst h1 h2; exact rv_eqI)) (fun _ F4 H4 s4 e4 => ?_) (fun _ F4 H4 s4 e4 => ?_)
  · exact t_ret s4 (lots (c := 4) (by decide) (g_callP (m := 4) rfl g_int (by decide)) (fun _ => rfl) fun F'' v => lot rfl rfl) fun d v F5 H5 ⟨ls, h1, h2, h3⟩ s5 hv => k d v F5 H5 ⟨ls, h1, h2, by omega⟩ s5 hv
  -- word == 3
  refine t_when s4 (et_of (K := K) (g_op (g_var rfl (.int b)) g_int fun _ _ h1 h2 => by subst h1 h2; exact rv_eqI)) (fun _ F5 H5 s5 e5 => ?_) (fun _ F5 H5 s5 e5 => ?_)
  · exact t_ret s5 (g_catRL (a := n) (b := 3) (rlI (g_var rfl (Rp.mono ((e3.trans e4).trans e5) _ _ hsv')) sg sl) (lots (c := 3) (by decide) (g_callP (m := 3) rfl g_int (by decide)) (fun _ => rfl) fun F'' v => lot rfl rfl) (by omega)) fun d v F6 H6 ⟨ls, h1, h2, h3⟩ s6 hv => k d v F6 H6 ⟨ls, h1, h2, by omega⟩ s6 hv
  -- word == 4
  refine t_when s5 (et_of (K := K) (g_op (g_var rfl (.int b)) g_int fun _ _ h1 h2 => by subst h1 h2; exact rv_eqI)) (fun _ F6 H6 s6 e6 => ?_) (fun _ F6 H6 s6 e6 => ?_)
  · -- the sure house
    refine t_asg (K := K) s6 (g_callP (m := n) rfl (g_var (v := .int n) (d := .int n) rfl (.int _)) ⟨by omega, by omega⟩) fun d v F7 H7 hd s7 e7 hv => ?_
    obtain ⟨c, rfl, c0, c1⟩ := hd
    obtain rfl := rp_int hv
    refine t_asg (K := K) s7 (g_catRL (a := n) (b := 2) (rlI (g_var rfl (Rp.mono (((e3.trans e4).trans e5).trans (e6.trans e7)) _ _ hsv')) sg sl) (g_lstRL (gs_consRO (lot rfl rfl) (gs_consRO (lot rfl rfl) gs_nilR)) (by decide)) (by omega)) fun d v F8 H8 hd s8 e8 hv => ?_
    obtain ⟨ls, rfl, hg, hl⟩ := hd
    refine t_retI (K := K) s8 (g_lcEM dT ls (fun l => dT (l.filter fun h => !decide (h = c))) (w_listI (g_var rfl hv)) (by omega) (fun _ => rfl) fun l hl F' e' y hy => g_cbI (gs_one (g_lcE PyData.int l (fun h => !decide (h = c)) PyData.int (w_tupI (g_var rfl hy)) (by have := (hg l hl).1; omega) (fun _ => rfl) (fun h hh F'' e'' u hu => ?_) (fun h _ _ F'' e'' u hu => g_var rfl hu))) rc_tupL) fun v F9 H9 s9 hv9 => k _ v F9 H9 ⟨ls.map fun l => l.filter fun h => !decide (h = c), ?_, ?_, ?_⟩ s9 hv9
    · exact et_of (g_op (g_var rfl hu) (g_var (v := .int c) (d := .int c) rfl (.int c)) fun _ _ h1 h2 => by subst h1 h2; exact rv_neI)
    · unfold dLT; rw [List.map_map]; rfl
    · intro l hl
      obtain ⟨l0, hl0, rfl⟩ := List.mem_map.mp hl
      obtain ⟨g1, g2, g3⟩ := hg l0 hl0
      exact ⟨Nat.le_trans (List.length_filter_le _ _) g1, fun x hx => g2 x (List.mem_filter.mp hx).1, not_all c0 c1 (by simp)⟩
    · rw [List.length_map]; omega
  · -- a cut
    refine t_asg (K := K) (R := fun d => ∃ c : Int, d = .int (c + 1) ∧ 0 ≤ c ∧ c < n - 1) s6 (g_op (g_callP (m := n - 1) rfl (g_op (g_var (v := .int n) (d := .int n) rfl (.int _)) g_int fun _ _ h1 h2 => by subst h1 h2; exact rv_sub) ⟨by omega, by omega⟩) g_int fun d e hd he => ?_) fun d v F7 H7 hd s7 e7 hv => ?_
    · obtain ⟨c, rfl, c0, c1⟩ := hd
      subst he
      intro F H x y i hx hy Q q
      exact rv_add F H x y i hx hy Q fun z v F2 H2 hz s hv => q z v F2 H2 ⟨c, hz, c0, c1⟩ s hv
    obtain ⟨c, rfl, c0, c1⟩ := hd
    obtain rfl := rp_int hv
    obtain ⟨j, rfl⟩ : ∃ j : Nat, c = (j : Int) := ⟨c.toNat, by omega⟩
    refine t_ret s7 (g_catRL (a := n) (b := 3) (rlI (g_var rfl (Rp.mono (((e3.trans e4).trans e5).trans (e6.trans e7)) _ _ hsv')) sg sl) (g_lstRL (gs_consRO (roI (l := hs (j + 1)) ((g_tupR1 (g_var (v := .int ((j : Int) + 1)) (d := .int ((j : Int) + 1)) rfl (.int _)) (by omega) (by omega)).is ?_) ?_) (gs_consRO (roI (l := (List.range (n - (j + 1))).map fun i : Nat => ((j + 1 : Nat) : Int) + (i : Int)) ((g_tupR2 (g_var (v := .int ((j : Int) + 1)) (d := .int ((j : Int) + 1)) rfl (.int _)) (g_var (v := .int n) (d := .int n) rfl (.int _)) (by omega) (by omega) (by omega) (by omega)).is ?_) ?_) (gs_consRO (lot rfl rfl) gs_nilR))) (by decide)) (by omega)) fun d v F8 H8 ⟨ls, h1, h2, h3⟩ s8 hv => k d v F8 H8 ⟨ls, h1, h2, by omega⟩ s8 hv
    · rw [show ((j : Int) + 1).toNat = j + 1 by omega, rng_hs]
    · refine ⟨by rw [hs_len]; omega, fun x hx => ?_, not_all (k := (n : Int) - 1) (by omega) (by omega) fun hx => ?_⟩
      · have := hs_mem.mp hx; omega
      · have := hs_mem.mp hx; omega
    · rw [show ((n : Int) - ((j : Int) + 1)).toNat = n - (j + 1) by omega]
      unfold rng dT
      rw [List.map_map]
      rfl
    · refine ⟨by simp; omega, fun x hx => ?_, not_all (k := 0) (by omega) (by omega) fun hx => ?_⟩
      · obtain ⟨i, hi, rfl⟩ := List.mem_map.mp hx
        have := List.mem_range.mp hi; omega
      · obtain ⟨i, hi, e⟩ := List.mem_map.mp hx
        omega
end
end K7

namespace K7
open PySem PySem.Spec PyProof.Rows L2 Fv Evl StX
abbrev s_law_lets : Stmt := topS 31
theorem sc_law_lets : FnScope ["_law_lots_here", "_law_lot_here", "_law_other", "_law_house"] ["_law_lots_here", "_law_lot_here"] (defScope s_law_lets) := ⟨rfl, rfl, rfl, by decide +kernel, rfl, by decide +kernel, by decide +kernel⟩
abbrev s_law_every : Stmt := topS 39
theorem sc_law_every : FnScope ["_law_n", "_law_lots_here", "_law_found", "_law_bits", "_law_lot_here", "_law_house"] ["_law_n", "_law_lots_here"] (defScope s_law_every) := ⟨rfl, rfl, rfl, by decide +kernel, rfl, by decide +kernel, by decide +kernel⟩
def inLot (l o : List Int) : Bool := (l.filter fun h => !decide (h ∈ o)).isEmpty
def lets (ls : List (List Int)) (l : List Int) : Bool := l.isEmpty || ls.any fun o => inLot l o
def everyTo (n : Nat) (ls : List (List Int)) (i : Nat) : List (List Int) := ((List.range i).map fun b : Nat => bitLot n b).filter fun l => lets ls l
def everyOf (n : Nat) (ls : List (List Int)) : List (List Int) := everyTo n ls (2 ^ n)
def both (n : Nat) (a b : List Int) : Bool := ((hs n).filter fun h => !decide (h ∈ a) && !decide (h ∈ b)).isEmpty
def coversOf (n : Nat) (ls : List (List Int)) : Bool := ls.any fun a => ls.any fun b => both n a b
theorem bitLot_len (n : Nat) (b : Int) : (bitLot n b).length ≤ n := Nat.le_trans (List.length_filter_le _ _) (by rw [hs_len]; exact Nat.le_refl _)
section
variable {P : Program} {w : World} {K : PySem.W.Frag} {mg : Str → Option Value} {base : Heap}
abbrev spLets (K : PySem.W.Frag) : Sp := PSp K (fun i : List (List Int) × List Int => [dLT i.1, dT i.2]) (fun i => i.2.length ≤ 50000) (fun i => .bool (lets i.1 i.2))
theorem ok_lets {f : Addr} {fd : FuncData} (Fn : Fun K "_law_lets" "_law_lets" s_law_lets f fd) (T : Tx mg) : FnOk P w K mg base CX0 1 f fd ["_law_lots_here", "_law_lot_here"] (spLets K) := by
  refine Fn.ok sc_law_lets (PSp.len (fun _ => rfl)) (fun cdv A outer s H vs Q E hr h => ?_)
  obtain ⟨⟨ls, l⟩, F, hz, e, ha, q⟩ := h
  simp only at hz
  obtain ⟨v, x, rfl, hv, hx⟩ := rpAll2 ha
  refine ⟨_, (pss_cons (ps_if (pt_not (e_truth (K := K) (pv 1))) (pss_one (ps_ret pe_bl)) pss_nil)
    (pss_cons (ps_for PassesOwn.never rfl (i_list (K := K) (pv 0)) (pg_name (i := 2) sc_law_lets.nd rfl (by first | exact Or.inl rfl | exact Or.inr rfl)) (pss_one (ps_if (pt_not (e_truth (K := K) (pe_lc (own := [("_law_house", 3)]) (g := gName 3) rfl sc_law_lets.nd (i_tup (K := K) (pv 1)) (blkOk_by (own := [("_law_house", 3)]) (N := ["_law_lots_here", "_law_lot_here", "_law_other", "_law_house"]) (sc := (defScope s_law_lets)) (by decide +kernel)) (fun _ _ _ _ _ => pg_name (i := 3) sc_law_lets.nd rfl (by first | exact Or.inl rfl | exact Or.inr rfl)) (fun _ _ _ _ _ => (pts_one (pt_cmpR (o_notIn (K := K)) (pv 3) (pv 2) (by rfl)))) (fun _ _ _ _ _ => (pv 3))))) (pss_one (ps_ret pe_bl)) pss_nil)))
    (pss_one (ps_ret pe_bl)))), ?_⟩
  refine t_when (b := !(!(l.map PyData.int).isEmpty)) (Step.refl e .nil) (et_not (et_truT (g_var rfl hx))) (fun hb F1 H1 s1 e1 => ?_) (fun hb F1 H1 s1 e1 => ?_)
  · refine t_retI (K := K) s1 g_bl fun v F2 H2 s2 hv => q v F2 H2 s2 ?_
    have : lets ls l = true := by
      unfold lets
      have : l.isEmpty = true := by simpa using hb
      rw [this]; rfl
    show Rp K F2 v (.bool (lets ls l))
    rw [this]; exact hv
  · have he : l.isEmpty = false := by simpa using hb
    refine t_for (K := K) (ds := ls.map dT) s1 (w_listI (g_var rfl (Rp.mono e1 _ _ hv))) (fun i σ' F' => (∃ a b, σ' = [some v, some x, a, b]) ∧ ∀ o ∈ ls.take i, inLot l o = false) (fun F2 e2 => ⟨⟨none, none, rfl⟩, by simp⟩) (fun i d hd σ' F' H' u hI s' e' hu N hN => ?_) (fun σ' F' H' hI s' e' => ?_)
    · obtain ⟨⟨a, b, rfl⟩, hno⟩ := hI
      obtain ⟨o, ho, rfl⟩ := get_map hd
      refine t_if1 (b := !(!((l.filter fun h => !decide (h ∈ o)).map PyData.int).isEmpty)) s' (et_not (et_truL (g_lcE PyData.int l (fun h => !decide (h ∈ o)) PyData.int (w_tupI (g_var rfl (Rp.mono (e1.trans e') _ _ hx))) hz (fun _ => rfl) (fun h hh F'' e'' u2 hu2 => ?_) (fun h _ _ F'' e'' u2 hu2 => g_var rfl hu2)))) (fun hb F2 H2 s2 e2 => ?_) (fun hb F2 H2 s2 e2 => ?_)
      · exact et_of (g_op (g_var rfl hu2) (g_var rfl (Rp.mono e'' _ _ hu)) fun _ _ h1 h2 => by subst h1 h2; exact rv_ninT)
      · refine t_retI (K := K) s2 g_bl fun v F3 H3 s3 hv => q v F3 H3 s3 ?_
        have : lets ls l = true := by
          unfold lets
          rw [he, Bool.false_or, List.any_eq_true]
          exact ⟨o, List.mem_of_getElem? ho, by unfold inLot; simpa using hb⟩
        show Rp K F3 v (.bool (lets ls l))
        rw [this]; exact hv
      · refine hN _ F2 H2 ⟨⟨_, _, rfl⟩, fun z hz => ?_⟩ s2 e2
        rw [take_succA ho] at hz
        rcases List.mem_append.mp hz with m | m
        · exact hno z m
        · rw [List.mem_singleton.mp m]; unfold inLot; simpa using hb
    · obtain ⟨⟨a, b, rfl⟩, hno⟩ := hI
      refine t_retI (K := K) s' g_bl fun v F3 H3 s3 hv => q v F3 H3 s3 ?_
      have : lets ls l = false := by
        unfold lets
        rw [he, Bool.false_or, List.any_eq_false]
        intro o ho
        rw [List.length_map, List.take_length] at hno
        rw [hno o ho]; simp
      show Rp K F3 v (.bool (lets ls l))
      rw [this]; exact hv
abbrev spEvery (K : PySem.W.Frag) : Sp := PSp K (fun i : Nat × List (List Int) => [.int i.1, dLT i.2]) (fun i => i.1 ≤ 5) (fun i => dLT (everyOf i.1 i.2))
theorem ok_every {f fE : Addr} {fd fdE : FuncData} (Fn : Fun K "_law_every" "_law_every" s_law_every f fd) (T : Tx mg)
    (F_law_lets : Fun K "_law_lets" "_law_lets" s_law_lets fE fdE) (b_law_lets : Binds K fdE ["_law_lots_here", "_law_lot_here"] []) (g_law_lets : mg "_law_lets" = some (.ref fE)) : FnOk P w K mg base CX0 2 f fd ["_law_n", "_law_lots_here"] (spEvery K) := by
  have G_law_lets : FnOk P w K mg base CX0 1 fE fdE ["_law_lots_here", "_law_lot_here"] (spLets K) := ok_lets F_law_lets T
  refine Fn.ok sc_law_every (PSp.len (fun _ => rfl)) (fun cdv A outer s H vs Q E hr h => ?_)
  obtain ⟨⟨n, ls⟩, F, hn, e, ha, q⟩ := h
  simp only at hn
  obtain ⟨v, x, rfl, hv, hx⟩ := rpAll2 ha
  refine ⟨_, (pss_cons (ps_set (i := 2) sc_law_every.nd rfl (by first | exact Or.inl rfl | exact Or.inr rfl) (pe_lst pa_nil))
    (pss_cons (ps_for PassesOwn.never rfl (pi_range1 (by rfl) T.range (pa_cons (pe_op op_shl pe_int (pv 0)) pa_nil)) (pg_name (i := 3) sc_law_every.nd rfl (by first | exact Or.inl rfl | exact Or.inr rfl)) (pss_cons (ps_set (i := 4) sc_law_every.nd rfl (by first | exact Or.inl rfl | exact Or.inr rfl) (pe_callTy (c_tup (K := K)) (by rfl) T.tuple (by decide +kernel) (pa_cons (pe_lc (own := [("_law_house", 5)]) (g := gName 5) rfl sc_law_every.nd (pi_range1 (by rfl) T.range (pa_cons (pv 0) pa_nil)) (blkOk_by (own := [("_law_house", 5)]) (N := ["_law_n", "_law_lots_here", "_law_found", "_law_bits", "_law_lot_here", "_law_house"]) (sc := (defScope s_law_every)) (by decide +kernel)) (fun _ _ _ _ _ => pg_name (i := 5) sc_law_every.nd rfl (by first | exact Or.inl rfl | exact Or.inr rfl)) (fun _ _ _ _ _ => (pts_one (e_truth (K := K) (pe_op op_and (pe_op op_shr (pv 3) (pv 5)) pe_int)))) (fun _ _ _ _ _ => (pv 5))) pa_nil)))
    (pss_one (ps_if (pt_val (pe_call G_law_lets (hr.mono (by decide)) (by rfl) g_law_lets F_law_lets.kp b_law_lets .nil pass0 (pa_cons (pv 1) (pa_cons (pv 4) pa_nil)))) (pss_one (ps_expr (pe_bm PySem.F.plainAttrs_list PySem.F.slot_list_append PySem.F.type_list_append mt_append (pv 2) (pa_cons (pv 4) pa_nil)))) pss_nil))))
    (pss_one (ps_ret (pv 2))))), ?_⟩
  have g0 : Good none F H := .nil
  have p32 : ((2 : Int) ^ n).toNat = 2 ^ n ∧ 2 ^ n ≤ 32 ∧ (0 : Int) ≤ 2 ^ n ∧ (2 : Int) ^ n ≤ 32 := by
    have : n = 0 ∨ n = 1 ∨ n = 2 ∨ n = 3 ∨ n = 4 ∨ n = 5 := by omega
    rcases this with rfl | rfl | rfl | rfl | rfl | rfl <;> decide
  refine t_newL (K := K) (Step.refl e .nil) (fun l h0 hl g => ?_) (fun _ h => h)
  refine t_forG (K := K) (ds := rng 0 ((2 : Int) ^ n).toNat) g0 h0 g (w_rng1I (n := (2 : Int) ^ n) (gs_one (g_op g_int (g_var rfl hv) fun _ _ h1 h2 => by subst h1 h2; exact rv_shl (by omega))) (by omega) (by omega))
    (fun i σ' F' l' => (∃ a b c, σ' = [some v, some x, some (.ref l), a, b, c]) ∧ l' = (everyTo n ls i).map dT) (fun F2 e2 => ⟨⟨none, none, none, rfl⟩, by simp [everyTo]⟩) (fun i d hd σ' F' H' u l' hI g' e' hu N hN => ?_) (fun σ' F' H' l' hI g' e' => ?_)
  · obtain ⟨⟨a, b, c, rfl⟩, rfl⟩ := hI
    have hi : i < 2 ^ n := by
      have := (List.getElem?_eq_some_iff.mp hd).1
      rw [rng_len, p32.1] at this
      exact this
    have ed : d = .int (i : Int) := by
      rw [rng_get (by rw [p32.1]; exact hi)] at hd
      have := Option.some.inj hd
      rw [← this]; simp
    subst ed
    refine t_asg (K := K) (R := Is (dT (bitLot n i))) (Step.refl g'.step.inn .nil) (g_cbI (gs_one (g_lcE PyData.int (hs n) (fun h => (Builtin.bitAnd ((i : Int) / 2 ^ h.toNat) 1 != 0)) PyData.int ?_ (by rw [hs_len]; omega) (fun _ => rfl) (fun h hh F' e' u2 hu2 => ?_) (fun h _ _ F' e' u2 hu2 => g_var rfl hu2))) rc_tupL) fun d2 v2 F2 H2 hd2 s2 e2 hv2 => ?_
    · have := w_rng1I (K := K) (pt := none) (σ := [some v, some x, some (.ref l), some u, b, c]) (F := F') (n := (n : Int)) (gs_one (g_var (i := 0) rfl (Rp.mono e' _ _ hv))) (by omega) (by omega)
      rw [show (n : Int).toNat = n by omega, rng_hs] at this
      exact this
    · exact et_truI (g_op (g_op (g_var rfl (Rp.mono e' _ _ hu)) (g_var rfl hu2) fun _ _ h1 h2 => by subst h1 h2; exact rv_shr (hs_mem.mp hh).1) g_int fun _ _ h1 h2 => by subst h1 h2; exact rv_and)
    subst hd2
    have g2 := g'.run g0 h0 s2
    have hbl := bitLot_len n i
    refine t_if1 (b := lets ls (bitLot n i)) (Step.refl g2.step.inn .nil) (et_B (g_call (ls, bitLot n i) (gs_two (g_var rfl (Rp.mono (e'.trans e2) _ _ hx)) (g_var rfl hv2)) rfl (by simp only; omega))) (fun hb F3 H3 s3 e3 => ?_) (fun hb F3 H3 s3 e3 => ?_)
    · refine t_app (K := K) g0 h0 (g2.run g0 h0 s3) rfl (g_var rfl (Rp.mono e3 _ _ hv2)) ?_ fun d4 F4 H4 hd4 g4 e4 => ?_
      · have : (everyTo n ls i).length ≤ i := Nat.le_trans (List.length_filter_le _ _) (by simp)
        rw [List.length_map]; omega
      subst hd4
      refine hN _ F4 H4 _ ⟨⟨_, _, _, rfl⟩, ?_⟩ g4 ((e2.trans e3).trans e4)
      unfold everyTo
      rw [List.range_succ, List.map_append, List.filter_append]
      simp [hb]
    · refine hN _ F3 H3 _ ⟨⟨_, _, _, rfl⟩, ?_⟩ (g2.run g0 h0 s3) (e2.trans e3)
      unfold everyTo
      rw [List.range_succ, List.map_append, List.filter_append]
      simp [hb]
  · obtain ⟨⟨a, b, c, rfl⟩, rfl⟩ := hI
    obtain ⟨F2, s2, e2, r2⟩ := g'.done g0 h0
    refine t_retI (K := K) s2 (g_var rfl r2) fun v3 F3 H3 s3 hv3 => q v3 F3 H3 s3 ?_
    rw [rng_len, p32.1] at hv3
    exact hv3
end
end K7

namespace K7
open PySem PySem.Spec PyProof.Rows L2 Fv Evl StX
abbrev s_check_manner : Stmt := topS 19
theorem sc_check_manner : FnScope ["manner"] ["manner"] (defScope s_check_manner) := ⟨rfl, rfl, rfl, by decide +kernel, rfl, by decide +kernel, by decide +kernel⟩
abbrev s_BadManner___init__ : Stmt := inClass (topS 5) 0
theorem sc_BadManner___init__ : FnScope ["self", "manner"] ["self", "manner"] (defScope s_BadManner___init__) := ⟨rfl, rfl, rfl, by decide +kernel, rfl, by decide +kernel, by decide +kernel⟩
def mans : List Str := ["sure", "cells", "letters"]
abbrev manD : List PyData := mans.map PyData.str
def badMans : List PyData := [.none, .int 0, .bool true, .str "", .str "Sure", .str "cells ", .tuple [.str "sure"], .str "Letters", .str "letter", .int 3]
theorem bad_facts : ∀ d ∈ badMans, SeqAt.shaped d = true ∧ (manD.any fun z => PyData.eqv z d) = false ∧ d.showable = true ∧ d.hasDict = false ∧ d.shown.length ≤ 100 ∧ d.depth ≤ 60 := by decide +kernel
theorem man_facts : ∀ m ∈ mans, SeqAt.shaped (.str m) = true ∧ (manD.any fun z => PyData.eqv z (.str m)) = true := by decide +kernel
theorem man_shaped : SeqAt.shaped (.tuple manD) = true := by decide +kernel
structure ManT (K : PySem.W.Frag) (tM : Addr) : Prop where
  sq : ∀ H, SqT K H tM (mans.map V.str)
  ty : ∃ o, K.lookup tM = some o ∧ o.cls = .type "tuple"
/-- the classes FirmError, at CF, and BadManner, at CB, as the text has them -/
structure ErrM (K : PySem.W.Frag) (mg : Str → Option Value) (CF CB fI : Addr) (mc : Value) : Prop where
  T : OexC K CB
  iC : PySem.W.findIn K (.ref CB) "__init__" = some (some (.ref fI))
  tI : PySem.W.typeIn K (.ref fI) = some (.type "function")
  no : PySem.W.findIn K (.ref CB) "manner" = some none
  gB : mg "BadManner" = some (.ref CB)
  gF : mg "FirmError" = some (.ref CF)
  rF : ClX.CRead K CF mc
  vF : PySem.W.findCls K (.ref CF) mc "__init__" = some (.val (.builtin "ValueError.__init__"))
  xf : XfC K CB
  ex : PySem.W.exmOne K (.ref CB) (.ref CF) = some true
  kv : PySem.W.kitOne K (.ref CB) (.type "ValueError") = some true
section
variable {P : Program} {w : World} {K : PySem.W.Frag} {mg : Str → Option Value} {base : Heap}
variable {pt : Option Pt} {σ : L2.St} {F : Hp} {te : TE} {tM CF CB fI : Addr} {mc : Value}
theorem dp_strs (H : Hp) : ∀ xs : List Str, DpAll K H (xs.map V.str) (xs.map PyData.str)
  | [] => .nil
  | x :: xs => .cons (.str x) (dp_strs H xs)
theorem et_man {d : PyData} (hM : ManT K tM) (hs : SeqAt.shaped d = true) (h : EvG K pt te σ F (Is d)) : EtG pt (tTest (tOp (rInU K true) te (tC (.ref tM)))) σ F (· = !(manD.any fun z => PyData.eqv z d)) := fun H1 i g Q q =>
  h H1 i g _ fun d' v F2 H2 hd s hv => by
    subst hd
    exact ⟨d', manD, Rp.dp _ _ (Rp.mono s.inn _ _ hv), .tup (hM.sq H2) (dp_strs H2 mans), hs, man_shaped, _, rfl, q _ F2 H2 rfl s⟩
abbrev spMan (K : PySem.W.Frag) : Sp := PSp K (fun m : Str => [.str m]) (fun m => m ∈ mans) (fun m => .str m)
theorem ok_man {f : Addr} {fd : FuncData} (Fn : Fun K "check_manner" "check_manner" s_check_manner f fd) (hM : ManT K tM) (c_MANNERS : mg "MANNERS" = some (.ref tM)) : FnOk P w K mg base CX0 1 f fd ["manner"] (spMan K) := by
  refine Fn.ok sc_check_manner (PSp.len (fun _ => rfl)) (fun cdv A outer s H vs Q E hr h => ?_)
  obtain ⟨m, F, hm, e, ha, q⟩ := h
  obtain ⟨v, rfl, hv⟩ := rpAll1 ha
  obtain ⟨s1, s2⟩ := man_facts m hm
  refine ⟨_, (pss_cons (ps_if (pt_cmpR (o_ninU (K := K) (hu65 hr)) (pv 0) (pe_glob (v := .ref tM) (by rfl) c_MANNERS rfl) (by rfl)) (pss_one ps_never) pss_nil)
    (pss_one (ps_ret (pv 0)))), ?_⟩
  exact t_skip (Step.refl e .nil) ((et_man hM s1 (g_var rfl hv)).is (by rw [s2]; rfl)) fun F2 H2 s2 e2 => t_retI s2 (g_var rfl (Rp.mono e2 _ _ hv)) q
/-! ### BadManner(manner) -/
def spMI (CB : Addr) : Sp := fun vs H Q _ => ∃ a v, vs = [.ref a, v] ∧ H a = some (exo a CB none) ∧ ∀ dx, H dx = none → dx ≠ a → Q .non (upd (upd H dx (exd dx [("manner", v)])) a (exo a CB (some dx)))
theorem ok_mi {fd : FuncData} (Fn : Fun K "__init__" "BadManner.__init__" s_BadManner___init__ fI fd) (EM : ErrM K mg CF CB fI mc) : FnOk P w K mg base CX0 1 fI fd ["self", "manner"] (spMI CB) := by
  refine Fn.ok sc_BadManner___init__ (fun vs H Q E ⟨_, _, h, _⟩ => by rw [h]; rfl) (fun cdv A outer s H vs Q E hr h => ?_)
  obtain ⟨a, v, rfl, ho, q⟩ := h
  refine ⟨_, (pss_cons (ps_expr (pe_fminit (by rfl) EM.gF EM.rF EM.vF (pa_cons (pv 0) (pa_cons pe_str pa_nil)))) (pss_one (ps_ost (pv 0) (pv 1)))), ?_⟩
  exact ⟨_, rfl, a, CB, _, rfl, by decide, EM.T, ho, _, rfl, _, rfl, a, CB, rfl, EM.T, EM.no, .inl ⟨ho, q⟩⟩
/-- a manner that is none comes as argument j of n -/
def spBadN (K : PySem.W.Frag) (CB : Addr) (n j : Nat) : Sp := fun vs H _ E => ∃ d v F, vs.length = n ∧ vs[j]? = some v ∧ d ∈ badMans ∧ Ex F H ∧ Rp K F v d ∧ ∀ F2 H2 dd, Step none F H F2 H2 → Rp K F2 v d → F2 dd = some (.xd [("manner", v)]) → E (.ref CB) (some dd) H2
theorem ok_manX {f : Addr} {fd fdI : FuncData} (Fn : Fun K "check_manner" "check_manner" s_check_manner f fd) (hM : ManT K tM) (c_MANNERS : mg "MANNERS" = some (.ref tM)) (EM : ErrM K mg CF CB fI mc)
    (FI : Fun K "__init__" "BadManner.__init__" s_BadManner___init__ fI fdI) (bI : Binds K fdI ["self", "manner"] []) : FnOk P w K mg base (L2.CX P w) 3 f fd ["manner"] (spBadN K CB 1 0) := by
  have GI : FnOk P w K mg base CX0 1 fI fdI ["self", "manner"] (spMI CB) := ok_mi FI EM
  refine Fn.okX sc_check_manner (fun vs H Q E ⟨_, _, _, h, _⟩ => h) (fun cdv A outer s H vs Q E hr h => ?_)
  obtain ⟨d, v, F, hl, hv0, hd, e, hv, q⟩ := h
  obtain ⟨u, rfl⟩ : ∃ u, vs = [u] := List.length_eq_one_iff.mp hl
  obtain rfl : u = v := by simpa using hv0
  obtain ⟨s1, s2, _⟩ := bad_facts d hd
  refine ⟨_, (pss_cons (ps_if (pt_cmpR (o_ninU (K := K) (hu65 hr)) (pv 0) (pe_glob (v := .ref tM) (by rfl) c_MANNERS rfl) (by rfl)) (pss_one (ps_raise rfl (takes_of rfl rfl rfl rfl) (pmk_oex EM.T EM.iC EM.tI GI (hr.mono (by decide)) bI .nil pass0 (by rfl) EM.gB (pa_cons (pv 0) pa_nil)))) pss_nil) (pss_one (ps_ret (pv 0)))), ?_⟩
  refine t_when (b := true) (Step.refl e .nil) ((et_man hM s1 (g_var rfl hv)).is (by rw [s2]; rfl)) (fun _ F2 H2 st e2 => ?_) (fun z => by cases z)
  refine ⟨_, rfl, (by show 1 ≤ 1000; decide), fun a ha => ⟨a, u, rfl, upd_same, fun dx h1 h2 => ⟨rfl, dx, [("manner", u)], upd_same, ?_, ?_, ?_⟩⟩⟩
  · rw [upd_ne h2]; exact upd_same
  · rw [upd_ne h2] at h1; exact h1
  · rw [upd_ne h2] at h1
    have eh : upd (L2.del (upd (upd (upd H2 a (exo a CB none)) dx (exd dx [("manner", u)])) a (exo a CB (some dx))) a) dx (.xd [("manner", u)]) = upd H2 dx (.xd [("manner", u)]) := by
      funext b
      by_cases z : b = dx
      · rw [z, upd_same, upd_same]
      · rw [upd_ne z, upd_ne z]
        by_cases y : b = a
        · rw [y, L2.del_same, ha]
        · rw [L2.del_ne y, upd_ne y, upd_ne z, upd_ne y]
    rw [eh]
    have s3 : Step none F2 H2 (upd F2 dx (.xd [("manner", u)])) (upd H2 dx (.xd [("manner", u)])) := .laid st.inn .nil h1
    exact q _ _ dx (st.trans s3) (Rp.mono (e2.trans s3.sub) _ _ hv) upd_same
end
end K7

namespace K7
open PySem PySem.Spec PyProof.Rows L2 Fv Evl StX
abbrev s_places_of : Stmt := topS 20
theorem sc_places_of : FnScope ["entry", "value", "house"] ["entry", "value"] (defScope s_places_of) := ⟨rfl, rfl, rfl, by decide +kernel, rfl, by decide +kernel, by decide +kernel⟩
abbrev s_is_firm : Stmt := topS 21
theorem sc_is_firm : FnScope ["falls", "entry", "value"] ["falls", "entry", "value"] (defScope s_is_firm) := ⟨rfl, rfl, rfl, by decide +kernel, rfl, by decide +kernel, by decide +kernel⟩
abbrev s_firm_values : Stmt := topS 22
theorem sc_firm_values : FnScope ["falls", "entry", "value"] ["falls", "entry"] (defScope s_firm_values) := ⟨rfl, rfl, rfl, by decide +kernel, rfl, by decide +kernel, by decide +kernel⟩
abbrev s_hiding_lot : Stmt := topS 23
theorem sc_hiding_lot : FnScope ["falls", "entry", "value", "places", "lot"] ["falls", "entry", "value"] (defScope s_hiding_lot) := ⟨rfl, rfl, rfl, by decide +kernel, rfl, by decide +kernel, by decide +kernel⟩
abbrev s_fits : Stmt := topS 24
theorem sc_fits : FnScope ["falls", "manner", "entry", "value"] ["falls", "manner", "entry", "value"] (defScope s_fits) := ⟨rfl, rfl, rfl, by decide +kernel, rfl, by decide +kernel, by decide +kernel⟩
abbrev s_fitting_values : Stmt := topS 25
theorem sc_fitting_values : FnScope ["falls", "manner", "entries", "stand", "value"] ["falls", "manner", "entries"] (defScope s_fitting_values) := ⟨rfl, rfl, rfl, by decide +kernel, rfl, by decide +kernel, by decide +kernel⟩
abbrev s_first_unfit : Stmt := topS 26
theorem sc_first_unfit : FnScope ["falls", "manner", "entries", "value", "index"] ["falls", "manner", "entries", "value"] (defScope s_first_unfit) := ⟨rfl, rfl, rfl, by decide +kernel, rfl, by decide +kernel, by decide +kernel⟩
/-! ### mirrors -/
def at_ (e : List Int) (h : Int) : Int := e.getD h.toNat 0
def placesOf (e : List Int) (v : Int) : List Int := (hs e.length).filter fun h => decide (at_ e h = v)
def firmB (n : Nat) (ls : List (List Int)) (e : List Int) (v : Int) : Bool := !decide (lotOf n (placesOf e v) ∈ letOf n ls)
def fitsB (n : Nat) (ls : List (List Int)) (m : Str) (e : List Int) (v : Int) : Bool := if decide (m = ("sure" : Str)) = true then decide (v ∈ e) else firmB n ls e v
def unfit (n : Nat) (ls : List (List Int)) (m : Str) (es : List (List Int)) (v : Int) : Option Nat := es.findIdx? fun e => !fitsB n ls m e v
def optN : Option Nat → PyData
  | none => .none
  | some i => .int i
def optT : Option (List Int) → PyData
  | none => .none
  | some l => dT l
def fitVals (n : Nat) (ls : List (List Int)) (m : Str) : List (List Int) → List Int
  | [] => []
  | e :: es => (lotOf 4 e).filter fun v => (unfit n ls m (e :: es) v).isNone
def EntOk (n : Nat) (e : List Int) : Prop := e.length = n ∧ ∀ k ∈ e, 0 ≤ k ∧ k < ((4 : Nat) : Int)
theorem placesOf_ok {n : Nat} {e : List Int} (h : e.length = n) (v : Int) : (placesOf e v).length ≤ n ∧ ∀ k ∈ placesOf e v, 0 ≤ k ∧ k < (n : Int) := by
  subst h
  exact ⟨Nat.le_trans (List.length_filter_le _ _) (by rw [hs_len]; exact Nat.le_refl _), fun k hk => hs_mem.mp (List.mem_filter.mp hk).1⟩
inductive SrcD : PyData → List (List Int) → Prop
  | l (es : List (List Int)) : SrcD (dLT es) es
  | t (es : List (List Int)) : SrcD (dTT es) es
theorem SrcD.seq {d : PyData} {es : List (List Int)} (h : SrcD d es) : d = .list (es.map dT) ∨ d = .tuple (es.map dT) := by
  cases h
  · exact .inl rfl
  · exact .inr rfl
section
variable {P : Program} {w : World} {K : PySem.W.Frag} {mg : Str → Option Value} {base : Heap}
variable {pt : Option Pt} {σ : L2.St} {F F0 H0 H : Hp} {te ta tb : TE} {ts tr : TA} {C : Addr} {D : Ends} {tz : TS}
theorem rv_eqS {x y : Str} : RvG K rEq (.str x) (.str y) (Is (.bool (decide (x = y)))) := rv_val fun F H a b _ ha hb => by
  rw [rp_str ha, rp_str hb]
  refine ⟨.bl (decide (V.str x = V.str y)), fun Q q => ⟨rfl, q⟩, ?_⟩
  have : decide (V.str x = V.str y) = decide (x = y) := by by_cases h : x = y <;> simp [h]
  rw [this]; exact .bl _
theorem ix_int {e : List Int} {h : Int} (hh : h ∈ hs e.length) : RvG K (rIxT K) (dT e) (.int h) (Is (.int (at_ e h))) := by
  obtain ⟨h0, h1⟩ := hs_mem.mp hh
  refine rv_ixT ?_
  obtain ⟨j, rfl⟩ : ∃ j : Nat, h = (j : Int) := ⟨h.toNat, by omega⟩
  have hj : j < e.length := by omega
  refine atI_nat ?_
  rw [List.getElem?_map, List.getElem?_eq_getElem hj]
  unfold at_
  rw [show ((j : Int)).toNat = j by omega, List.getD_eq_getElem?_getD, List.getElem?_eq_getElem hj]; rfl
theorem w_lenT {e : List Int} (h : EvG K pt te σ F (Is (dT e))) (hz : e.length ≤ 100000) : WiG K pt (iRng1 (tCons (tCB (Fv.rLen K) (tCons te tNil)) tNil)) σ F (· = (hs e.length).map .int) := by
  have := w_rng1I (K := K) (pt := pt) (σ := σ) (F := F) (n := (((e.map PyData.int).length : Nat) : Int)) (gs_one (g_cbI (gs_one h) rc_lenT)) (by omega) (by rw [List.length_map]; omega)
  rw [List.length_map, show ((e.length : Nat) : Int).toNat = e.length by omega, rng_hs] at this
  exact this
/-- a def with a family ahead of its arguments -/
theorem g_famC {ι : Type} {A : ι → List PyData} {f : Nat → List (List Int) → ι → PyData} {Pn : Nat → ι → Prop} {E : XK} {i : Nat} {x : Addr} {n : Nat} {ls : List (List Int)} {ds : List PyData} (j : ι) (h0 : σ[i]? = some (some (.ref x))) (fam : Fam K C F x n ls) (hn : n ≤ 5) (hp : Pn n j) (h : EvsG K pt ts σ F (· = ds)) (hd : ds = A j) :
    EvG K pt (tCall (spFam K C A f Pn) [] E (tCons (tVar i) ts)) σ F (Is (f n ls j)) := fun H1 e g Q q => by
  refine ⟨_, h0, h H1 e g _ fun ds' vs F2 H2 hd' s hv => ?_⟩
  have hd'' : ds' = ds := hd'
  subst hd''; subst hd
  exact ⟨x, n, ls, j, F2, vs, by simp, hn, hp, s.inn, fam.mono s.sub, hv, fun v F3 H3 s3 hv3 => q _ v F3 H3 rfl (s.trans (s3.lift s.good)) hv3⟩
theorem g_flets {E : XK} {i : Nat} {x : Addr} {n : Nat} {ls : List (List Int)} {l : List Int} (h0 : σ[i]? = some (some (.ref x))) (fam : Fam K C F x n ls) (hn : n ≤ 5) (hl : l.length ≤ 60 ∧ ∀ k ∈ l, 0 ≤ k ∧ k < (n : Int)) (h : EvG K pt te σ F (Is (dT l))) :
    EvG K pt (tMeth C "lets" (spFLets K C) [] E (tVar i) (tCons te tNil)) σ F (Is (.bool (decide (lotOf n l ∈ letOf n ls)))) := by
  obtain ⟨dx, lt, d, o1, o2, o3, o4⟩ := fam.ex
  exact g_methD h0 o1 rfl (gs_one h) fun F1 H1 vs e1 e2 hv Q q => ⟨x, n, ls, l, F1, vs, rfl, hn, hl, e2, fam.mono e1, hv, q⟩
theorem fam_len {ι : Type} {A : ι → List PyData} {f : Nat → List (List Int) → ι → PyData} {Pn : Nat → ι → Prop} {k : Nat} (h : ∀ i, (A i).length = k) : ∀ vs H Q E, spFam K C A f Pn vs H Q E → vs.length = k + 1 := fun vs H Q E ⟨_, _, _, i, _, _, e, _, _, _, _, r, _⟩ => by rw [e, List.length_cons, r.length, h]
/-! ### places -/
abbrev spPlaces (K : PySem.W.Frag) : Sp := PSp K (fun i : List Int × Int => [dT i.1, .int i.2]) (fun i => i.1.length ≤ 1000) (fun i => dT (placesOf i.1 i.2))
theorem ok_places {f : Addr} {fd : FuncData} (Fn : Fun K "places_of" "places_of" s_places_of f fd) (T : Tx mg) : FnOk P w K mg base CX0 1 f fd ["entry", "value"] (spPlaces K) := by
  refine Fn.ok sc_places_of (PSp.len (fun _ => rfl)) (fun cdv A outer s H vs Q E hr h => ?_)
  obtain ⟨⟨a, b⟩, F, hz, e, ha, q⟩ := h
  simp only at hz
  obtain ⟨v, x, rfl, hv, hx⟩ := rpAll2 ha
  refine ⟨_, (pss_one (ps_ret (pe_callTy (c_tup (K := K)) (by rfl) T.tuple (by decide +kernel) (pa_cons (pe_lc (own := [("house", 2)]) (g := gName 2) rfl sc_places_of.nd (pi_range1 (by rfl) T.range (pa_cons (pe_callB (c_len (K := K)) (by rfl) T.len (by decide +kernel) (pa_cons (pv 0) pa_nil)) pa_nil)) (blkOk_by (own := [("house", 2)]) (N := ["entry", "value", "house"]) (sc := (defScope s_places_of)) (by decide +kernel)) (fun _ _ _ _ _ => pg_name (i := 2) sc_places_of.nd rfl (by first | exact Or.inl rfl | exact Or.inr rfl)) (fun _ _ _ _ _ => (pts_one (pt_cmpR op_eq (pe_ix (o_ixT (K := K)) (pv 0) (pv 2) (fun _ _ => rfl)) (pv 1) (nomark _)))) (fun _ _ _ _ _ => (pv 2))) pa_nil)))), ?_⟩
  exact t_retI (K := K) (Step.refl e .nil) (g_cbI (gs_one (g_lcE PyData.int (hs a.length) (fun h => decide (at_ a h = b)) PyData.int (w_lenT (e := a) (g_var rfl hv) (Nat.le_trans hz (by decide))) (by rw [hs_len]; omega) (fun _ => rfl)
    (fun h hh F' e' u hu => et_of (g_opI (g_opI (g_var rfl (Rp.mono e' _ _ hv)) (g_var rfl hu) (ix_int hh)) (g_var rfl (Rp.mono e' _ _ hx)) rv_eqI)) (fun h _ _ F' e' u hu => g_var rfl hu))) rc_tupL) q
abbrev spFirm (K : PySem.W.Frag) (C : Addr) : Sp := spFam K C (fun i : List Int × Int => [dT i.1, .int i.2]) (fun n ls i => .bool (firmB n ls i.1 i.2)) (fun n i => i.1.length = n)
theorem ok_firm {f fP fL : Addr} {fd fdP fdL : FuncData} (Fn : Fun K "is_firm" "is_firm" s_is_firm f fd) (T : Tx mg) (FC : FallsC K C)
    (F_places_of : Fun K "places_of" "places_of" s_places_of fP fdP) (b_places_of : Binds K fdP ["entry", "value"] []) (g_places_of : mg "places_of" = some (.ref fP))
    (m_lets : Meth K C "lets" fL) (G_lets : FnOk P w K mg base CX0 1 fL fdL ["self", "lot"] (spFLets K C)) (b_lets : Binds K fdL ["self", "lot"] []) : FnOk P w K mg base CX0 2 f fd ["falls", "entry", "value"] (spFirm K C) := by
  have G_places_of : FnOk P w K mg base CX0 1 fP fdP ["entry", "value"] (spPlaces K) := ok_places F_places_of T
  refine Fn.ok sc_is_firm (fam_len (fun _ => rfl)) (fun cdv A outer s H vs Q E hr h => ?_)
  obtain ⟨x, n, ls, ⟨a, b⟩, F, as, rfl, hn, hl, e, fam, ha, q⟩ := h
  simp only at hl
  obtain ⟨v, y, rfl, hv, hy⟩ := rpAll2 ha
  refine ⟨_, (pss_one (ps_ret (pe_not (pe_meth (pv 0) FC.cl m_lets G_lets (hr.mono (by decide)) b_lets .nil pass0 (pa_cons (pe_call G_places_of (hr.mono (by decide)) (by rfl) g_places_of F_places_of.kp b_places_of .nil pass0 (pa_cons (pv 1) (pa_cons (pv 2) pa_nil))) pa_nil))))), ?_⟩
  obtain ⟨p1, p2⟩ := placesOf_ok hl b
  exact t_retI (K := K) (Step.refl e .nil) (g_notV (g_flets (n := n) rfl fam hn ⟨by omega, p2⟩ (g_call (a, b) (gs_two (g_var rfl hv) (g_var rfl hy)) rfl (by simp only; omega)))) q
abbrev spFirmV (K : PySem.W.Frag) (C : Addr) : Sp := spFam K C (fun i : List Int => [dT i]) (fun n ls i => dT ((lotOf 4 i).filter fun v => firmB n ls i v)) (fun n i => EntOk n i)
theorem lot4_len (e : List Int) : (lotOf 4 e).length ≤ 4 := lotOf_len 4 e
theorem ok_firmV {f fF : Addr} {fd fdF : FuncData} (Fn : Fun K "firm_values" "firm_values" s_firm_values f fd) (T : Tx mg)
    (F_is_firm : Fun K "is_firm" "is_firm" s_is_firm fF fdF) (b_is_firm : Binds K fdF ["falls", "entry", "value"] []) (g_is_firm : mg "is_firm" = some (.ref fF)) (G_is_firm : FnOk P w K mg base CX0 2 fF fdF ["falls", "entry", "value"] (spFirm K C)) : FnOk P w K mg base CX0 3 f fd ["falls", "entry"] (spFirmV K C) := by
  refine Fn.ok sc_firm_values (fam_len (fun _ => rfl)) (fun cdv A outer s H vs Q E hr h => ?_)
  obtain ⟨x, n, ls, a, F, as, rfl, hn, ⟨hl, hb⟩, e, fam, ha, q⟩ := h
  obtain ⟨v, rfl, hv⟩ := rpAll1 ha
  refine ⟨_, (pss_one (ps_ret (pe_callTy (c_tup (K := K)) (by rfl) T.tuple (by decide +kernel) (pa_cons (pe_lc (own := [("value", 2)]) (g := gName 2) rfl sc_firm_values.nd (i_list (K := K) (pe_callB (c_sortedSet (w := w)) (by rfl) T.sorted (by decide +kernel) (pa_cons (pe_callTy (c_setT (K := K) (w := w)) (by rfl) T.set (by decide +kernel) (pa_cons (pv 1) pa_nil)) pa_nil))) (blkOk_by (own := [("value", 2)]) (N := ["falls", "entry", "value"]) (sc := (defScope s_firm_values)) (by decide +kernel)) (fun _ _ _ _ _ => pg_name (i := 2) sc_firm_values.nd rfl (by first | exact Or.inl rfl | exact Or.inr rfl)) (fun _ _ _ _ _ => (pts_one (pt_val (pe_call G_is_firm (hr.mono (by decide)) (by rfl) g_is_firm F_is_firm.kp b_is_firm .nil pass0 (pa_cons (pv 0) (pa_cons (pv 1) (pa_cons (pv 2) pa_nil))))))) (fun _ _ _ _ _ => (pv 2))) pa_nil)))), ?_⟩
  have hw : EvG K none (tCB (rSortedSet w) (tCons (tCB (rSetT K w) (tCons (tVar 1) tNil)) tNil)) (start ["falls", "entry", "value"] [.ref x, v]) F (Is (.list ((lotOf 4 a).map .int))) := (g_sortedSet (g_var rfl hv) (by omega)).imp fun d hd => by
    obtain ⟨ms, rfl, hp, hm⟩ := hd
    rw [sorted_is hp hm hb]
  refine t_retI (K := K) (Step.refl e .nil) (g_cbI (gs_one (g_lcE PyData.int (lotOf 4 a) (fun v => firmB n ls a v) PyData.int (w_listI hw) (by have := lot4_len a; omega) (fun _ => rfl)
    (fun h hh F' e' u hu => et_B (g_famC (a, h) rfl (fam.mono e') hn hl (gs_two (g_var rfl (Rp.mono e' _ _ hv)) (g_var rfl hu)) rfl)) (fun h _ _ F' e' u hu => g_var rfl hu))) rc_tupL) q
/-! ### hiding lots -/
abbrev spHide (K : PySem.W.Frag) (C : Addr) : Sp := spFam K C (fun i : List Int × Int => [dT i.1, .int i.2]) (fun n ls i => optT ((famLots n ls).find? fun l => within (placesOf i.1 i.2) l)) (fun n i => i.1.length = n)
theorem ok_hide {f fP fI : Addr} {fd fdP fdI : FuncData} (Fn : Fun K "hiding_lot" "hiding_lot" s_hiding_lot f fd) (T : Tx mg) (FC : FallsC K C)
    (F_places_of : Fun K "places_of" "places_of" s_places_of fP fdP) (b_places_of : Binds K fdP ["entry", "value"] []) (g_places_of : mg "places_of" = some (.ref fP))
    (F_lot_within : Fun K "lot_within" "lot_within" s_lot_within fI fdI) (b_lot_within : Binds K fdI ["one", "other"] []) (g_lot_within : mg "lot_within" = some (.ref fI)) : FnOk P w K mg base CX0 2 f fd ["falls", "entry", "value"] (spHide K C) := by
  have G_places_of : FnOk P w K mg base CX0 1 fP fdP ["entry", "value"] (spPlaces K) := ok_places F_places_of T
  have G_lot_within : FnOk P w K mg base CX0 1 fI fdI ["one", "other"] (spWithin K) := ok_within F_lot_within T
  refine Fn.ok sc_hiding_lot (fam_len (fun _ => rfl)) (fun cdv A outer s H vs Q E hr h => ?_)
  obtain ⟨x, n, ls, ⟨a, b⟩, F, as, rfl, hn, hl, e, fam, ha, q⟩ := h
  simp only at hl
  obtain ⟨v, y, rfl, hv, hy⟩ := rpAll2 ha
  refine ⟨_, (pss_cons (ps_set (i := 3) sc_hiding_lot.nd rfl (by first | exact Or.inl rfl | exact Or.inr rfl) (pe_call G_places_of (hr.mono (by decide)) (by rfl) g_places_of F_places_of.kp b_places_of .nil pass0 (pa_cons (pv 1) (pa_cons (pv 2) pa_nil))))
    (pss_cons (ps_for PassesOwn.never rfl (i_tup (K := K) (e_fld (K := K) (pv 0) rfl)) (pg_name (i := 4) sc_hiding_lot.nd rfl (by first | exact Or.inl rfl | exact Or.inr rfl)) (pss_one (ps_if (pt_val (pe_call G_lot_within (hr.mono (by decide)) (by rfl) g_lot_within F_lot_within.kp b_lot_within .nil pass0 (pa_cons (pv 3) (pa_cons (pv 4) pa_nil)))) (pss_one (ps_ret (pv 4))) pss_nil)))
    (pss_one (ps_ret pe_non)))), ?_⟩
  obtain ⟨p1, p2⟩ := placesOf_ok hl b
  have few := famLots_few hn ls
  simp only at q
  generalize hL : famLots n ls = L at few q
  refine t_asgI (K := K) (Step.refl e .nil) (g_call (a, b) (gs_two (g_var rfl hv) (g_var rfl hy)) rfl (by simp only; omega)) fun pv F1 H1 s1 e1 hpv => ?_
  have hpv' : Rp K F1 pv (dT (placesOf a b)) := hpv
  obtain ⟨dx, lt, d, o1, o2, o3, o4⟩ := fam.ex
  have o3' : Rp K F lt (dTT L) := by rw [← hL]; exact o3
  refine t_for (K := K) (ds := L.map dT) s1 (w_tupI (g_fld rfl (e1 _ _ o1) FC.cl FC.nL rfl (Rp.mono e1 _ _ o3'))) (fun i σ' F' => (∃ z, σ' = [some (.ref x), some v, some y, some pv, z]) ∧ ∀ o ∈ L.take i, within (placesOf a b) o = false) (fun F2 e2 => ⟨⟨none, rfl⟩, by simp⟩) (fun i d hd σ' F' H' u hI s' e' hu N hN => ?_) (fun σ' F' H' hI s' e' => ?_)
  · obtain ⟨⟨z, rfl⟩, hno⟩ := hI
    obtain ⟨o, ho, rfl⟩ := get_map hd
    refine t_if1 (b := within (placesOf a b) o) s' (et_B (g_call (placesOf a b, o) (gs_two (g_var rfl (Rp.mono e' _ _ hpv')) (g_var rfl hu)) rfl (by simp only; omega))) (fun hb F2 H2 s2 e2 => ?_) (fun hb F2 H2 s2 e2 => ?_)
    · refine t_retI (K := K) s2 (g_var rfl (Rp.mono e2 _ _ hu)) fun v3 F3 H3 s3 hv3 => q v3 F3 H3 s3 ?_
      have : L.find? (fun l => within (placesOf a b) l) = some o := by
        rw [List.find?_eq_some_iff_append]
        obtain ⟨hk1, hk2⟩ := List.getElem?_eq_some_iff.mp ho
        refine ⟨hb, L.take i, L.drop (i + 1), ?_, fun z hz => by simp [hno z hz]⟩
        conv => lhs; rw [← List.take_append_drop i L]
        rw [List.drop_eq_getElem_cons hk1, hk2]
      rw [this]; exact hv3
    · refine hN _ F2 H2 ⟨⟨_, rfl⟩, fun z hz => ?_⟩ s2 e2
      rw [take_succA ho] at hz
      rcases List.mem_append.mp hz with m | m
      · exact hno z m
      · rw [List.mem_singleton.mp m]; exact hb
  · obtain ⟨⟨z, rfl⟩, hno⟩ := hI
    refine t_retI (K := K) s' g_non fun v3 F3 H3 s3 hv3 => q v3 F3 H3 s3 ?_
    have : L.find? (fun l => within (placesOf a b) l) = none := by
      rw [List.find?_eq_none]
      rw [List.length_map, List.take_length] at hno
      intro o ho
      rw [hno o ho]; simp
    rw [this]; exact hv3
end
end K7

namespace K7
open PySem PySem.Spec PyProof.Rows L2 Fv Evl StX
section
variable {P : Program} {w : World} {K : PySem.W.Frag} {mg : Str → Option Value} {base : Heap}
variable {pt : Option Pt} {σ : L2.St} {F F0 H0 H : Hp} {te ta tb : TE} {ts tr : TA} {C CB : Addr} {D : Ends} {tz : TS}
theorem mans_ok {m : Str} (h : m ∈ mans) : m ∈ mans := h
/-- the manner is judged ahead of all else: it is none -/
theorem t_badman {E : XK} {i : Nat} {v : V} {d : PyData} (s : Step none F0 H0 F H) (hv : σ[i]? = some (some v)) (hd : d ∈ badMans) (hr : Rp K F v d)
    (q : ∀ F2 H2 dd, Step none F0 H0 F2 H2 → Rp K F2 v d → F2 dd = some (.xd [("manner", v)]) → E (.ref CB) (some dd) H2) : tSeq (tDrop (tCall (spBadN K CB 1 0) [] E (tCons (tVar i) tNil))) tz D σ H :=
  ⟨v, hv, d, v, F, rfl, rfl, hd, s.inn, hr, fun F2 H2 dd s2 h1 h2 => q F2 H2 dd (s.trans s2) h1 h2⟩
/-! ### fits -/
abbrev spFits (K : PySem.W.Frag) (C : Addr) : Sp := spFam K C (fun i : Str × List Int × Int => [.str i.1, dT i.2.1, .int i.2.2]) (fun n ls i => .bool (fitsB n ls i.1 i.2.1 i.2.2)) (fun n i => i.1 ∈ mans ∧ i.2.1.length = n)
theorem ok_fits {f fF fM : Addr} {fd fdF fdM : FuncData} (Fn : Fun K "fits" "fits" s_fits f fd) (T : Tx mg)
    (F_check_manner : Fun K "check_manner" "check_manner" s_check_manner fM fdM) (b_check_manner : Binds K fdM ["manner"] []) (g_check_manner : mg "check_manner" = some (.ref fM)) (G_check_manner : FnOk P w K mg base CX0 1 fM fdM ["manner"] (spMan K))
    (F_is_firm : Fun K "is_firm" "is_firm" s_is_firm fF fdF) (b_is_firm : Binds K fdF ["falls", "entry", "value"] []) (g_is_firm : mg "is_firm" = some (.ref fF)) (G_is_firm : FnOk P w K mg base CX0 2 fF fdF ["falls", "entry", "value"] (spFirm K C)) :
    FnOk P w K mg base CX0 3 f fd ["falls", "manner", "entry", "value"] (spFits K C) := by
  refine Fn.ok sc_fits (fam_len (fun _ => rfl)) (fun cdv A outer s H vs Q E hr h => ?_)
  obtain ⟨x, n, ls, ⟨m, a, b⟩, F, as, rfl, hn, ⟨hm, hl⟩, e, fam, ha, q⟩ := h
  simp only at hm hl
  obtain ⟨u, v, y, rfl, hu, hv, hy⟩ := rpAll3 ha
  refine ⟨_, (pss_cons (ps_expr (pe_call G_check_manner (hr.mono (by decide)) (by rfl) g_check_manner F_check_manner.kp b_check_manner .nil pass0 (pa_cons (pv 1) pa_nil)))
    (pss_cons (ps_if (pt_cmpR op_eq (pv 1) pe_str (nomark _)) (pss_one (ps_ret (pe_cmpR (o_in (K := K)) (pv 3) (pv 2) (by rfl)))) pss_nil)
    (pss_one (ps_ret (pe_call G_is_firm (hr.mono (by decide)) (by rfl) g_is_firm F_is_firm.kp b_is_firm .nil pass0 (pa_cons (pv 0) (pa_cons (pv 2) (pa_cons (pv 3) pa_nil)))))))), ?_⟩
  refine t_drop (K := K) (Step.refl e .nil) (g_call m (gs_one (g_var rfl hu)) rfl hm) fun F1 H1 s1 e1 => ?_
  refine t_when (b := decide (m = ("sure" : Str))) s1 (et_of (g_opI (g_var rfl (Rp.mono e1 _ _ hu)) g_str rv_eqS)) (fun hb F2 H2 s2 e2 => ?_) (fun hb F2 H2 s2 e2 => ?_)
  · refine t_retI (K := K) s2 (g_opI (g_var rfl (Rp.mono (e1.trans e2) _ _ hy)) (g_var rfl (Rp.mono (e1.trans e2) _ _ hv)) rv_inT) fun v3 F3 H3 s3 hv3 => q v3 F3 H3 s3 ?_
    show Rp K F3 v3 (.bool (fitsB n ls m a b))
    unfold fitsB
    rw [if_pos hb]; exact hv3
  · refine t_retI (K := K) s2 (g_famC (a, b) rfl (fam.mono (e1.trans e2)) hn hl (gs_two (g_var rfl (Rp.mono (e1.trans e2) _ _ hv)) (g_var rfl (Rp.mono (e1.trans e2) _ _ hy))) rfl) fun v3 F3 H3 s3 hv3 => q v3 F3 H3 s3 ?_
    show Rp K F3 v3 (.bool (fitsB n ls m a b))
    unfold fitsB
    rw [if_neg (by rw [hb]; simp)]; exact hv3
theorem ok_fitsX {f fF fM : Addr} {fd fdF fdM : FuncData} (Fn : Fun K "fits" "fits" s_fits f fd) (T : Tx mg)
    (F_check_manner : Fun K "check_manner" "check_manner" s_check_manner fM fdM) (b_check_manner : Binds K fdM ["manner"] []) (g_check_manner : mg "check_manner" = some (.ref fM)) (GX_check_manner : FnOk P w K mg base (L2.CX P w) 3 fM fdM ["manner"] (spBadN K CB 1 0))
    (F_is_firm : Fun K "is_firm" "is_firm" s_is_firm fF fdF) (b_is_firm : Binds K fdF ["falls", "entry", "value"] []) (g_is_firm : mg "is_firm" = some (.ref fF)) (G_is_firm : FnOk P w K mg base CX0 2 fF fdF ["falls", "entry", "value"] (spFirm K C)) :
    FnOk P w K mg base (L2.CX P w) 5 f fd ["falls", "manner", "entry", "value"] (spBadN K CB 4 1) := by
  refine Fn.okX sc_fits (fun vs H Q E ⟨_, _, _, h, _⟩ => h) (fun cdv A outer s H vs Q E hr h => ?_)
  obtain ⟨d, v, F, hl, hv0, hd, e, hv, q⟩ := h
  obtain ⟨x0, x1, x2, x3, rfl⟩ : ∃ x0 x1 x2 x3, vs = [x0, x1, x2, x3] := by
    match vs, hl with
    | [a, b, c, d], _ => exact ⟨a, b, c, d, rfl⟩
  obtain rfl : x1 = v := by simpa using hv0
  exact ⟨_, (pss_cons (ps_expr (pe_call GX_check_manner (hr.mono (by decide)) (by rfl) g_check_manner F_check_manner.kp b_check_manner .nil (passes_call (takes_of rfl rfl rfl rfl) fun _ _ _ _ h => h) (pa_cons (pv 1) pa_nil)))
    (pss_cons (ps_if (pt_cmpR op_eq (pv 1) pe_str (nomark _)) (pss_one (ps_ret (pe_cmpR (o_in (K := K)) (pv 3) (pv 2) (by rfl)))) pss_nil)
    (pss_one (ps_ret (pe_call G_is_firm (hr.mono (by decide)) (by rfl) g_is_firm F_is_firm.kp b_is_firm .nil pass0 (pa_cons (pv 0) (pa_cons (pv 2) (pa_cons (pv 3) pa_nil)))))))), t_badman (Step.refl e .nil) rfl hd hv q⟩
/-! ### the first input that a value does not fit -/
abbrev spUnfit (K : PySem.W.Frag) (C : Addr) : Sp := spFam K C (fun i : Str × PyData × List (List Int) × Int => [.str i.1, i.2.1, .int i.2.2.2]) (fun n ls i => optN (unfit n ls i.1 i.2.2.1 i.2.2.2)) (fun n i => i.1 ∈ mans ∧ SrcD i.2.1 i.2.2.1 ∧ i.2.2.1.length ≤ 100 ∧ ∀ e ∈ i.2.2.1, e.length = n)
theorem ok_unfit {f fF fM : Addr} {fd fdF fdM : FuncData} (Fn : Fun K "first_unfit" "first_unfit" s_first_unfit f fd) (T : Tx mg)
    (F_check_manner : Fun K "check_manner" "check_manner" s_check_manner fM fdM) (b_check_manner : Binds K fdM ["manner"] []) (g_check_manner : mg "check_manner" = some (.ref fM)) (G_check_manner : FnOk P w K mg base CX0 1 fM fdM ["manner"] (spMan K))
    (F_fits : Fun K "fits" "fits" s_fits fF fdF) (b_fits : Binds K fdF ["falls", "manner", "entry", "value"] []) (g_fits : mg "fits" = some (.ref fF)) (G_fits : FnOk P w K mg base CX0 3 fF fdF ["falls", "manner", "entry", "value"] (spFits K C)) :
    FnOk P w K mg base CX0 4 f fd ["falls", "manner", "entries", "value"] (spUnfit K C) := by
  refine Fn.ok sc_first_unfit (fam_len (fun _ => rfl)) (fun cdv A outer s H vs Q E hr h => ?_)
  obtain ⟨x, n, ls, ⟨m, src, es, b⟩, F, as, rfl, hn, ⟨hm, hsrc, hz, hes⟩, e, fam, ha, q⟩ := h
  simp only at hm hsrc hz hes
  obtain ⟨u, v, y, rfl, hu, hv, hy⟩ := rpAll3 ha
  simp only at hv
  refine ⟨_, (pss_cons (ps_expr (pe_call G_check_manner (hr.mono (by decide)) (by rfl) g_check_manner F_check_manner.kp b_check_manner .nil pass0 (pa_cons (pv 1) pa_nil)))
    (pss_cons (ps_for PassesOwn.never rfl (pi_range1 (by rfl) T.range (pa_cons (pe_callB (c_len (K := K)) (by rfl) T.len (by decide +kernel) (pa_cons (pv 2) pa_nil)) pa_nil)) (pg_name (i := 4) sc_first_unfit.nd rfl (by first | exact Or.inl rfl | exact Or.inr rfl)) (pss_one (ps_if (pt_not (pt_val (pe_call G_fits (hr.mono (by decide)) (by rfl) g_fits F_fits.kp b_fits .nil pass0 (pa_cons (pv 0) (pa_cons (pv 1) (pa_cons (pe_ix (o_ix (K := K)) (pv 2) (pv 4) (fun _ _ => rfl)) (pa_cons (pv 3) pa_nil))))))) (pss_one (ps_ret (pv 4))) pss_nil)))
    (pss_one (ps_ret pe_non)))), ?_⟩
  refine t_drop (K := K) (Step.refl e .nil) (g_call m (gs_one (g_var rfl hu)) rfl hm) fun F1 H1 s1 e1 => ?_
  refine t_for (K := K) (ds := rng 0 (es.length : Int).toNat) s1 (w_rng1I (n := (es.length : Int)) (gs_one ((g_cbI (gs_one (g_var rfl (Rp.mono e1 _ _ hv))) (rc_lenS hsrc.seq)).is (by simp))) (by omega) (by omega))
    (fun i σ' F' => (∃ z, σ' = [some (.ref x), some u, some v, some y, z]) ∧ ∀ k, (hk : k < es.length) → k < i → fitsB n ls m es[k] b = true) (fun F2 e2 => ⟨⟨none, rfl⟩, fun k _ hk => absurd hk (Nat.not_lt_zero _)⟩) (fun i d hd σ' F' H' z hI s' e' hz' N hN => ?_) (fun σ' F' H' hI s' e' => ?_)
  · obtain ⟨⟨z0, rfl⟩, hpre⟩ := hI
    have hil : i < es.length := by
      have := (List.getElem?_eq_some_iff.mp hd).1
      rw [rng_len] at this
      simpa using this
    have ed : d = .int (i : Int) := by
      rw [rng_get (by simpa using hil)] at hd
      have := Option.some.inj hd
      rw [← this]; simp
    subst ed
    have e2 := e1.trans e'
    have hat : atI (es.map dT) (i : Int) = some (dT es[i]) := atI_nat (by rw [List.getElem?_map, List.getElem?_eq_getElem hil]; rfl)
    refine t_if1 (b := !fitsB n ls m es[i] b) s' (et_not (et_B (g_famC (m, es[i], b) rfl (fam.mono e2) hn ⟨hm, hes _ (List.getElem_mem hil)⟩ (gs_three (g_var rfl (Rp.mono e2 _ _ hu)) (g_opI (g_var rfl (Rp.mono e2 _ _ hv)) (g_var rfl hz') (rv_ix hsrc.seq hat)) (g_var rfl (Rp.mono e2 _ _ hy))) rfl))) (fun hb F2 H2 s2 e3 => ?_) (fun hb F2 H2 s2 e3 => ?_)
    · refine t_retI (K := K) s2 (g_var rfl (Rp.mono e3 _ _ hz')) fun v3 F3 H3 s3 hv3 => q v3 F3 H3 s3 ?_
      show Rp K F3 v3 (optN (unfit n ls m es b))
      have : unfit n ls m es b = some i := by
        unfold unfit
        rw [List.findIdx?_eq_some_iff_getElem]
        exact ⟨hil, hb, fun j hj => by simp [hpre j (by omega) hj]⟩
      rw [this]; exact hv3
    · refine hN _ F2 H2 ⟨⟨_, rfl⟩, fun k hk hki => ?_⟩ s2 e3
      by_cases z : k < i
      · exact hpre k hk z
      · have : k = i := by omega
        subst this
        simpa using hb
  · obtain ⟨⟨z0, rfl⟩, hpre⟩ := hI
    rw [rng_len] at hpre
    refine t_retI (K := K) s' g_non fun v3 F3 H3 s3 hv3 => q v3 F3 H3 s3 ?_
    show Rp K F3 v3 (optN (unfit n ls m es b))
    have : unfit n ls m es b = none := by
      unfold unfit
      rw [List.findIdx?_eq_none_iff]
      intro e he
      obtain ⟨k, hk, rfl⟩ := List.getElem_of_mem he
      rw [hpre k hk (by simpa using hk)]; rfl
    rw [this]; exact hv3
theorem ok_unfitX {f fF fM : Addr} {fd fdF fdM : FuncData} (Fn : Fun K "first_unfit" "first_unfit" s_first_unfit f fd) (T : Tx mg)
    (F_check_manner : Fun K "check_manner" "check_manner" s_check_manner fM fdM) (b_check_manner : Binds K fdM ["manner"] []) (g_check_manner : mg "check_manner" = some (.ref fM)) (GX_check_manner : FnOk P w K mg base (L2.CX P w) 3 fM fdM ["manner"] (spBadN K CB 1 0))
    (F_fits : Fun K "fits" "fits" s_fits fF fdF) (b_fits : Binds K fdF ["falls", "manner", "entry", "value"] []) (g_fits : mg "fits" = some (.ref fF)) (G_fits : FnOk P w K mg base CX0 3 fF fdF ["falls", "manner", "entry", "value"] (spFits K C)) :
    FnOk P w K mg base (L2.CX P w) 5 f fd ["falls", "manner", "entries", "value"] (spBadN K CB 4 1) := by
  refine Fn.okX sc_first_unfit (fun vs H Q E ⟨_, _, _, h, _⟩ => h) (fun cdv A outer s H vs Q E hr h => ?_)
  obtain ⟨d, v, F, hl, hv0, hd, e, hv, q⟩ := h
  obtain ⟨x0, x1, x2, x3, rfl⟩ : ∃ x0 x1 x2 x3, vs = [x0, x1, x2, x3] := by
    match vs, hl with
    | [a, b, c, d], _ => exact ⟨a, b, c, d, rfl⟩
  obtain rfl : x1 = v := by simpa using hv0
  exact ⟨_, (pss_cons (ps_expr (pe_call GX_check_manner (hr.mono (by decide)) (by rfl) g_check_manner F_check_manner.kp b_check_manner .nil (passes_call (takes_of rfl rfl rfl rfl) fun _ _ _ _ h => h) (pa_cons (pv 1) pa_nil)))
    (pss_cons (ps_for (passes_of rfl) rfl (pi_range1 (by rfl) T.range (pa_cons (pe_callB (c_len (K := K)) (by rfl) T.len (by decide +kernel) (pa_cons (pv 2) pa_nil)) pa_nil)) (pg_name (i := 4) sc_first_unfit.nd rfl (by first | exact Or.inl rfl | exact Or.inr rfl)) (pss_one (ps_if (pt_not (pt_val (pe_call G_fits (hr.mono (by decide)) (by rfl) g_fits F_fits.kp b_fits .nil pass0 (pa_cons (pv 0) (pa_cons (pv 1) (pa_cons (pe_ix (o_ix (K := K)) (pv 2) (pv 4) (fun _ _ => rfl)) (pa_cons (pv 3) pa_nil))))))) (pss_one (ps_ret (pv 4))) pss_nil)))
    (pss_one (ps_ret pe_non)))), t_badman (Step.refl e .nil) rfl hd hv q⟩
/-! ### the values that fit several inputs -/
abbrev spFitting (K : PySem.W.Frag) (C : Addr) : Sp := spFam K C (fun i : Str × PyData × List (List Int) => [.str i.1, i.2.1]) (fun n ls i => dT (fitVals n ls i.1 i.2.2)) (fun n i => i.1 ∈ mans ∧ SrcD i.2.1 i.2.2 ∧ i.2.2.length ≤ 100 ∧ ∀ e ∈ i.2.2, EntOk n e)
theorem ok_fitting {f fF fM : Addr} {fd fdF fdM : FuncData} (Fn : Fun K "fitting_values" "fitting_values" s_fitting_values f fd) (T : Tx mg)
    (F_check_manner : Fun K "check_manner" "check_manner" s_check_manner fM fdM) (b_check_manner : Binds K fdM ["manner"] []) (g_check_manner : mg "check_manner" = some (.ref fM)) (G_check_manner : FnOk P w K mg base CX0 1 fM fdM ["manner"] (spMan K))
    (F_first_unfit : Fun K "first_unfit" "first_unfit" s_first_unfit fF fdF) (b_first_unfit : Binds K fdF ["falls", "manner", "entries", "value"] []) (g_first_unfit : mg "first_unfit" = some (.ref fF)) (G_first_unfit : FnOk P w K mg base CX0 4 fF fdF ["falls", "manner", "entries", "value"] (spUnfit K C)) :
    FnOk P w K mg base CX0 5 f fd ["falls", "manner", "entries"] (spFitting K C) := by
  refine Fn.ok sc_fitting_values (fam_len (fun _ => rfl)) (fun cdv A outer s H vs Q E hr h => ?_)
  obtain ⟨x, n, ls, ⟨m, src, es⟩, F, as, rfl, hn, ⟨hm, hsrc, hz, hes⟩, e, fam, ha, q⟩ := h
  simp only at hm hsrc hz hes
  obtain ⟨u, v, rfl, hu, hv⟩ := rpAll2 ha
  simp only at hv
  refine ⟨_, (pss_cons (ps_expr (pe_call G_check_manner (hr.mono (by decide)) (by rfl) g_check_manner F_check_manner.kp b_check_manner .nil pass0 (pa_cons (pv 1) pa_nil)))
    (pss_cons (ps_if (pt_cmpR op_eq (pe_callB (c_len (K := K)) (by rfl) T.len (by decide +kernel) (pa_cons (pv 2) pa_nil)) pe_int (nomark _)) (pss_one (ps_ret (pe_tup pa_nil))) pss_nil)
    (pss_cons (ps_set (i := 3) sc_fitting_values.nd rfl (by first | exact Or.inl rfl | exact Or.inr rfl) (pe_callB (c_sortedSet (w := w)) (by rfl) T.sorted (by decide +kernel) (pa_cons (pe_callTy (c_setT (K := K) (w := w)) (by rfl) T.set (by decide +kernel) (pa_cons (pe_ix (o_ix (K := K)) (pv 2) pe_int (fun _ _ => rfl)) pa_nil)) pa_nil)))
    (pss_one (ps_ret (pe_callTy (c_tup (K := K)) (by rfl) T.tuple (by decide +kernel) (pa_cons (pe_lc (own := [("value", 4)]) (g := gName 4) rfl sc_fitting_values.nd (i_list (K := K) (pv 3)) (blkOk_by (own := [("value", 4)]) (N := ["falls", "manner", "entries", "stand", "value"]) (sc := (defScope s_fitting_values)) (by decide +kernel)) (fun _ _ _ _ _ => pg_name (i := 4) sc_fitting_values.nd rfl (by first | exact Or.inl rfl | exact Or.inr rfl)) (fun _ _ _ _ _ => (pts_one (pt_cmpR op_isN (pe_call G_first_unfit (hr.mono (by decide)) (by rfl) g_first_unfit F_first_unfit.kp b_first_unfit .nil pass0 (pa_cons (pv 0) (pa_cons (pv 1) (pa_cons (pv 2) (pa_cons (pv 4) pa_nil))))) pe_non (nomark _)))) (fun _ _ _ _ _ => (pv 4))) pa_nil))))))), ?_⟩
  refine t_drop (K := K) (Step.refl e .nil) (g_call m (gs_one (g_var rfl hu)) rfl hm) fun F1 H1 s1 e1 => ?_
  refine t_when (b := decide (((es.map dT).length : Int) = 0)) s1 (et_of (g_opI (g_cbI (gs_one (g_var rfl (Rp.mono e1 _ _ hv))) (rc_lenS hsrc.seq)) g_int rv_eqI)) (fun hb F2 H2 s2 e2 => ?_) (fun hb F2 H2 s2 e2 => ?_)
  · refine t_retI (K := K) s2 (g_tupI gs_nil (by simp)) fun v3 F3 H3 s3 hv3 => q v3 F3 H3 s3 ?_
    have : es = [] := by simpa using hb
    subst this
    exact hv3
  · obtain ⟨a, es', rfl⟩ : ∃ a es', es = a :: es' := by
      cases es with
      | nil => simp at hb
      | cons a r => exact ⟨a, r, rfl⟩
    have ea := hes a (by simp)
    have e12 := e1.trans e2
    have hat : atI ((a :: es').map dT) (0 : Int) = some (dT a) := by exact atI_nat (xs := (a :: es').map dT) (j := 0) rfl
    refine t_asgI (K := K) (d := .list ((lotOf 4 a).map .int)) s2 ((g_sortedSet (g_opI (g_var rfl (Rp.mono e12 _ _ hv)) g_int (rv_ix hsrc.seq hat)) (by have := ea.1; omega)).imp fun d hd => ?_) fun sv F3 H3 s3 e3 hsv => ?_
    · obtain ⟨ms, rfl, hp, hm⟩ := hd
      rw [sorted_is hp hm ea.2]
    · have e13 := e12.trans e3
      refine t_retI (K := K) s3 (g_cbI (gs_one (g_lcE PyData.int (lotOf 4 a) (fun z => (unfit n ls m (a :: es') z).isNone) PyData.int (w_listI (g_var rfl hsv)) (by have := lot4_len a; omega) (fun _ => rfl)
        (fun h hh F' e' z hz' => (et_of (g_opI (g_famC (m, src, a :: es', h) rfl (fam.mono (e13.trans e')) hn ⟨hm, hsrc, hz, fun e he => (hes e he).1⟩ (gs_three (g_var rfl (Rp.mono (e13.trans e') _ _ hu)) (g_var rfl (Rp.mono (e13.trans e') _ _ hv)) (g_var rfl hz')) rfl) g_non rv_isN)).is ?_) (fun h _ _ F' e' z hz' => g_var rfl hz'))) rc_tupL) q
      simp only
      cases unfit n ls m (a :: es') h <;> rfl
theorem ok_fittingX {f fF fM : Addr} {fd fdF fdM : FuncData} (Fn : Fun K "fitting_values" "fitting_values" s_fitting_values f fd) (T : Tx mg)
    (F_check_manner : Fun K "check_manner" "check_manner" s_check_manner fM fdM) (b_check_manner : Binds K fdM ["manner"] []) (g_check_manner : mg "check_manner" = some (.ref fM)) (GX_check_manner : FnOk P w K mg base (L2.CX P w) 3 fM fdM ["manner"] (spBadN K CB 1 0))
    (F_first_unfit : Fun K "first_unfit" "first_unfit" s_first_unfit fF fdF) (b_first_unfit : Binds K fdF ["falls", "manner", "entries", "value"] []) (g_first_unfit : mg "first_unfit" = some (.ref fF)) (G_first_unfit : FnOk P w K mg base CX0 4 fF fdF ["falls", "manner", "entries", "value"] (spUnfit K C)) :
    FnOk P w K mg base (L2.CX P w) 6 f fd ["falls", "manner", "entries"] (spBadN K CB 3 1) := by
  refine Fn.okX sc_fitting_values (fun vs H Q E ⟨_, _, _, h, _⟩ => h) (fun cdv A outer s H vs Q E hr h => ?_)
  obtain ⟨d, v, F, hl, hv0, hd, e, hv, q⟩ := h
  obtain ⟨x0, x1, x2, rfl⟩ : ∃ x0 x1 x2, vs = [x0, x1, x2] := by
    match vs, hl with
    | [a, b, c], _ => exact ⟨a, b, c, rfl⟩
  obtain rfl : x1 = v := by simpa using hv0
  exact ⟨_, (pss_cons (ps_expr (pe_call GX_check_manner (hr.mono (by decide)) (by rfl) g_check_manner F_check_manner.kp b_check_manner .nil (passes_call (takes_of rfl rfl rfl rfl) fun _ _ _ _ h => h) (pa_cons (pv 1) pa_nil)))
    (pss_cons (ps_if (pt_cmpR op_eq (pe_callB (c_len (K := K)) (by rfl) T.len (by decide +kernel) (pa_cons (pv 2) pa_nil)) pe_int (nomark _)) (pss_one (ps_ret (pe_tup pa_nil))) pss_nil)
    (pss_cons (ps_set (i := 3) sc_fitting_values.nd rfl (by first | exact Or.inl rfl | exact Or.inr rfl) (pe_callB (c_sortedSet (w := w)) (by rfl) T.sorted (by decide +kernel) (pa_cons (pe_callTy (c_setT (K := K) (w := w)) (by rfl) T.set (by decide +kernel) (pa_cons (pe_ix (o_ix (K := K)) (pv 2) pe_int (fun _ _ => rfl)) pa_nil)) pa_nil)))
    (pss_one (ps_ret (pe_callTy (c_tup (K := K)) (by rfl) T.tuple (by decide +kernel) (pa_cons (pe_lc (own := [("value", 4)]) (g := gName 4) rfl sc_fitting_values.nd (i_list (K := K) (pv 3)) (blkOk_by (own := [("value", 4)]) (N := ["falls", "manner", "entries", "stand", "value"]) (sc := (defScope s_fitting_values)) (by decide +kernel)) (fun _ _ _ _ _ => pg_name (i := 4) sc_fitting_values.nd rfl (by first | exact Or.inl rfl | exact Or.inr rfl)) (fun _ _ _ _ _ => (pts_one (pt_cmpR op_isN (pe_call G_first_unfit (hr.mono (by decide)) (by rfl) g_first_unfit F_first_unfit.kp b_first_unfit .nil pass0 (pa_cons (pv 0) (pa_cons (pv 1) (pa_cons (pv 2) (pa_cons (pv 4) pa_nil))))) pe_non (nomark _)))) (fun _ _ _ _ _ => (pv 4))) pa_nil))))))), t_badman (Step.refl e .nil) rfl hd hv q⟩
end
end K7

namespace K7
open PySem PySem.Spec PyProof.Rows L2 Fv Evl StX
abbrev s_law_same : Stmt := topS 28
theorem sc_law_same : FnScope ["_law_told", "_law_due", "_law_k"] ["_law_told", "_law_due"] (defScope s_law_same) := ⟨rfl, rfl, rfl, by decide +kernel, rfl, by decide +kernel, by decide +kernel⟩
abbrev s_law_way : Stmt := topS 30
theorem sc_law_way : FnScope ["_law_pot_here", "_law_row"] ["_law_pot_here", "_law_row"] (defScope s_law_way) := ⟨rfl, rfl, rfl, by decide +kernel, rfl, by decide +kernel, by decide +kernel⟩
abbrev s_law_fits : Stmt := topS 32
theorem sc_law_fits : FnScope ["_law_value", "_law_entry_here", "_law_lots_here", "_law_manner", "_law_places", "_law_house"] ["_law_value", "_law_entry_here", "_law_lots_here", "_law_manner"] (defScope s_law_fits) := ⟨rfl, rfl, rfl, by decide +kernel, rfl, by decide +kernel, by decide +kernel⟩
abbrev s_law_values : Stmt := topS 33
theorem sc_law_values : FnScope ["_law_group", "_law_m", "_law_lots_here", "_law_manner", "_law_value", "_law_row"] ["_law_group", "_law_m", "_law_lots_here", "_law_manner"] (defScope s_law_values) := ⟨rfl, rfl, rfl, by decide +kernel, rfl, by decide +kernel, by decide +kernel⟩
abbrev s_law_many : Stmt := topS 35
theorem sc_law_many : FnScope ["_law_pot_here"] ["_law_pot_here"] (defScope s_law_many) := ⟨rfl, rfl, rfl, by decide +kernel, rfl, by decide +kernel, by decide +kernel⟩
abbrev s_law_worths : Stmt := topS 36
theorem sc_law_worths : FnScope ["_law_pot_here", "_law_n"] ["_law_pot_here", "_law_n"] (defScope s_law_worths) := ⟨rfl, rfl, rfl, by decide +kernel, rfl, by decide +kernel, by decide +kernel⟩
abbrev s_law_bad_manner : Stmt := topS 46
theorem sc_law_bad_manner : FnScope ["_law_pot_here"] ["_law_pot_here"] (defScope s_law_bad_manner) := ⟨rfl, rfl, rfl, by decide +kernel, rfl, by decide +kernel, by decide +kernel⟩
def isS : PyData → Bool
  | .str _ => true
  | _ => false
theorem kit_str : ∀ d : PyData, kitB (tyD d) "str" = some (isS d)
  | .none => by decide +kernel
  | .bool _ => by show kitB "bool" "str" = some false; decide +kernel
  | .int _ => by show kitB "int" "str" = some false; decide +kernel
  | .str _ => by show kitB "str" "str" = some true; decide +kernel
  | .list _ => by show kitB "list" "str" = some false; decide +kernel
  | .tuple _ => by show kitB "tuple" "str" = some false; decide +kernel
  | .dict _ => by show kitB "dict" "str" = some false; decide +kernel
def atom : PyData → Bool
  | .none => true
  | .bool _ => true
  | .int _ => true
  | .str _ => true
  | _ => false
/-- an atom, or a tuple of atoms -/
def plainD : PyData → Prop
  | .tuple ds => ds.length ≤ 1000 ∧ ∀ d ∈ ds, atom d = true
  | d => atom d = true
def lawFits (lots : List (List Int)) (m : Str) (e : List Int) (v : Int) : Bool := if decide (m = ("sure" : Str)) = true then !(placesOf e v).isEmpty else !lets lots (placesOf e v)
def lawVals (lots : List (List Int)) (m : Str) (es : List (List Int)) (k : Nat) : List Int := (hs k).filter fun v => (es.filter fun e => !lawFits lots m e v).isEmpty
def capN (n : Nat) : Nat := [0, 0, 4, 4, 3, 2].getD n 0
section
variable {P : Program} {w : World} {K : PySem.W.Frag} {mg : Str → Option Value} {base : Heap}
variable {pt : Option Pt} {σ : L2.St} {F F0 H0 H : Hp} {te ta tb : TE} {ts tr : TA} {D : Ends} {tz : TS}
theorem never_ok {f : Addr} {fd : FuncData} {ps : List Str} : FnOk P w K mg base CX0 0 f fd ps (fun _ _ _ _ => False) := ⟨fun _ _ _ _ h => h.elim, fun _ _ _ _ _ _ _ _ _ _ _ _ _ h => h.elim⟩
abbrev spSame0 (K : PySem.W.Frag) : Sp := PSp K (fun d : PyData => [d, d]) (fun d => atom d = true) (fun _ => .bool true)
/-- the end of _law_same, of an atom -/
theorem same_atom {d : PyData} {x y : V} {Q : VK} (s : Step none F0 H0 F H) (hd : atom d = true) (hx : Rp K F x d) (hy : Rp K F y d) {z : L2.St} (q : ∀ v F2 H2, Step none F0 H0 F2 H2 → Rp K F2 v (.bool true) → Q v H2) :
    tSeq (tIfS (tTest (tOp (fun x y H Q => y = .non ∧ Q (.bl (decide (x = .non))) H) (tVar 1) (tC .non))) (tRet (tOp (fun x y H Q => y = .non ∧ Q (.bl (decide (x = .non))) H) (tVar 0) (tC .non))) tNext)
      (tSeq (tIfS (tB (tCB (rIsi K) (tCons (tVar 1) (tCons (tC (.ty "bool")) tNil)))) (tRet (tIf (tB (tVar 1)) (tOp rIsB (tVar 0) (tC (.bl true))) (tOp rIsB (tVar 0) (tC (.bl false))))) tNext)
        (tSeq (tIfS (tB (tCB (rIsi K) (tCons (tVar 1) (tCons (tC (.ty "str")) tNil)))) (tRet (tAndV (tCB (rIsi K) (tCons (tVar 0) (tCons (tC (.ty "str")) tNil))) (tOp rEq (tVar 0) (tVar 1)))) tNext)
          (tRet (tAndV (tCB (rIsi K) (tCons (tVar 0) (tCons (tC (.ty "int")) tNil))) (tAndV (tNotV (tCB (rIsi K) (tCons (tVar 0) (tCons (tC (.ty "bool")) tNil)))) (tOp rEq (tVar 0) (tVar 1)))))))
      { nx := fun _ H' => Q .non H', rt := Q } (some x :: some y :: z) H := by
  refine t_when s (et_of (g_opI (g_var rfl hy) g_non rv_isN)) (fun hb F2 H2 s2 e2 => ?_) (fun hb F2 H2 s2 e2 => ?_)
  · obtain rfl : d = .none := by cases d <;> simp_all [isNone]
    exact t_retI s2 ((g_opI (g_var rfl (Rp.mono e2 _ _ hx)) g_non rv_isN).is rfl) q
  refine t_when s2 (et_B (g_isi (g_var rfl (Rp.mono e2 _ _ hy)) (kit_bool d))) (fun hb F3 H3 s3 e3 => ?_) (fun hb3 F3 H3 s3 e3 => ?_)
  · obtain ⟨b, rfl⟩ : ∃ b, d = .bool b := by cases d <;> simp_all [isB]
    refine t_retI s3 ((g_if (R := Is (.bool true)) (b := b) (et_B (g_var rfl (Rp.mono (e2.trans e3) _ _ hy))) (fun h => (g_opI (g_var rfl (Rp.mono (e2.trans e3) _ _ hx)) g_bl rv_isB).is ?_) fun h => (g_opI (g_var rfl (Rp.mono (e2.trans e3) _ _ hx)) g_bl rv_isB).is ?_)) q
    · rw [h]; rfl
    · rw [h]; rfl
  have e3' := e2.trans e3
  refine t_when s3 (et_B (g_isi (g_var rfl (Rp.mono e3' _ _ hy)) (kit_str d))) (fun hb F4 H4 s4 e4 => ?_) (fun hb4 F4 H4 s4 e4 => ?_)
  · obtain ⟨t, rfl⟩ : ∃ t, d = .str t := by cases d <;> simp_all [isS]
    exact t_retI s4 ((g_andV (b := true) (g_isi (g_var rfl (Rp.mono (e3'.trans e4) _ _ hx)) (kit_str _)) fun _ => (g_opI (g_var rfl (Rp.mono (e3'.trans e4) _ _ hx)) (g_var rfl (Rp.mono (e3'.trans e4) _ _ hy)) rv_eqS).is (by simp)).is rfl) q
  · obtain ⟨i, rfl⟩ : ∃ i, d = .int i := by cases d <;> simp_all [isS, isB, isNone, atom]
    have e4' := e3'.trans e4
    exact t_retI s4 ((g_andV (b := true) (g_isi (g_var rfl (Rp.mono e4' _ _ hx)) (kit_int _)) fun _ => (g_andV (b := true) (g_notV (g_isi (g_var rfl (Rp.mono e4' _ _ hx)) (kit_bool _))) fun _ => (g_opI (g_var rfl (Rp.mono e4' _ _ hx)) (g_var rfl (Rp.mono e4' _ _ hy)) rv_eqI).is (by simp)).is rfl).is rfl) q
theorem ok_same0 {f : Addr} {fd : FuncData} (F_law_same : Fun K "_law_same" "_law_same" s_law_same f fd) (T : Tx mg) (b_law_same : Binds K fd ["_law_told", "_law_due"] []) (g_law_same : mg "_law_same" = some (.ref f)) : FnOk P w K mg base CX0 1 f fd ["_law_told", "_law_due"] (spSame0 K) := by
  have G_law_same : FnOk P w K mg base CX0 0 f fd ["_law_told", "_law_due"] (fun _ _ _ _ => False) := never_ok
  refine Fun.ok F_law_same sc_law_same (PSp.len (fun _ => rfl)) (fun cdv A outer s H vs Q E hr h => ?_)
  obtain ⟨d, F, hd, e, ha, q⟩ := h
  obtain ⟨x, y, rfl, hx, hy⟩ := rpAll2 ha
  refine ⟨_, (pss_cons (ps_if (pt_val (pe_callB (c_isi (K := K)) (by rfl) T.isinstance (by decide +kernel) (pa_cons (pv 1) (pa_cons (pe_bltn (v := .ty "tuple") (by rfl) T.tuple (by decide +kernel) rfl) pa_nil)))) (pss_cons (ps_if (PW.pt (pw_or (pt_not (pt_val (pe_callB (c_isi (K := K)) (by rfl) T.isinstance (by decide +kernel) (pa_cons (pv 0) (pa_cons (pe_bltn (v := .ty "tuple") (by rfl) T.tuple (by decide +kernel) rfl) pa_nil))))) (pw_or1 (pt_cmpR op_ne (pe_callB (c_len (K := K)) (by rfl) T.len (by decide +kernel) (pa_cons (pv 0) pa_nil)) (pe_callB (c_len (K := K)) (by rfl) T.len (by decide +kernel) (pa_cons (pv 1) pa_nil)) (nomark _))))) (pss_one (ps_ret pe_bl)) pss_nil)
    (pss_one (ps_ret (pe_cmpR (o_eqD (K := K) hr.units) (pe_lc (own := [("_law_k", 2)]) (g := gName 2) rfl sc_law_same.nd (pi_range1 (by rfl) T.range (pa_cons (pe_callB (c_len (K := K)) (by rfl) T.len (by decide +kernel) (pa_cons (pv 1) pa_nil)) pa_nil)) (blkOk_by (own := [("_law_k", 2)]) (N := ["_law_told", "_law_due", "_law_k"]) (sc := (defScope s_law_same)) (by decide +kernel)) (fun _ _ _ _ _ => pg_name (i := 2) sc_law_same.nd rfl (by first | exact Or.inl rfl | exact Or.inr rfl)) (fun _ _ _ _ _ => (pts_one (pt_not (pt_val (pe_call G_law_same (hr.mono (by decide)) (by rfl) g_law_same F_law_same.kp b_law_same .nil pass0 (pa_cons (pe_ix (o_ixT (K := K)) (pv 0) (pv 2) (fun _ _ => rfl)) (pa_cons (pe_ix (o_ixT (K := K)) (pv 1) (pv 2) (fun _ _ => rfl)) pa_nil))))))) (fun _ _ _ _ _ => (pv 2))) (pe_lst pa_nil) (nomark _))))) pss_nil)
    (pss_cons (ps_if (pt_cmpR op_isN (pv 1) pe_non (nomark _)) (pss_one (ps_ret (pe_cmpR op_isN (pv 0) pe_non (nomark _)))) pss_nil)
    (pss_cons (ps_if (pt_val (pe_callB (c_isi (K := K)) (by rfl) T.isinstance (by decide +kernel) (pa_cons (pv 1) (pa_cons (pe_bltn (v := .ty "bool") (by rfl) T.bool (by decide +kernel) rfl) pa_nil)))) (pss_one (ps_ret (pe_ifExp (pt_val (pv 1)) (pe_cmpR op_isBl (pv 0) pe_bl (nomark _)) (pe_cmpR op_isBl (pv 0) pe_bl (nomark _))))) pss_nil)
    (pss_cons (ps_if (pt_val (pe_callB (c_isi (K := K)) (by rfl) T.isinstance (by decide +kernel) (pa_cons (pv 1) (pa_cons (pe_bltn (v := .ty "str") (by rfl) T.str (by decide +kernel) rfl) pa_nil)))) (pss_one (ps_ret (pe_and (pe_callB (c_isi (K := K)) (by rfl) T.isinstance (by decide +kernel) (pa_cons (pv 0) (pa_cons (pe_bltn (v := .ty "str") (by rfl) T.str (by decide +kernel) rfl) pa_nil))) (pe_one (pe_cmpR op_eq (pv 0) (pv 1) (nomark _)))))) pss_nil)
    (pss_one (ps_ret (pe_and (pe_callB (c_isi (K := K)) (by rfl) T.isinstance (by decide +kernel) (pa_cons (pv 0) (pa_cons (pe_bltn (v := .ty "int") (by rfl) T.int (by decide +kernel) rfl) pa_nil))) (pe_and (pe_not (pe_callB (c_isi (K := K)) (by rfl) T.isinstance (by decide +kernel) (pa_cons (pv 0) (pa_cons (pe_bltn (v := .ty "bool") (by rfl) T.bool (by decide +kernel) rfl) pa_nil)))) (pe_one (pe_cmpR op_eq (pv 0) (pv 1) (nomark _))))))))))), ?_⟩
  refine t_when (b := isT d) (Step.refl e .nil) (et_B (g_isi (g_var rfl hy) (kit_tuple d))) (fun hb F2 H2 s2 e2 => by cases d <;> simp_all [isT, atom]) (fun hb F2 H2 s2 e2 => ?_)
  exact same_atom s2 hd (Rp.mono e2 _ _ hx) (Rp.mono e2 _ _ hy) q
abbrev spSame (K : PySem.W.Frag) : Sp := PSp K (fun d : PyData => [d, d]) (fun d => plainD d) (fun _ => .bool true)
theorem ok_same {f : Addr} {fd : FuncData} (F_law_same : Fun K "_law_same" "_law_same" s_law_same f fd) (T : Tx mg) (b_law_same : Binds K fd ["_law_told", "_law_due"] []) (g_law_same : mg "_law_same" = some (.ref f)) : FnOk P w K mg base CX0 2 f fd ["_law_told", "_law_due"] (spSame K) := by
  have G_law_same : FnOk P w K mg base CX0 1 f fd ["_law_told", "_law_due"] (spSame0 K) := ok_same0 F_law_same T b_law_same g_law_same
  refine Fun.ok F_law_same sc_law_same (PSp.len (fun _ => rfl)) (fun cdv A outer s H vs Q E hr h => ?_)
  obtain ⟨d, F, hd, e, ha, q⟩ := h
  obtain ⟨x, y, rfl, hx, hy⟩ := rpAll2 ha
  refine ⟨_, (pss_cons (ps_if (pt_val (pe_callB (c_isi (K := K)) (by rfl) T.isinstance (by decide +kernel) (pa_cons (pv 1) (pa_cons (pe_bltn (v := .ty "tuple") (by rfl) T.tuple (by decide +kernel) rfl) pa_nil)))) (pss_cons (ps_if (PW.pt (pw_or (pt_not (pt_val (pe_callB (c_isi (K := K)) (by rfl) T.isinstance (by decide +kernel) (pa_cons (pv 0) (pa_cons (pe_bltn (v := .ty "tuple") (by rfl) T.tuple (by decide +kernel) rfl) pa_nil))))) (pw_or1 (pt_cmpR op_ne (pe_callB (c_len (K := K)) (by rfl) T.len (by decide +kernel) (pa_cons (pv 0) pa_nil)) (pe_callB (c_len (K := K)) (by rfl) T.len (by decide +kernel) (pa_cons (pv 1) pa_nil)) (nomark _))))) (pss_one (ps_ret pe_bl)) pss_nil)
    (pss_one (ps_ret (pe_cmpR (o_eqD (K := K) hr.units) (pe_lc (own := [("_law_k", 2)]) (g := gName 2) rfl sc_law_same.nd (pi_range1 (by rfl) T.range (pa_cons (pe_callB (c_len (K := K)) (by rfl) T.len (by decide +kernel) (pa_cons (pv 1) pa_nil)) pa_nil)) (blkOk_by (own := [("_law_k", 2)]) (N := ["_law_told", "_law_due", "_law_k"]) (sc := (defScope s_law_same)) (by decide +kernel)) (fun _ _ _ _ _ => pg_name (i := 2) sc_law_same.nd rfl (by first | exact Or.inl rfl | exact Or.inr rfl)) (fun _ _ _ _ _ => (pts_one (pt_not (pt_val (pe_call G_law_same (hr.mono (by decide)) (by rfl) g_law_same F_law_same.kp b_law_same .nil pass0 (pa_cons (pe_ix (o_ixT (K := K)) (pv 0) (pv 2) (fun _ _ => rfl)) (pa_cons (pe_ix (o_ixT (K := K)) (pv 1) (pv 2) (fun _ _ => rfl)) pa_nil))))))) (fun _ _ _ _ _ => (pv 2))) (pe_lst pa_nil) (nomark _))))) pss_nil)
    (pss_cons (ps_if (pt_cmpR op_isN (pv 1) pe_non (nomark _)) (pss_one (ps_ret (pe_cmpR op_isN (pv 0) pe_non (nomark _)))) pss_nil)
    (pss_cons (ps_if (pt_val (pe_callB (c_isi (K := K)) (by rfl) T.isinstance (by decide +kernel) (pa_cons (pv 1) (pa_cons (pe_bltn (v := .ty "bool") (by rfl) T.bool (by decide +kernel) rfl) pa_nil)))) (pss_one (ps_ret (pe_ifExp (pt_val (pv 1)) (pe_cmpR op_isBl (pv 0) pe_bl (nomark _)) (pe_cmpR op_isBl (pv 0) pe_bl (nomark _))))) pss_nil)
    (pss_cons (ps_if (pt_val (pe_callB (c_isi (K := K)) (by rfl) T.isinstance (by decide +kernel) (pa_cons (pv 1) (pa_cons (pe_bltn (v := .ty "str") (by rfl) T.str (by decide +kernel) rfl) pa_nil)))) (pss_one (ps_ret (pe_and (pe_callB (c_isi (K := K)) (by rfl) T.isinstance (by decide +kernel) (pa_cons (pv 0) (pa_cons (pe_bltn (v := .ty "str") (by rfl) T.str (by decide +kernel) rfl) pa_nil))) (pe_one (pe_cmpR op_eq (pv 0) (pv 1) (nomark _)))))) pss_nil)
    (pss_one (ps_ret (pe_and (pe_callB (c_isi (K := K)) (by rfl) T.isinstance (by decide +kernel) (pa_cons (pv 0) (pa_cons (pe_bltn (v := .ty "int") (by rfl) T.int (by decide +kernel) rfl) pa_nil))) (pe_and (pe_not (pe_callB (c_isi (K := K)) (by rfl) T.isinstance (by decide +kernel) (pa_cons (pv 0) (pa_cons (pe_bltn (v := .ty "bool") (by rfl) T.bool (by decide +kernel) rfl) pa_nil)))) (pe_one (pe_cmpR op_eq (pv 0) (pv 1) (nomark _))))))))))), ?_⟩
  refine t_when (b := isT d) (Step.refl e .nil) (et_B (g_isi (g_var rfl hy) (kit_tuple d))) (fun hb F2 H2 s2 e2 => ?_) (fun hb F2 H2 s2 e2 => ?_)
  · obtain ⟨ds, rfl⟩ : ∃ ds, d = .tuple ds := by cases d <;> simp_all [isT]
    obtain ⟨hz, hat⟩ := hd
    have hx2 := Rp.mono e2 _ _ hx
    have hy2 := Rp.mono e2 _ _ hy
    refine t_skip s2 ((et_or (a := false) (b := false) ((et_not (b := true) (et_B (g_isi (g_var rfl hx2) (kit_tuple _)))).is rfl) fun _ => (et_of (g_opI (g_cbI (gs_one (g_var rfl hx2)) rc_lenT) (g_cbI (gs_one (g_var rfl hy2)) rc_lenT) rv_neI)).is (by simp)).is rfl) fun F3 H3 s3 e3 => ?_
    have hx3 := Rp.mono e3 _ _ hx2
    have hy3 := Rp.mono e3 _ _ hy2
    refine t_retI (K := K) s3 ((g_opI (g_lcE PyData.int (hs ds.length) (fun _ => false) PyData.int ?_ (by rw [hs_len]; omega) (fun _ => rfl) (fun h hh F' e' u hu => ?_) (fun h _ hf => by cases hf)) (g_lstI gs_nil (by simp)) (rv_eqNil ?_)).is ?_) q
    · have := w_rng1I (K := K) (pt := none) (σ := start ["_law_told", "_law_due", "_law_k"] [x, y]) (F := F3) (n := ((ds.length : Nat) : Int)) (gs_one (g_cbI (gs_one (g_var (i := 1) rfl hy3)) rc_lenT)) (by omega) (by omega)
      rw [show ((ds.length : Nat) : Int).toNat = ds.length by omega, rng_hs] at this
      exact this
    · obtain ⟨h0, h1⟩ := hs_mem.mp hh
      obtain ⟨j, rfl⟩ : ∃ j : Nat, h = (j : Int) := ⟨h.toNat, by omega⟩
      have hj : j < ds.length := by omega
      have hi : atI ds (j : Int) = some ds[j] := atI_nat (List.getElem?_eq_getElem hj)
      exact (et_not (b := true) (et_B (g_call ds[j] (gs_two (g_opI (g_var rfl (Rp.mono e' _ _ hx3)) (g_var rfl hu) (rv_ixT hi)) (g_opI (g_var rfl (Rp.mono e' _ _ hy3)) (g_var rfl hu) (rv_ixT hi))) rfl (hat _ (List.getElem_mem hj))))).is rfl
    · have : (hs ds.length).filter (fun _ => false) = [] := by simp
      rw [this]; decide
    · have : (hs ds.length).filter (fun _ => false) = [] := by simp
      rw [this]; rfl
  · refine same_atom s2 ?_ (Rp.mono e2 _ _ hx) (Rp.mono e2 _ _ hy) q
    cases d <;> simp_all [isT, plainD, atom]
end
end K7

namespace K7
open PySem PySem.Spec PyProof.Rows L2 Fv Evl StX
section
variable {P : Program} {w : World} {K : PySem.W.Frag} {mg : Str → Option Value} {base : Heap}
variable {pt : Option Pt} {σ : L2.St} {F F0 H0 H : Hp} {te ta tb : TE} {ts tr : TA} {D : Ends} {tz : TS}
abbrev Drawn (c : Int) : PD := fun d => ∃ k : Int, d = .int k ∧ 0 ≤ k ∧ k < c
/-- a list or a tuple of the same rows -/
abbrev spWay (K : PySem.W.Frag) : Sp := spQ K (fun es : List (List Int) => [dLT es]) (fun es => es.length ≤ 1000) (fun es d => SrcD d es)
theorem ok_way {f fD : Addr} {fd fdD : FuncData} (Fn : Fun K "_law_way" "_law_way" s_law_way f fd) (T : Tx mg)
    (F_law_draw : Fun K "_law_draw" "_law_draw" s_law_draw fD fdD) (b_law_draw : Binds K fdD ["_law_pot_here", "_law_many_here"] []) (g_law_draw : mg "_law_draw" = some (.ref fD)) : FnOk P w K mg base CX0 2 f fd ["_law_pot_here", "_law_row"] (spWay K) := by
  have G_law_draw : FnOk P w K mg base CX0 1 fD fdD ["_law_pot_here", "_law_many_here"] (spDraw K) := ok_draw F_law_draw T
  refine Fn.ok sc_law_way (spQ.len (n := 1) (fun _ => rfl)) (fun cdv A outer s H vs Q E hr h => ?_)
  obtain ⟨q, es, F, as, rfl, hz, e, g, ha, k⟩ := h
  obtain ⟨v, rfl, hv⟩ := rpAll1 ha
  refine ⟨_, (pss_one (ps_ret (pe_ifExp (e_truth (K := K) (pe_call G_law_draw (hr.mono (by decide)) (by rfl) g_law_draw F_law_draw.kp b_law_draw .nil pass0 (pa_cons (pv 0) (pa_cons pe_int pa_nil)))) (pe_callTy (c_list (K := K)) (by rfl) T.list (by decide +kernel) (pa_cons (pv 1) pa_nil)) (pe_callTy (c_tup (K := K)) (by rfl) T.tuple (by decide +kernel) (pa_cons (pv 1) pa_nil))))), ?_⟩
  refine t_ret (K := K) (Step.refl e g) (g_ifR (et_truR (g_callP (m := 2) rfl g_int (by decide))) ((g_cbI (gs_one (g_var rfl hv)) (rc_list (.inl rfl))).imp fun d hd => ?_) ((g_cbI (gs_one (g_var rfl hv)) rc_tupL).imp fun d hd => ?_)) fun d v F2 H2 hd s2 hv2 => k d v F2 H2 hd s2 hv2
  · rw [show d = dLT es from hd]; exact .l es
  · rw [show d = dTT es from hd]; exact .t es
abbrev spLFits (K : PySem.W.Frag) : Sp := PSp K (fun i : Int × List Int × List (List Int) × Str => [.int i.1, dT i.2.1, dLT i.2.2.1, .str i.2.2.2]) (fun i => i.2.1.length ≤ 1000) (fun i => .bool (lawFits i.2.2.1 i.2.2.2 i.2.1 i.1))
theorem rpAll4 {F : Hp} {vs : List V} {d e g j : PyData} (h : RpAll K F vs [d, e, g, j]) : ∃ v x y z, vs = [v, x, y, z] ∧ Rp K F v d ∧ Rp K F x e ∧ Rp K F y g ∧ Rp K F z j := by
  cases h with
  | cons h1 h2 =>
    obtain ⟨x, y, z, rfl, hx, hy, hz⟩ := rpAll3 h2
    exact ⟨_, x, y, z, rfl, h1, hx, hy, hz⟩
theorem ok_lfits {f fE : Addr} {fd fdE : FuncData} (Fn : Fun K "_law_fits" "_law_fits" s_law_fits f fd) (T : Tx mg)
    (F_law_lets : Fun K "_law_lets" "_law_lets" s_law_lets fE fdE) (b_law_lets : Binds K fdE ["_law_lots_here", "_law_lot_here"] []) (g_law_lets : mg "_law_lets" = some (.ref fE)) : FnOk P w K mg base CX0 2 f fd ["_law_value", "_law_entry_here", "_law_lots_here", "_law_manner"] (spLFits K) := by
  have G_law_lets : FnOk P w K mg base CX0 1 fE fdE ["_law_lots_here", "_law_lot_here"] (spLets K) := ok_lets F_law_lets T
  refine Fn.ok sc_law_fits (PSp.len (fun _ => rfl)) (fun cdv A outer s H vs Q E hr h => ?_)
  obtain ⟨⟨b, a, lots, m⟩, F, hz, e, ha, q⟩ := h
  simp only at hz
  obtain ⟨y, v, x, u, rfl, hy, hv, hx, hu⟩ := rpAll4 ha
  refine ⟨_, (pss_cons (ps_set (i := 4) sc_law_fits.nd rfl (by first | exact Or.inl rfl | exact Or.inr rfl) (pe_callTy (c_tup (K := K)) (by rfl) T.tuple (by decide +kernel) (pa_cons (pe_lc (own := [("_law_house", 5)]) (g := gName 5) rfl sc_law_fits.nd (pi_range1 (by rfl) T.range (pa_cons (pe_callB (c_len (K := K)) (by rfl) T.len (by decide +kernel) (pa_cons (pv 1) pa_nil)) pa_nil)) (blkOk_by (own := [("_law_house", 5)]) (N := ["_law_value", "_law_entry_here", "_law_lots_here", "_law_manner", "_law_places", "_law_house"]) (sc := (defScope s_law_fits)) (by decide +kernel)) (fun _ _ _ _ _ => pg_name (i := 5) sc_law_fits.nd rfl (by first | exact Or.inl rfl | exact Or.inr rfl)) (fun _ _ _ _ _ => (pts_one (pt_cmpR op_eq (pe_ix (o_ixT (K := K)) (pv 1) (pv 5) (fun _ _ => rfl)) (pv 0) (nomark _)))) (fun _ _ _ _ _ => (pv 5))) pa_nil)))
    (pss_cons (ps_if (pt_cmpR op_eq (pv 3) pe_str (nomark _)) (pss_one (ps_ret (pe_callTy (c_boolU (K := K)) (by rfl) T.bool (by decide +kernel) (pa_cons (pv 4) pa_nil)))) pss_nil)
    (pss_one (ps_ret (pe_not (pe_call G_law_lets (hr.mono (by decide)) (by rfl) g_law_lets F_law_lets.kp b_law_lets .nil pass0 (pa_cons (pv 2) (pa_cons (pv 4) pa_nil)))))))), ?_⟩
  have pl := placesOf_ok (n := a.length) rfl b
  refine t_asgI (K := K) (d := dT (placesOf a b)) (Step.refl e .nil) (g_cbI (gs_one (g_lcE PyData.int (hs a.length) (fun h => decide (at_ a h = b)) PyData.int (w_lenT (e := a) (g_var rfl hv) (Nat.le_trans hz (by decide))) (by rw [hs_len]; omega) (fun _ => rfl)
    (fun h hh F' e' z hz' => et_of (g_opI (g_opI (g_var rfl (Rp.mono e' _ _ hv)) (g_var rfl hz') (ix_int hh)) (g_var rfl (Rp.mono e' _ _ hy)) rv_eqI)) (fun h _ _ F' e' z hz' => g_var rfl hz'))) rc_tupL) fun pv F1 H1 s1 e1 hpv => ?_
  refine t_when (b := decide (m = ("sure" : Str))) s1 (et_of (g_opI (g_var rfl (Rp.mono e1 _ _ hu)) g_str rv_eqS)) (fun hb F2 H2 s2 e2 => ?_) (fun hb F2 H2 s2 e2 => ?_)
  · refine t_retI (K := K) s2 (g_cbI (gs_one (g_var rfl (Rp.mono e2 _ _ hpv))) rc_boolU) fun v3 F3 H3 s3 hv3 => q v3 F3 H3 s3 ?_
    show Rp K F3 v3 (.bool (lawFits lots m a b))
    unfold lawFits
    rw [if_pos hb]
    have : ((placesOf a b).map PyData.int).isEmpty = (placesOf a b).isEmpty := by cases placesOf a b <;> rfl
    rw [← this]; exact hv3
  · refine t_retI (K := K) s2 (g_notV (g_call (lots, placesOf a b) (gs_two (g_var rfl (Rp.mono (e1.trans e2) _ _ hx)) (g_var rfl (Rp.mono e2 _ _ hpv))) rfl (by simp only; omega))) fun v3 F3 H3 s3 hv3 => q v3 F3 H3 s3 ?_
    show Rp K F3 v3 (.bool (lawFits lots m a b))
    unfold lawFits
    rw [if_neg (by rw [hb]; simp)]; exact hv3
abbrev spLVals (K : PySem.W.Frag) : Sp := PSp K (fun i : List (List Int) × Nat × List (List Int) × Str => [dLT i.1, .int i.2.1, dLT i.2.2.1, .str i.2.2.2]) (fun i => i.1.length ≤ 1000 ∧ i.2.1 ≤ 100 ∧ ∀ e ∈ i.1, e.length ≤ 1000) (fun i => dI (lawVals i.2.2.1 i.2.2.2 i.1 i.2.1))
theorem ok_lvals {f fE fF : Addr} {fd fdE fdF : FuncData} (Fn : Fun K "_law_values" "_law_values" s_law_values f fd) (T : Tx mg)
    (F_law_lets : Fun K "_law_lets" "_law_lets" s_law_lets fE fdE) (b_law_lets : Binds K fdE ["_law_lots_here", "_law_lot_here"] []) (g_law_lets : mg "_law_lets" = some (.ref fE))
    (F_law_fits : Fun K "_law_fits" "_law_fits" s_law_fits fF fdF) (b_law_fits : Binds K fdF ["_law_value", "_law_entry_here", "_law_lots_here", "_law_manner"] []) (g_law_fits : mg "_law_fits" = some (.ref fF)) :
    FnOk P w K mg base CX0 3 f fd ["_law_group", "_law_m", "_law_lots_here", "_law_manner"] (spLVals K) := by
  have G_law_fits : FnOk P w K mg base CX0 2 fF fdF ["_law_value", "_law_entry_here", "_law_lots_here", "_law_manner"] (spLFits K) := ok_lfits F_law_fits T F_law_lets b_law_lets g_law_lets
  refine Fn.ok sc_law_values (PSp.len (fun _ => rfl)) (fun cdv A outer s H vs Q E hr h => ?_)
  obtain ⟨⟨es, k, lots, m⟩, F, ⟨hz, hk, hes⟩, e, ha, q⟩ := h
  simp only at hz hk hes
  obtain ⟨y, v, x, u, rfl, hy, hv, hx, hu⟩ := rpAll4 ha
  refine ⟨_, (pss_one (ps_ret (pe_lc (own := [("_law_value", 4)]) (g := gName 4) rfl sc_law_values.nd (pi_range1 (by rfl) T.range (pa_cons (pv 1) pa_nil)) (blkOk_by (own := [("_law_value", 4)]) (N := ["_law_group", "_law_m", "_law_lots_here", "_law_manner", "_law_value", "_law_row"]) (sc := (defScope s_law_values)) (by decide +kernel)) (fun _ _ _ _ _ => pg_name (i := 4) sc_law_values.nd rfl (by first | exact Or.inl rfl | exact Or.inr rfl)) (fun _ _ _ _ _ => (pts_one (pt_not (e_truth (K := K) (pe_lc (own := [("_law_row", 5)]) (g := gName 5) rfl sc_law_values.nd (i_list (K := K) (pv 0)) (blkOk_by (own := [("_law_row", 5)]) (N := ["_law_group", "_law_m", "_law_lots_here", "_law_manner", "_law_value", "_law_row"]) (by rfl)) (fun _ _ _ _ _ => pg_name (i := 5) sc_law_values.nd rfl (by first | exact Or.inl rfl | exact Or.inr rfl)) (fun _ _ _ _ _ => (pts_one (pt_not (pt_val (pe_call G_law_fits (hr.mono (by decide)) (by rfl) g_law_fits F_law_fits.kp b_law_fits .nil pass0 (pa_cons (pv 4) (pa_cons (pv 5) (pa_cons (pv 2) (pa_cons (pv 3) pa_nil))))))))) (fun _ _ _ _ _ => (pv 5))))))) (fun _ _ _ _ _ => (pv 4))))), ?_⟩
  refine t_retI (K := K) (Step.refl e .nil) (g_lcE PyData.int (hs k) (fun b => !(!((es.filter fun e => !lawFits lots m e b).map dT).isEmpty)) PyData.int ?_ (by rw [hs_len]; omega) (fun _ => rfl) (fun b hb F' e' z hz' => et_not (et_truL (g_lcE dT es (fun e => !lawFits lots m e b) dT (w_listI (g_var rfl (Rp.mono e' _ _ hy))) (by omega) (fun _ => rfl)
    (fun a ha F'' e'' z2 hz2 => et_not (et_B (g_call (b, a, lots, m) (gs_consI (g_var rfl (Rp.mono e'' _ _ hz')) (gs_three (g_var rfl hz2) (g_var rfl (Rp.mono (e'.trans e'') _ _ hx)) (g_var rfl (Rp.mono (e'.trans e'') _ _ hu)))) rfl (hes a ha)))) (fun a _ _ F'' e'' z2 hz2 => g_var rfl hz2)))) (fun b _ _ F' e' z hz' => g_var rfl hz')) fun v3 F3 H3 s3 hv3 => q v3 F3 H3 s3 ?_
  · have := w_rng1I (K := K) (pt := none) (σ := start ["_law_group", "_law_m", "_law_lots_here", "_law_manner", "_law_value", "_law_row"] [y, v, x, u]) (F := F) (n := ((k : Nat) : Int)) (gs_one (g_var (i := 1) rfl hv)) (by omega) (by omega)
    rw [show ((k : Nat) : Int).toNat = k by omega, rng_hs] at this
    exact this
  · have : (fun b => !(!((es.filter fun e => !lawFits lots m e b).map dT).isEmpty)) = fun b => (es.filter fun e => !lawFits lots m e b).isEmpty := by
      funext b
      cases es.filter fun e => !lawFits lots m e b <;> rfl
    rw [this] at hv3; exact hv3
/-! ### drawn sizes -/
abbrev HouseN : PD := fun d => ∃ n : Nat, d = .int n ∧ 2 ≤ n ∧ n ≤ 5
abbrev spMany (K : PySem.W.Frag) : Sp := spQ K (fun _ : Unit => []) (fun _ => True) (fun _ => HouseN)
theorem gs_int {i : Int} {ds : List PyData} (h : EvsG K pt tr σ F (· = ds)) : EvsG K pt (tCons (tC (.int i)) tr) σ F (· = .int i :: ds) := gs_consI g_int h
theorem ok_many {f fD : Addr} {fd fdD : FuncData} (Fn : Fun K "_law_many" "_law_many" s_law_many f fd) (T : Tx mg)
    (F_law_draw : Fun K "_law_draw" "_law_draw" s_law_draw fD fdD) (b_law_draw : Binds K fdD ["_law_pot_here", "_law_many_here"] []) (g_law_draw : mg "_law_draw" = some (.ref fD)) : FnOk P w K mg base CX0 2 f fd ["_law_pot_here"] (spMany K) := by
  have G_law_draw : FnOk P w K mg base CX0 1 fD fdD ["_law_pot_here", "_law_many_here"] (spDraw K) := ok_draw F_law_draw T
  refine Fn.ok sc_law_many (spQ.len (n := 0) (fun _ => rfl)) (fun cdv A outer s H vs Q E hr h => ?_)
  obtain ⟨q, _, F, as, rfl, _, e, g, ha, k⟩ := h
  cases ha
  refine ⟨_, (pss_one (ps_ret (pe_ix (o_ixL (K := K)) (pe_lst (pa_cons pe_int (pa_cons pe_int (pa_cons pe_int (pa_cons pe_int (pa_cons pe_int (pa_cons pe_int (pa_cons pe_int (pa_cons pe_int pa_nil))))))))) (pe_call G_law_draw (hr.mono (by decide)) (by rfl) g_law_draw F_law_draw.kp b_law_draw .nil pass0 (pa_cons (pv 0) (pa_cons pe_int pa_nil))) (fun _ _ => rfl)))), ?_⟩
  refine t_ret (K := K) (R := HouseN) (Step.refl e g) (g_pick (c := 8) (g_lstI (gs_int (gs_int (gs_int (gs_int (gs_int (gs_int (gs_int (gs_int gs_nil)))))))) (by decide)) (g_callP (m := 8) rfl g_int (by decide)) (by decide) fun d hd => ?_) fun d v F2 H2 hd s2 hv2 => k d v F2 H2 hd s2 hv2
  simp only [List.mem_cons, List.not_mem_nil, or_false] at hd
  rcases hd with rfl | rfl | rfl | rfl | rfl | rfl | rfl | rfl
  · exact ⟨2, rfl, by decide, by decide⟩
  · exact ⟨2, rfl, by decide, by decide⟩
  · exact ⟨2, rfl, by decide, by decide⟩
  · exact ⟨3, rfl, by decide, by decide⟩
  · exact ⟨3, rfl, by decide, by decide⟩
  · exact ⟨3, rfl, by decide, by decide⟩
  · exact ⟨4, rfl, by decide, by decide⟩
  · exact ⟨5, rfl, by decide, by decide⟩
abbrev spWorths (K : PySem.W.Frag) : Sp := spQ K (fun n : Nat => [.int n]) (fun n => 2 ≤ n ∧ n ≤ 5) (fun n d => ∃ m : Nat, d = .int m ∧ 1 ≤ m ∧ m ≤ capN n)
theorem cap_get {n : Nat} (h : n ≤ 5) : atI ([0, 0, 4, 4, 3, 2].map PyData.int) (n : Int) = some (.int (capN n)) := by
  have : n = 0 ∨ n = 1 ∨ n = 2 ∨ n = 3 ∨ n = 4 ∨ n = 5 := by omega
  rcases this with rfl | rfl | rfl | rfl | rfl | rfl
  · exact atI_nat (xs := [0, 0, 4, 4, 3, 2].map PyData.int) (j := 0) rfl
  · exact atI_nat (xs := [0, 0, 4, 4, 3, 2].map PyData.int) (j := 1) rfl
  · exact atI_nat (xs := [0, 0, 4, 4, 3, 2].map PyData.int) (j := 2) rfl
  · exact atI_nat (xs := [0, 0, 4, 4, 3, 2].map PyData.int) (j := 3) rfl
  · exact atI_nat (xs := [0, 0, 4, 4, 3, 2].map PyData.int) (j := 4) rfl
  · exact atI_nat (xs := [0, 0, 4, 4, 3, 2].map PyData.int) (j := 5) rfl
theorem cap_few {n : Nat} (h2 : 2 ≤ n) (h5 : n ≤ 5) : 2 ≤ capN n ∧ capN n ≤ 4 := by
  have : n = 2 ∨ n = 3 ∨ n = 4 ∨ n = 5 := by omega
  rcases this with rfl | rfl | rfl | rfl <;> decide
theorem ok_worths {f fD : Addr} {fd fdD : FuncData} (Fn : Fun K "_law_worths" "_law_worths" s_law_worths f fd) (T : Tx mg)
    (F_law_draw : Fun K "_law_draw" "_law_draw" s_law_draw fD fdD) (b_law_draw : Binds K fdD ["_law_pot_here", "_law_many_here"] []) (g_law_draw : mg "_law_draw" = some (.ref fD)) : FnOk P w K mg base CX0 2 f fd ["_law_pot_here", "_law_n"] (spWorths K) := by
  have G_law_draw : FnOk P w K mg base CX0 1 fD fdD ["_law_pot_here", "_law_many_here"] (spDraw K) := ok_draw F_law_draw T
  refine Fn.ok sc_law_worths (spQ.len (n := 1) (fun _ => rfl)) (fun cdv A outer s H vs Q E hr h => ?_)
  obtain ⟨q, n, F, as, rfl, ⟨h2, h5⟩, e, g, ha, k⟩ := h
  obtain ⟨v, rfl, hv⟩ := rpAll1 ha
  refine ⟨_, (pss_one (ps_ret (pe_callB c_min2 (by rfl) T.min (by decide +kernel) (pa_cons (pe_ix (o_ixL (K := K)) (pe_lst (pa_cons pe_int (pa_cons pe_int (pa_cons pe_int (pa_cons pe_int (pa_cons pe_int (pa_cons pe_int (pa_cons pe_int (pa_cons pe_int pa_nil))))))))) (pe_call G_law_draw (hr.mono (by decide)) (by rfl) g_law_draw F_law_draw.kp b_law_draw .nil pass0 (pa_cons (pv 0) (pa_cons pe_int pa_nil))) (fun _ _ => rfl)) (pa_cons (pe_ix (o_ixL (K := K)) (pe_lst (pa_cons pe_int (pa_cons pe_int (pa_cons pe_int (pa_cons pe_int (pa_cons pe_int (pa_cons pe_int pa_nil))))))) (pv 1) (fun _ _ => rfl)) pa_nil))))), ?_⟩
  obtain ⟨c2, c4⟩ := cap_few h2 h5
  refine t_ret (K := K) (R := fun d => ∃ m : Nat, d = .int m ∧ 1 ≤ m ∧ m ≤ capN n) (Step.refl e g) (g_cb (R1 := fun ds => ∃ j : Int, ds = [.int j, .int (capN n)] ∧ 1 ≤ j) (fun H1 i g Q q => gs_cons (R1 := fun d => ∃ j : Int, d = .int j ∧ 1 ≤ j)
    (g_pick (c := 8) (g_lstI (gs_int (gs_int (gs_int (gs_int (gs_int (gs_int (gs_int (gs_int gs_nil)))))))) (by decide)) (g_callP (m := 8) rfl g_int (by decide)) (by decide) fun d hd => ?_)
    (gs_one (g_opI (g_lstI (gs_int (gs_int (gs_int (gs_int (gs_int (gs_int gs_nil)))))) (by decide)) (g_var rfl hv) (rv_ixL (cap_get h5)))) H1 i g Q fun l vs F2 H2 ⟨d, ds, hl, ⟨j, hj, j1⟩, hds⟩ s hv => q l vs F2 H2 ⟨j, by rw [hl, hj, hds], j1⟩ s hv)
    fun ds ⟨j, hj, j1⟩ => hj ▸ fun F H vs e hvs Q q => rc_min2 F H vs e hvs Q fun z v F2 H2 hz s hv => q z v F2 H2 ?_ s hv) fun d v F2 H2 hd s2 hv2 => k d v F2 H2 hd s2 hv2
  · simp only [List.mem_cons, List.not_mem_nil, or_false] at hd
    rcases hd with rfl | rfl | rfl | rfl | rfl | rfl | rfl | rfl <;> exact ⟨_, rfl, by decide⟩
  · rw [show z = _ from hz]
    by_cases z : ((capN n : Nat) : Int) < j
    · rw [if_pos z]; exact ⟨capN n, rfl, by omega, Nat.le_refl _⟩
    · rw [if_neg z]; exact ⟨j.toNat, congrArg PyData.int (by omega), by omega, by omega⟩
abbrev spBadM (K : PySem.W.Frag) : Sp := spQ K (fun _ : Unit => []) (fun _ => True) (fun _ d => d ∈ badMans)
theorem ok_badM {f fD : Addr} {fd fdD : FuncData} (Fn : Fun K "_law_bad_manner" "_law_bad_manner" s_law_bad_manner f fd) (T : Tx mg)
    (F_law_draw : Fun K "_law_draw" "_law_draw" s_law_draw fD fdD) (b_law_draw : Binds K fdD ["_law_pot_here", "_law_many_here"] []) (g_law_draw : mg "_law_draw" = some (.ref fD)) : FnOk P w K mg base CX0 2 f fd ["_law_pot_here"] (spBadM K) := by
  have G_law_draw : FnOk P w K mg base CX0 1 fD fdD ["_law_pot_here", "_law_many_here"] (spDraw K) := ok_draw F_law_draw T
  refine Fn.ok sc_law_bad_manner (spQ.len (n := 0) (fun _ => rfl)) (fun cdv A outer s H vs Q E hr h => ?_)
  obtain ⟨q, _, F, as, rfl, _, e, g, ha, k⟩ := h
  cases ha
  refine ⟨_, (pss_one (ps_ret (pe_ix (o_ixL (K := K)) (pe_lst (pa_cons pe_non (pa_cons pe_int (pa_cons pe_bl (pa_cons pe_str (pa_cons pe_str (pa_cons pe_str (pa_cons (pe_tup (pa_cons pe_str pa_nil)) (pa_cons pe_str (pa_cons pe_str (pa_cons pe_int pa_nil))))))))))) (pe_call G_law_draw (hr.mono (by decide)) (by rfl) g_law_draw F_law_draw.kp b_law_draw .nil pass0 (pa_cons (pv 0) (pa_cons pe_int pa_nil))) (fun _ _ => rfl)))), ?_⟩
  exact t_ret (K := K) (R := fun d => d ∈ badMans) (Step.refl e g) (g_pick (ds := badMans) (c := 10) (g_lstI (gs_consI g_non (gs_int (gs_consI g_bl (gs_consI g_str (gs_consI g_str (gs_consI g_str (gs_consI (g_tupI (gs_one g_str) (by decide)) (gs_consI g_str (gs_consI g_str (gs_int gs_nil)))))))))) (by decide)) (g_callP (m := 10) rfl g_int (by decide)) (by decide) fun d hd => hd) fun d v F2 H2 hd s2 hv2 => k d v F2 H2 hd s2 hv2
end
end K7

namespace K7
open PySem PySem.Spec PyProof.Rows L2 Fv Evl StX
abbrev s_law_greatest : Stmt := topS 40
theorem sc_law_greatest : FnScope ["_law_every_here", "_law_found", "_law_lot_here", "_law_other", "_law_house"] ["_law_every_here"] (defScope s_law_greatest) := ⟨rfl, rfl, rfl, by decide +kernel, rfl, by decide +kernel, by decide +kernel⟩
abbrev s_law_family : Stmt := topS 41
theorem sc_law_family : FnScope ["_law_n", "_law_lots_here", "_law_lot_here"] ["_law_n", "_law_lots_here"] (defScope s_law_family) := ⟨rfl, rfl, rfl, by decide +kernel, rfl, by decide +kernel, by decide +kernel⟩
abbrev s_law_longer : Stmt := topS 42
theorem sc_law_longer : FnScope ["_law_rows_here", "_law_marks", "_law_longer_here", "_law_row", "_law_mark"] ["_law_rows_here", "_law_marks"] (defScope s_law_longer) := ⟨rfl, rfl, rfl, by decide +kernel, rfl, by decide +kernel, by decide +kernel⟩
abbrev s_law_rows : Stmt := topS 43
theorem sc_law_rows : FnScope ["_law_n", "_law_m", "_law_rows_here", "_law_house"] ["_law_n", "_law_m"] (defScope s_law_rows) := ⟨rfl, rfl, rfl, by decide +kernel, rfl, by decide +kernel, by decide +kernel⟩
abbrev s_law_entry : Stmt := topS 44
theorem sc_law_entry : FnScope ["_law_pot_here", "_law_n", "_law_m", "_law_house"] ["_law_pot_here", "_law_n", "_law_m"] (defScope s_law_entry) := ⟨rfl, rfl, rfl, by decide +kernel, rfl, by decide +kernel, by decide +kernel⟩
abbrev s_law_differ : Stmt := topS 45
theorem sc_law_differ : FnScope ["_law_one", "_law_other", "_law_k"] ["_law_one", "_law_other"] (defScope s_law_differ) := ⟨rfl, rfl, rfl, by decide +kernel, rfl, by decide +kernel, by decide +kernel⟩
def greatL (E : List (List Int)) : List (List Int) := E.filter fun l => (E.filter fun o => decide (l.length < o.length) && inLot l o).isEmpty
def longer (rows : List (List Int)) (marks : List Int) : List (List Int) := rows.flatMap fun r => marks.map fun m => r ++ [m]
def rowsOf (m : Nat) : Nat → List (List Int)
  | 0 => [[]]
  | n + 1 => longer (rowsOf m n) (hs m)
def differ (a b : List Int) : List Int := (hs a.length).filter fun h => !decide (at_ a h = at_ b h)
theorem longer_len (rows : List (List Int)) (marks : List Int) : (longer rows marks).length = rows.length * marks.length := by
  induction rows with
  | nil => simp [longer]
  | cons r rs ih =>
    have : longer (r :: rs) marks = (marks.map fun m => r ++ [m]) ++ longer rs marks := rfl
    rw [this, List.length_append, ih, List.length_map, List.length_cons, Nat.succ_mul]; omega
theorem rows_len (m : Nat) : ∀ n, (rowsOf m n).length = m ^ n ∧ ∀ r ∈ rowsOf m n, r.length = n ∧ ∀ k ∈ r, 0 ≤ k ∧ k < (m : Int)
  | 0 => ⟨rfl, fun r hr => by rw [List.mem_singleton.mp hr]; simp⟩
  | n + 1 => by
    obtain ⟨h1, h2⟩ := rows_len m n
    refine ⟨by show (longer _ _).length = _; rw [longer_len, h1, hs_len, Nat.pow_succ], fun r hr => ?_⟩
    obtain ⟨r0, hr0, hr1⟩ := List.mem_flatMap.mp hr
    obtain ⟨k, hk, rfl⟩ := List.mem_map.mp hr1
    obtain ⟨h3, h4⟩ := h2 r0 hr0
    refine ⟨by simp [h3], fun j hj => ?_⟩
    rcases List.mem_append.mp hj with z | z
    · exact h4 j z
    · rw [List.mem_singleton.mp z]; exact hs_mem.mp hk
theorem rows_all (m : Nat) : ∀ (n : Nat) (r : List Int), r.length = n → (∀ k ∈ r, 0 ≤ k ∧ k < (m : Int)) → r ∈ rowsOf m n
  | 0, r, h, _ => by rw [List.length_eq_zero_iff.mp h]; simp [rowsOf]
  | n + 1, r, h, hk => by
    obtain ⟨r0, k, rfl⟩ : ∃ r0 k, r = r0 ++ [k] := ⟨r.dropLast, r.getLast (by intro z; rw [z] at h; cases h), (List.dropLast_concat_getLast _).symm⟩
    have h0 : r0.length = n := by simpa using h
    exact List.mem_flatMap.mpr ⟨r0, rows_all m n r0 h0 fun j hj => hk j (by simp [hj]), List.mem_map.mpr ⟨k, hs_mem.mpr (hk k (by simp)), rfl⟩⟩
section
variable {P : Program} {w : World} {K : PySem.W.Frag} {mg : Str → Option Value} {base : Heap}
variable {pt : Option Pt} {σ : L2.St} {F F0 H0 H : Hp} {te ta tb : TE} {ts tr : TA} {D : Ends} {tz : TS} {C : Addr}
abbrev spGreat (K : PySem.W.Frag) : Sp := PSp K (fun E : List (List Int) => [dLT E]) (fun E => E.length ≤ 300 ∧ (∀ l ∈ E, l.length ≤ 60) ∧ ((∀ l ∈ greatL E, l ≠ []) ∨ greatL E = [[]])) (fun E => dLT (sortL (greatL E)))
theorem dLT_emp (xs : List (List Int)) : (xs.map dT).isEmpty = xs.isEmpty := by cases xs <;> rfl
theorem dI_emp (xs : List Int) : (xs.map PyData.int).isEmpty = xs.isEmpty := by cases xs <;> rfl
theorem ok_great {f : Addr} {fd : FuncData} (Fn : Fun K "_law_greatest" "_law_greatest" s_law_greatest f fd) (T : Tx mg) : FnOk P w K mg base CX0 1 f fd ["_law_every_here"] (spGreat K) := by
  refine Fn.ok sc_law_greatest (PSp.len (fun _ => rfl)) (fun cdv A outer s H vs Q E hr h => ?_)
  obtain ⟨EE, F, ⟨hz, hls, hkind⟩, e, ha, q⟩ := h
  obtain ⟨v, rfl, hv⟩ := rpAll1 ha
  refine ⟨_, (pss_cons (ps_set (i := 1) sc_law_greatest.nd rfl (by first | exact Or.inl rfl | exact Or.inr rfl) (pe_lst pa_nil))
    (pss_cons (ps_for PassesOwn.never rfl (i_list (K := K) (pv 0)) (pg_name (i := 2) sc_law_greatest.nd rfl (by first | exact Or.inl rfl | exact Or.inr rfl)) (pss_one (ps_if (pt_cmpR (o_eqD (K := K) hr.units) (pe_lc (own := [("_law_other", 3)]) (g := gName 3) rfl sc_law_greatest.nd (i_list (K := K) (pv 0)) (blkOk_by (own := [("_law_other", 3)]) (N := ["_law_every_here", "_law_found", "_law_lot_here", "_law_other", "_law_house"]) (sc := (defScope s_law_greatest)) (by decide +kernel)) (fun _ _ _ _ _ => pg_name (i := 3) sc_law_greatest.nd rfl (by first | exact Or.inl rfl | exact Or.inr rfl)) (fun _ _ _ _ _ => (pts_one (PW.pt (pw_and (pt_cmpR op_gt (pe_callB (c_len (K := K)) (by rfl) T.len (by decide +kernel) (pa_cons (pv 3) pa_nil)) (pe_callB (c_len (K := K)) (by rfl) T.len (by decide +kernel) (pa_cons (pv 2) pa_nil)) (nomark _)) (pw_and1 (pt_cmpR (o_eqD (K := K) hr.units) (pe_lc (own := [("_law_house", 4)]) (g := gName 4) rfl sc_law_greatest.nd (i_tup (K := K) (pv 2)) (blkOk_by (own := [("_law_house", 4)]) (N := ["_law_every_here", "_law_found", "_law_lot_here", "_law_other", "_law_house"]) (by rfl)) (fun _ _ _ _ _ => pg_name (i := 4) sc_law_greatest.nd rfl (by first | exact Or.inl rfl | exact Or.inr rfl)) (fun _ _ _ _ _ => (pts_one (pt_cmpR (o_notIn (K := K)) (pv 4) (pv 3) (by rfl)))) (fun _ _ _ _ _ => (pv 4))) (pe_lst pa_nil) (nomark _))))))) (fun _ _ _ _ _ => (pv 3))) (pe_lst pa_nil) (nomark _)) (pss_one (ps_expr (pe_bm PySem.F.plainAttrs_list PySem.F.slot_list_append PySem.F.type_list_append mt_append (pv 1) (pa_cons (pv 2) pa_nil)))) pss_nil)))
    (pss_one (ps_ret (pe_callB (c_sortLL (K := K) (hu65 hr)) (by rfl) T.sorted (by decide +kernel) (pa_cons (pv 1) pa_nil)))))), ?_⟩
  have g0 : Good none F H := .nil
  refine t_newL (K := K) (Step.refl e .nil) (fun l h0 hl g => ?_) (fun _ h => h)
  refine t_forG (K := K) (ds := EE.map dT) g0 h0 g (w_listI (g_var rfl hv))
    (fun i σ' F' l' => (∃ a b c, σ' = [some v, some (.ref l), a, b, c]) ∧ l' = ((EE.take i).filter fun l => (EE.filter fun o => decide (l.length < o.length) && inLot l o).isEmpty).map dT) (fun F2 e2 => ⟨⟨none, none, none, rfl⟩, by simp⟩) (fun i d hd σ' F' H' u l' hI g' e' hu N hN => ?_) (fun σ' F' H' l' hI g' e' => ?_)
  · obtain ⟨⟨a, b, c, rfl⟩, rfl⟩ := hI
    obtain ⟨o, ho, rfl⟩ := get_map hd
    have hol := hls o (List.mem_of_getElem? ho)
    have hv' := Rp.mono e' _ _ hv
    have few : ((EE.take i).filter fun l => (EE.filter fun o => decide (l.length < o.length) && inLot l o).isEmpty).length ≤ 300 := Nat.le_trans (List.length_filter_le _ _) (by rw [List.length_take]; omega)
    refine t_if1 (b := (EE.filter fun z => decide (o.length < z.length) && inLot o z).isEmpty) (Step.refl g'.step.inn .nil) ((et_of (g_opI (g_lcE dT EE (fun z => decide (o.length < z.length) && inLot o z) dT (w_listI (g_var rfl hv')) (by omega) (fun _ => rfl)
      (fun z hzm F'' e'' y hy => (et_and (et_of (g_opI (g_cbI (gs_one (g_var rfl hy)) rc_lenT) (g_cbI (gs_one (g_var rfl (Rp.mono e'' _ _ hu))) rc_lenT) (rv_bl (g := fun i j => decide (j < i))))) fun _ => et_of (g_opI (g_lcE PyData.int o (fun h => !decide (h ∈ z)) PyData.int (w_tupI (g_var rfl (Rp.mono e'' _ _ hu))) (by omega) (fun _ => rfl)
        (fun h hh F3 e3 y3 hy3 => et_of (g_opI (g_var rfl hy3) (g_var rfl (Rp.mono e3 _ _ hy)) rv_ninT)) (fun h _ _ F3 e3 y3 hy3 => g_var rfl hy3)) (g_lstI gs_nil (by simp)) (rv_eqNil (shaped_dI _)))).is ?_)
      (fun z hzm _ F'' e'' y hy => g_var rfl hy)) (g_lstI gs_nil (by simp)) (rv_eqNil (shaped_dLT _)))).is (dLT_emp _)) (fun hb F3 H3 s3 e3 => ?_) (fun hb F3 H3 s3 e3 => ?_)
    · rw [dI_emp]
      simp [inLot]
    · refine t_app (K := K) g0 h0 (g'.run g0 h0 s3) rfl (g_var rfl (Rp.mono e3 _ _ hu)) (by rw [List.length_map]; omega) fun d4 F4 H4 hd4 g4 e4 => ?_
      subst hd4
      refine hN _ F4 H4 _ ⟨⟨_, _, _, rfl⟩, ?_⟩ g4 (e3.trans e4)
      rw [take_succA ho, List.filter_append, List.filter_cons_of_pos (p := fun l => (EE.filter fun o => decide (l.length < o.length) && inLot l o).isEmpty) hb, List.filter_nil, List.map_append]; rfl
    · refine hN _ F3 H3 _ ⟨⟨_, _, _, rfl⟩, ?_⟩ (g'.run g0 h0 s3) e3
      rw [take_succA ho, List.filter_append, List.filter_cons_of_neg (p := fun l => (EE.filter fun o => decide (l.length < o.length) && inLot l o).isEmpty) (by rw [hb]; simp), List.filter_nil, List.append_nil]
  · obtain ⟨⟨a, b, c, rfl⟩, rfl⟩ := hI
    obtain ⟨F2, s2, e2, r2⟩ := g'.done g0 h0
    rw [List.length_map, List.take_length] at r2
    exact t_retI (K := K) s2 (g_sortLL (ls := greatL EE) (g_var rfl r2) hkind) q
/-! ### the family -/
def spFamily (K : PySem.W.Frag) (C : Addr) : Sp := fun vs H Q _ => ∃ (n : Nat) (ls : List (List Int)) (F : Hp) (v : V), vs = [.int n, v] ∧ Rp K F v (dLT ls) ∧ Ex F H ∧ (2 ≤ n ∧ n ≤ 5) ∧ GoodLots n ls ∧ ls.length ≤ 32 ∧ ∀ x F2 H2, Step none F H F2 H2 → Fam K C F2 x n ls → Q (.ref x) H2
theorem ok_family {f fN C : Addr} {fd fdN : FuncData} (Fn : Fun K "_law_family" "_law_family" s_law_family f fd) (T : Tx mg) (M_Falls : Mk K C fN) (g_Falls : mg "Falls" = some (.ref C)) (G_Falls : FnOk P w K mg base CX0 4 fN fdN ["self", "houses", "lots"] (spInit K C)) (b_Falls : Binds K fdN ["self", "houses", "lots"] []) :
    FnOk P w K mg base CX0 6 f fd ["_law_n", "_law_lots_here"] (spFamily K C) := by
  refine Fn.ok sc_law_family (fun vs H Q E ⟨_, _, _, _, h, _⟩ => by rw [h]; rfl) (fun cdv A outer s H vs Q E hr h => ?_)
  obtain ⟨n, ls, F, v, rfl, hv, e, hn, hg, hz, q⟩ := h
  refine ⟨_, (pss_one (ps_ret (pe_make M_Falls G_Falls (hr.mono (by decide)) (by rfl) g_Falls b_Falls .nil pass0 (pa_cons (pv 0) (pa_cons (pe_lc (own := [("_law_lot_here", 2)]) (g := gName 2) rfl sc_law_family.nd (i_list (K := K) (pv 1)) (blkOk_by (own := [("_law_lot_here", 2)]) (N := ["_law_n", "_law_lots_here", "_law_lot_here"]) (sc := (defScope s_law_family)) (by decide +kernel)) (fun _ _ _ _ _ => pg_name (i := 2) sc_law_family.nd rfl (by first | exact Or.inl rfl | exact Or.inr rfl)) (fun _ _ _ _ _ => pts_nil) (fun _ _ _ _ _ => (pe_callTy (c_list (K := K)) (by rfl) T.list (by decide +kernel) (pa_cons (pv 2) pa_nil)))) pa_nil))))), ?_⟩
  refine t_retX (Step.refl e .nil) (x_make (n := n) (ls := ls) (gs_two (g_var (v := .int n) rfl (.int _)) ((g_lcEM dT ls dI (w_listI (g_var rfl hv)) (by omega) (fun _ => rfl) fun l hl F' e' y hy => g_cbI (gs_one (g_var rfl hy)) (rc_list (.inr rfl))))) (.l _) hn hg hz) fun z F3 H3 ⟨x, e3, fam⟩ s3 => ?_
  rw [e3]
  exact q x F3 H3 s3 fam
/-! ### rows -/
abbrev spLonger (K : PySem.W.Frag) : Sp := PSp K (fun i : List (List Int) × List Int => [dLT i.1, dI i.2]) (fun i => i.1.length ≤ 1100 ∧ i.2.length ≤ 10 ∧ ∀ r ∈ i.1, r.length ≤ 100) (fun i => dLT (longer i.1 i.2))
theorem ok_longer {f : Addr} {fd : FuncData} (Fn : Fun K "_law_longer" "_law_longer" s_law_longer f fd) (T : Tx mg) : FnOk P w K mg base CX0 1 f fd ["_law_rows_here", "_law_marks"] (spLonger K) := by
  refine Fn.ok sc_law_longer (PSp.len (fun _ => rfl)) (fun cdv A outer s H vs Q E hr h => ?_)
  obtain ⟨⟨rows, marks⟩, F, ⟨h1, h2, h3⟩, e, ha, q⟩ := h
  obtain ⟨v, x, rfl, hv, hx⟩ := rpAll2 ha
  simp only at h1 h2 h3
  refine ⟨_, (pss_cons (ps_set (i := 2) sc_law_longer.nd rfl (by first | exact Or.inl rfl | exact Or.inr rfl) (pe_lst pa_nil))
    (pss_cons (ps_for PassesOwn.never rfl (i_list (K := K) (pv 0)) (pg_name (i := 3) sc_law_longer.nd rfl (by first | exact Or.inl rfl | exact Or.inr rfl)) (pss_one (ps_expr (pe_bm PySem.F.plainAttrs_list PySem.F.slot_list_extend PySem.F.type_list_extend mt_extend (pv 2) (pa_cons (pe_lc (own := [("_law_mark", 4)]) (g := gName 4) rfl sc_law_longer.nd (i_list (K := K) (pv 1)) (blkOk_by (own := [("_law_mark", 4)]) (N := ["_law_rows_here", "_law_marks", "_law_longer_here", "_law_row", "_law_mark"]) (sc := (defScope s_law_longer)) (by decide +kernel)) (fun _ _ _ _ _ => pg_name (i := 4) sc_law_longer.nd rfl (by first | exact Or.inl rfl | exact Or.inr rfl)) (fun _ _ _ _ _ => pts_nil) (fun _ _ _ _ _ => (pe_op (o_catA (K := K)) (pv 3) (pe_tup (pa_cons (pv 4) pa_nil))))) pa_nil)))))
    (pss_one (ps_ret (pv 2))))), ?_⟩
  have g0 : Good none F H := .nil
  refine t_newL (K := K) (Step.refl e .nil) (fun l h0 hl0 g1 => ?_) (fun _ h => h)
  refine t_forG (K := K) (ds := rows.map dT) g0 h0 g1 (w_listI (g_var rfl hv))
    (fun i σ' F' l' => (∃ y z, σ' = [some v, some x, some (.ref l), y, z]) ∧ l' = (longer (rows.take i) marks).map dT) (fun F2 e2 => ⟨⟨none, none, rfl⟩, by simp [longer]⟩) (fun i d hd σ' F' H' u l' hI g' e' hu N hN => ?_) (fun σ' F' H' l' hI g' e' => ?_)
  · obtain ⟨⟨y, z, rfl⟩, rfl⟩ := hI
    obtain ⟨r, hr2, rfl⟩ := get_map hd
    have hrl := h3 r (List.mem_of_getElem? hr2)
    have hlen : (longer (rows.take i) marks).length ≤ 11000 := by
      rw [longer_len, List.length_take]
      have : min i rows.length * marks.length ≤ 1100 * 10 := Nat.mul_le_mul (by omega) h2
      omega
    refine t_ext (K := K) (es := marks.map fun m => dT (r ++ [m])) g0 h0 g' rfl ((g_lcEM PyData.int marks (fun m => dT (r ++ [m])) (w_listI (g_var rfl (Rp.mono e' _ _ hx))) (by omega) (fun _ => rfl) fun m hm F2 e2 y hy => ?_)) (by rw [List.length_map, List.length_map]; omega) fun F4 H4 g4 e4 => ?_
    · exact (g_opI (g_var rfl (Rp.mono e2 _ _ hu)) (g_tupI (gs_one (g_var rfl hy)) (by simp)) (rv_catA (by simp; omega))).is (congrArg PyData.tuple (by rw [List.map_append]; rfl))
    · refine hN _ F4 H4 _ ⟨⟨_, _, rfl⟩, ?_⟩ g4 e4
      rw [take_succA hr2]
      have : longer (rows.take i ++ [r]) marks = longer (rows.take i) marks ++ marks.map fun m => r ++ [m] := by simp [longer]
      rw [this, List.map_append, List.map_map]; rfl
  · obtain ⟨⟨y, z, rfl⟩, rfl⟩ := hI
    obtain ⟨F2, s2, e2, r2⟩ := g'.done g0 h0
    refine t_retI (K := K) s2 (g_var rfl r2) fun v3 F3 H3 s3 hv3 => q v3 F3 H3 s3 ?_
    rw [List.length_map, List.take_length] at hv3
    exact hv3
theorem g_listRg {m : Nat} (h : EvG K pt te σ F (Is (.int (m : Int)))) (hm : m ≤ 1000) : EvG K pt (tLstRg (tRg1 te)) σ F (Is (dI (hs m))) := fun H1 i g Q q =>
  h H1 i g _ fun d v F2 H2 hd s hv => by
    subst hd
    refine ⟨m, rp_int hv, .of_le (Int.le_refl _) (by omega) (by omega) (by omega), fun p hp => ?_⟩
    have s3 : Step pt F2 H2 (upd F2 p (.lst (rgV 0 m))) (upd H2 p (.lst (rgV 0 m))) := .laid s.inn s.good hp
    refine q _ _ _ _ rfl (s.trans s3) (.lst upd_same ?_)
    have := rgV_rng (K := K) 0 (m : Int) (upd F2 p (.lst (rgV 0 m)))
    rw [Int.sub_zero, show ((m : Nat) : Int).toNat = m by omega, rng_hs] at this
    exact this
abbrev spRows (K : PySem.W.Frag) : Sp := PSp K (fun i : Nat × Nat => [.int i.1, .int i.2]) (fun i => i.1 ≤ 5 ∧ 1 ≤ i.2 ∧ i.2 ≤ 4) (fun i => dLT (rowsOf i.2 i.1))
theorem pow_few {m n i : Nat} (h1 : 1 ≤ m) (h2 : m ≤ 4) (h3 : n ≤ 5) (h4 : i ≤ n) : m ^ i ≤ 1100 := by
  have a : m ^ i ≤ 4 ^ i := Nat.pow_le_pow_left h2 i
  have b : 4 ^ i ≤ 4 ^ 5 := Nat.pow_le_pow_right (by decide) (by omega)
  omega
theorem ok_rows {f fL : Addr} {fd fdL : FuncData} (Fn : Fun K "_law_rows" "_law_rows" s_law_rows f fd) (T : Tx mg)
    (F_law_longer : Fun K "_law_longer" "_law_longer" s_law_longer fL fdL) (b_law_longer : Binds K fdL ["_law_rows_here", "_law_marks"] []) (g_law_longer : mg "_law_longer" = some (.ref fL)) : FnOk P w K mg base CX0 2 f fd ["_law_n", "_law_m"] (spRows K) := by
  have G_law_longer : FnOk P w K mg base CX0 1 fL fdL ["_law_rows_here", "_law_marks"] (spLonger K) := ok_longer F_law_longer T
  refine Fn.ok sc_law_rows (PSp.len (fun _ => rfl)) (fun cdv A outer s H vs Q E hr h => ?_)
  obtain ⟨⟨n, m⟩, F, ⟨hn, m1, m4⟩, e, ha, q⟩ := h
  simp only at hn m1 m4
  obtain ⟨v, x, rfl, hv, hx⟩ := rpAll2 ha
  refine ⟨_, (pss_cons (ps_set (i := 2) sc_law_rows.nd rfl (by first | exact Or.inl rfl | exact Or.inr rfl) (pe_lst (pa_cons (pe_tup pa_nil) pa_nil)))
    (pss_cons (ps_for PassesOwn.never rfl (pi_range1 (by rfl) T.range (pa_cons (pv 0) pa_nil)) (pg_name (i := 3) sc_law_rows.nd rfl (by first | exact Or.inl rfl | exact Or.inr rfl)) (pss_one (ps_set (i := 2) sc_law_rows.nd rfl (by first | exact Or.inl rfl | exact Or.inr rfl) (pe_call G_law_longer (hr.mono (by decide)) (by rfl) g_law_longer F_law_longer.kp b_law_longer .nil pass0 (pa_cons (pv 2) (pa_cons (pe_listRg rfl (by rfl) T.list (prg_1 (by rfl) T.range (pv 1))) pa_nil))))))
    (pss_one (ps_ret (pv 2))))), ?_⟩
  refine t_asgI (K := K) (d := dLT [[]]) (Step.refl e .nil) (g_lstI (gs_one (g_tupI gs_nil (by simp))) (by simp)) fun y F1 H1 s1 e1 hy => ?_
  refine t_for (K := K) s1 (w_rng1I (n := n) (gs_one (g_var rfl (Rp.mono e1 _ _ hv))) (by omega) (by omega)) (fun i σ' F' => ∃ y u, σ' = [some v, some x, some y, u] ∧ Rp K F' y (dLT (rowsOf m i)) ∧ i ≤ n) (fun F2 e2 => ⟨y, none, rfl, Rp.mono e2 _ _ hy, Nat.zero_le _⟩) (fun i d hd σ' F' H' z hI s' e' hz N hN => ?_) (fun σ' F' H' hI s' e' => ?_)
  · obtain ⟨y', u, rfl, hy', hi⟩ := hI
    have hin : i < n := by
      have := (List.getElem?_eq_some_iff.mp hd).1
      rw [rng_len] at this
      simpa using this
    obtain ⟨l1, l2⟩ := rows_len m i
    have p := pow_few m1 m4 hn hi
    refine t_asg1 (K := K) s' (g_call (rowsOf m i, hs m) (gs_two (g_var rfl hy') (g_listRg (g_var rfl (Rp.mono (e1.trans e') _ _ hx)) (by omega))) rfl ⟨by simp only; omega, by simp only [hs_len]; omega, fun r hr => by have := (l2 r hr).1; omega⟩) fun d2 v2 F3 H3 hd2 s3 e3 hv3 => hN _ F3 H3 ⟨v2, some z, rfl, ?_, hin⟩ s3 e3
    rw [show d2 = _ from hd2] at hv3
    exact hv3
  · obtain ⟨y', u, rfl, hy', hi⟩ := hI
    rw [rng_len] at hy'
    exact t_retI s' (g_var rfl hy') (by simpa using q)
/-! ### drawn rows -/
abbrev spEntry (K : PySem.W.Frag) : Sp := spQ K (fun i : Nat × Nat => [.int i.1, .int i.2]) (fun i => i.1 ≤ 100 ∧ 1 ≤ i.2 ∧ i.2 ≤ 100) (fun i d => ∃ r : List Int, d = dT r ∧ r.length = i.1 ∧ ∀ k ∈ r, 0 ≤ k ∧ k < (i.2 : Int))
theorem ok_entry {f fD : Addr} {fd fdD : FuncData} (Fn : Fun K "_law_entry" "_law_entry" s_law_entry f fd) (T : Tx mg)
    (F_law_draw : Fun K "_law_draw" "_law_draw" s_law_draw fD fdD) (b_law_draw : Binds K fdD ["_law_pot_here", "_law_many_here"] []) (g_law_draw : mg "_law_draw" = some (.ref fD)) : FnOk P w K mg base CX0 2 f fd ["_law_pot_here", "_law_n", "_law_m"] (spEntry K) := by
  have G_law_draw : FnOk P w K mg base CX0 1 fD fdD ["_law_pot_here", "_law_many_here"] (spDraw K) := ok_draw F_law_draw T
  refine Fn.ok sc_law_entry (spQ.len (n := 2) (fun _ => rfl)) (fun cdv A outer s H vs Q E hr h => ?_)
  obtain ⟨q, ⟨n, m⟩, F, as, rfl, ⟨hn, m1, m2⟩, e, g, ha, k⟩ := h
  obtain ⟨v, x, rfl, hv, hx⟩ := rpAll2 ha
  obtain rfl := rp_int hv
  obtain rfl := rp_int hx
  simp only at hn m1 m2
  refine ⟨_, (pss_one (ps_ret (pe_callTy (c_tup (K := K)) (by rfl) T.tuple (by decide +kernel) (pa_cons (pe_lc (own := [("_law_house", 3)]) (g := gName 3) rfl sc_law_entry.nd (pi_range1 (by rfl) T.range (pa_cons (pv 1) pa_nil)) (blkOk_by (own := [("_law_house", 3)]) (N := ["_law_pot_here", "_law_n", "_law_m", "_law_house"]) (sc := (defScope s_law_entry)) (by decide +kernel)) (fun _ _ _ _ _ => pg_name (i := 3) sc_law_entry.nd rfl (by first | exact Or.inl rfl | exact Or.inr rfl)) (fun _ _ _ _ _ => pts_nil) (fun _ _ _ _ _ => (pe_call G_law_draw (hr.mono (by decide)) (by rfl) g_law_draw F_law_draw.kp b_law_draw .nil pass0 (pa_cons (pv 0) (pa_cons (pv 2) pa_nil))))) pa_nil)))), ?_⟩
  refine t_ret (K := K) (R := fun d => ∃ r : List Int, d = dT r ∧ r.length = n ∧ ∀ k ∈ r, 0 ≤ k ∧ k < (m : Int)) (Step.refl e g) (g_cb (g_consR (g_lcR (α := Unit) PyData.int (fun k => 0 ≤ k ∧ k < (m : Int)) (w_range (n := n) (g_var rfl (.int _)) (by omega)) (fun ds h => by rw [h, List.length_map, List.length_range]; omega) (fun _ => rfl) fun F' e' u =>
    (g_callP (m := (m : Int)) rfl (g_var (v := .int m) (d := .int m) rfl (.int _)) ⟨by omega, by omega⟩).imp fun d ⟨j, hj, j0, j1⟩ => ⟨j, hj, j0, j1⟩)) ?_) fun d v F2 H2 hd s2 hv2 => ?_
  · rintro ds ⟨d, rfl, ds, ys, hds, rfl, hl, hp⟩
    intro F H vs e hvs Q q
    refine rc_tupL F H vs e hvs Q fun z v F2 H2 hz s hv => q z v F2 H2 ⟨ys, hz, ?_, hp⟩ s hv
    rw [hl, show ds = _ from hds, List.length_map, List.length_range]
  · obtain ⟨r, h1, h2, h3⟩ := hd
    exact k d v F2 H2 ⟨r, h1, h2, h3⟩ s2 hv2
abbrev spDiffer (K : PySem.W.Frag) : Sp := PSp K (fun i : List Int × List Int => [dT i.1, dT i.2]) (fun i => i.1.length ≤ 1000 ∧ i.2.length = i.1.length) (fun i => dT (differ i.1 i.2))
theorem ok_differ {f : Addr} {fd : FuncData} (Fn : Fun K "_law_differ" "_law_differ" s_law_differ f fd) (T : Tx mg) : FnOk P w K mg base CX0 1 f fd ["_law_one", "_law_other"] (spDiffer K) := by
  refine Fn.ok sc_law_differ (PSp.len (fun _ => rfl)) (fun cdv A outer s H vs Q E hr h => ?_)
  obtain ⟨⟨a, b⟩, F, ⟨hz, hl⟩, e, ha, q⟩ := h
  obtain ⟨v, x, rfl, hv, hx⟩ := rpAll2 ha
  simp only at hz hl
  refine ⟨_, (pss_one (ps_ret (pe_callTy (c_tup (K := K)) (by rfl) T.tuple (by decide +kernel) (pa_cons (pe_lc (own := [("_law_k", 2)]) (g := gName 2) rfl sc_law_differ.nd (pi_range1 (by rfl) T.range (pa_cons (pe_callB (c_len (K := K)) (by rfl) T.len (by decide +kernel) (pa_cons (pv 0) pa_nil)) pa_nil)) (blkOk_by (own := [("_law_k", 2)]) (N := ["_law_one", "_law_other", "_law_k"]) (sc := (defScope s_law_differ)) (by decide +kernel)) (fun _ _ _ _ _ => pg_name (i := 2) sc_law_differ.nd rfl (by first | exact Or.inl rfl | exact Or.inr rfl)) (fun _ _ _ _ _ => (pts_one (pt_cmpR op_ne (pe_ix (o_ixT (K := K)) (pv 0) (pv 2) (fun _ _ => rfl)) (pe_ix (o_ixT (K := K)) (pv 1) (pv 2) (fun _ _ => rfl)) (nomark _)))) (fun _ _ _ _ _ => (pv 2))) pa_nil)))), ?_⟩
  exact t_retI (K := K) (Step.refl e .nil) (g_cbI (gs_one (g_lcE PyData.int (hs a.length) (fun h => !decide (at_ a h = at_ b h)) PyData.int (w_lenT (e := a) (g_var rfl hv) (Nat.le_trans hz (by decide))) (by rw [hs_len]; omega) (fun _ => rfl)
    (fun h hh F' e' u hu => et_of (g_opI (g_opI (g_var rfl (Rp.mono e' _ _ hv)) (g_var rfl hu) (ix_int hh)) (g_opI (g_var rfl (Rp.mono e' _ _ hx)) (g_var rfl hu) (ix_int (e := b) (by rw [hl]; exact hh))) rv_neI)) (fun h _ _ F' e' u hu => g_var rfl hu))) rc_tupL) q
end
end K7

namespace K7
open Fv PySem
/-! ### the mathematics -/
theorem all_bits : ∀ n ∈ List.range 6, (∀ l ∈ allLots n, l ∈ (List.range (2 ^ n)).map fun b : Nat => bitLot n b) ∧ (∀ b ∈ List.range (2 ^ n), bitLot n b ∈ allLots n) ∧ ∀ l ∈ allLots n, coN n (coN n l) = l ∧ l.length ≤ n ∧ ∀ k ∈ l, 0 ≤ k ∧ k < (n : Int) := by decide +kernel
theorem all_longer : ∀ n ∈ List.range 6, ∀ l ∈ allLots n, ∀ o ∈ allLots n, within l o = true → l = o ∨ l.length < o.length := by decide +kernel
theorem within_iff {a b : List Int} : within a b = true ↔ ∀ k ∈ a, k ∈ b := by unfold within; simp
theorem inLot_iff {a b : List Int} : inLot a b = true ↔ ∀ k ∈ a, k ∈ b := by unfold inLot; simp
theorem mem_every {n : Nat} (hn : n ≤ 5) {L : List (List Int)} {l : List Int} : l ∈ everyOf n L ↔ l ∈ allLots n ∧ (l = [] ∨ ∃ o ∈ L, ∀ k ∈ l, k ∈ o) := by
  obtain ⟨h1, h2, _⟩ := all_bits n (by rw [List.mem_range]; omega)
  unfold everyOf everyTo
  rw [List.mem_filter]
  have e : lets L l = true ↔ (l = [] ∨ ∃ o ∈ L, ∀ k ∈ l, k ∈ o) := by
    unfold lets
    rw [Bool.or_eq_true, List.isEmpty_iff, List.any_eq_true]
    simp only [inLot_iff]
  rw [e]
  constructor
  · rintro ⟨h, k⟩
    obtain ⟨b, hb, rfl⟩ := List.mem_map.mp h
    exact ⟨h2 b hb, k⟩
  · rintro ⟨h, k⟩
    exact ⟨h1 l h, k⟩
theorem mem_let {n : Nat} (hn : n ≤ 5) {ls : List (List Int)} {l : List Int} : l ∈ letOf n ls ↔ l ∈ allLots n ∧ (l = [] ∨ ∃ o ∈ ls, ∀ k ∈ l, k ∈ o) := by
  obtain ⟨_, _, h3⟩ := all_bits n (by rw [List.mem_range]; omega)
  unfold letOf
  rw [List.mem_filter]
  refine and_congr_right fun hl => ?_
  rw [List.any_cons, Bool.or_eq_true, List.any_map, List.any_eq_true, within_iff]
  refine or_congr ?_ ?_
  · constructor
    · intro h
      cases l with
      | nil => rfl
      | cons k r => exact absurd (h k (by simp)) (by simp)
    · rintro rfl; simp
  · simp only [Function.comp_apply, within_iff]
    refine exists_congr fun o => and_congr_right fun ho => ?_
    refine forall_congr' fun k => forall_congr' fun hk => ?_
    rw [mem_lotOf]
    exact ⟨fun h => h.2, fun h => ⟨(h3 l hl).2.2 k hk, h⟩⟩
section
variable {n : Nat} {ls L : List (List Int)}
theorem mem_great {l : List Int} : l ∈ greatOf n ls ↔ l ∈ letOf n ls ∧ ∀ o ∈ letOf n ls, within l o = true → l = o := by
  unfold greatOf
  rw [List.mem_filter]
  refine and_congr_right fun hl => ?_
  rw [Bool.not_eq_true', List.any_eq_false]
  refine forall_congr' fun o => forall_congr' fun ho => ?_
  simp only [Bool.and_eq_true, Bool.not_eq_true', decide_eq_false_iff_not, not_and, Bool.not_eq_true]
  constructor
  · intro h hw
    by_cases z : l = o
    · exact z
    · rw [h z] at hw; cases hw
  · intro h z
    cases hw : within l o with
    | false => rfl
    | true => exact absurd (h hw) z
theorem mem_fam {l : List Int} : l ∈ famLots n ls ↔ l ∈ greatOf n ls := (sortL_perm _).mem_iff
theorem above (hn : n ≤ 5) : ∀ (j : Nat) (l : List Int), l ∈ letOf n ls → n - l.length ≤ j → ∃ g ∈ famLots n ls, ∀ k ∈ l, k ∈ g := by
  have hb := all_bits n (by rw [List.mem_range]; omega)
  have hL := all_longer n (by rw [List.mem_range]; omega)
  intro j
  induction j with
  | zero =>
    intro l hl hj
    refine ⟨l, mem_fam.mpr (mem_great.mpr ⟨hl, fun o ho hw => ?_⟩), fun k hk => hk⟩
    have h1 := ((mem_let hn).mp hl).1
    have h2 := ((mem_let hn).mp ho).1
    rcases hL l h1 o h2 hw with z | z
    · exact z
    · have := (hb.2.2 o h2).2.1; omega
  | succ j ih =>
    intro l hl hj
    by_cases z : l ∈ greatOf n ls
    · exact ⟨l, mem_fam.mpr z, fun k hk => hk⟩
    · rw [mem_great] at z
      have : ∃ o ∈ letOf n ls, within l o = true ∧ l ≠ o := by
        refine Classical.byContradiction fun c => z ⟨hl, fun o ho hw => ?_⟩
        refine Classical.byContradiction fun d => c ⟨o, ho, hw, d⟩
      obtain ⟨o, ho, hw, hne⟩ := this
      have h1 := ((mem_let hn).mp hl).1
      have h2 := ((mem_let hn).mp ho).1
      have hlt : l.length < o.length := (hL l h1 o h2 hw).resolve_left hne
      obtain ⟨g, hg, hk⟩ := ih o ho (by have := (hb.2.2 o h2).2.1; omega)
      exact ⟨g, hg, fun k h => hk k (within_iff.mp hw k h)⟩
theorem fam_let {l : List Int} (h : l ∈ famLots n ls) : l ∈ letOf n ls := (mem_great.mp (mem_fam.mp h)).1
theorem not_full (hn : 2 ≤ n ∧ n ≤ 5) (hg : GoodLots n ls) {l : List Int} (hl : l ∈ letOf n ls) : ∃ k ∈ hs n, k ∉ l := by
  rcases ((mem_let hn.2).mp hl).2 with rfl | ⟨o, ho, hk⟩
  · exact ⟨0, hs_mem.mpr ⟨by omega, by omega⟩, by simp⟩
  · have h3 := (hg.2 o ho).2.2
    refine Classical.byContradiction fun c => h3 ?_
    have all : ∀ k ∈ hs n, k ∈ o := fun k hk' => by
      refine Classical.byContradiction fun d => c ⟨k, hk', fun e => d (hk k e)⟩
    have : lotOf n o = hs n := by
      unfold lotOf
      exact List.filter_eq_self.mpr fun k hk' => by simpa using all k hk'
    rw [this, hs_len]

/-! lots -/
def boolLists : Nat → List (List Bool)
  | 0 => [[]]
  | n + 1 => (boolLists n).flatMap fun b => [b ++ [true], b ++ [false]]
theorem bool_all : ∀ (n : Nat) (b : List Bool), b.length = n → b ∈ boolLists n
  | 0, b, h => by rw [List.length_eq_zero_iff.mp h]; simp [boolLists]
  | n + 1, b, h => by
    obtain ⟨b0, k, rfl⟩ : ∃ b0 k, b = b0 ++ [k] := ⟨b.dropLast, b.getLast (by intro z; rw [z] at h; cases h), (List.dropLast_concat_getLast _).symm⟩
    refine List.mem_flatMap.mpr ⟨b0, bool_all n b0 (by simpa using h), ?_⟩
    cases k <;> simp
theorem sub_all : ∀ n ∈ List.range 6, ∀ b ∈ boolLists n, ((hs n).filter fun h => b.getD h.toNat false) ∈ allLots n := by decide +kernel
theorem filter_lot (hn : n ≤ 5) (q : Int → Bool) : (hs n).filter q ∈ allLots n := by
  have h := sub_all n (by rw [List.mem_range]; omega) ((hs n).map q) (bool_all n _ (by rw [List.length_map, hs_len]))
  have e : (hs n).filter (fun h => ((hs n).map q).getD h.toNat false) = (hs n).filter q := by
    refine List.filter_congr fun h hh => ?_
    obtain ⟨h0, h1⟩ := hs_mem.mp hh
    have hj : h.toNat < (hs n).length := by rw [hs_len]; omega
    rw [List.getD_eq_getElem?_getD, List.getElem?_map, List.getElem?_eq_getElem hj]
    have : (hs n)[h.toNat] = h := by
      simp only [hs, List.getElem_map, List.getElem_range, Int.ofNat_eq_natCast]; omega
    rw [this]; rfl
  rw [← e]; exact h
theorem asc_hs (n : Nat) : (hs n).Pairwise (· < ·) := pw_range n
theorem let_sub (hn : n ≤ 5) {a b : List Int} (ha : a ∈ allLots n) (hb : b ∈ letOf n ls) (h : ∀ k ∈ a, k ∈ b) : a ∈ letOf n ls := by
  rw [mem_let hn] at hb ⊢
  refine ⟨ha, ?_⟩
  rcases hb.2 with rfl | ⟨o, ho, hk⟩
  · left
    cases a with
    | nil => rfl
    | cons k r => exact absurd (h k (by simp)) (by simp)
  · exact .inr ⟨o, ho, fun k hk' => hk k (h k hk')⟩
theorem every_let (hn : n ≤ 5) {l : List Int} : l ∈ everyOf n ls ↔ l ∈ letOf n ls := by rw [mem_every hn, mem_let hn]
theorem bits_once : ∀ n ∈ List.range 6, ((List.range (2 ^ n)).map fun b : Nat => bitLot n b).Nodup := by decide +kernel
theorem dataLe_dT : (PySem.W.dataLe false dT : List Int → List Int → Bool) = fun p q => decide (p ≤ q) := by
  funext p q
  rw [PySem.W.dataLe_eq]
  show (!PySem.W.dataLt (.tuple (q.map .int)) (.tuple (p.map .int))) = _
  rw [PySem.W.dataLt_tuple]
  show (!PySem.W.rowLt (q.map .int) (p.map .int)) = _
  rw [PySem.W.dataLt_ints]
  by_cases h : q < p
  · have h' : ¬ p ≤ q := fun r => List.not_lt.mpr r h
    simp [h, h']
  · have h' : p ≤ q := List.not_lt.mp h
    simp [h, h']
theorem sortL_eq {a b : List (List Int)} (h : a.Perm b) : sortL a = sortL b := by
  unfold sortL
  rw [dataLe_dT]
  have pa := List.pairwise_mergeSort (le := fun p q : List Int => decide (p ≤ q)) (fun x y z h1 h2 => by simp only [decide_eq_true_eq] at h1 h2 ⊢; exact List.le_trans h1 h2) (fun x y => by simp only [Bool.or_eq_true, decide_eq_true_eq]; exact List.le_total x y) a
  have pb := List.pairwise_mergeSort (le := fun p q : List Int => decide (p ≤ q)) (fun x y z h1 h2 => by simp only [decide_eq_true_eq] at h1 h2 ⊢; exact List.le_trans h1 h2) (fun x y => by simp only [Bool.or_eq_true, decide_eq_true_eq]; exact List.le_total x y) b
  refine List.Perm.eq_of_pairwise (le := fun p q : List Int => decide (p ≤ q) = true) ?_ pa pb (((List.mergeSort_perm _ _).trans h).trans (List.mergeSort_perm _ _).symm)
  intro x y _ _ h1 h2
  simp only [decide_eq_true_eq] at h1 h2
  exact List.le_antisymm h1 h2
theorem great_perm (hn : n ≤ 5) : (greatOf n ls).Perm (greatL (everyOf n ls)) := by
  have o := all_once n (by rw [List.mem_range]; omega)
  have n1 : (greatOf n ls).Nodup := (o.1.filter _).filter _
  have n2 : (greatL (everyOf n ls)).Nodup := ((bits_once n (by rw [List.mem_range]; omega)).filter _).filter _
  rw [List.perm_ext_iff_of_nodup n1 n2]
  intro l
  have hL := all_longer n (by rw [List.mem_range]; omega)
  unfold greatL
  rw [mem_great, List.mem_filter, every_let hn]
  refine and_congr_right fun hl => ?_
  rw [List.isEmpty_iff, List.filter_eq_nil_iff]
  have h1 := ((mem_let hn).mp hl).1
  constructor
  · intro h o ho hb
    simp only [Bool.and_eq_true, decide_eq_true_eq] at hb
    have := h o ((every_let hn).mp ho) (within_iff.mpr (inLot_iff.mp hb.2))
    rw [this] at hb; omega
  · intro h o ho hw
    have h2 := ((mem_let hn).mp ho).1
    rcases hL l h1 o h2 hw with z | z
    · exact z
    · exact absurd (by simp only [Bool.and_eq_true, decide_eq_true_eq]; exact ⟨z, inLot_iff.mpr (within_iff.mp hw)⟩) (h o ((every_let hn).mpr ho))
theorem fam_great (hn : n ≤ 5) : famLots n ls = sortL (greatL (everyOf n ls)) := sortL_eq (great_perm hn)
theorem great_kind (hn : n ≤ 5) : (∀ l ∈ greatL (everyOf n ls), l ≠ []) ∨ greatL (everyOf n ls) = [[]] := by
  have p := great_perm (ls := ls) hn
  rcases great_kinds hn ls with h | h
  · exact .inl fun l hl => h l (p.mem_iff.mpr hl)
  · right
    rw [h] at p
    exact List.perm_singleton.mp p.symm
/-! rows -/
variable {e r : List Int} {m : Nat}
def nearOf (n : Nat) (ls : List (List Int)) (m : Nat) (e : List Int) : List (List Int) := (rowsOf m n).filter fun r => decide (differ e r ∈ everyOf n ls)
def standsB (n : Nat) (ls : List (List Int)) (m : Nat) (e : List Int) (v : Int) : Bool := ((nearOf n ls m e).filter fun r => !decide (v ∈ r)).isEmpty
theorem at_mem {h : Int} (hh : h ∈ hs e.length) : at_ e h ∈ e := by
  obtain ⟨h0, h1⟩ := hs_mem.mp hh
  unfold at_
  rw [List.getD_eq_getElem?_getD, List.getElem?_eq_getElem (by omega : h.toNat < e.length)]
  exact List.getElem_mem _
theorem mem_at {v : Int} (hv : v ∈ e) : ∃ h ∈ hs e.length, at_ e h = v := by
  obtain ⟨j, hj, rfl⟩ := List.getElem_of_mem hv
  refine ⟨(j : Int), hs_mem.mpr ⟨by omega, by omega⟩, ?_⟩
  unfold at_
  rw [show ((j : Nat) : Int).toNat = j by omega, List.getD_eq_getElem?_getD, List.getElem?_eq_getElem hj]; rfl
theorem at_map (f : Int → Int) {h : Int} (hh : h ∈ hs e.length) : at_ (e.map f) h = f (at_ e h) := by
  obtain ⟨h0, h1⟩ := hs_mem.mp hh
  unfold at_
  rw [List.getD_eq_getElem?_getD, List.getElem?_map, List.getD_eq_getElem?_getD, List.getElem?_eq_getElem (by omega : h.toNat < e.length)]; rfl
theorem places_nil {v : Int} : (placesOf e v).isEmpty = !decide (v ∈ e) := by
  rw [Bool.eq_iff_iff]
  unfold placesOf
  rw [List.isEmpty_iff, List.filter_eq_nil_iff]
  simp only [decide_eq_true_eq, Bool.not_eq_true', decide_eq_false_iff_not]
  constructor
  · intro h hv
    obtain ⟨k, hk, e⟩ := mem_at hv
    exact h k hk e
  · intro h k hk z
    exact h (z ▸ at_mem hk)
theorem places_lot (hn : n ≤ 5) (hl : e.length = n) (v : Int) : placesOf e v ∈ allLots n := by
  unfold placesOf
  rw [hl]; exact filter_lot hn _
theorem lot_places (hl : e.length = n) (v : Int) : lotOf n (placesOf e v) = placesOf e v := by
  refine (sorted_is (ms := placesOf e v) (ns := placesOf e v) ((asc_hs _).filter _) (fun k => Iff.rfl) (placesOf_ok hl v).2).symm
theorem firm_eq (hn : n ≤ 5) (hl : e.length = n) (v : Int) : firmB n ls e v = !decide (placesOf e v ∈ everyOf n ls) := by
  unfold firmB
  rw [lot_places hl]
  congr 1
  rw [decide_eq_decide, every_let hn]
theorem nil_every (hn : n ≤ 5) : [] ∈ everyOf n ls := by
  rw [mem_every hn]
  exact ⟨(all_once n (by rw [List.mem_range]; omega)).2, .inl rfl⟩
theorem stands_eq (hn : 2 ≤ n ∧ n ≤ 5) (hg : GoodLots n ls) (hl : e.length = n) (hm : ∀ k ∈ e, 0 ≤ k ∧ k < (m : Int)) (v : Int) (hv : 0 ≤ v ∧ v < (m : Int)) : standsB n ls m e v = !decide (placesOf e v ∈ everyOf n ls) := by
  rw [Bool.eq_iff_iff]
  unfold standsB nearOf
  rw [List.isEmpty_iff, List.filter_eq_nil_iff]
  simp only [Bool.not_eq_true', decide_eq_false_iff_not, Decidable.not_not]
  constructor
  · -- the values of the places are exchanged
    intro h hp
    by_cases hve : v ∈ e
    · by_cases m1 : m = 1
      · -- one value: all houses have it
        obtain ⟨k, hk, hk2⟩ := not_full hn hg ((every_let hn.2).mp hp)
        refine hk2 (List.mem_filter.mpr ⟨by rw [hl]; exact hk, ?_⟩)
        have h1 := hm _ (at_mem (e := e) (by rw [hl]; exact hk))
        rw [decide_eq_true_eq]; omega
      · let w : Int := if v = 0 then 1 else 0
        have hw : w ≠ v ∧ 0 ≤ w ∧ w < (m : Int) := by
          show (if v = 0 then (1 : Int) else 0) ≠ v ∧ 0 ≤ (if v = 0 then (1 : Int) else 0) ∧ (if v = 0 then (1 : Int) else 0) < (m : Int)
          split <;> omega
        let r : List Int := e.map fun k => if k = v then w else k
        have hr : r ∈ rowsOf m n := rows_all m n r (by show (e.map _).length = n; rw [List.length_map, hl]) fun k hk => by
          obtain ⟨j, hj, rfl⟩ := List.mem_map.mp hk
          have := hm j hj
          by_cases z : j = v
          · simp only [z, if_true]; exact hw.2
          · simp only [z, if_false]; exact this
        have hd : differ e r = placesOf e v := by
          unfold differ placesOf
          refine List.filter_congr fun h hh => ?_
          show (!decide (at_ e h = at_ (e.map fun k => if k = v then w else k) h)) = _
          rw [at_map _ hh]
          by_cases z : at_ e h = v
          · rw [if_pos z]
            have : ¬ v = w := fun q => hw.1 q.symm
            rw [z]; simp [this]
          · rw [if_neg z]; simp [z]
        have := h r (List.mem_filter.mpr ⟨hr, by rw [decide_eq_true_eq, hd]; exact hp⟩)
        obtain ⟨j, hj, hj2⟩ := List.mem_map.mp this
        by_cases z : j = v
        · rw [if_pos z] at hj2; exact hw.1 hj2
        · rw [if_neg z] at hj2; exact z hj2
    · refine hve (h e (List.mem_filter.mpr ⟨rows_all m n e hl hm, ?_⟩))
      rw [decide_eq_true_eq]
      have : differ e e = [] := by unfold differ; simp
      rw [this]; exact nil_every hn.2
  · intro hp r hr
    refine Classical.byContradiction fun hvr => hp ?_
    obtain ⟨h1, h2⟩ := List.mem_filter.mp hr
    rw [decide_eq_true_eq] at h2
    have rl := ((rows_len m n).2 r h1).1
    refine (every_let hn.2).mpr (let_sub hn.2 (places_lot hn.2 hl v) ((every_let hn.2).mp h2) fun k hk => ?_)
    obtain ⟨k1, k2⟩ := List.mem_filter.mp hk
    refine List.mem_filter.mpr ⟨k1, ?_⟩
    rw [decide_eq_true_eq] at k2
    rw [Bool.not_eq_true', decide_eq_false_iff_not, k2]
    intro z
    exact hvr (z ▸ at_mem (e := r) (by rw [rl, ← hl]; exact k1))
theorem firm_stands (hn : 2 ≤ n ∧ n ≤ 5) (hg : GoodLots n ls) (hl : e.length = n) (hm : ∀ k ∈ e, 0 ≤ k ∧ k < (m : Int)) (v : Int) (hv : 0 ≤ v ∧ v < (m : Int)) : firmB n ls e v = standsB n ls m e v := by
  rw [firm_eq hn.2 hl, stands_eq hn hg hl hm v hv]
theorem holding_eq (hn : 2 ≤ n ∧ n ≤ 5) (hl : e.length = n) (v : Int) : ((famLots n ls).filter fun l => inLot (placesOf e v) l).isEmpty = !decide (placesOf e v ∈ everyOf n ls) := by
  rw [Bool.eq_iff_iff, List.isEmpty_iff, List.filter_eq_nil_iff]
  simp only [Bool.not_eq_true', decide_eq_false_iff_not, inLot_iff]
  rw [every_let hn.2]
  constructor
  · intro h hp
    obtain ⟨g, hg, hk⟩ := above hn.2 n (placesOf e v) hp (by omega)
    exact h g hg hk
  · intro h g hg hk
    exact h (let_sub hn.2 (places_lot hn.2 hl v) (fam_let hg) hk)
theorem within_inLot (a b : List Int) : within a b = inLot a b := by rw [Bool.eq_iff_iff, within_iff, inLot_iff]
theorem firm_list (hn : 2 ≤ n ∧ n ≤ 5) (hg : GoodLots n ls) (hl : e.length = n) (m4 : m ≤ 4) (hm : ∀ k ∈ e, 0 ≤ k ∧ k < (m : Int)) : ((lotOf 4 e).filter fun v => firmB n ls e v) = (hs m).filter fun v => standsB n ls m e v := by
  refine asc_unique ((lotOf_asc 4 e).filter _) ((asc_hs m).filter _) fun v => ?_
  rw [List.mem_filter, List.mem_filter, mem_lotOf, hs_mem]
  constructor
  · rintro ⟨⟨h1, h2⟩, h3⟩
    have := hm v h2
    exact ⟨this, by rw [← firm_stands hn hg hl hm v this]; exact h3⟩
  · rintro ⟨h1, h2⟩
    rw [← firm_stands hn hg hl hm v h1] at h2
    refine ⟨⟨by omega, Classical.byContradiction fun z => ?_⟩, h2⟩
    rw [firm_eq hn.2 hl] at h2
    have : placesOf e v = [] := by rw [← List.isEmpty_iff, places_nil]; simp [z]
    rw [this] at h2
    simp [nil_every hn.2] at h2
/-! fits -/
theorem fits_eq (hn : n ≤ 5) (hl : e.length = n) (mn : Str) (v : Int) : fitsB n ls mn e v = lawFits ls mn e v := by
  unfold fitsB lawFits
  by_cases z : decide (mn = ("sure" : Str)) = true
  · rw [if_pos z, if_pos z, places_nil]; simp
  · rw [if_neg z, if_neg z, firm_eq hn hl]
    congr 1
    rw [Bool.eq_iff_iff, decide_eq_true_eq, mem_every hn]
    unfold lets
    rw [Bool.or_eq_true, List.isEmpty_iff, List.any_eq_true]
    simp only [inLot_iff]
    exact ⟨fun h => h.2, fun h => ⟨places_lot hn hl v, h⟩⟩
theorem fits_mem (hn : n ≤ 5) (hl : e.length = n) (mn : Str) {v : Int} (h : fitsB n ls mn e v = true) : v ∈ e := by
  unfold fitsB at h
  by_cases z : decide (mn = ("sure" : Str)) = true
  · rw [if_pos z] at h; simpa using h
  · rw [if_neg z, firm_eq hn hl] at h
    refine Classical.byContradiction fun q => ?_
    have : placesOf e v = [] := by rw [← List.isEmpty_iff, places_nil]; simp [q]
    rw [this] at h
    simp [nil_every hn] at h
def badOf (ls : List (List Int)) (mn : Str) (es : List (List Int)) (v : Int) : List Int := (hs es.length).filter fun k => !lawFits ls mn (es.getD k.toNat []) v
theorem bad_mem {es : List (List Int)} {mn : Str} {v : Int} {j : Nat} (hj : j < es.length) : decide ((j : Int) ∈ badOf ls mn es v) = !lawFits ls mn es[j] v := by
  rw [Bool.eq_iff_iff, decide_eq_true_eq]
  unfold badOf
  rw [List.mem_filter, hs_mem, show ((j : Nat) : Int).toNat = j by omega, List.getD_eq_getElem?_getD, List.getElem?_eq_getElem hj]
  exact ⟨fun h => h.2, fun h => ⟨⟨by omega, by omega⟩, h⟩⟩
theorem bad_first {es : List (List Int)} {mn : Str} {v : Int} (hn : n ≤ 5) (hl : ∀ e ∈ es, e.length = n) : optN (unfit n ls mn es v) = (match badOf ls mn es v with | [] => .none | k :: _ => .int k) := by
  cases h : unfit n ls mn es v with
  | none =>
    unfold unfit at h
    rw [List.findIdx?_eq_none_iff] at h
    have : badOf ls mn es v = [] := by
      unfold badOf
      rw [List.filter_eq_nil_iff]
      intro k hk
      obtain ⟨k0, k1⟩ := hs_mem.mp hk
      have hj : k.toNat < es.length := by omega
      rw [List.getD_eq_getElem?_getD, List.getElem?_eq_getElem hj]
      have := h es[k.toNat] (List.getElem_mem hj)
      rw [fits_eq hn (hl _ (List.getElem_mem hj))] at this
      show ¬ (!lawFits ls mn es[k.toNat] v) = true
      rw [this]; simp
    rw [this]; rfl
  | some i =>
    unfold unfit at h
    rw [List.findIdx?_eq_some_iff_getElem] at h
    obtain ⟨hi, h1, h2⟩ := h
    have e1 : badOf ls mn es v = (i : Int) :: ((hs es.length).drop (i + 1)).filter fun k => !lawFits ls mn (es.getD k.toNat []) v := by
      unfold badOf
      conv => lhs; rw [← List.take_append_drop i (hs es.length)]
      have hl2 : i < (hs es.length).length := by rw [hs_len]; exact hi
      have hat : (hs es.length)[i] = (i : Int) := by simp [hs]
      rw [List.filter_append, List.drop_eq_getElem_cons hl2, hat]
      have : ((hs es.length).take i).filter (fun k => !lawFits ls mn (es.getD k.toNat []) v) = [] := by
        rw [List.filter_eq_nil_iff]
        intro k hk
        obtain ⟨j, hj, rfl⟩ := List.getElem_of_mem hk
        rw [List.length_take] at hj
        rw [List.getElem_take]
        have hjl : j < es.length := by rw [hs_len] at hj; omega
        have hat2 : (hs es.length)[j]'(by rw [hs_len]; exact hjl) = (j : Int) := by simp [hs]
        rw [hat2, show ((j : Nat) : Int).toNat = j by omega, List.getD_eq_getElem?_getD, List.getElem?_eq_getElem hjl]
        have := h2 j (by omega)
        rw [fits_eq hn (hl _ (List.getElem_mem hjl))] at this
        show ¬ (!lawFits ls mn es[j] v) = true
        exact this
      rw [this, List.nil_append, List.filter_cons_of_pos]
      rw [show ((i : Nat) : Int).toNat = i by omega, List.getD_eq_getElem?_getD, List.getElem?_eq_getElem hi]
      rw [fits_eq hn (hl _ (List.getElem_mem hi))] at h1
      exact h1
    rw [e1]; rfl
theorem fit_list {es : List (List Int)} {mn : Str} (hn : n ≤ 5) (m4 : m ≤ 4) (hl : ∀ e ∈ es, e.length = n ∧ ∀ k ∈ e, 0 ≤ k ∧ k < (m : Int)) : fitVals n ls mn es = if es.isEmpty then [] else lawVals ls mn es m := by
  cases es with
  | nil => rfl
  | cons e es =>
    show _ = lawVals ls mn (e :: es) m
    unfold fitVals lawVals
    refine asc_unique ((lotOf_asc 4 e).filter _) ((asc_hs m).filter _) fun v => ?_
    rw [List.mem_filter, List.mem_filter, mem_lotOf, hs_mem]
    have key : (unfit n ls mn (e :: es) v).isNone = ((e :: es).filter fun e => !lawFits ls mn e v).isEmpty := by
      rw [Bool.eq_iff_iff, Option.isNone_iff_eq_none, List.isEmpty_iff, List.filter_eq_nil_iff]
      unfold unfit
      rw [List.findIdx?_eq_none_iff]
      refine forall_congr' fun x => forall_congr' fun hx => ?_
      rw [fits_eq hn (hl x hx).1]
      cases lawFits ls mn x v <;> simp
    rw [← key]
    constructor
    · rintro ⟨⟨h1, h2⟩, h3⟩
      exact ⟨(hl e (by simp)).2 v h2, h3⟩
    · rintro ⟨h1, h2⟩
      refine ⟨⟨by omega, ?_⟩, h2⟩
      rw [Option.isNone_iff_eq_none] at h2
      unfold unfit at h2
      rw [List.findIdx?_eq_none_iff] at h2
      have := h2 e (by simp)
      exact fits_mem hn (hl e (by simp)).1 mn (by simpa using this)
end
end K7

namespace K7
open PySem PySem.Spec PyProof.Rows L2 Fv Evl StX
abbrev s_law_asked : Stmt := topS 47
theorem sc_law_asked : FnScope ["_law_falls", "_law_n", "_law_m", "_law_every_here", "_law_greatest_here", "_law_near", "_law_entry_here", "_law_firm", "_law_value", "_law_places", "_law_house", "_law_stands", "_law_row", "_law_holding", "_law_lot_here"] ["_law_falls", "_law_n", "_law_m", "_law_every_here", "_law_greatest_here", "_law_near", "_law_entry_here"] (defScope s_law_asked) := ⟨rfl, rfl, rfl, by decide +kernel, rfl, by decide +kernel, by decide +kernel⟩
section
variable {P : Program} {w : World} {K : PySem.W.Frag} {mg : Str → Option Value} {base : Heap}
variable {pt : Option Pt} {σ : L2.St} {F F0 H0 H : Hp} {te ta tb : TE} {t : TT} {ts tr : TA} {D : Ends} {tz : TS} {C l : Addr} {ls : List PyData} {d : PyData}
theorem t_addIf {i : Nat} {b : Bool} (g0 : Good pt F0 H0) (h0 : H0 l = none) (g : Gst K pt F0 H0 l F H ls) (hi : σ[i]? = some (some (.ref l))) (ht : EtG pt t σ F (· = b)) (h : EvG K pt te σ F (Is d)) (hz : ls.length < 100000)
    (q : ∀ F2 H2, Gst K pt F0 H0 l F2 H2 (if b = true then ls ++ [d] else ls) → Ex F F2 → tz D σ H2) : tSeq (tIfS t (tDrop (tBM K "list" rAppend (tVar i) (tCons te tNil))) tNext) tz D σ H :=
  ht H g.step.inn g.step.good _ fun c F2 H2 hc s => by
    subst hc
    cases c with
    | true =>
      show tDrop (tBM K "list" rAppend (tVar i) (tCons te tNil)) { D with nx := tz D } σ H2
      exact t_app (K := K) g0 h0 (g.run g0 h0 s) hi (h.mono s.sub) hz fun d2 F3 H3 hd g3 e3 => q F3 H3 (by rw [if_pos rfl, ← show d2 = d from hd]; exact g3) (s.sub.trans e3)
    | false => exact q F2 H2 (by rw [if_neg (by simp)]; exact g.run g0 h0 s) s.sub
theorem plain_dT {l : List Int} (h : l.length ≤ 1000) : plainD (dT l) := ⟨by rw [List.length_map]; exact h, fun d hd => by
  obtain ⟨k, _, rfl⟩ := List.mem_map.mp hd
  rfl⟩
theorem rpAll6 {F : Hp} {vs : List V} {a b c d e g : PyData} (h : RpAll K F vs [a, b, c, d, e, g]) : ∃ v1 v2 v3 v4 v5 v6, vs = [v1, v2, v3, v4, v5, v6] ∧ Rp K F v1 a ∧ Rp K F v2 b ∧ Rp K F v3 c ∧ Rp K F v4 d ∧ Rp K F v5 e ∧ Rp K F v6 g := by
  cases h with
  | cons h1 h2 =>
    cases h2 with
    | cons h3 h4 =>
      obtain ⟨x, y, z, u, rfl, hx, hy, hz, hu⟩ := rpAll4 h4
      exact ⟨_, _, x, y, z, u, rfl, h1, h3, hx, hy, hz, hu⟩
def AskOk (n : Nat) (ls : List (List Int)) (m : Nat) (e : List Int) : Prop := (2 ≤ n ∧ n ≤ 5) ∧ GoodLots n ls ∧ (1 ≤ m ∧ m ≤ 4) ∧ e.length = n ∧ ∀ k ∈ e, 0 ≤ k ∧ k < (m : Int)
def spAsked (K : PySem.W.Frag) (C : Addr) : Sp := fun vs H Q _ => ∃ x n ls m e F as, vs = .ref x :: as ∧ AskOk n ls m e ∧ Ex F H ∧ Fam K C F x n ls ∧ RpAll K F as [.int (n : Nat), .int (m : Nat), dLT (everyOf n ls), dLT (famLots n ls), dLT (nearOf n ls m e), dT e] ∧
  ∀ v F2 H2, Step none F H F2 H2 → Rp K F2 v (.bool true) → Q v H2
theorem every_len {n : Nat} (hn : n ≤ 5) (L : List (List Int)) : (everyOf n L).length ≤ 32 := by
  refine Nat.le_trans (List.length_filter_le _ _) ?_
  rw [List.length_map, List.length_range]
  have : n = 0 ∨ n = 1 ∨ n = 2 ∨ n = 3 ∨ n = 4 ∨ n = 5 := by omega
  rcases this with rfl | rfl | rfl | rfl | rfl | rfl <;> decide
theorem near_len {n m : Nat} {ls : List (List Int)} {e : List Int} (hn : n ≤ 5) (m1 : 1 ≤ m) (m4 : m ≤ 4) : (nearOf n ls m e).length ≤ 1100 := by
  refine Nat.le_trans (List.length_filter_le _ _) ?_
  rw [(rows_len m n).1]; exact pow_few m1 m4 hn (Nat.le_refl _)
def headT : List (List Int) → PyData
  | [] => .none
  | a :: _ => dT a
theorem hold_opt (L : List (List Int)) (p : List Int → Bool) : optT (L.find? p) = headT (L.filter p) := by
  rw [← List.head?_filter]
  cases L.filter p <;> rfl
theorem ok_asked {f fS fP fF fH fV : Addr} {fd fdS fdP fdF fdH fdV : FuncData} (Fn : Fun K "_law_asked" "_law_asked" s_law_asked f fd) (T : Tx mg)
    (F_law_same : Fun K "_law_same" "_law_same" s_law_same fS fdS) (b_law_same : Binds K fdS ["_law_told", "_law_due"] []) (g_law_same : mg "_law_same" = some (.ref fS)) (G_law_same : FnOk P w K mg base CX0 2 fS fdS ["_law_told", "_law_due"] (spSame K))
    (F_places_of : Fun K "places_of" "places_of" s_places_of fP fdP) (b_places_of : Binds K fdP ["entry", "value"] []) (g_places_of : mg "places_of" = some (.ref fP)) (G_places_of : FnOk P w K mg base CX0 1 fP fdP ["entry", "value"] (spPlaces K))
    (F_is_firm : Fun K "is_firm" "is_firm" s_is_firm fF fdF) (b_is_firm : Binds K fdF ["falls", "entry", "value"] []) (g_is_firm : mg "is_firm" = some (.ref fF)) (G_is_firm : FnOk P w K mg base CX0 2 fF fdF ["falls", "entry", "value"] (spFirm K C))
    (F_hiding_lot : Fun K "hiding_lot" "hiding_lot" s_hiding_lot fH fdH) (b_hiding_lot : Binds K fdH ["falls", "entry", "value"] []) (g_hiding_lot : mg "hiding_lot" = some (.ref fH)) (G_hiding_lot : FnOk P w K mg base CX0 2 fH fdH ["falls", "entry", "value"] (spHide K C))
    (F_firm_values : Fun K "firm_values" "firm_values" s_firm_values fV fdV) (b_firm_values : Binds K fdV ["falls", "entry"] []) (g_firm_values : mg "firm_values" = some (.ref fV)) (G_firm_values : FnOk P w K mg base CX0 3 fV fdV ["falls", "entry"] (spFirmV K C)) :
    FnOk P w K mg base CX0 4 f fd ["_law_falls", "_law_n", "_law_m", "_law_every_here", "_law_greatest_here", "_law_near", "_law_entry_here"] (spAsked K C) := by
  refine Fn.ok sc_law_asked (fun vs H Q E ⟨_, _, _, _, _, _, _, h, _, _, _, r, _⟩ => by rw [h, List.length_cons, r.length]; rfl) (fun cdv A outer s H vs Q E hr h => ?_)
  obtain ⟨x, n, ls, m, e, F, as, rfl, ⟨hn, hg, hm14, hl, hk⟩, ex, fam, ha, q⟩ := h
  obtain ⟨v1, v2, ev, gv, nv, rv, rfl, h1, h2, hev, hgv, hnv, hrv⟩ := rpAll6 ha
  obtain rfl := rp_int h1
  obtain rfl := rp_int h2
  refine ⟨_, (pss_cons (ps_set (i := 7) sc_law_asked.nd rfl (by first | exact Or.inl rfl | exact Or.inr rfl) (pe_lst pa_nil))
    (pss_cons (ps_for PassesOwn.never rfl (pi_range1 (by rfl) T.range (pa_cons (pv 2) pa_nil)) (pg_name (i := 8) sc_law_asked.nd rfl (by first | exact Or.inl rfl | exact Or.inr rfl)) (pss_cons (ps_set (i := 9) sc_law_asked.nd rfl (by first | exact Or.inl rfl | exact Or.inr rfl) (pe_callTy (c_tup (K := K)) (by rfl) T.tuple (by decide +kernel) (pa_cons (pe_lc (own := [("_law_house", 10)]) (g := gName 10) rfl sc_law_asked.nd (pi_range1 (by rfl) T.range (pa_cons (pv 1) pa_nil)) (blkOk_by (own := [("_law_house", 10)]) (N := ["_law_falls", "_law_n", "_law_m", "_law_every_here", "_law_greatest_here", "_law_near", "_law_entry_here", "_law_firm", "_law_value", "_law_places", "_law_house", "_law_stands", "_law_row", "_law_holding", "_law_lot_here"]) (sc := (defScope s_law_asked)) (by decide +kernel)) (fun _ _ _ _ _ => pg_name (i := 10) sc_law_asked.nd rfl (by first | exact Or.inl rfl | exact Or.inr rfl)) (fun _ _ _ _ _ => (pts_one (pt_cmpR op_eq (pe_ix (o_ixT (K := K)) (pv 6) (pv 10) (fun _ _ => rfl)) (pv 8) (nomark _)))) (fun _ _ _ _ _ => (pv 10))) pa_nil)))
    (pss_cons (ps_set (i := 11) sc_law_asked.nd rfl (by first | exact Or.inl rfl | exact Or.inr rfl) (pe_cmpR (o_eqD (K := K) hr.units) (pe_lc (own := [("_law_row", 12)]) (g := gName 12) rfl sc_law_asked.nd (i_list (K := K) (pv 5)) (blkOk_by (own := [("_law_row", 12)]) (N := ["_law_falls", "_law_n", "_law_m", "_law_every_here", "_law_greatest_here", "_law_near", "_law_entry_here", "_law_firm", "_law_value", "_law_places", "_law_house", "_law_stands", "_law_row", "_law_holding", "_law_lot_here"]) (sc := (defScope s_law_asked)) (by decide +kernel)) (fun _ _ _ _ _ => pg_name (i := 12) sc_law_asked.nd rfl (by first | exact Or.inl rfl | exact Or.inr rfl)) (fun _ _ _ _ _ => (pts_one (pt_cmpR (o_notIn (K := K)) (pv 8) (pv 12) (by rfl)))) (fun _ _ _ _ _ => (pv 12))) (pe_lst pa_nil) (nomark _)))
    (pss_cons (ps_if (pt_val (pv 11)) (pss_one (ps_expr (pe_bm PySem.F.plainAttrs_list PySem.F.slot_list_append PySem.F.type_list_append mt_append (pv 7) (pa_cons (pv 8) pa_nil)))) pss_nil)
    (pss_cons (ps_setLc (i := 13) (own := [("_law_lot_here", 14)]) (g := gName 14) rfl sc_law_asked.nd rfl rfl (sw_true rfl rfl rfl (by decide +kernel)) (i_list (K := K) (pv 4)) (blkOk_by (own := [("_law_lot_here", 14)]) (N := ["_law_falls", "_law_n", "_law_m", "_law_every_here", "_law_greatest_here", "_law_near", "_law_entry_here", "_law_firm", "_law_value", "_law_places", "_law_house", "_law_stands", "_law_row", "_law_holding", "_law_lot_here"]) (sc := (defScope s_law_asked)) (by decide +kernel)) (fun _ _ _ _ _ => pg_name (i := 14) sc_law_asked.nd rfl (by first | exact Or.inl rfl | exact Or.inr rfl)) (fun _ _ _ _ _ => (pts_one (pt_cmpR (o_eqD (K := K) hr.units) (pe_lc (own := [("_law_house", 10)]) (g := gName 10) rfl sc_law_asked.nd (i_tup (K := K) (pv 9)) (blkOk_by (own := [("_law_house", 10)]) (N := ["_law_falls", "_law_n", "_law_m", "_law_every_here", "_law_greatest_here", "_law_near", "_law_entry_here", "_law_firm", "_law_value", "_law_places", "_law_house", "_law_stands", "_law_row", "_law_holding", "_law_lot_here"]) (by rfl)) (fun _ _ _ _ _ => pg_name (i := 10) sc_law_asked.nd rfl (by first | exact Or.inl rfl | exact Or.inr rfl)) (fun _ _ _ _ _ => (pts_one (pt_cmpR (o_notIn (K := K)) (pv 10) (pv 14) (by rfl)))) (fun _ _ _ _ _ => (pv 10))) (pe_lst pa_nil) (nomark _)))) (fun _ _ _ _ _ => (pv 14)))
    (pss_cons (ps_if (PW.pt (pw_or (pt_not (pt_val (pe_call G_law_same (hr.mono (by decide)) (by rfl) g_law_same F_law_same.kp b_law_same .nil pass0 (pa_cons (pe_call G_places_of (hr.mono (by decide)) (by rfl) g_places_of F_places_of.kp b_places_of .nil pass0 (pa_cons (pv 6) (pa_cons (pv 8) pa_nil))) (pa_cons (pv 9) pa_nil))))) (pw_or1 (pt_not (pt_val (pe_call G_law_same (hr.mono (by decide)) (by rfl) g_law_same F_law_same.kp b_law_same .nil pass0 (pa_cons (pe_call G_is_firm (hr.mono (by decide)) (by rfl) g_is_firm F_is_firm.kp b_is_firm .nil pass0 (pa_cons (pv 0) (pa_cons (pv 6) (pa_cons (pv 8) pa_nil)))) (pa_cons (pv 11) pa_nil)))))))) (pss_one (ps_ret pe_bl)) pss_nil)
    (pss_cons (ps_if (pt_not (pt_val (pe_call G_law_same (hr.mono (by decide)) (by rfl) g_law_same F_law_same.kp b_law_same .nil pass0 (pa_cons (pe_call G_hiding_lot (hr.mono (by decide)) (by rfl) g_hiding_lot F_hiding_lot.kp b_hiding_lot .nil pass0 (pa_cons (pv 0) (pa_cons (pv 6) (pa_cons (pv 8) pa_nil)))) (pa_cons (pe_ifExp (e_truth (K := K) (pv 13)) (pe_ix (o_ixL (K := K)) (pv 13) pe_int (fun _ _ => rfl)) pe_non) pa_nil))))) (pss_one (ps_ret pe_bl)) pss_nil)
    (pss_one (ps_if (PW.pt (pw_or (pt_cmpR op_ne (pv 11) (pe_cmpR (o_eqD (K := K) hr.units) (pv 13) (pe_lst pa_nil) (nomark _)) (nomark _)) (pw_or1 (pt_cmpR op_eq (pv 11) (pe_cmpR (o_inD (K := K) (hu65 hr)) (pv 9) (pv 3) (by rfl)) (nomark _))))) (pss_one (ps_ret pe_bl)) pss_nil)))))))))
    (pss_one (ps_ret (pe_call G_law_same (hr.mono (by decide)) (by rfl) g_law_same F_law_same.kp b_law_same .nil pass0 (pa_cons (pe_call G_firm_values (hr.mono (by decide)) (by rfl) g_firm_values F_firm_values.kp b_firm_values .nil pass0 (pa_cons (pv 0) (pa_cons (pv 6) pa_nil))) (pa_cons (pe_callTy (c_tup (K := K)) (by rfl) T.tuple (by decide +kernel) (pa_cons (pv 7) pa_nil)) pa_nil))))))), ?_⟩
  have hN : NOk (n : Int) := ⟨by omega, by omega⟩
  have eL := every_len hn.2 ls
  have nL := near_len (ls := ls) (e := e) hn.2 hm14.1 hm14.2
  obtain ⟨fL, fL2⟩ := famLots_few hn.2 ls
  have g0 : Good none F H := .nil
  refine t_newL (K := K) (Step.refl ex .nil) (fun l h0 hl' g => ?_) (fun _ h => h)
  refine t_forG (K := K) (ds := (hs m).map .int) g0 h0 g (by
      have := w_rng1I (K := K) (pt := none) (σ := (start ["_law_falls", "_law_n", "_law_m", "_law_every_here", "_law_greatest_here", "_law_near", "_law_entry_here", "_law_firm", "_law_value", "_law_places", "_law_house", "_law_stands", "_law_row", "_law_holding", "_law_lot_here"] [.ref x, .int n, .int m, ev, gv, nv, rv]).set 7 (some (.ref l))) (F := F) (n := ((m : Nat) : Int)) (gs_one (g_var (v := .int m) (i := 2) rfl (.int _))) (by omega) (by omega)
      rw [show ((m : Nat) : Int).toNat = m by omega, rng_hs] at this
      exact this)
    (fun i σ' F' l' => (∃ z1 z2 z3 z4 z5 z6 z7, σ' = [some (.ref x), some (.int n), some (.int m), some ev, some gv, some nv, some rv, some (.ref l), z1, z2, z3, z4, z5, z6, z7]) ∧ l' = (((hs m).take i).filter fun v => standsB n ls m e v).map .int) (fun F2 e2 => ⟨⟨none, none, none, none, none, none, none, rfl⟩, by simp⟩) (fun i d hd σ' F' H' u l' hI g' e' hu N hNx => ?_) (fun σ' F' H' l' hI g' e' => ?_)
  · obtain ⟨⟨z1, z2, z3, z4, z5, z6, z7, rfl⟩, rfl⟩ := hI
    obtain ⟨v, hv, rfl⟩ := get_map hd
    have hvm : v ∈ hs m := List.mem_of_getElem? hv
    have hv2 := hs_mem.mp hvm
    have pl := placesOf_ok hl v
    have fs := firm_stands hn hg hl hk v hv2
    have hs1 := stands_eq hn hg hl hk v hv2
    have hh1 := holding_eq (ls := ls) hn hl v
    -- places
    refine t_asgI (K := K) (d := dT (placesOf e v)) (Step.refl g'.step.inn .nil) ((g_cbI (gs_one (g_lcE PyData.int (hs n) (fun h => decide (at_ e h = v)) PyData.int (w_hs rfl hN) (by rw [hs_len]; omega) (fun _ => rfl)
      (fun h hh F'' e'' y hy => et_of (g_opI (g_opI (g_var rfl (Rp.mono (e'.trans e'') _ _ hrv)) (g_var rfl hy) (ix_int (e := e) (by rw [hl]; exact hh))) (g_var rfl (Rp.mono e'' _ _ hu)) rv_eqI)) (fun h _ _ F'' e'' y hy => g_var rfl hy))) rc_tupL).is ?_) fun pv F1 H1 s1 e1 hpv => ?_
    · unfold placesOf; rw [hl]
    -- stands
    refine t_asgI (K := K) (d := .bool (standsB n ls m e v)) s1 ((g_opI (g_lcE dT (nearOf n ls m e) (fun r => !decide (v ∈ r)) dT (w_listI (g_var rfl (Rp.mono (e'.trans e1) _ _ hnv))) (by omega) (fun _ => rfl)
      (fun r hr F'' e'' y hy => et_of (g_opI (g_var rfl (Rp.mono (e1.trans e'') _ _ hu)) (g_var rfl hy) rv_ninT)) (fun r _ _ F'' e'' y hy => g_var rfl hy)) (g_lstI gs_nil (by simp)) (rv_eqNil (shaped_dLT _))).is (congrArg PyData.bool (dLT_emp _))) fun sv F2 H2 s2 e2 hsv => ?_
    obtain rfl := rp_bool hsv
    have g2 := g'.run g0 h0 s2
    -- firm
    refine t_addIf (K := K) (b := standsB n ls m e v) g0 h0 g2 rfl (et_B (K := K) (g_var (v := .bl (standsB n ls m e v)) rfl (.bl _))) (g_var rfl (Rp.mono (e1.trans e2) _ _ hu)) (by
      rw [List.length_map]
      have : (((hs m).take i).filter fun v => standsB n ls m e v).length ≤ m := Nat.le_trans (List.length_filter_le _ _) (by rw [List.length_take, hs_len]; omega)
      omega) fun F3 H3 g3 e3 => ?_
    have up3 := e'.trans ((e1.trans e2).trans e3)
    -- holding
    refine t_asgI (K := K) (d := dLT ((famLots n ls).filter fun l => inLot (placesOf e v) l)) (Step.refl g3.step.inn .nil) (g_lcE dT (famLots n ls) (fun l => inLot (placesOf e v) l) dT (w_listI (g_var rfl (Rp.mono up3 _ _ hgv))) (by omega) (fun _ => rfl)
      (fun o ho F'' e'' y hy => (et_of (g_opI (g_lcE PyData.int (placesOf e v) (fun h => !decide (h ∈ o)) PyData.int (w_tupI (g_var rfl (Rp.mono ((e2.trans e3).trans e'') _ _ hpv))) (by omega) (fun _ => rfl)
        (fun h hh F4 e4 y4 hy4 => et_of (g_opI (g_var rfl hy4) (g_var rfl (Rp.mono e4 _ _ hy)) rv_ninT)) (fun h _ _ F4 e4 y4 hy4 => g_var rfl hy4)) (g_lstI gs_nil (by simp)) (rv_eqNil (shaped_dI _)))).is (by rw [dI_emp]; rfl)) (fun o _ _ F'' e'' y hy => g_var rfl hy)) fun hv' F4 H4 s4 e4 hhv => ?_
    have up4 := up3.trans e4
    have hu4 : Rp K F4 u (.int v) := Rp.mono (((e1.trans e2).trans e3).trans e4) _ _ hu
    have hp4 : Rp K F4 pv (dT (placesOf e v)) := Rp.mono ((e2.trans e3).trans e4) _ _ hpv
    have he4 : Rp K F4 rv (dT e) := Rp.mono up4 _ _ hrv
    -- the first test
    refine t_skip s4 ((et_or (a := false) (b := false) ((et_not (b := true) (et_B (g_call (dT (placesOf e v)) (gs_two (g_call (e, v) (gs_two (g_var rfl he4) (g_var rfl hu4)) rfl (by simp only; omega)) (g_var rfl hp4)) rfl (plain_dT (by omega))))).is rfl) fun _ =>
      (et_not (b := true) (et_B (g_call (PyData.bool (standsB n ls m e v)) (gs_two ((g_famC (e, v) rfl (fam.mono up4) hn.2 hl (gs_two (g_var rfl he4) (g_var rfl hu4)) rfl).is (congrArg PyData.bool fs)) (g_var (v := .bl (standsB n ls m e v)) rfl (.bl _))) rfl (show plainD (PyData.bool (standsB n ls m e v)) from (rfl : atom (PyData.bool (standsB n ls m e v)) = true))))).is rfl).is rfl) fun F5 H5 s5 e5 => ?_
    have up5 := up4.trans e5
    have hu5 := Rp.mono e5 _ _ hu4
    have hp5 := Rp.mono e5 _ _ hp4
    have he5 := Rp.mono e5 _ _ he4
    have hh5 : Rp K F5 hv' (dLT ((famLots n ls).filter fun l => inLot (placesOf e v) l)) := Rp.mono e5 _ _ hhv
    have opt : optT ((famLots n ls).find? fun l => within (placesOf e v) l) = headT ((famLots n ls).filter fun l => inLot (placesOf e v) l) := by
      rw [show (fun l => within (placesOf e v) l) = fun l => inLot (placesOf e v) l from funext fun l => within_inLot _ _]
      exact hold_opt _ _
    have pOpt : plainD (optT ((famLots n ls).find? fun l => within (placesOf e v) l)) := by
      cases hf : (famLots n ls).find? fun l => within (placesOf e v) l with
      | none => exact (rfl : atom .none = true)
      | some l => exact plain_dT (by have := fL2 l (List.mem_of_find?_eq_some hf); omega)
    have fLh : ((famLots n ls).filter fun l => inLot (placesOf e v) l).length ≤ 300 := Nat.le_trans (List.length_filter_le _ _) fL
    -- the second test
    generalize hHd : (famLots n ls).filter (fun l => inLot (placesOf e v) l) = Hd at hh5 opt fLh hh1
    refine t_skip s5 ((et_not (b := true) (et_B (g_call (optT ((famLots n ls).find? fun l => within (placesOf e v) l)) (gs_two (g_famC (e, v) rfl (fam.mono up5) hn.2 hl (gs_two (g_var rfl he5) (g_var rfl hu5)) rfl) ((g_if (R := Is (headT Hd)) (b := !(Hd.map dT).isEmpty) (et_truL (g_var rfl hh5)) (fun hb => ?_) fun hb => ?_).is opt.symm)) rfl pOpt))).is rfl) fun F6 H6 s6 e6 => ?_
    · cases Hd with
      | nil => simp at hb
      | cons a r => exact g_opI (g_var rfl hh5) g_int (rv_ixL (by exact atI_nat (xs := (a :: r).map dT) (j := 0) rfl))
    · cases Hd with
      | nil => exact g_non
      | cons a r => simp at hb
    have hh6 := Rp.mono e6 _ _ hh5
    have hp6 := Rp.mono e6 _ _ hp5
    -- the third test
    refine t_if1 (b := false) s6 ((et_or (a := false) (b := false) ((et_of (K := K) (g_opI (g_var (v := .bl (standsB n ls m e v)) (d := .bool (standsB n ls m e v)) rfl (.bl _)) (g_opI (g_var rfl hh6) (g_lstI gs_nil (by simp)) (rv_eqNil (shaped_dLT _))) rv_neB)).is ?_) fun _ => (et_of (K := K) (g_opI (g_var (v := .bl (standsB n ls m e v)) (d := .bool (standsB n ls m e v)) rfl (.bl _)) (g_opI (g_var rfl hp6) (g_var rfl (Rp.mono (up5.trans e6) _ _ hev)) rv_inD) rv_eqB)).is ?_).is rfl) (fun z => by cases z) (fun _ F7 H7 s7 e7 => ?_)
    · rw [dLT_emp, hh1, hs1]; simp
    · rw [hs1]; cases decide (placesOf e v ∈ everyOf n ls) <;> rfl
    refine hNx _ F7 H7 _ ⟨⟨_, _, _, _, _, _, _, rfl⟩, ?_⟩ (g3.run g0 h0 s7) (((e1.trans e2).trans e3).trans (((e4.trans e5).trans e6).trans e7))
    rw [take_succA hv, List.filter_append, List.map_append]
    by_cases z : standsB n ls m e v = true
    · rw [if_pos z, List.filter_cons_of_pos (p := fun v => standsB n ls m e v) z]; rfl
    · rw [if_neg z, List.filter_cons_of_neg (p := fun v => standsB n ls m e v) z]; simp
  · obtain ⟨⟨z1, z2, z3, z4, z5, z6, z7, rfl⟩, rfl⟩ := hI
    obtain ⟨F2, s2, e2, r2⟩ := g'.done g0 h0
    have up := e'.trans e2
    rw [List.length_map, List.take_length] at r2
    refine t_retI (K := K) s2 (g_call (dT ((hs m).filter fun v => standsB n ls m e v)) (gs_two ((g_famC e rfl (fam.mono up) hn.2 ⟨hl, fun k hk' => by have := hk k hk'; omega⟩ (gs_one (g_var rfl (Rp.mono up _ _ hrv))) rfl).is (congrArg dT (firm_list hn hg hl hm14.2 hk))) (g_cbI (gs_one (g_var rfl r2)) rc_tupL)) rfl (plain_dT ?_)) q
    exact Nat.le_trans (List.length_filter_le _ _) (by rw [hs_len]; omega)
end
end K7

namespace K7
open PySem PySem.Spec PyProof.Rows L2 Fv Evl StX
abbrev s_law_fitted : Stmt := topS 48
theorem sc_law_fitted : FnScope ["_law_pot_here", "_law_falls", "_law_lots_here", "_law_m", "_law_entries", "_law_manner", "_law_handed", "_law_due", "_law_value", "_law_bad", "_law_k"] ["_law_pot_here", "_law_falls", "_law_lots_here", "_law_m", "_law_entries", "_law_manner"] (defScope s_law_fitted) := ⟨rfl, rfl, rfl, by decide +kernel, rfl, by decide +kernel, by decide +kernel⟩
section
variable {P : Program} {w : World} {K : PySem.W.Frag} {mg : Str → Option Value} {base : Heap}
variable {pt : Option Pt} {σ : L2.St} {F F0 H0 H : Hp} {te ta tb : TE} {t : TT} {ts tr : TA} {D : Ends} {tz : TS} {C l : Addr} {d : PyData}
theorem rv_ninI {i : Int} {ns : List Int} : RvG K (rIn K true) (.int i) (dI ns) (Is (.bool (!decide (i ∈ ns)))) := rv_val fun F H x y e hx hy => by
  obtain ⟨a, xs, rfl, hl, ha⟩ := rp_lst hy
  have e1 := rpAll_ints ha
  subst e1
  rw [rp_int hx]
  exact ⟨.bl (!inV (.int i) (ns.map V.int)), fun Q q => ⟨a, _, rfl, .inl (SqL.of (e _ _ hl)), rfl, flat_ints ns, q⟩, by rw [inV_ints]; exact .bl _⟩
theorem eqv_dLT : ∀ a : List (List Int), PyData.eqvAll (a.map dT) (a.map dT) = true
  | [] => by simp [PyData.eqvAll]
  | x :: a => by
    have h := eqv_dT x x
    simp only [List.map_cons, PyData.eqvAll, h, eqv_dLT a]
    simp
theorem rv_eqLL {a : List (List Int)} : RvG K (rEqD K) (dLT a) (dLT a) (Is (.bool true)) := by
  have := rv_eqD (K := K) (shaped_dLT a) (shaped_dLT a)
  have e : PyData.eqv (dLT a) (dLT a) = true := by
    show PyData.eqv (.list _) (.list _) = true
    simp only [PyData.eqv]; exact eqv_dLT a
  rw [e] at this; exact this
def FitOk (n : Nat) (ls : List (List Int)) (m : Nat) (es : List (List Int)) (mn : Str) : Prop := (2 ≤ n ∧ n ≤ 5) ∧ (1 ≤ m ∧ m ≤ 4) ∧ mn ∈ mans ∧ es.length ≤ 10 ∧ ∀ e ∈ es, e.length = n ∧ ∀ k ∈ e, 0 ≤ k ∧ k < (m : Int)
def spFitted (K : PySem.W.Frag) (C : Addr) : Sp := fun vs H Q _ => ∃ (q : Pt) (x : Addr) (n : Nat) (ls : List (List Int)) (m : Nat) (es : List (List Int)) (mn : Str) (F : Hp) (as : List V), vs = .ref q.p :: .ref x :: as ∧ FitOk n ls m es mn ∧ Ex F H ∧ Good (some q) F H ∧ Fam K C F x n ls ∧
  RpAll K F as [dLT ls, .int (m : Nat), dLT es, .str mn] ∧ ∀ v F2 H2, Step (some q) F H F2 H2 → Rp K F2 v (.bool true) → Q v H2
def headI : List Int → PyData
  | [] => .none
  | k :: _ => .int k
theorem ok_fitted {f fS fW fF fA fG fU fB : Addr} {fd fdS fdW fdF fdA fdG fdU fdB : FuncData} (Fn : Fun K "_law_fitted" "_law_fitted" s_law_fitted f fd) (T : Tx mg)
    (F_law_same : Fun K "_law_same" "_law_same" s_law_same fS fdS) (b_law_same : Binds K fdS ["_law_told", "_law_due"] []) (g_law_same : mg "_law_same" = some (.ref fS)) (G_law_same : FnOk P w K mg base CX0 2 fS fdS ["_law_told", "_law_due"] (spSame K))
    (F_law_way : Fun K "_law_way" "_law_way" s_law_way fW fdW) (b_law_way : Binds K fdW ["_law_pot_here", "_law_row"] []) (g_law_way : mg "_law_way" = some (.ref fW)) (G_law_way : FnOk P w K mg base CX0 2 fW fdW ["_law_pot_here", "_law_row"] (spWay K))
    (F_law_fits : Fun K "_law_fits" "_law_fits" s_law_fits fF fdF) (b_law_fits : Binds K fdF ["_law_value", "_law_entry_here", "_law_lots_here", "_law_manner"] []) (g_law_fits : mg "_law_fits" = some (.ref fF)) (G_law_fits : FnOk P w K mg base CX0 2 fF fdF ["_law_value", "_law_entry_here", "_law_lots_here", "_law_manner"] (spLFits K))
    (F_law_values : Fun K "_law_values" "_law_values" s_law_values fA fdA) (b_law_values : Binds K fdA ["_law_group", "_law_m", "_law_lots_here", "_law_manner"] []) (g_law_values : mg "_law_values" = some (.ref fA)) (G_law_values : FnOk P w K mg base CX0 3 fA fdA ["_law_group", "_law_m", "_law_lots_here", "_law_manner"] (spLVals K))
    (F_fitting_values : Fun K "fitting_values" "fitting_values" s_fitting_values fG fdG) (b_fitting_values : Binds K fdG ["falls", "manner", "entries"] []) (g_fitting_values : mg "fitting_values" = some (.ref fG)) (G_fitting_values : FnOk P w K mg base CX0 5 fG fdG ["falls", "manner", "entries"] (spFitting K C))
    (F_first_unfit : Fun K "first_unfit" "first_unfit" s_first_unfit fU fdU) (b_first_unfit : Binds K fdU ["falls", "manner", "entries", "value"] []) (g_first_unfit : mg "first_unfit" = some (.ref fU)) (G_first_unfit : FnOk P w K mg base CX0 4 fU fdU ["falls", "manner", "entries", "value"] (spUnfit K C))
    (F_fits : Fun K "fits" "fits" s_fits fB fdB) (b_fits : Binds K fdB ["falls", "manner", "entry", "value"] []) (g_fits : mg "fits" = some (.ref fB)) (G_fits : FnOk P w K mg base CX0 3 fB fdB ["falls", "manner", "entry", "value"] (spFits K C)) :
    FnOk P w K mg base CX0 6 f fd ["_law_pot_here", "_law_falls", "_law_lots_here", "_law_m", "_law_entries", "_law_manner"] (spFitted K C) := by
  refine Fn.ok sc_law_fitted (fun vs H Q E ⟨_, _, _, _, _, _, _, _, _, h, _, _, _, _, r, _⟩ => by rw [h, List.length_cons, List.length_cons, r.length]; rfl) (fun cdv A outer s H vs Q E hr h => ?_)
  obtain ⟨q, x, n, ls, m, es, mn, F, as, rfl, ⟨hn, hm14, hmn, hz, hes⟩, ex, g, fam, ha, k⟩ := h
  obtain ⟨lv, v2, ev, mv, rfl, hlv, h2, hev, hmv⟩ := rpAll4 ha
  obtain rfl := rp_int h2
  obtain rfl := rp_str hmv
  refine ⟨_, (pss_cons (ps_set (i := 6) sc_law_fitted.nd rfl (by first | exact Or.inl rfl | exact Or.inr rfl) (pe_call G_law_way (hr.mono (by decide)) (by rfl) g_law_way F_law_way.kp b_law_way .nil pass0 (pa_cons (pv 0) (pa_cons (pv 4) pa_nil))))
    (pss_cons (ps_set (i := 7) sc_law_fitted.nd rfl (by first | exact Or.inl rfl | exact Or.inr rfl) (pe_ifExp (e_truth (K := K) (pv 4)) (pe_call G_law_values (hr.mono (by decide)) (by rfl) g_law_values F_law_values.kp b_law_values .nil pass0 (pa_cons (pv 4) (pa_cons (pv 3) (pa_cons (pv 2) (pa_cons (pv 5) pa_nil))))) (pe_lst pa_nil)))
    (pss_cons (ps_if (pt_not (pt_val (pe_call G_law_same (hr.mono (by decide)) (by rfl) g_law_same F_law_same.kp b_law_same .nil pass0 (pa_cons (pe_call G_fitting_values (hr.mono (by decide)) (by rfl) g_fitting_values F_fitting_values.kp b_fitting_values .nil pass0 (pa_cons (pv 1) (pa_cons (pv 5) (pa_cons (pv 6) pa_nil)))) (pa_cons (pe_callTy (c_tup (K := K)) (by rfl) T.tuple (by decide +kernel) (pa_cons (pv 7) pa_nil)) pa_nil))))) (pss_one (ps_ret pe_bl)) pss_nil)
    (pss_cons (ps_for PassesOwn.never rfl (pi_range1 (by rfl) T.range (pa_cons (pv 3) pa_nil)) (pg_name (i := 8) sc_law_fitted.nd rfl (by first | exact Or.inl rfl | exact Or.inr rfl)) (pss_cons (ps_setLc (i := 9) (own := [("_law_k", 10)]) (g := gName 10) rfl sc_law_fitted.nd rfl rfl (sw_true rfl rfl rfl (by decide +kernel)) (pi_range1 (by rfl) T.range (pa_cons (pe_callB (c_len (K := K)) (by rfl) T.len (by decide +kernel) (pa_cons (pv 4) pa_nil)) pa_nil)) (blkOk_by (own := [("_law_k", 10)]) (N := ["_law_pot_here", "_law_falls", "_law_lots_here", "_law_m", "_law_entries", "_law_manner", "_law_handed", "_law_due", "_law_value", "_law_bad", "_law_k"]) (sc := (defScope s_law_fitted)) (by decide +kernel)) (fun _ _ _ _ _ => pg_name (i := 10) sc_law_fitted.nd rfl (by first | exact Or.inl rfl | exact Or.inr rfl)) (fun _ _ _ _ _ => (pts_one (pt_not (pt_val (pe_call G_law_fits (hr.mono (by decide)) (by rfl) g_law_fits F_law_fits.kp b_law_fits .nil pass0 (pa_cons (pv 8) (pa_cons (pe_ix (o_ixL (K := K)) (pv 4) (pv 10) (fun _ _ => rfl)) (pa_cons (pv 2) (pa_cons (pv 5) pa_nil))))))))) (fun _ _ _ _ _ => (pv 10)))
    (pss_cons (ps_if (pt_not (pt_val (pe_call G_law_same (hr.mono (by decide)) (by rfl) g_law_same F_law_same.kp b_law_same .nil pass0 (pa_cons (pe_call G_first_unfit (hr.mono (by decide)) (by rfl) g_first_unfit F_first_unfit.kp b_first_unfit .nil pass0 (pa_cons (pv 1) (pa_cons (pv 5) (pa_cons (pv 6) (pa_cons (pv 8) pa_nil))))) (pa_cons (pe_ifExp (e_truth (K := K) (pv 9)) (pe_ix (o_ixL (K := K)) (pv 9) pe_int (fun _ _ => rfl)) pe_non) pa_nil))))) (pss_one (ps_ret pe_bl)) pss_nil)
    (pss_one (ps_for PassesOwn.never rfl (pi_range1 (by rfl) T.range (pa_cons (pe_callB (c_len (K := K)) (by rfl) T.len (by decide +kernel) (pa_cons (pv 4) pa_nil)) pa_nil)) (pg_name (i := 10) sc_law_fitted.nd rfl (by first | exact Or.inl rfl | exact Or.inr rfl)) (pss_one (ps_if (pt_not (pt_val (pe_call G_law_same (hr.mono (by decide)) (by rfl) g_law_same F_law_same.kp b_law_same .nil pass0 (pa_cons (pe_call G_fits (hr.mono (by decide)) (by rfl) g_fits F_fits.kp b_fits .nil pass0 (pa_cons (pv 1) (pa_cons (pv 5) (pa_cons (pe_ix (o_ixL (K := K)) (pv 4) (pv 10) (fun _ _ => rfl)) (pa_cons (pv 8) pa_nil))))) (pa_cons (pe_cmpR (o_notIn (K := K)) (pv 10) (pv 9) (by rfl)) pa_nil))))) (pss_one (ps_ret pe_bl)) pss_nil)))))))
    (pss_one (ps_ret (pe_cmpR (o_eqD (K := K) hr.units) (pe_callTy (c_list (K := K)) (by rfl) T.list (by decide +kernel) (pa_cons (pv 6) pa_nil)) (pv 4) (nomark _)))))))), ?_⟩
  have hes1 : ∀ e ∈ es, e.length = n := fun e he => (hes e he).1
  -- handed
  refine t_asg (K := K) (R := fun d => SrcD d es) (Step.refl ex g) (g_callQ es rfl (gs_one (g_var rfl hev)) rfl (Nat.le_trans hz (by decide))) fun src hv F1 H1 hsrc s1 e1 hhv => ?_
  -- due
  refine t_asgI (K := K) (d := dI (if es.isEmpty then [] else lawVals ls mn es m)) s1 (g_if (b := !(es.map dT).isEmpty) (et_truL (g_var rfl (Rp.mono e1 _ _ hev))) (fun hb => ?_) fun hb => ?_) fun dv F2 H2 s2 e2 hdv => ?_
  · have : es.isEmpty = false := by rw [dLT_emp] at hb; simpa using hb
    rw [this]
    exact g_call (es, m, ls, mn) (gs_consI (g_var rfl (Rp.mono e1 _ _ hev)) (gs_three (g_var (v := .int m) rfl (.int _)) (g_var rfl (Rp.mono e1 _ _ hlv)) (g_var (v := .str mn) rfl (.str _)))) rfl ⟨by simp only; omega, by simp only; omega, fun e he => by have := hes1 e he; omega⟩
  · have : es.isEmpty = true := by rw [dLT_emp] at hb; simpa using hb
    rw [this]
    exact g_lstI gs_nil (by simp)
  have e12 := e1.trans e2
  have entOk : ∀ e ∈ es, EntOk n e := fun e he => ⟨hes1 e he, fun k hk => by have := (hes e he).2 k hk; omega⟩
  have few : (if es.isEmpty then [] else lawVals ls mn es m).length ≤ 1000 := by
    split
    · simp
    · exact Nat.le_trans (List.length_filter_le _ _) (by rw [hs_len]; omega)
  -- all that fit
  refine t_skip s2 ((et_not (b := true) (et_B (g_call (dT (if es.isEmpty then [] else lawVals ls mn es m)) (gs_two ((g_famC (mn, src, es) rfl (fam.mono e12) hn.2 ⟨hmn, hsrc, by simp only; omega, entOk⟩ (gs_two (g_var (v := .str mn) rfl (.str _)) (g_var rfl (Rp.mono e2 _ _ hhv))) rfl).is (congrArg dT (fit_list hn.2 hm14.2 hes))) (g_cbI (gs_one (g_var rfl hdv)) rc_tupL)) rfl (plain_dT few)))).is rfl) fun F3 H3 s3 e3 => ?_
  have up3 := e12.trans e3
  have hhv3 := Rp.mono (e2.trans e3) _ _ hhv
  refine t_for (K := K) (ds := (hs m).map .int) s3 (by
      have := w_rng1I (K := K) (pt := some q) (σ := [some (.ref q.p), some (.ref x), some lv, some (.int m), some ev, some (.str mn), some hv, some dv, none, none, none]) (F := F3) (n := ((m : Nat) : Int)) (gs_one (g_var (v := .int m) (i := 3) rfl (.int _))) (by omega) (by omega)
      rw [show ((m : Nat) : Int).toNat = m by omega, rng_hs] at this
      exact this)
    (fun i σ' F' => ∃ z8 z9 z10, σ' = [some (.ref q.p), some (.ref x), some lv, some (.int m), some ev, some (.str mn), some hv, some dv, z8, z9, z10]) (fun F2 e2 => ⟨none, none, none, rfl⟩) (fun i d hd σ' F' H' u hI s' e' hu N hN => ?_) (fun σ' F' H' hI s' e' => ?_)
  · obtain ⟨z8, z9, z10, rfl⟩ := hI
    obtain ⟨v, hv', rfl⟩ := get_map hd
    have hvm := hs_mem.mp (List.mem_of_getElem? hv')
    have up' := up3.trans e'
    have wk : ∀ {F'' : Hp} {σ'' : L2.St}, Ex F F'' → σ''[4]? = some (some ev) → WiG K (some q) (iRng1 (tCons (tCB (Fv.rLen K) (tCons (tVar 4) tNil)) tNil)) σ'' F'' (· = (hs es.length).map .int) := fun {F'' σ''} e'' h4 => by
      have := w_rng1I (K := K) (pt := some q) (σ := σ'') (F := F'') (n := (((es.map dT).length : Nat) : Int)) (gs_one (g_cbI (gs_one (g_var h4 (Rp.mono e'' _ _ hev))) rc_lenL)) (by omega) (by rw [List.length_map]; omega)
      rw [List.length_map, show ((es.length : Nat) : Int).toNat = es.length by omega, rng_hs] at this
      exact this
    have ixE : ∀ {h : Int}, h ∈ hs es.length → atI (es.map dT) h = some (dT (es.getD h.toNat [])) := fun {h} hh => by
      obtain ⟨h0, h1⟩ := hs_mem.mp hh
      obtain ⟨j, rfl⟩ : ∃ j : Nat, h = (j : Int) := ⟨h.toNat, by omega⟩
      have hj : j < es.length := by omega
      refine atI_nat ?_
      rw [List.getElem?_map, List.getElem?_eq_getElem hj, show ((j : Nat) : Int).toNat = j by omega, List.getD_eq_getElem?_getD, List.getElem?_eq_getElem hj]; rfl
    have memE : ∀ {h : Int}, h ∈ hs es.length → es.getD h.toNat [] ∈ es := fun {h} hh => by
      obtain ⟨h0, h1⟩ := hs_mem.mp hh
      rw [List.getD_eq_getElem?_getD, List.getElem?_eq_getElem (by omega : h.toNat < es.length)]
      exact List.getElem_mem _
    -- bad
    refine t_asgI (K := K) (d := dI (badOf ls mn es v)) s' (g_lcE PyData.int (hs es.length) (fun k => !lawFits ls mn (es.getD k.toNat []) v) PyData.int (wk up' rfl) (by rw [hs_len]; omega) (fun _ => rfl)
      (fun h hh F'' e'' y hy => et_not (et_B (g_call (v, es.getD h.toNat [], ls, mn) (gs_consI (g_var rfl (Rp.mono e'' _ _ hu)) (gs_three (g_opI (g_var rfl (Rp.mono (up'.trans e'') _ _ hev)) (g_var rfl hy) (rv_ixL (ixE hh))) (g_var rfl (Rp.mono (up'.trans e'') _ _ hlv)) (g_var (v := .str mn) rfl (.str _)))) rfl (by simp only; have := hes1 _ (memE hh); omega)))) (fun h _ _ F'' e'' y hy => g_var rfl hy)) fun bv F4 H4 s4 e4 hbv => ?_
    have up4 := up'.trans e4
    have hu4 := Rp.mono e4 _ _ hu
    have hhv4 := Rp.mono (e'.trans e4) _ _ hhv3
    have first : optN (unfit n ls mn es v) = headI (badOf ls mn es v) := by
      rw [bad_first hn.2 hes1]
      cases badOf ls mn es v <;> rfl
    have pFirst : plainD (optN (unfit n ls mn es v)) := by
      cases unfit n ls mn es v with
      | none => exact (rfl : atom .none = true)
      | some i => exact (rfl : atom (.int _) = true)
    generalize hB : badOf ls mn es v = B at hbv first
    -- the first that does not fit
    refine t_skip s4 ((et_not (b := true) (et_B (g_call (optN (unfit n ls mn es v)) (gs_two (g_famC (mn, src, es, v) rfl (fam.mono up4) hn.2 ⟨hmn, hsrc, by simp only; omega, hes1⟩ (gs_three (g_var (v := .str mn) rfl (.str _)) (g_var rfl hhv4) (g_var rfl hu4)) rfl) ((g_if (R := Is (headI B)) (b := !(B.map PyData.int).isEmpty) (et_truL (g_var rfl hbv)) (fun hb => ?_) fun hb => ?_).is first.symm)) rfl pFirst))).is rfl) fun F5 H5 s5 e5 => ?_
    · cases B with
      | nil => simp at hb
      | cons a r => exact g_opI (g_var rfl hbv) g_int (rv_ixL (by exact atI_nat (xs := (a :: r).map PyData.int) (j := 0) rfl))
    · cases B with
      | nil => exact g_non
      | cons a r => simp at hb
    have up5 := up4.trans e5
    refine t_for1 (K := K) (ds := (hs es.length).map .int) s5 (wk up5 rfl) (fun i σ' F' => ∃ z10, σ' = [some (.ref q.p), some (.ref x), some lv, some (.int m), some ev, some (.str mn), some hv, some dv, some u, some bv, z10]) (fun F2 e2 => ⟨_, rfl⟩) (fun i d hd σ'' F'' H'' y hJ s'' e'' hy N' hN' => ?_) (fun σ'' F'' H'' hJ s'' e'' => ?_)
    · obtain ⟨z, rfl⟩ := hJ
      obtain ⟨h, hh', rfl⟩ := get_map hd
      have hh := List.mem_of_getElem? hh'
      have up6 := up5.trans e''
      have fe : fitsB n ls mn (es.getD h.toNat []) v = !decide (h ∈ B) := by
        obtain ⟨h0, h1⟩ := hs_mem.mp hh
        obtain ⟨j, rfl⟩ : ∃ j : Nat, h = (j : Int) := ⟨h.toNat, by omega⟩
        have hj : j < es.length := by omega
        rw [fits_eq hn.2 (hes1 _ (memE hh)), ← hB, bad_mem hj, show ((j : Nat) : Int).toNat = j by omega, List.getD_eq_getElem?_getD, List.getElem?_eq_getElem hj]
        simp
      refine t_if1 (b := false) s'' ((et_not (b := true) (et_B (g_call (PyData.bool (!decide (h ∈ B))) (gs_two ((g_famC (mn, es.getD h.toNat [], v) rfl (fam.mono up6) hn.2 ⟨hmn, hes1 _ (memE hh)⟩ (gs_three (g_var (v := .str mn) rfl (.str _)) (g_opI (g_var rfl (Rp.mono up6 _ _ hev)) (g_var rfl hy) (rv_ixL (ixE hh))) (g_var rfl (Rp.mono (e5.trans e'') _ _ hu4))) rfl).is (congrArg PyData.bool fe)) (g_opI (g_var rfl hy) (g_var rfl (Rp.mono (e5.trans e'') _ _ hbv)) rv_ninI)) rfl
        (show plainD (PyData.bool _) from (rfl : atom (PyData.bool _) = true))))).is rfl) (fun z => by cases z) (fun _ F7 H7 s7 e7 => hN' _ F7 H7 ⟨_, rfl⟩ s7 e7)
    · obtain ⟨z, rfl⟩ := hJ
      exact hN _ F'' H'' ⟨_, _, _, rfl⟩ s'' ((e4.trans e5).trans e'')
  · obtain ⟨z8, z9, z10, rfl⟩ := hI
    refine t_retI (K := K) s' (g_opI (g_cbI (gs_one (g_var rfl (Rp.mono e' _ _ hhv3))) (rc_list hsrc.seq)) (g_var rfl (Rp.mono (up3.trans e') _ _ hev)) rv_eqLL) k
end
end K7

namespace Fv
open PySem PySem.Spec PyProof.Rows L2 Evl StX
/-- a def, where nothing is being shown around it -/
theorem okG {P : Program} {w : World} {K : PySem.W.Frag} {mg : Str → Option Value} {base : Heap} {x ql : Str} {st : Stmt} {f : Addr} {fd : FuncData} {N ps : List Str} {k : Nat} {sp : Sp} (Fn : Fun K x ql st f fd) (S : FnScope N ps (defScope st)) (ln : ∀ vs H Q E, sp vs H Q E → vs.length = ps.length)
    (hb : ∀ (cv : Value) (A : Around) (out : List Env) (s : Shared) (H : Hp) (vs : List V) (Q : VK) (E : XK), Calmly A → Room k (A.deeper (envOfC ql (defScope st) s.heap.objs.size f cv)) → sp vs H Q E → ∃ t, PSs (cxOf CX0 P w K mg base N ql (defScope st) f cv A out s H E) (defBody st) t ∧ t { nx := fun _ H2 => Q .non H2, rt := Q } (start N vs) H) :
    FnG P w K mg base CX0 (k + 1) f fd ps sp := by
  obtain ⟨oc, od, kV, doc, pm, an, cdv, ct, osl, rfl, lk, hc⟩ := Fn.ex
  exact gfn_mk lk hc S ln fun A out s H vs Q E cm room hs => hb cdv A out s H vs Q E cm room hs
section
variable {K : PySem.W.Frag} {pt : Option Pt} {σ : L2.St} {F : Hp} {te : TE} {d : PyData} {a C dd : Addr} {cls : Value}
theorem g_isY {i : Nat} {c : V} {cv : Value} (h0 : σ[i]? = some (some (.ref a))) (hc : ∀ u, RelV c u → u = cv) (hk : PySem.W.kitOne K cls cv = some true) : EvG K pt (tCB (rIsY K cls a) (tCons (tVar i) (tCons (tC c) tNil))) σ F (Is (.bool true)) := fun H1 e g Q q =>
  ⟨_, h0, c, cv, rfl, hc, hk, q _ _ F H1 rfl (.refl e g) (.bl true)⟩
theorem g_xf {i : Nat} {n : Str} {fs : List (Str × V)} {v : V} (h0 : σ[i]? = some (some (.ref a))) (hd : F dd = some (.xd fs)) (hl : fs.lookup n = some v) (hv : Rp K F v d) : EvG K pt (tXf a (.ref C) (some dd) C n (tVar i)) σ F (Is d) := fun H1 e g Q q =>
  ⟨_, h0, rfl, rfl, dd, fs, v, rfl, e _ _ hd, hl, q _ v F H1 rfl (.refl e g) hv⟩
theorem g_repr (h : EvG K pt te σ F (Is d)) (h1 : d.showable = true) (h2 : d.hasDict = false) (h3 : d.shown.length ≤ 100) (h4 : d.depth ≤ 60) : EvG K pt (tCB (rRepr K) (tCons te tNil)) σ F (Is (.str d.shown)) := fun H1 e g Q q =>
  h H1 e g _ fun d' v F2 H2 hd s hv => by
    subst hd
    exact ⟨v, d', rfl, Rp.dp _ _ (Rp.mono s.inn _ _ hv), h1, h2, Nat.le_trans h3 (by decide), h4, q _ _ F2 H2 rfl s (.str _)⟩
end
end Fv
namespace K7
open PySem PySem.Spec PyProof.Rows L2 Fv Evl StX
abbrev s_law_word : Stmt := topS 49
theorem sc_law_word : FnScope ["_law_which", "_law_falls", "_law_manner", "_law_entry_here", "raised"] ["_law_which", "_law_falls", "_law_manner", "_law_entry_here"] (defScope s_law_word) := ⟨rfl, rfl, rfl, by decide +kernel, rfl, by decide +kernel, by decide +kernel⟩
section
variable {P : Program} {w : World} {K : PySem.W.Frag} {mg : Str → Option Value} {base : Heap} {tM CF CB fI : Addr} {mc : Value}
def tWord (K : PySem.W.Frag) (CB : Addr) (a : Addr) (cls : Value) (d : Option Addr) : TS := tRet (tIf (tAnd (tB (tCB (rIsY K cls a) (tCons (tVar 4) (tCons (tC (.ref CB)) tNil)))) (tB (tCB (rIsY K cls a) (tCons (tVar 4) (tCons (tC (.ty "ValueError")) tNil)))))
  (tTup (tCons (tC (.str "bad")) (tCons (tCB (rRepr K) (tCons (tXf a cls d CB "manner" (tVar 4)) tNil)) tNil))) (tTup (tCons (tC (.str "other")) tNil)))
theorem word_tells {F H F2 H2 : Hp} {dd : Addr} {W0 : WX} {Q : VK} {σ : L2.St} {d : PyData} {v : V} (EM : ErrM K mg CF CB fI mc) (hd : d ∈ badMans) (hσ : σ.length = 5) (s2 : Step none F H F2 H2) (hv : Rp K F2 v d) (hdd : F2 dd = some (.xd [("manner", v)]))
    (q : ∀ u F3 H3, Step none F H F3 H3 → Rp K F3 u (.tuple [.str "bad", .str d.shown]) → Q u H3) {D : Ends} (hD : D.rt = Q) : wAs K (.ref CF) 4 (tWord K CB) W0 D (.ref CB) (some dd) σ H2 := by
  obtain ⟨f1, f2, f3, f4, f5, f6⟩ := bad_facts d hd
  refine ⟨true, EM.ex, fun _ a ha => ?_, fun z => by cases z⟩
  have h4 : (σ.set 4 (some (V.ref a)))[4]? = some (some (V.ref a)) := by
    rw [List.getElem?_set]; simp [hσ]
  have k1 : PySem.W.kitOne K (.ref CB) (.ref CB) = some true := by unfold PySem.W.kitOne; simp
  subst hD
  exact t_retI s2 (g_if (R := Is (.tuple [.str "bad", .str d.shown])) (b := true) ((et_and (a := true) (b := true) (et_B (g_isY (c := .ref CB) (cv := .ref CB) h4 (fun u r => r) k1)) fun _ => et_B (g_isY (c := .ty "ValueError") (cv := .type "ValueError") h4 (fun u r => r) EM.kv)).is rfl) (fun _ => g_tupI (gs_two g_str (g_repr (g_xf h4 hdd rfl hv) f3 f4 f5 f6)) (by simp)) (fun z => by cases z)) fun u F3 H3 s3 hu => q u F3 H3 s3 hu
/-- which of the four is asked, with a manner that is none -/
def spWord (K : PySem.W.Frag) : Sp := fun vs H Q _ => ∃ (j : Int) (x1 v x3 : V) (d : PyData) (F : Hp), vs = [.int j, x1, v, x3] ∧ (0 ≤ j ∧ j < 4) ∧ d ∈ badMans ∧ Ex F H ∧ Rp K F v d ∧ ∀ u F2 H2, Step none F H F2 H2 → Rp K F2 u (.tuple [.str "bad", .str d.shown]) → Q u H2
theorem ok_word {f fM fF fG fU : Addr} {fd fdM fdF fdG fdU : FuncData} (Fn : Fun K "_law_word" "_law_word" s_law_word f fd) (T : Tx mg) (zV : mg "ValueError" = none) (EM : ErrM K mg CF CB fI mc) (kB : PySem.W.keepIn K (.ref CB) = true)
    (F_check_manner : Fun K "check_manner" "check_manner" s_check_manner fM fdM) (b_check_manner : Binds K fdM ["manner"] []) (g_check_manner : mg "check_manner" = some (.ref fM)) (GX_check_manner : FnOk P w K mg base (L2.CX P w) 3 fM fdM ["manner"] (spBadN K CB 1 0))
    (F_fits : Fun K "fits" "fits" s_fits fF fdF) (b_fits : Binds K fdF ["falls", "manner", "entry", "value"] []) (g_fits : mg "fits" = some (.ref fF)) (GX_fits : FnOk P w K mg base (L2.CX P w) 5 fF fdF ["falls", "manner", "entry", "value"] (spBadN K CB 4 1))
    (F_fitting_values : Fun K "fitting_values" "fitting_values" s_fitting_values fG fdG) (b_fitting_values : Binds K fdG ["falls", "manner", "entries"] []) (g_fitting_values : mg "fitting_values" = some (.ref fG)) (GX_fitting_values : FnOk P w K mg base (L2.CX P w) 6 fG fdG ["falls", "manner", "entries"] (spBadN K CB 3 1))
    (F_first_unfit : Fun K "first_unfit" "first_unfit" s_first_unfit fU fdU) (b_first_unfit : Binds K fdU ["falls", "manner", "entries", "value"] []) (g_first_unfit : mg "first_unfit" = some (.ref fU)) (GX_first_unfit : FnOk P w K mg base (L2.CX P w) 5 fU fdU ["falls", "manner", "entries", "value"] (spBadN K CB 4 1)) :
    FnG P w K mg base CX0 7 f fd ["_law_which", "_law_falls", "_law_manner", "_law_entry_here"] (spWord K) := by
  refine okG Fn sc_law_word (fun vs H Q E ⟨_, _, _, _, _, _, h, _⟩ => by rw [h]; rfl) (fun cdv A outer s H vs Q E cm hr h => ?_)
  obtain ⟨j, x1, v, x3, d, F, rfl, hj, hd, e, hv, q⟩ := h
  obtain ⟨f1, f2, f3, f4, f5, f6⟩ := bad_facts d hd
  have hu := hu65 hr
  refine ⟨_, (pss_one (ps_try_as (i := 4) rfl rfl sc_law_word.nd rfl rfl ⟨by rfl, by decide, .inl EM.gF⟩ takes0
    (fun W pn xe tkW po => (pss_cons (ps_if (pt_cmpR op_eq (pv 0) pe_int (nomark _)) (pss_one (ps_ret (pe_callS GX_check_manner (hr.mono (by decide)) (by rfl) g_check_manner F_check_manner.kp b_check_manner (fun σ => passAt tkW σ) (pa_cons (pv 2) pa_nil)))) pss_nil)
      (pss_cons (ps_if (pt_cmpR op_eq (pv 0) pe_int (nomark _)) (pss_one (ps_ret (pe_callS GX_fits (hr.mono (by decide)) (by rfl) g_fits F_fits.kp b_fits (fun σ => passAt tkW σ) (pa_cons (pv 1) (pa_cons (pv 2) (pa_cons (pv 3) (pa_cons pe_int pa_nil))))))) pss_nil)
      (pss_one (ps_ret (pe_ifExp (pt_cmpR op_eq (pv 0) pe_int (nomark _)) (pe_callS GX_fitting_values (hr.mono (by decide)) (by rfl) g_fitting_values F_fitting_values.kp b_fitting_values (fun σ => passAt tkW σ) (pa_cons (pv 1) (pa_cons (pv 2) (pa_cons (pe_lst (pa_cons (pv 3) pa_nil)) pa_nil))))
        (pe_callS GX_first_unfit (hr.mono (by decide)) (by rfl) g_first_unfit F_first_unfit.kp b_first_unfit (fun σ => passAt tkW σ) (pa_cons (pv 1) (pa_cons (pv 2) (pa_cons (pe_lst (pa_cons (pv 3) pa_nil)) (pa_cons pe_int pa_nil)))))))))))
    (fun a oe cls d pn hz hf => (pss_one (ps_ret (pe_ifExp (PW.pt (pw_and (pt_val (pe_callB (c_isY (K := K) hz) (by rfl) T.isinstance (by decide +kernel) (pa_cons (pv 4) (pa_cons (pe_glob (v := .ref CB) (by rfl) EM.gB rfl) pa_nil)))) (pw_and1 (pt_val (pe_callB (c_isY (K := K) hz) (by rfl) T.isinstance (by decide +kernel) (pa_cons (pv 4) (pa_cons (pe_bltn (v := .ty "ValueError") (by rfl) zV (by decide +kernel) rfl) pa_nil)))))))
      (pe_tup (pa_cons pe_str (pa_cons (pe_callB (c_repr (K := K) ((cm.deeper _).mark _) hu) (by rfl) T.repr (by decide +kernel) (pa_cons (pe_xf EM.xf EM.no hz hf (pv 4)) pa_nil)) pa_nil)))
      (pe_tup (pa_cons pe_str pa_nil)))))))), ?_⟩
  refine t_when (b := decide (j = 0)) (Step.refl e .nil) (et_of (K := K) (g_opI (g_var (v := .int j) (d := .int j) rfl (.int _)) g_int rv_eqI)) (fun _ F2 H2 s2 e2 => ?_) (fun _ F2 H2 s2 e2 => ?_)
  · exact ⟨v, rfl, d, v, F2, rfl, rfl, hd, s2.inn, Rp.mono e2 _ _ hv, fun F3 H3 dd s3 h1 h2 => word_tells EM hd rfl (s2.trans s3) h1 h2 q rfl⟩
  refine t_when (b := decide (j = 1)) s2 (et_of (K := K) (g_opI (g_var (v := .int j) (d := .int j) rfl (.int _)) g_int rv_eqI)) (fun _ F3 H3 s3 e3 => ?_) (fun _ F3 H3 s3 e3 => ?_)
  · exact ⟨x1, rfl, v, rfl, x3, rfl, d, v, F3, rfl, rfl, hd, s3.inn, Rp.mono (e2.trans e3) _ _ hv, fun F4 H4 dd s4 h1 h2 => word_tells EM hd rfl (s3.trans s4) h1 h2 q rfl⟩
  refine (et_of (K := K) (b := decide (j = 2)) (g_opI (g_var (v := .int j) (d := .int j) rfl (.int _)) g_int rv_eqI)) H3 s3.inn s3.good _ fun b F4 H4 hb s4 => ?_
  have up := (e2.trans e3).trans s4.sub
  have s34 := s3.trans s4
  have lit : ∀ p, H4 p = none → Step none F4 H4 F4 (upd H4 p (.lst [x3])) := fun p hp => .litter s4.inn .nil hp
  cases b with
  | true =>
    exact ⟨x1, rfl, v, rfl, ⟨x3, rfl, (by show 1 ≤ _; decide), fun p hp => ⟨d, v, F4, rfl, rfl, hd, (lit p hp).inn, Rp.mono up _ _ hv, fun F5 H5 dd s5 h1 h2 => word_tells EM hd rfl ((s34.trans (lit p hp)).trans s5) h1 h2 q rfl⟩⟩⟩
  | false =>
    exact ⟨x1, rfl, v, rfl, ⟨x3, rfl, (by show 1 ≤ _; decide), fun p hp => ⟨d, v, F4, rfl, rfl, hd, (lit p hp).inn, Rp.mono up _ _ hv, fun F5 H5 dd s5 h1 h2 => word_tells EM hd rfl ((s34.trans (lit p hp)).trans s5) h1 h2 q rfl⟩⟩⟩
end
end K7

namespace Fv
open PySem PySem.Spec PyProof.Rows L2 Evl StX
section
variable {K : PySem.W.Frag} {pt : Option Pt} {σ : L2.St} {F : Hp} {te : TE} {wi : TI} {RS RS2 : List PyData → Prop}
theorem WiG.imp (h : WiG K pt wi σ F RS) (hi : ∀ ds, RS ds → RS2 ds) : WiG K pt wi σ F RS2 := fun H1 e g RR q => h H1 e g RR fun ds J F2 H2 hr s Y => q ds J F2 H2 (hi ds hr) s Y
theorem w_listR (h : EvG K pt te σ F (fun d => ∃ ds, d = .list ds ∧ RS ds)) : WiG K pt (iList K te) σ F RS := fun H1 i g RR q =>
  h H1 i g _ fun d v F2 H2 ⟨ds, hd, hr⟩ s hv => by
    subst hd
    exact w_listI (K := K) (te := fun _ H Q => Q v H) (σ := σ) (F := F2) (fun H3 e3 g3 Q q3 => q3 _ v F2 H3 rfl (.refl e3 g3) hv) H2 s.inn s.good RR fun ds' J F3 H3 e s3 Y => q ds' J F3 H3 (by rw [show ds' = ds from e]; exact hr) (s.trans s3) Y
end
end Fv
namespace K7
open PySem PySem.Spec PyProof.Rows L2 Fv Evl StX
section
variable {P : Program} {w : World} {K : PySem.W.Frag} {mg : Str → Option Value} {base : Heap} {tM C : Addr}
variable {pt : Option Pt} {σ : L2.St} {F F0 H0 H : Hp} {te ta tb : TE} {ts tr : TA} {D : Ends} {tz : TS} {d : PyData}
theorem g_isiM {i : Nat} (hM : ManT K tM) (h0 : σ[i]? = some (some (.ref tM))) : EvG K pt (tCB (rIsi K) (tCons (tVar i) (tCons (tC (.ty "tuple")) tNil))) σ F (Is (.bool true)) := fun H1 e g Q q => by
  obtain ⟨o, h1, h2⟩ := hM.ty
  exact ⟨_, h0, .ref tM, .ty "tuple", _, _, true, rfl, .ty "tuple", .kTuple h1 h2, kit_ty (kit_tuple (.tuple [])), q _ _ F H1 rfl (.refl e g) (.bl true)⟩
theorem g_lenM {i : Nat} (hM : ManT K tM) (h0 : σ[i]? = some (some (.ref tM))) : EvG K pt (tCB (Fv.rLen K) (tCons (tVar i) tNil)) σ F (Is (.int 3)) := fun H1 e g Q q =>
  ⟨_, h0, tM, mans.map V.str, rfl, .inr (hM.sq H1), q _ _ F H1 rfl (.refl e g) (.int _)⟩
theorem g_ixM {i j : Nat} {m : Str} (hM : ManT K tM) (h0 : σ[i]? = some (some (.ref tM))) (hm : mans[j]? = some m) (h : EvG K pt te σ F (Is (.int (j : Int)))) : EvG K pt (tOp (rIxT K) (tVar i) te) σ F (Is (.str m)) := fun H1 e g Q q =>
  ⟨_, h0, h H1 e g _ fun d v F2 H2 hd s hv => by
    subst hd
    obtain rfl := rp_int hv
    exact ⟨tM, mans.map V.str, _, .str m, rfl, rfl, hM.sq H2, atI_nat (by rw [List.getElem?_map, hm]; rfl), q _ _ F2 H2 rfl s (.str m)⟩⟩
def spSameM (K : PySem.W.Frag) (tM : Addr) : Sp := fun vs H Q _ => ∃ v F, vs = [.ref tM, v] ∧ Ex F H ∧ Rp K F v (.tuple manD) ∧ ∀ u F2 H2, Step none F H F2 H2 → Rp K F2 u (.bool true) → Q u H2
theorem ok_sameM {f : Addr} {fd : FuncData} (F_law_same : Fun K "_law_same" "_law_same" s_law_same f fd) (T : Tx mg) (hM : ManT K tM) (b_law_same : Binds K fd ["_law_told", "_law_due"] []) (g_law_same : mg "_law_same" = some (.ref f)) : FnOk P w K mg base CX0 2 f fd ["_law_told", "_law_due"] (spSameM K tM) := by
  have G_law_same : FnOk P w K mg base CX0 1 f fd ["_law_told", "_law_due"] (spSame0 K) := ok_same0 F_law_same T b_law_same g_law_same
  refine Fun.ok F_law_same sc_law_same (fun vs H Q E ⟨_, _, h, _⟩ => by rw [h]; rfl) (fun cdv A outer s H vs Q E hr h => ?_)
  obtain ⟨y, F, rfl, e, hy, q⟩ := h
  refine ⟨_, (pss_cons (ps_if (pt_val (pe_callB (c_isi (K := K)) (by rfl) T.isinstance (by decide +kernel) (pa_cons (pv 1) (pa_cons (pe_bltn (v := .ty "tuple") (by rfl) T.tuple (by decide +kernel) rfl) pa_nil)))) (pss_cons (ps_if (PW.pt (pw_or (pt_not (pt_val (pe_callB (c_isi (K := K)) (by rfl) T.isinstance (by decide +kernel) (pa_cons (pv 0) (pa_cons (pe_bltn (v := .ty "tuple") (by rfl) T.tuple (by decide +kernel) rfl) pa_nil))))) (pw_or1 (pt_cmpR op_ne (pe_callB (c_len (K := K)) (by rfl) T.len (by decide +kernel) (pa_cons (pv 0) pa_nil)) (pe_callB (c_len (K := K)) (by rfl) T.len (by decide +kernel) (pa_cons (pv 1) pa_nil)) (nomark _))))) (pss_one (ps_ret pe_bl)) pss_nil)
    (pss_one (ps_ret (pe_cmpR (o_eqD (K := K) hr.units) (pe_lc (own := [("_law_k", 2)]) (g := gName 2) rfl sc_law_same.nd (pi_range1 (by rfl) T.range (pa_cons (pe_callB (c_len (K := K)) (by rfl) T.len (by decide +kernel) (pa_cons (pv 1) pa_nil)) pa_nil)) (blkOk_by (own := [("_law_k", 2)]) (N := ["_law_told", "_law_due", "_law_k"]) (sc := (defScope s_law_same)) (by decide +kernel)) (fun _ _ _ _ _ => pg_name (i := 2) sc_law_same.nd rfl (by first | exact Or.inl rfl | exact Or.inr rfl)) (fun _ _ _ _ _ => (pts_one (pt_not (pt_val (pe_call G_law_same (hr.mono (by decide)) (by rfl) g_law_same F_law_same.kp b_law_same .nil pass0 (pa_cons (pe_ix (o_ixT (K := K)) (pv 0) (pv 2) (fun _ _ => rfl)) (pa_cons (pe_ix (o_ixT (K := K)) (pv 1) (pv 2) (fun _ _ => rfl)) pa_nil))))))) (fun _ _ _ _ _ => (pv 2))) (pe_lst pa_nil) (nomark _))))) pss_nil)
    (pss_cons (ps_if (pt_cmpR op_isN (pv 1) pe_non (nomark _)) (pss_one (ps_ret (pe_cmpR op_isN (pv 0) pe_non (nomark _)))) pss_nil)
    (pss_cons (ps_if (pt_val (pe_callB (c_isi (K := K)) (by rfl) T.isinstance (by decide +kernel) (pa_cons (pv 1) (pa_cons (pe_bltn (v := .ty "bool") (by rfl) T.bool (by decide +kernel) rfl) pa_nil)))) (pss_one (ps_ret (pe_ifExp (pt_val (pv 1)) (pe_cmpR op_isBl (pv 0) pe_bl (nomark _)) (pe_cmpR op_isBl (pv 0) pe_bl (nomark _))))) pss_nil)
    (pss_cons (ps_if (pt_val (pe_callB (c_isi (K := K)) (by rfl) T.isinstance (by decide +kernel) (pa_cons (pv 1) (pa_cons (pe_bltn (v := .ty "str") (by rfl) T.str (by decide +kernel) rfl) pa_nil)))) (pss_one (ps_ret (pe_and (pe_callB (c_isi (K := K)) (by rfl) T.isinstance (by decide +kernel) (pa_cons (pv 0) (pa_cons (pe_bltn (v := .ty "str") (by rfl) T.str (by decide +kernel) rfl) pa_nil))) (pe_one (pe_cmpR op_eq (pv 0) (pv 1) (nomark _)))))) pss_nil)
    (pss_one (ps_ret (pe_and (pe_callB (c_isi (K := K)) (by rfl) T.isinstance (by decide +kernel) (pa_cons (pv 0) (pa_cons (pe_bltn (v := .ty "int") (by rfl) T.int (by decide +kernel) rfl) pa_nil))) (pe_and (pe_not (pe_callB (c_isi (K := K)) (by rfl) T.isinstance (by decide +kernel) (pa_cons (pv 0) (pa_cons (pe_bltn (v := .ty "bool") (by rfl) T.bool (by decide +kernel) rfl) pa_nil)))) (pe_one (pe_cmpR op_eq (pv 0) (pv 1) (nomark _))))))))))), ?_⟩
  refine t_when (b := true) (Step.refl e .nil) (et_B (g_isi (g_var rfl hy) (kit_tuple _))) (fun hb F2 H2 s2 e2 => ?_) (fun z => by cases z)
  have hy2 := Rp.mono e2 _ _ hy
  refine t_skip s2 ((et_or (a := false) (b := false) ((et_not (b := true) (et_B (g_isiM hM rfl))).is rfl) fun _ => (et_of (g_opI (g_lenM hM rfl) (g_cbI (gs_one (g_var rfl hy2)) rc_lenT) rv_neI)).is (by simp [mans])).is rfl) fun F3 H3 s3 e3 => ?_
  have hy3 := Rp.mono e3 _ _ hy2
  refine t_retI (K := K) s3 ((g_opI (g_lcE PyData.int (hs 3) (fun _ => false) PyData.int ?_ (by rw [hs_len]; omega) (fun _ => rfl) (fun h hh F' e' u hu => ?_) (fun h _ hf => by cases hf)) (g_lstI gs_nil (by simp)) (rv_eqNil ?_)).is ?_) q
  · have := w_rng1I (K := K) (pt := none) (σ := start ["_law_told", "_law_due", "_law_k"] [.ref tM, y]) (F := F3) (n := ((manD.length : Nat) : Int)) (gs_one (g_cbI (gs_one (g_var (i := 1) rfl hy3)) rc_lenT)) (by decide) (by decide)
    rw [show ((manD.length : Nat) : Int).toNat = 3 by decide, rng_hs] at this
    exact this
  · obtain ⟨h0, h1⟩ := hs_mem.mp hh
    obtain ⟨j, rfl⟩ : ∃ j : Nat, h = (j : Int) := ⟨h.toNat, by omega⟩
    have hj : j < 3 := by omega
    obtain ⟨m, hm⟩ : ∃ m, mans[j]? = some m := ⟨mans[j]'(by simpa [mans] using hj), List.getElem?_eq_getElem _⟩
    have hi : atI manD (j : Int) = some (.str m) := atI_nat (by rw [List.getElem?_map, hm]; rfl)
    exact (et_not (b := true) (et_B (g_call (PyData.str m) (gs_two (g_ixM hM rfl hm (g_var rfl hu)) (g_opI (g_var rfl (Rp.mono e' _ _ hy3)) (g_var rfl hu) (rv_ixT hi))) rfl (show atom (PyData.str m) = true from rfl)))).is rfl
  · have : (hs 3).filter (fun _ => false) = [] := by simp
    rw [this]; decide
  · have : (hs 3).filter (fun _ => false) = [] := by simp
    rw [this]; rfl
/-! ### the law's calls -/
theorem g_sameM {E : XK} (h : EvG K pt tb σ F (Is (.tuple manD))) : EvG K pt (tCall (spSameM K tM) [] E (tCons (tC (.ref tM)) (tCons tb tNil))) σ F (Is (.bool true)) := fun H1 e g Q q =>
  h H1 e g _ fun d v F2 H2 hd s hv => by
    subst hd
    exact ⟨v, F2, rfl, s.inn, hv, fun u F3 H3 s3 hu => q _ u F3 H3 rfl (s.trans (s3.lift s.good)) hu⟩
theorem x_family {E : XK} {n : Nat} {ls : List (List Int)} (h : EvsG K pt ts σ F (· = [.int (n : Int), dLT ls])) (hn : 2 ≤ n ∧ n ≤ 5) (hg : GoodLots n ls) (hz : ls.length ≤ 32) : EvX pt (tCall (spFamily K C) [] E ts) σ F (fun v F2 => ∃ x, v = .ref x ∧ Fam K C F2 x n ls) := fun H1 e g Q q =>
  h H1 e g _ fun ds vs F2 H2 hd s hv => by
    subst hd
    obtain ⟨a, v, rfl, ha, hv⟩ := rpAll2 hv
    rw [rp_int ha]
    exact ⟨n, ls, F2, v, rfl, hv, s.inn, hn, hg, hz, fun x F3 H3 s3 fam => q _ F3 H3 ⟨x, rfl, fam⟩ (s.trans (s3.lift s.good))⟩
theorem g_asked {E : XK} {i : Nat} {x : Addr} {n m : Nat} {ls : List (List Int)} {e : List Int} (h0 : σ[i]? = some (some (.ref x))) (fam : Fam K C F x n ls) (ok : AskOk n ls m e) (h : EvsG K pt ts σ F (· = [.int (n : Nat), .int (m : Nat), dLT (everyOf n ls), dLT (famLots n ls), dLT (nearOf n ls m e), dT e])) :
    EvG K pt (tCall (spAsked K C) [] E (tCons (tVar i) ts)) σ F (Is (.bool true)) := fun H1 i1 g Q q =>
  ⟨_, h0, h H1 i1 g _ fun ds vs F2 H2 hd s hv => by
    subst hd
    exact ⟨x, n, ls, m, e, F2, vs, by simp, ok, s.inn, fam.mono s.sub, hv, fun v F3 H3 s3 hv3 => q _ v F3 H3 rfl (s.trans (s3.lift s.good)) hv3⟩⟩
theorem g_fitted {E : XK} {q : Pt} {j i : Nat} {x : Addr} {n m : Nat} {ls es : List (List Int)} {mn : Str} (hq : σ[j]? = some (some (.ref q.p))) (h0 : σ[i]? = some (some (.ref x))) (fam : Fam K C F x n ls) (ok : FitOk n ls m es mn) (h : EvsG K (some q) ts σ F (· = [dLT ls, .int (m : Nat), dLT es, .str mn])) :
    EvG K (some q) (tCall (spFitted K C) [] E (tCons (tVar j) (tCons (tVar i) ts))) σ F (Is (.bool true)) := fun H1 i1 g Q k =>
  ⟨_, hq, _, h0, h H1 i1 g _ fun ds vs F2 H2 hd s hv => by
    subst hd
    exact ⟨q, x, n, ls, m, es, mn, F2, vs, by simp, ok, s.inn, s.good, fam.mono s.sub, hv, fun v F3 H3 s3 hv3 => k _ v F3 H3 rfl (s.trans s3) hv3⟩⟩
theorem g_word {E : XK} {i : Nat} {x1 : V} {j : Int} {e : PyData} (hj : 0 ≤ j ∧ j < 4) (hd : d ∈ badMans) (h1 : EvG K pt te σ F (Is (.int j))) (h0 : σ[i]? = some (some x1)) (h2 : EvG K pt ta σ F (Is d)) (h3 : EvG K pt tb σ F (Is e)) :
    EvG K pt (tCall (spWord K) [] E (tCons te (tCons (tVar i) (tCons ta (tCons tb tNil))))) σ F (Is (.tuple [.str "bad", .str d.shown])) := fun H1 i1 g Q q =>
  h1 H1 i1 g _ fun d1 v1 F2 H2 e1 s2 hv1 => by
    subst e1
    obtain rfl := rp_int hv1
    refine ⟨_, h0, h2.mono s2.sub H2 s2.inn s2.good _ fun d2 v2 F3 H3 e2 s3 hv2 => (h3.mono s2.sub).mono s3.sub H3 s3.inn s3.good _ fun d3 v3 F4 H4 e3 s4 hv3 => ?_⟩
    have e2' : d2 = d := e2
    subst e2'
    exact ⟨j, x1, v2, v3, d2, F4, rfl, hj, hd, s4.inn, Rp.mono s4.sub _ _ hv2, fun u F5 H5 s5 hu => q _ u F5 H5 rfl (((s2.trans s3).trans s4).trans (s5.lift s4.good)) hu⟩
end
end K7

namespace Fv
open PySem PySem.Spec PyProof.Rows L2 Evl StX
theorem okG0 {P : Program} {w : World} {K : PySem.W.Frag} {mg : Str → Option Value} {base : Heap} {x ql : Str} {st : Stmt} {f : Addr} {fd : FuncData} {N ps : List Str} {k : Nat} {sp : Sp} (Fn : Fun K x ql st f fd) (S : FnScope N ps (defScope st)) (ln : ∀ vs H Q E, sp vs H Q E → vs.length = ps.length)
    (hb : ∀ (cv : Value) (A : Around) (out : List Env) (s : Shared) (H : Hp) (vs : List V) (Q : VK) (E : XK), Calmly A → Room k (A.deeper (envOfC ql (defScope st) s.heap.objs.size f cv)) → sp vs H Q E → ∃ t, PSs (cxOf CX0 P w K mg base N ql (defScope st) f cv A out s H E).nox (defBody st) t ∧ t { nx := fun _ H2 => Q .non H2, rt := Q } (start N vs) H) :
    FnG P w K mg base CX0 (k + 1) f fd ps sp := okG Fn S ln fun cv A out s H vs Q E cm room hs => by
  obtain ⟨t, h, q⟩ := hb cv A out s H vs Q E cm room hs
  exact ⟨t, h.nox, q⟩
end Fv
namespace K7
open PySem PySem.Spec PyProof.Rows L2 Fv Evl StX
abbrev s_law : Stmt := topS 50
theorem sc_law : FnScope ["_law_script", "_law_pot_here", "_law_turn", "_law_n", "_law_m", "_law_lots_here", "_law_every_here", "_law_greatest_here", "_law_falls", "_law_rows_here", "_law_entries", "_law_k", "_law_entry_here", "_law_near", "_law_row", "_law_manner", "_law_bad", "_law_which"] ["_law_script"] (defScope s_law) := ⟨rfl, rfl, rfl, by decide +kernel, rfl, by decide +kernel, by decide +kernel⟩
section
variable {P : Program} {w : World} {K : PySem.W.Frag} {mg : Str → Option Value} {base : Heap} {tM C : Addr}
def EsOk (n m : Nat) (es : List (List Int)) : Prop := ∀ e ∈ es, e.length = n ∧ ∀ k ∈ e, 0 ≤ k ∧ k < (m : Int)
def spLaw (K : PySem.W.Frag) : Sp := fun vs H Q _ => ∃ (a : Addr) (ns : List Int), vs = [.ref a] ∧ SqL K H a (ns.map V.int) ∧ ∀ H', Q (.bl true) H'
theorem kfew {k k' : Int} {d : PyData} (h1 : [PyData.int k] = [d]) (h2 : d = .int k') (h3 : 0 ≤ k') (h4 : k' < 5) : k.toNat < 5 := by
  subst h2
  have e : k = k' := by simpa using h1
  omega
theorem ok_law {f fP fS fA fW fL fE fG fY fR fD fN fI fK fM fT fB fO : Addr} {fd fdP fdS fdA fdW fdL fdE fdG fdY fdR fdD fdN fdI fdK fdM fdT fdB fdO : FuncData} (Fn : Fun K "law" "law" s_law f fd) (T : Tx mg) (hM : ManT K tM) (c_MANNERS : mg "MANNERS" = some (.ref tM))
    (F_law_pot : Fun K "_law_pot" "_law_pot" s_law_pot fP fdP) (b_law_pot : Binds K fdP ["_law_script", "_law_salt"] []) (g_law_pot : mg "_law_pot" = some (.ref fP))
    (F_law_same : Fun K "_law_same" "_law_same" s_law_same fS fdS) (b_law_same : Binds K fdS ["_law_told", "_law_due"] []) (g_law_same : mg "_law_same" = some (.ref fS))
    (F_law_many : Fun K "_law_many" "_law_many" s_law_many fA fdA) (b_law_many : Binds K fdA ["_law_pot_here"] []) (g_law_many : mg "_law_many" = some (.ref fA)) (G_law_many : FnOk P w K mg base CX0 2 fA fdA ["_law_pot_here"] (spMany K))
    (F_law_worths : Fun K "_law_worths" "_law_worths" s_law_worths fW fdW) (b_law_worths : Binds K fdW ["_law_pot_here", "_law_n"] []) (g_law_worths : mg "_law_worths" = some (.ref fW)) (G_law_worths : FnOk P w K mg base CX0 2 fW fdW ["_law_pot_here", "_law_n"] (spWorths K))
    (F_law_lots : Fun K "_law_lots" "_law_lots" s_law_lots fL fdL) (b_law_lots : Binds K fdL ["_law_pot_here", "_law_n"] []) (g_law_lots : mg "_law_lots" = some (.ref fL)) (G_law_lots : FnOk P w K mg base CX0 3 fL fdL ["_law_pot_here", "_law_n"] (spLawLots K))
    (F_law_every : Fun K "_law_every" "_law_every" s_law_every fE fdE) (b_law_every : Binds K fdE ["_law_n", "_law_lots_here"] []) (g_law_every : mg "_law_every" = some (.ref fE)) (G_law_every : FnOk P w K mg base CX0 2 fE fdE ["_law_n", "_law_lots_here"] (spEvery K))
    (F_law_greatest : Fun K "_law_greatest" "_law_greatest" s_law_greatest fG fdG) (b_law_greatest : Binds K fdG ["_law_every_here"] []) (g_law_greatest : mg "_law_greatest" = some (.ref fG))
    (F_law_family : Fun K "_law_family" "_law_family" s_law_family fY fdY) (b_law_family : Binds K fdY ["_law_n", "_law_lots_here"] []) (g_law_family : mg "_law_family" = some (.ref fY)) (G_law_family : FnOk P w K mg base CX0 6 fY fdY ["_law_n", "_law_lots_here"] (spFamily K C))
    (F_law_rows : Fun K "_law_rows" "_law_rows" s_law_rows fR fdR) (b_law_rows : Binds K fdR ["_law_n", "_law_m"] []) (g_law_rows : mg "_law_rows" = some (.ref fR)) (G_law_rows : FnOk P w K mg base CX0 2 fR fdR ["_law_n", "_law_m"] (spRows K))
    (F_law_draw : Fun K "_law_draw" "_law_draw" s_law_draw fD fdD) (b_law_draw : Binds K fdD ["_law_pot_here", "_law_many_here"] []) (g_law_draw : mg "_law_draw" = some (.ref fD))
    (F_law_entry : Fun K "_law_entry" "_law_entry" s_law_entry fN fdN) (b_law_entry : Binds K fdN ["_law_pot_here", "_law_n", "_law_m"] []) (g_law_entry : mg "_law_entry" = some (.ref fN)) (G_law_entry : FnOk P w K mg base CX0 2 fN fdN ["_law_pot_here", "_law_n", "_law_m"] (spEntry K))
    (F_law_differ : Fun K "_law_differ" "_law_differ" s_law_differ fI fdI) (b_law_differ : Binds K fdI ["_law_one", "_law_other"] []) (g_law_differ : mg "_law_differ" = some (.ref fI))
    (F_law_asked : Fun K "_law_asked" "_law_asked" s_law_asked fK fdK) (b_law_asked : Binds K fdK ["_law_falls", "_law_n", "_law_m", "_law_every_here", "_law_greatest_here", "_law_near", "_law_entry_here"] []) (g_law_asked : mg "_law_asked" = some (.ref fK)) (G_law_asked : FnOk P w K mg base CX0 4 fK fdK ["_law_falls", "_law_n", "_law_m", "_law_every_here", "_law_greatest_here", "_law_near", "_law_entry_here"] (spAsked K C))
    (F_check_manner : Fun K "check_manner" "check_manner" s_check_manner fM fdM) (b_check_manner : Binds K fdM ["manner"] []) (g_check_manner : mg "check_manner" = some (.ref fM))
    (F_law_fitted : Fun K "_law_fitted" "_law_fitted" s_law_fitted fT fdT) (b_law_fitted : Binds K fdT ["_law_pot_here", "_law_falls", "_law_lots_here", "_law_m", "_law_entries", "_law_manner"] []) (g_law_fitted : mg "_law_fitted" = some (.ref fT)) (G_law_fitted : FnOk P w K mg base CX0 6 fT fdT ["_law_pot_here", "_law_falls", "_law_lots_here", "_law_m", "_law_entries", "_law_manner"] (spFitted K C))
    (F_law_bad_manner : Fun K "_law_bad_manner" "_law_bad_manner" s_law_bad_manner fB fdB) (b_law_bad_manner : Binds K fdB ["_law_pot_here"] []) (g_law_bad_manner : mg "_law_bad_manner" = some (.ref fB)) (G_law_bad_manner : FnOk P w K mg base CX0 2 fB fdB ["_law_pot_here"] (spBadM K))
    (F_law_word : Fun K "_law_word" "_law_word" s_law_word fO fdO) (b_law_word : Binds K fdO ["_law_which", "_law_falls", "_law_manner", "_law_entry_here"] []) (g_law_word : mg "_law_word" = some (.ref fO)) (G_law_word : FnG P w K mg base CX0 7 fO fdO ["_law_which", "_law_falls", "_law_manner", "_law_entry_here"] (spWord K)) :
    FnG P w K mg base CX0 8 f fd ["_law_script"] (spLaw K) := by
  have G_law_pot : FnOk P w K mg base CX0 1 fP fdP ["_law_script", "_law_salt"] (spPot K) := ok_pot F_law_pot T
  have G_law_draw : FnOk P w K mg base CX0 1 fD fdD ["_law_pot_here", "_law_many_here"] (spDraw K) := ok_draw F_law_draw T
  have G_law_same : FnOk P w K mg base CX0 2 fS fdS ["_law_told", "_law_due"] (spSame K) := ok_same F_law_same T b_law_same g_law_same
  have GM_law_same : FnOk P w K mg base CX0 2 fS fdS ["_law_told", "_law_due"] (spSameM K tM) := ok_sameM F_law_same T hM b_law_same g_law_same
  have G_law_greatest : FnOk P w K mg base CX0 1 fG fdG ["_law_every_here"] (spGreat K) := ok_great F_law_greatest T
  have G_law_differ : FnOk P w K mg base CX0 1 fI fdI ["_law_one", "_law_other"] (spDiffer K) := ok_differ F_law_differ T
  have G_check_manner : FnOk P w K mg base CX0 1 fM fdM ["manner"] (spMan K) := ok_man F_check_manner hM c_MANNERS
  refine okG0 Fn sc_law (fun vs H Q E ⟨_, _, h, _⟩ => by rw [h]; rfl) (fun cdv A outer s H vs Q E cm hr h => ?_)
  obtain ⟨a, ns, rfl, hS, q⟩ := h
  refine ⟨_, (pss_cons (ps_set (i := 1) sc_law.nd rfl (by first | exact Or.inl rfl | exact Or.inr rfl) (pe_call G_law_pot (hr.mono (by decide)) (by rfl) g_law_pot F_law_pot.kp b_law_pot .nil pass0 (pa_cons (pv 0) (pa_cons pe_int pa_nil))))
    (pss_cons (ps_if (pt_not (pt_val (pe_call GM_law_same (hr.mono (by decide)) (by rfl) g_law_same F_law_same.kp b_law_same .nil pass0 (pa_cons (pe_glob (v := .ref tM) (by rfl) c_MANNERS rfl) (pa_cons (pe_tup (pa_cons pe_str (pa_cons pe_str (pa_cons pe_str pa_nil)))) pa_nil))))) (pss_one (ps_ret pe_bl)) pss_nil)
    (pss_cons (ps_for PassesOwn.never rfl (pi_range1 (by rfl) T.range (pa_cons pe_int pa_nil)) (pg_name (i := 2) sc_law.nd rfl (by first | exact Or.inl rfl | exact Or.inr rfl)) (pss_cons (ps_set (i := 3) sc_law.nd rfl (by first | exact Or.inl rfl | exact Or.inr rfl) (pe_call G_law_many (hr.mono (by decide)) (by rfl) g_law_many F_law_many.kp b_law_many .nil pass0 (pa_cons (pv 1) pa_nil)))
    (pss_cons (ps_set (i := 4) sc_law.nd rfl (by first | exact Or.inl rfl | exact Or.inr rfl) (pe_call G_law_worths (hr.mono (by decide)) (by rfl) g_law_worths F_law_worths.kp b_law_worths .nil pass0 (pa_cons (pv 1) (pa_cons (pv 3) pa_nil))))
    (pss_cons (ps_set (i := 5) sc_law.nd rfl (by first | exact Or.inl rfl | exact Or.inr rfl) (pe_call G_law_lots (hr.mono (by decide)) (by rfl) g_law_lots F_law_lots.kp b_law_lots .nil pass0 (pa_cons (pv 1) (pa_cons (pv 3) pa_nil))))
    (pss_cons (ps_set (i := 6) sc_law.nd rfl (by first | exact Or.inl rfl | exact Or.inr rfl) (pe_call G_law_every (hr.mono (by decide)) (by rfl) g_law_every F_law_every.kp b_law_every .nil pass0 (pa_cons (pv 3) (pa_cons (pv 5) pa_nil))))
    (pss_cons (ps_set (i := 7) sc_law.nd rfl (by first | exact Or.inl rfl | exact Or.inr rfl) (pe_call G_law_greatest (hr.mono (by decide)) (by rfl) g_law_greatest F_law_greatest.kp b_law_greatest .nil pass0 (pa_cons (pv 6) pa_nil)))
    (pss_cons (ps_set (i := 8) sc_law.nd rfl (by first | exact Or.inl rfl | exact Or.inr rfl) (pe_call G_law_family (hr.mono (by decide)) (by rfl) g_law_family F_law_family.kp b_law_family .nil pass0 (pa_cons (pv 3) (pa_cons (pv 5) pa_nil))))
    (pss_cons (ps_set (i := 9) sc_law.nd rfl (by first | exact Or.inl rfl | exact Or.inr rfl) (pe_call G_law_rows (hr.mono (by decide)) (by rfl) g_law_rows F_law_rows.kp b_law_rows .nil pass0 (pa_cons (pv 3) (pa_cons (pv 4) pa_nil))))
    (pss_cons (ps_set (i := 10) sc_law.nd rfl (by first | exact Or.inl rfl | exact Or.inr rfl) (pe_lst pa_nil))
    (pss_cons (ps_for PassesOwn.never rfl (pi_range1 (by rfl) T.range (pa_cons (pe_call G_law_draw (hr.mono (by decide)) (by rfl) g_law_draw F_law_draw.kp b_law_draw .nil pass0 (pa_cons (pv 1) (pa_cons pe_int pa_nil))) pa_nil)) (pg_name (i := 11) sc_law.nd rfl (by first | exact Or.inl rfl | exact Or.inr rfl)) (pss_one (ps_expr (pe_bm PySem.F.plainAttrs_list PySem.F.slot_list_append PySem.F.type_list_append mt_append (pv 10) (pa_cons (pe_call G_law_entry (hr.mono (by decide)) (by rfl) g_law_entry F_law_entry.kp b_law_entry .nil pass0 (pa_cons (pv 1) (pa_cons (pv 3) (pa_cons (pv 4) pa_nil)))) pa_nil)))))
    (pss_cons (ps_for PassesOwn.never rfl (i_list (K := K) (pe_op op_cat (pe_lst (pa_cons (pe_call G_law_entry (hr.mono (by decide)) (by rfl) g_law_entry F_law_entry.kp b_law_entry .nil pass0 (pa_cons (pv 1) (pa_cons (pv 3) (pa_cons (pv 4) pa_nil)))) pa_nil)) (pe_slice (s_list (K := K)) (pv 10) po_none (po_some pe_int)))) (pg_name (i := 12) sc_law.nd rfl (by first | exact Or.inl rfl | exact Or.inr rfl)) (pss_cons (ps_setLc (i := 13) (own := [("_law_row", 14)]) (g := gName 14) rfl sc_law.nd rfl rfl (sw_true rfl rfl rfl (by decide +kernel)) (i_list (K := K) (pv 9)) (blkOk_by (own := [("_law_row", 14)]) (N := ["_law_script", "_law_pot_here", "_law_turn", "_law_n", "_law_m", "_law_lots_here", "_law_every_here", "_law_greatest_here", "_law_falls", "_law_rows_here", "_law_entries", "_law_k", "_law_entry_here", "_law_near", "_law_row", "_law_manner", "_law_bad", "_law_which"]) (sc := (defScope s_law)) (by decide +kernel)) (fun _ _ _ _ _ => pg_name (i := 14) sc_law.nd rfl (by first | exact Or.inl rfl | exact Or.inr rfl)) (fun _ _ _ _ _ => (pts_one (pt_cmpR (o_inD (K := K) (hu65 hr)) (pe_call G_law_differ (hr.mono (by decide)) (by rfl) g_law_differ F_law_differ.kp b_law_differ .nil pass0 (pa_cons (pv 12) (pa_cons (pv 14) pa_nil))) (pv 6) (by rfl)))) (fun _ _ _ _ _ => (pv 14)))
    (pss_one (ps_if (pt_not (pt_val (pe_call G_law_asked (hr.mono (by decide)) (by rfl) g_law_asked F_law_asked.kp b_law_asked .nil pass0 (pa_cons (pv 8) (pa_cons (pv 3) (pa_cons (pv 4) (pa_cons (pv 6) (pa_cons (pv 7) (pa_cons (pv 13) (pa_cons (pv 12) pa_nil)))))))))) (pss_one (ps_ret pe_bl)) pss_nil))))
    (pss_cons (ps_for PassesOwn.never rfl (i_list (K := K) (pe_lst (pa_cons pe_str (pa_cons pe_str (pa_cons pe_str pa_nil))))) (pg_name (i := 15) sc_law.nd rfl (by first | exact Or.inl rfl | exact Or.inr rfl)) (pss_one (ps_if (PW.pt (pw_or (pt_not (pt_val (pe_call G_law_same (hr.mono (by decide)) (by rfl) g_law_same F_law_same.kp b_law_same .nil pass0 (pa_cons (pe_call G_check_manner (hr.mono (by decide)) (by rfl) g_check_manner F_check_manner.kp b_check_manner .nil pass0 (pa_cons (pv 15) pa_nil)) (pa_cons (pv 15) pa_nil))))) (pw_or1 (pt_not (pt_val (pe_call G_law_fitted (hr.mono (by decide)) (by rfl) g_law_fitted F_law_fitted.kp b_law_fitted .nil pass0 (pa_cons (pv 1) (pa_cons (pv 8) (pa_cons (pv 5) (pa_cons (pv 4) (pa_cons (pv 10) (pa_cons (pv 15) pa_nil)))))))))))) (pss_one (ps_ret pe_bl)) pss_nil)))
    (pss_cons (ps_set (i := 16) sc_law.nd rfl (by first | exact Or.inl rfl | exact Or.inr rfl) (pe_call G_law_bad_manner (hr.mono (by decide)) (by rfl) g_law_bad_manner F_law_bad_manner.kp b_law_bad_manner .nil pass0 (pa_cons (pv 1) pa_nil)))
    (pss_one (ps_for PassesOwn.never rfl (pi_range1 (by rfl) T.range (pa_cons pe_int pa_nil)) (pg_name (i := 17) sc_law.nd rfl (by first | exact Or.inl rfl | exact Or.inr rfl)) (pss_one (ps_if (pt_not (pt_val (pe_call G_law_same (hr.mono (by decide)) (by rfl) g_law_same F_law_same.kp b_law_same .nil pass0 (pa_cons (pe_callG G_law_word (cm.deeper _) (hr.mono (by decide)) (by rfl) g_law_word F_law_word.kp b_law_word .nil pass0 (pa_cons (pv 17) (pa_cons (pv 8) (pa_cons (pv 16) (pa_cons (pe_ix (o_ixL (K := K)) (pv 9) pe_int (fun _ _ => rfl)) pa_nil))))) (pa_cons (pe_tup (pa_cons pe_str (pa_cons (pe_callB (c_repr (K := K) (cm.deeper _) (hu65 hr)) (by rfl) T.repr (by decide +kernel) (pa_cons (pv 16) pa_nil)) pa_nil))) pa_nil))))) (pss_one (ps_ret pe_bl)) pss_nil)))))))))))))))))
    (pss_one (ps_ret pe_bl))))), ?_⟩
  -- the pot
  refine ⟨_, rfl, ⟨a, ns, 1407, H, rfl, hS, by decide, by decide, Ex.refl H, fun pq F1 H1 s0 g1 _ => ?_⟩⟩
  have s1 : Step (some pq) F1 H1 F1 H1 := Step.refl s0.inn g1
  refine t_skip s1 ((et_not (b := true) (et_B (g_sameM (g_tupI (gs_three g_str g_str g_str) (by decide))))).is rfl) fun F2 H2 s2 e2 => ?_
  refine t_for (K := K) (ds := rng 0 2) s2 (w_rng1I (n := 2) (gs_one g_int) (by decide) (by decide)) (fun i σ' F' => ∃ z2 z3 z4 z5 z6 z7 z8 z9 z10 z11 z12 z13 z14 z15 z16 z17, σ' = [some (.ref a), some (.ref pq.p), z2, z3, z4, z5, z6, z7, z8, z9, z10, z11, z12, z13, z14, z15, z16, z17])
    (fun F2 e2 => ⟨none, none, none, none, none, none, none, none, none, none, none, none, none, none, none, none, rfl⟩) (fun i d hd σ' F' H' u hI s' e' hu N hN => ?_) (fun σ' F' H' hI s' e' => ?_)
  · obtain ⟨z2, z3, z4, z5, z6, z7, z8, z9, z10, z11, z12, z13, z14, z15, z16, z17, rfl⟩ := hI
    have sr : Step (some pq) F' H' F' H' := Step.refl s'.inn s'.good
    -- n
    refine t_asg (K := K) (R := HouseN) sr (g_callQ () rfl gs_nil rfl trivial) fun d v F3 H3 hd s3 e3 hv => ?_
    obtain ⟨n, rfl, n2, n5⟩ := hd
    obtain rfl := rp_int hv
    have toN : (n : Int).toNat = n := by omega
    have hn : NOk (n : Int) := ⟨by omega, by omega⟩
    -- m
    refine t_asg (K := K) (R := fun d => ∃ m : Nat, d = .int m ∧ 1 ≤ m ∧ m ≤ capN n) s3 (g_callQ n rfl (gs_one (g_var (v := .int n) rfl (.int _))) rfl ⟨n2, n5⟩) fun d v F4 H4 hd s4 e4 hv => ?_
    obtain ⟨m, rfl, m1, mc⟩ := hd
    obtain rfl := rp_int hv
    have m4 : m ≤ 4 := Nat.le_trans mc (cap_few n2 n5).2
    -- lots
    refine t_asg (K := K) (R := RL n 20) s4 ((g_callP (P := NOk) (R := fun m => RL m.toNat 20) (m := n) rfl (g_var (v := .int n) (d := .int n) rfl (.int _)) hn).imp fun d hd => by
      obtain ⟨l, h1, h2, h3⟩ := hd
      exact ⟨l, h1, by rw [toN] at h2; exact h2, h3⟩) fun d lv F5 H5 hd s5 e5 hlv => ?_
    obtain ⟨ls, rfl, hg0, hl0⟩ := hd
    have hg : GoodLots n ls := ⟨by omega, hg0⟩
    have eL := every_len n5 ls
    have eL2 : ∀ l ∈ everyOf n ls, l.length ≤ 60 := fun l hl => (let_few n5 ls).2 l ((every_let n5).mp hl)
    -- every
    refine t_asgI (K := K) (d := dLT (everyOf n ls)) s5 (g_call (n, ls) (gs_two (g_var (v := .int n) rfl (.int _)) (g_var rfl hlv)) rfl n5) fun ev F6 H6 s6 e6 hev => ?_
    -- greatest
    refine t_asgI (K := K) (d := dLT (famLots n ls)) s6 ((g_call (everyOf n ls) (gs_one (g_var rfl hev)) rfl ⟨by omega, eL2, great_kind n5⟩).is (by rw [fam_great n5])) fun gv F7 H7 s7 e7 hgv => ?_
    -- falls
    refine t_asgX s7 (x_family (n := n) (ls := ls) (gs_two (g_var (v := .int n) rfl (.int _)) (g_var rfl (Rp.mono (e6.trans e7) _ _ hlv))) ⟨n2, n5⟩ hg (by omega)) fun v F8 H8 ⟨x, ex, fam⟩ s8 e8 => ?_
    subst ex
    -- rows
    refine t_asgI (K := K) (d := dLT (rowsOf m n)) s8 (g_call (n, m) (gs_two (g_var (v := .int n) rfl (.int _)) (g_var (v := .int m) rfl (.int _))) rfl ⟨n5, m1, m4⟩) fun rv F9 H9 s9 e9 hrv => ?_
    obtain ⟨rL, rA⟩ := rows_len m n
    have rL' : (rowsOf m n).length ≤ 1100 := by rw [rL]; exact pow_few m1 m4 n5 (Nat.le_refl _)
    have hlv9 : Rp K F9 lv (dLT ls) := Rp.mono ((e6.trans e7).trans (e8.trans e9)) _ _ hlv
    have hev9 : Rp K F9 ev (dLT (everyOf n ls)) := Rp.mono (e7.trans (e8.trans e9)) _ _ hev
    have hgv9 : Rp K F9 gv (dLT (famLots n ls)) := Rp.mono (e8.trans e9) _ _ hgv
    have fam9 : Fam K C F9 x n ls := fam.mono e9
    have g0 : Good (some pq) F9 H9 := s9.good
    -- entries
    refine t_newL (K := K) (Step.refl s9.inn s9.good) (fun l h0 hl' g => ?_) (fun _ h => h)
    refine t_forGR (K := K) (RS := fun ds => ∃ c : Nat, c < 5 ∧ ds = (hs c).map .int) g0 h0 g
      ((w_rng1 (R0 := fun l => ∃ d, l = [d] ∧ Drawn 5 d) (g_consR (g_callP (m := 5) rfl g_int (by decide))) (fun ds ⟨d, h1, k, h2, h3, h4⟩ => ⟨k, by rw [h1, h2], by omega, by omega⟩)).imp fun ds ⟨k, ⟨d, h1, k', h2, h3, h4⟩, h5⟩ => ⟨k.toNat, kfew h1 h2 h3 h4, by rw [h5, rng_hs]⟩)
      (fun ds i σ' F' ls' => (∃ z11 z12 z13 z14 z15 z16 z17, σ' = [some (.ref a), some (.ref pq.p), some u, some (.int n), some (.int m), some lv, some ev, some gv, some (.ref x), some rv, some (.ref l), z11, z12, z13, z14, z15, z16, z17]) ∧ ∃ es : List (List Int), ls' = es.map dT ∧ es.length = i ∧ EsOk n m es)
      (fun ds _ F2 e2 => ⟨⟨z11, z12, z13, z14, z15, z16, z17, rfl⟩, [], rfl, rfl, fun e he => by cases he⟩) (fun ds hds i d hd σ' F' H' y ls' hI g' e' hy N hN => ?_) (fun ds hds σ' F10 H10 ls' hI g' e10 => ?_)
    · obtain ⟨⟨z11, z12, z13, z14, z15, z16, z17, rfl⟩, es, rfl, hlen, hok⟩ := hI
      obtain ⟨c, hc, rfl⟩ := hds
      have hi5 : i < 5 := by
        obtain ⟨hi, _⟩ := List.getElem?_eq_some_iff.mp hd
        rw [List.length_map, hs_len] at hi; omega
      refine t_app (K := K) g0 h0 g' rfl (g_callQ (n, m) rfl (gs_two (g_var (v := .int n) rfl (.int _)) (g_var (v := .int m) rfl (.int _))) rfl ⟨by simp only; omega, m1, by simp only; omega⟩) (by rw [List.length_map]; omega) fun d F2 H2 hd g2 e2 => ?_
      obtain ⟨r, rfl, hrl, hrk⟩ := hd
      refine hN _ F2 H2 _ ⟨⟨_, _, _, _, _, _, _, rfl⟩, es ++ [r], by simp, by simp [hlen], fun e he => ?_⟩ g2 e2
      rcases List.mem_append.mp he with he | he
      · exact hok e he
      · rw [List.mem_singleton.mp he]; exact ⟨hrl, hrk⟩
    obtain ⟨⟨z11, z12, z13, z14, z15, z16, z17, rfl⟩, es, rfl, hlen, hok⟩ := hI
    have hes5 : es.length < 5 := by
      obtain ⟨c, hc, rfl⟩ := hds
      rw [List.length_map, hs_len] at hlen; omega
    obtain ⟨F11, s11, e11, r11⟩ := g'.done g0 h0
    have up := e10.trans e11
    have hlv11 := Rp.mono up _ _ hlv9
    have hev11 := Rp.mono up _ _ hev9
    have hgv11 := Rp.mono up _ _ hgv9
    have hrv11 := Rp.mono up _ _ hrv
    have fam11 := fam9.mono up
    -- each entry
    refine t_forR (K := K) (RS := fun ds => ∃ es3 : List (List Int), ds = es3.map dT ∧ EsOk n m es3) s11
      (w_listR ((g_op (R1 := fun d => ∃ ds, d = .list ds ∧ ∃ d1, ds = [d1] ∧ ∃ r : List Int, d1 = dT r ∧ r.length = n ∧ ∀ k ∈ r, 0 ≤ k ∧ k < (m : Int)) (S2 := Is (.list ((es.map dT).take 2))) (R3 := fun d => ∃ ds, d = .list ds ∧ ∃ es3 : List (List Int), ds = es3.map dT ∧ EsOk n m es3)
        (g_lst (g_consR (g_callQ (n, m) rfl (gs_two (g_var (v := .int n) rfl (.int _)) (g_var (v := .int m) rfl (.int _))) rfl ⟨by simp only; omega, m1, by simp only; omega⟩)) fun ds ⟨d1, h1, _⟩ => by rw [h1]; simp)
        (g_slTo (i := 2) (g_var rfl r11)) fun d e h1 h2 => by
          obtain ⟨ds, rfl, d1, rfl, r, rfl, hrl, hrk⟩ := h1
          subst h2
          have := rv_cat (K := K) (ds := [dT r]) (es := (es.map dT).take 2) (by simp; omega)
          exact fun F H x y i hx hy Q q => this F H x y i hx hy Q fun z v F2 H2 hz s hv => q z v F2 H2 ⟨_, hz, r :: es.take 2, by rw [List.map_cons, List.map_take]; rfl, fun e he => by
            rcases List.mem_cons.mp he with he | he
            · rw [he]; exact ⟨hrl, hrk⟩
            · exact hok e (List.mem_of_mem_take he)⟩ s hv)))
      (fun ds i σ' F' => ∃ z11 z12 z13 z14 z15 z16 z17, σ' = [some (.ref a), some (.ref pq.p), some u, some (.int n), some (.int m), some lv, some ev, some gv, some (.ref x), some rv, some (.ref l), z11, z12, z13, z14, z15, z16, z17])
      (fun ds _ F2 e2 => ⟨_, _, _, _, _, _, _, rfl⟩) (fun ds hds i d hd σ' F' H' y hI s' e' hy N hN => ?_) (fun ds hds σ' F12 H12 hI s12 e12 => ?_)
    · obtain ⟨z11, z12, z13, z14, z15, z16, z17, rfl⟩ := hI
      obtain ⟨es3, rfl, hok3⟩ := hds
      obtain ⟨e, he, rfl⟩ := get_map hd
      obtain ⟨hel, hek⟩ := hok3 e (List.mem_of_getElem? he)
      refine t_asgI (K := K) (d := dLT (nearOf n ls m e)) s' (g_lcE dT (rowsOf m n) (fun r => decide (differ e r ∈ everyOf n ls)) dT (w_listI (g_var rfl (Rp.mono e' _ _ hrv11))) (by omega) (fun _ => rfl)
        (fun r hr' F'' e'' y2 hy2 => et_of (g_opI (g_call (e, r) (gs_two (g_var rfl (Rp.mono e'' _ _ hy)) (g_var rfl hy2)) rfl ⟨by simp only; omega, by simp only; rw [hel]; exact (rA r hr').1⟩) (g_var rfl (Rp.mono (e'.trans e'') _ _ hev11)) rv_inD)) (fun r _ _ F'' e'' y2 hy2 => g_var rfl hy2)) fun nv F13 H13 s13 e13 hnv => ?_
      have up13 := e'.trans e13
      refine t_if1 (b := false) s13 ((et_not (b := true) (et_B (g_asked rfl (fam11.mono up13) ⟨⟨n2, n5⟩, hg, ⟨m1, m4⟩, hel, hek⟩ (gs_consI (g_var (v := .int n) rfl (.int _)) (gs_consI (g_var (v := .int m) rfl (.int _)) (gs_consI (g_var rfl (Rp.mono up13 _ _ hev11)) (gs_consI (g_var rfl (Rp.mono up13 _ _ hgv11)) (gs_two (g_var rfl hnv) (g_var rfl (Rp.mono e13 _ _ hy)))))))))).is rfl)
        (fun z => by cases z) (fun _ F14 H14 s14 e14 => hN _ F14 H14 ⟨_, _, _, _, _, _, _, rfl⟩ s14 (e13.trans e14))
    obtain ⟨z11, z12, z13, z14, z15, z16, z17, rfl⟩ := hI
    -- each manner
    refine t_for (K := K) (ds := manD) s12 (w_listI (g_lstI (gs_three g_str g_str g_str) (by decide)))
      (fun i σ' F' => ∃ z11 z12 z13 z14 z15 z16 z17, σ' = [some (.ref a), some (.ref pq.p), some u, some (.int n), some (.int m), some lv, some ev, some gv, some (.ref x), some rv, some (.ref l), z11, z12, z13, z14, z15, z16, z17])
      (fun F2 e2 => ⟨_, _, _, _, _, _, _, rfl⟩) (fun i d hd σ' F' H' y hI s' e' hy N hN => ?_) (fun σ' F13 H13 hI s13 e13 => ?_)
    · obtain ⟨z11, z12, z13, z14, z15, z16, z17, rfl⟩ := hI
      obtain ⟨mn, hmn, rfl⟩ := get_map hd
      have hmem : mn ∈ mans := List.mem_of_getElem? hmn
      have up13 := e12.trans e'
      refine t_if1 (b := false) s' ((et_or (a := false) (b := false) ((et_not (b := true) (et_B (g_call (PyData.str mn) (gs_two (g_call mn (gs_one (g_var rfl hy)) rfl hmem) (g_var rfl hy)) rfl (show atom (PyData.str mn) = true from rfl)))).is rfl)
        fun _ => (et_not (b := true) (et_B (g_fitted rfl rfl (fam11.mono up13) ⟨⟨n2, n5⟩, ⟨m1, m4⟩, hmem, by omega, hok⟩ (gs_consI (g_var rfl (Rp.mono up13 _ _ hlv11)) (gs_three (g_var (v := .int m) rfl (.int _)) (g_var rfl (Rp.mono up13 _ _ r11)) (g_var rfl hy)))))).is rfl).is rfl)
        (fun z => by cases z) (fun _ F14 H14 s14 e14 => hN _ F14 H14 ⟨_, _, _, _, _, _, _, rfl⟩ s14 e14)
    obtain ⟨z11, z12, z13, z14, z15, z16, z17, rfl⟩ := hI
    -- a manner that is none
    refine t_asg (K := K) (R := fun d => d ∈ badMans) s13 (g_callQ () rfl gs_nil rfl trivial) fun d bv F14 H14 hbad s14 e14 hbv => ?_
    obtain ⟨f1, f2, f3, f4, f5, f6⟩ := bad_facts d hbad
    have hrv14 := Rp.mono ((e12.trans e13).trans e14) _ _ hrv11
    have rne : ∃ r, atI ((rowsOf m n).map dT) 0 = some (dT r) := by
      have hpos : 0 < (rowsOf m n).length := by rw [rL]; exact Nat.pow_pos (by omega)
      exact ⟨_, atI_nat (xs := (rowsOf m n).map dT) (j := 0) (by rw [List.getElem?_map, List.getElem?_eq_getElem hpos]; rfl)⟩
    obtain ⟨r0, hr0⟩ := rne
    refine t_for1 (K := K) (ds := rng 0 4) s14 (w_rng1I (n := 4) (gs_one g_int) (by decide) (by decide))
      (fun i σ' F' => ∃ z11 z12 z13 z14 z15 z17, σ' = [some (.ref a), some (.ref pq.p), some u, some (.int n), some (.int m), some lv, some ev, some gv, some (.ref x), some rv, some (.ref l), z11, z12, z13, z14, z15, some bv, z17])
      (fun F2 e2 => ⟨_, _, _, _, _, _, rfl⟩) (fun i d' hd' σ' F' H' y hI s' e' hy N' hN' => ?_) (fun σ' F15 H15 hI s15 e15 => ?_)
    · obtain ⟨z11, z12, z13, z14, z15, z17, rfl⟩ := hI
      have hi4 : i < 4 := by
        obtain ⟨hi, _⟩ := List.getElem?_eq_some_iff.mp hd'
        rw [rng_len] at hi; exact hi
      rw [rng_get hi4] at hd'
      obtain rfl := Option.some.inj hd'
      refine t_if1 (b := false) s' ((et_not (b := true) (et_B (g_call (PyData.tuple [.str "bad", .str d.shown]) (gs_two (g_word (j := 0 + (i : Int)) ⟨by omega, by omega⟩ hbad (g_var rfl hy) rfl (g_var rfl (Rp.mono e' _ _ hbv)) (g_opI (g_var rfl (Rp.mono e' _ _ hrv14)) g_int (rv_ixL hr0))) (g_tupI (gs_two g_str (g_repr (g_var rfl (Rp.mono e' _ _ hbv)) f3 f4 f5 f6)) (by simp))) rfl ⟨by simp, fun d hd => by
        rcases List.mem_cons.mp hd with hd | hd
        · rw [hd]; rfl
        · rw [List.mem_singleton.mp hd]; rfl⟩))).is rfl)
        (fun z => by cases z) (fun _ F16 H16 s16 e16 => hN' _ F16 H16 ⟨_, _, _, _, _, _, rfl⟩ s16 e16)
    obtain ⟨z11, z12, z13, z14, z15, z17, rfl⟩ := hI
    exact hN _ F15 H15 ⟨_, _, _, _, _, _, _, _, _, _, _, _, _, _, _, _, rfl⟩ (s'.trans (s9.trans s15)) (s9.sub.trans s15.sub)
  · obtain ⟨z2, z3, z4, z5, z6, z7, z8, z9, z10, z11, z12, z13, z14, z15, z16, z17, rfl⟩ := hI
    refine t_retI (K := K) s' g_bl fun v F3 H3 s3 hv => ?_
    rw [rp_bool hv]; exact q H3

end
end K7

namespace K7
open PySem PySem.Spec PyProof.Rows L2 Fv Evl StX
theorem binds_whole {K : PySem.W.Frag} {f : Addr} {fd : FuncData} (F : FunW K f fd) : Binds K fd ["thing", "low", "high"] [] := by
  obtain ⟨ds, hv, hb⟩ := L2.FunD.binds1 F (ps := ["thing", "low", "high"]) 3 2 (by simp) rfl fun T kV doc pm an cdv ct us its hl hi => match us, its, hl, hi with | [_, _, _], [_, _], _, _ => ⟨_, rfl, rfl⟩
  cases hv
  exact hb
theorem exm_of {K : PySem.W.Frag} {S B : Addr} (hb : PySem.W.subIn K (.ref B) (.type "BaseException") = some true) (hc : PySem.W.isClsIn K B = true) (ht : PySem.W.typeIn K (.ref B) = some (.type "type")) (hs : PySem.W.subIn K (.ref S) (.ref B) = some true) : PySem.W.exmOne K (.ref S) (.ref B) = some true := by
  have hc' : (PySem.W.clsIn K B).isSome = true := hc
  unfold PySem.W.exmOne PySem.W.kitCls
  simp only [hb, hc', ht, hs, beq_self_eq_true, Bool.and_self, if_true]
theorem kit_VE {K : PySem.W.Frag} {S : Addr} (hs : PySem.W.subIn K (.ref S) (.type "ValueError") = some true) : PySem.W.kitOne K (.ref S) (.type "ValueError") = some true := by
  have hk : PySem.W.kitMeta "ValueError" = true := by decide +kernel
  unfold PySem.W.kitOne PySem.W.kitCls
  simp [hk, hs]
section
variable {P : Program} {w : World} {K : PySem.W.Frag} {mg : Str → Option Value}
theorem all_mk {l : PySem.W.OpenLaw} {h : Heap} {fa C : Addr} (X : K.In h) (G : h.Ns mainGlobals mg) (hfa : mg "law" = some (.ref fa))
    {f0 : Addr} {od0 an0 : Option Addr} {sl0 : Array (Option Value)} {oc0 kV0 dc0 pm0 cd0 ct0 : Value}
    {f1 : Addr} {od1 an1 : Option Addr} {sl1 : Array (Option Value)} {oc1 kV1 dc1 pm1 cd1 ct1 : Value}
    {f2 : Addr} {od2 an2 : Option Addr} {sl2 : Array (Option Value)} {oc2 kV2 dc2 pm2 cd2 ct2 : Value}
    {f3 : Addr} {od3 an3 : Option Addr} {sl3 : Array (Option Value)} {oc3 kV3 dc3 pm3 cd3 ct3 : Value}
    {f4 : Addr} {od4 an4 : Option Addr} {sl4 : Array (Option Value)} {oc4 kV4 dc4 pm4 cd4 ct4 : Value}
    {f5 : Addr} {od5 an5 : Option Addr} {sl5 : Array (Option Value)} {oc5 kV5 dc5 pm5 cd5 ct5 : Value}
    {f6 : Addr} {od6 an6 : Option Addr} {sl6 : Array (Option Value)} {oc6 kV6 dc6 pm6 cd6 ct6 : Value}
    {f7 : Addr} {od7 an7 : Option Addr} {sl7 : Array (Option Value)} {oc7 kV7 dc7 pm7 cd7 ct7 : Value}
    {f8 : Addr} {od8 an8 : Option Addr} {sl8 : Array (Option Value)} {oc8 kV8 dc8 pm8 cd8 ct8 : Value}
    {f9 : Addr} {od9 an9 : Option Addr} {sl9 : Array (Option Value)} {oc9 kV9 dc9 pm9 cd9 ct9 : Value}
    {f10 : Addr} {od10 an10 : Option Addr} {sl10 : Array (Option Value)} {oc10 kV10 dc10 pm10 cd10 ct10 : Value}
    {f11 : Addr} {od11 an11 : Option Addr} {sl11 : Array (Option Value)} {oc11 kV11 dc11 pm11 cd11 ct11 : Value}
    {f12 : Addr} {od12 an12 : Option Addr} {sl12 : Array (Option Value)} {oc12 kV12 dc12 pm12 cd12 ct12 : Value}
    {f13 : Addr} {od13 an13 : Option Addr} {sl13 : Array (Option Value)} {oc13 kV13 dc13 pm13 cd13 ct13 : Value}
    {f14 : Addr} {od14 an14 : Option Addr} {sl14 : Array (Option Value)} {oc14 kV14 dc14 pm14 cd14 ct14 : Value}
    {f15 : Addr} {od15 an15 : Option Addr} {sl15 : Array (Option Value)} {oc15 kV15 dc15 pm15 cd15 ct15 : Value}
    {f16 : Addr} {od16 an16 : Option Addr} {sl16 : Array (Option Value)} {oc16 kV16 dc16 pm16 cd16 ct16 : Value}
    {f17 : Addr} {od17 an17 : Option Addr} {sl17 : Array (Option Value)} {oc17 kV17 dc17 pm17 cd17 ct17 : Value}
    {f18 : Addr} {od18 an18 : Option Addr} {sl18 : Array (Option Value)} {oc18 kV18 dc18 pm18 cd18 ct18 : Value}
    {f19 : Addr} {od19 an19 : Option Addr} {sl19 : Array (Option Value)} {oc19 kV19 dc19 pm19 cd19 ct19 : Value}
    {f20 : Addr} {od20 an20 : Option Addr} {sl20 : Array (Option Value)} {oc20 kV20 dc20 pm20 cd20 ct20 : Value}
    {f21 : Addr} {od21 an21 : Option Addr} {sl21 : Array (Option Value)} {oc21 kV21 dc21 pm21 cd21 ct21 : Value}
    {f22 : Addr} {od22 an22 : Option Addr} {sl22 : Array (Option Value)} {oc22 kV22 dc22 pm22 cd22 ct22 : Value}
    {f23 : Addr} {od23 an23 : Option Addr} {sl23 : Array (Option Value)} {oc23 kV23 dc23 pm23 cd23 ct23 : Value}
    {f24 : Addr} {od24 an24 : Option Addr} {sl24 : Array (Option Value)} {oc24 kV24 dc24 pm24 cd24 ct24 : Value}
    {f25 : Addr} {od25 an25 : Option Addr} {sl25 : Array (Option Value)} {oc25 kV25 dc25 pm25 cd25 ct25 : Value}
    {f26 : Addr} {od26 an26 : Option Addr} {sl26 : Array (Option Value)} {oc26 kV26 dc26 pm26 cd26 ct26 : Value}
    {f27 : Addr} {od27 an27 : Option Addr} {sl27 : Array (Option Value)} {oc27 kV27 dc27 pm27 cd27 ct27 : Value}
    {f28 : Addr} {od28 an28 : Option Addr} {sl28 : Array (Option Value)} {oc28 kV28 dc28 pm28 cd28 ct28 : Value}
    {f29 : Addr} {od29 an29 : Option Addr} {sl29 : Array (Option Value)} {oc29 kV29 dc29 pm29 cd29 ct29 : Value}
    {f30 : Addr} {od30 an30 : Option Addr} {sl30 : Array (Option Value)} {oc30 kV30 dc30 pm30 cd30 ct30 : Value}
    {f31 : Addr} {od31 an31 : Option Addr} {sl31 : Array (Option Value)} {oc31 kV31 dc31 pm31 cd31 ct31 : Value}
    {f32 : Addr} {od32 an32 : Option Addr} {sl32 : Array (Option Value)} {oc32 kV32 dc32 pm32 cd32 ct32 : Value}
    {f33 : Addr} {od33 an33 : Option Addr} {sl33 : Array (Option Value)} {oc33 kV33 dc33 pm33 cd33 ct33 : Value}
    {f34 : Addr} {od34 an34 : Option Addr} {sl34 : Array (Option Value)} {oc34 kV34 dc34 pm34 cd34 ct34 : Value}
    {f35 : Addr} {od35 an35 : Option Addr} {sl35 : Array (Option Value)} {oc35 kV35 dc35 pm35 cd35 ct35 : Value}
    {f36 : Addr} {od36 an36 : Option Addr} {sl36 : Array (Option Value)} {oc36 kV36 dc36 pm36 cd36 ct36 : Value}
    {TW : Addr} {ocT : Value} {odT : Option Addr} {nT : Nat} {slT : Array (Option Value)}
    {f37 : Addr} {od37 an37 : Option Addr} {sl37 : Array (Option Value)} {oc37 kV37 dc37 pm37 cd37 ct37 : Value}
    {f38 : Addr} {od38 an38 : Option Addr} {sl38 : Array (Option Value)} {oc38 kV38 dc38 pm38 cd38 ct38 : Value}
    {f39 : Addr} {od39 an39 : Option Addr} {sl39 : Array (Option Value)} {oc39 kV39 dc39 pm39 cd39 ct39 : Value}
    {f40 : Addr} {od40 an40 : Option Addr} {sl40 : Array (Option Value)} {oc40 kV40 dc40 pm40 cd40 ct40 : Value}
    {CF CB NB : Addr} {nmB qB : Str} {bsB bmB subB : List Value} {snB : List Str} {abB : Bool} {coB : Option Bool} {ddB : Option Addr} {x0 x1 x2 x3 x5 : Option Value}
    {tM : Addr} {odM : Option Addr} {nM : Nat} {slM : Array (Option Value)} {tk1 tk2 tk3 : Tok}
    {tL : Tok}
    (aC : PySem.W.nsIn K mainGlobals "Falls" = some (some (.ref C)))
    (a0 : PySem.W.nsIn K mainGlobals "is_sequence" = some (some (.ref f0)))
    (l0 : K.lookup f0 = some ⟨oc0, od0, .func (PySem.W.fnOf "is_sequence" "is_sequence" (defArgs s_is_sequence) (defBody s_is_sequence) (defScope s_is_sequence) .none kV0 dc0 pm0 an0 cd0 ct0), sl0⟩)
    (c0 : PySem.W.codeIn K cd0 "is_sequence" = true)
    (k0 : PySem.W.keepIn K (.ref f0) = true)
    (a1 : PySem.W.nsIn K mainGlobals "check_lot" = some (some (.ref f1)))
    (l1 : K.lookup f1 = some ⟨oc1, od1, .func (PySem.W.fnOf "check_lot" "check_lot" (defArgs s_check_lot) (defBody s_check_lot) (defScope s_check_lot) .none kV1 dc1 pm1 an1 cd1 ct1), sl1⟩)
    (c1 : PySem.W.codeIn K cd1 "check_lot" = true)
    (k1 : PySem.W.keepIn K (.ref f1) = true)
    (a2 : PySem.W.nsIn K mainGlobals "lot_within" = some (some (.ref f2)))
    (l2 : K.lookup f2 = some ⟨oc2, od2, .func (PySem.W.fnOf "lot_within" "lot_within" (defArgs s_lot_within) (defBody s_lot_within) (defScope s_lot_within) .none kV2 dc2 pm2 an2 cd2 ct2), sl2⟩)
    (c2 : PySem.W.codeIn K cd2 "lot_within" = true)
    (k2 : PySem.W.keepIn K (.ref f2) = true)
    (a3 : PySem.W.nsIn K mainGlobals "lots_of_size" = some (some (.ref f3)))
    (l3 : K.lookup f3 = some ⟨oc3, od3, .func (PySem.W.fnOf "lots_of_size" "lots_of_size" (defArgs s_lots_of_size) (defBody s_lots_of_size) (defScope s_lots_of_size) .none kV3 dc3 pm3 an3 cd3 ct3), sl3⟩)
    (c3 : PySem.W.codeIn K cd3 "lots_of_size" = true)
    (k3 : PySem.W.keepIn K (.ref f3) = true)
    (a4 : PySem.W.nsIn K mainGlobals "_lots_by_size" = some (some (.ref f4)))
    (l4 : K.lookup f4 = some ⟨oc4, od4, .func (PySem.W.fnOf "_lots_by_size" "_lots_by_size" (defArgs s_lots_by_size) (defBody s_lots_by_size) (defScope s_lots_by_size) .none kV4 dc4 pm4 an4 cd4 ct4), sl4⟩)
    (c4 : PySem.W.codeIn K cd4 "_lots_by_size" = true)
    (k4 : PySem.W.keepIn K (.ref f4) = true)
    (a5 : PySem.W.nsIn K mainGlobals "_checked_lots" = some (some (.ref f5)))
    (l5 : K.lookup f5 = some ⟨oc5, od5, .func (PySem.W.fnOf "_checked_lots" "_checked_lots" (defArgs s_checked_lots) (defBody s_checked_lots) (defScope s_checked_lots) .none kV5 dc5 pm5 an5 cd5 ct5), sl5⟩)
    (c5 : PySem.W.codeIn K cd5 "_checked_lots" = true)
    (k5 : PySem.W.keepIn K (.ref f5) = true)
    (a6 : PySem.W.nsIn K mainGlobals "check_manner" = some (some (.ref f6)))
    (l6 : K.lookup f6 = some ⟨oc6, od6, .func (PySem.W.fnOf "check_manner" "check_manner" (defArgs s_check_manner) (defBody s_check_manner) (defScope s_check_manner) .none kV6 dc6 pm6 an6 cd6 ct6), sl6⟩)
    (c6 : PySem.W.codeIn K cd6 "check_manner" = true)
    (k6 : PySem.W.keepIn K (.ref f6) = true)
    (a7 : PySem.W.nsIn K mainGlobals "places_of" = some (some (.ref f7)))
    (l7 : K.lookup f7 = some ⟨oc7, od7, .func (PySem.W.fnOf "places_of" "places_of" (defArgs s_places_of) (defBody s_places_of) (defScope s_places_of) .none kV7 dc7 pm7 an7 cd7 ct7), sl7⟩)
    (c7 : PySem.W.codeIn K cd7 "places_of" = true)
    (k7 : PySem.W.keepIn K (.ref f7) = true)
    (a8 : PySem.W.nsIn K mainGlobals "is_firm" = some (some (.ref f8)))
    (l8 : K.lookup f8 = some ⟨oc8, od8, .func (PySem.W.fnOf "is_firm" "is_firm" (defArgs s_is_firm) (defBody s_is_firm) (defScope s_is_firm) .none kV8 dc8 pm8 an8 cd8 ct8), sl8⟩)
    (c8 : PySem.W.codeIn K cd8 "is_firm" = true)
    (k8 : PySem.W.keepIn K (.ref f8) = true)
    (a9 : PySem.W.nsIn K mainGlobals "firm_values" = some (some (.ref f9)))
    (l9 : K.lookup f9 = some ⟨oc9, od9, .func (PySem.W.fnOf "firm_values" "firm_values" (defArgs s_firm_values) (defBody s_firm_values) (defScope s_firm_values) .none kV9 dc9 pm9 an9 cd9 ct9), sl9⟩)
    (c9 : PySem.W.codeIn K cd9 "firm_values" = true)
    (k9 : PySem.W.keepIn K (.ref f9) = true)
    (a10 : PySem.W.nsIn K mainGlobals "hiding_lot" = some (some (.ref f10)))
    (l10 : K.lookup f10 = some ⟨oc10, od10, .func (PySem.W.fnOf "hiding_lot" "hiding_lot" (defArgs s_hiding_lot) (defBody s_hiding_lot) (defScope s_hiding_lot) .none kV10 dc10 pm10 an10 cd10 ct10), sl10⟩)
    (c10 : PySem.W.codeIn K cd10 "hiding_lot" = true)
    (k10 : PySem.W.keepIn K (.ref f10) = true)
    (a11 : PySem.W.nsIn K mainGlobals "fits" = some (some (.ref f11)))
    (l11 : K.lookup f11 = some ⟨oc11, od11, .func (PySem.W.fnOf "fits" "fits" (defArgs s_fits) (defBody s_fits) (defScope s_fits) .none kV11 dc11 pm11 an11 cd11 ct11), sl11⟩)
    (c11 : PySem.W.codeIn K cd11 "fits" = true)
    (k11 : PySem.W.keepIn K (.ref f11) = true)
    (a12 : PySem.W.nsIn K mainGlobals "fitting_values" = some (some (.ref f12)))
    (l12 : K.lookup f12 = some ⟨oc12, od12, .func (PySem.W.fnOf "fitting_values" "fitting_values" (defArgs s_fitting_values) (defBody s_fitting_values) (defScope s_fitting_values) .none kV12 dc12 pm12 an12 cd12 ct12), sl12⟩)
    (c12 : PySem.W.codeIn K cd12 "fitting_values" = true)
    (k12 : PySem.W.keepIn K (.ref f12) = true)
    (a13 : PySem.W.nsIn K mainGlobals "first_unfit" = some (some (.ref f13)))
    (l13 : K.lookup f13 = some ⟨oc13, od13, .func (PySem.W.fnOf "first_unfit" "first_unfit" (defArgs s_first_unfit) (defBody s_first_unfit) (defScope s_first_unfit) .none kV13 dc13 pm13 an13 cd13 ct13), sl13⟩)
    (c13 : PySem.W.codeIn K cd13 "first_unfit" = true)
    (k13 : PySem.W.keepIn K (.ref f13) = true)
    (a14 : PySem.W.nsIn K mainGlobals "_law_same" = some (some (.ref f14)))
    (l14 : K.lookup f14 = some ⟨oc14, od14, .func (PySem.W.fnOf "_law_same" "_law_same" (defArgs s_law_same) (defBody s_law_same) (defScope s_law_same) .none kV14 dc14 pm14 an14 cd14 ct14), sl14⟩)
    (c14 : PySem.W.codeIn K cd14 "_law_same" = true)
    (k14 : PySem.W.keepIn K (.ref f14) = true)
    (a15 : PySem.W.nsIn K mainGlobals "_law_draw" = some (some (.ref f15)))
    (l15 : K.lookup f15 = some ⟨oc15, od15, .func (PySem.W.fnOf "_law_draw" "_law_draw" (defArgs s_law_draw) (defBody s_law_draw) (defScope s_law_draw) .none kV15 dc15 pm15 an15 cd15 ct15), sl15⟩)
    (c15 : PySem.W.codeIn K cd15 "_law_draw" = true)
    (k15 : PySem.W.keepIn K (.ref f15) = true)
    (a16 : PySem.W.nsIn K mainGlobals "_law_way" = some (some (.ref f16)))
    (l16 : K.lookup f16 = some ⟨oc16, od16, .func (PySem.W.fnOf "_law_way" "_law_way" (defArgs s_law_way) (defBody s_law_way) (defScope s_law_way) .none kV16 dc16 pm16 an16 cd16 ct16), sl16⟩)
    (c16 : PySem.W.codeIn K cd16 "_law_way" = true)
    (k16 : PySem.W.keepIn K (.ref f16) = true)
    (a17 : PySem.W.nsIn K mainGlobals "_law_lets" = some (some (.ref f17)))
    (l17 : K.lookup f17 = some ⟨oc17, od17, .func (PySem.W.fnOf "_law_lets" "_law_lets" (defArgs s_law_lets) (defBody s_law_lets) (defScope s_law_lets) .none kV17 dc17 pm17 an17 cd17 ct17), sl17⟩)
    (c17 : PySem.W.codeIn K cd17 "_law_lets" = true)
    (k17 : PySem.W.keepIn K (.ref f17) = true)
    (a18 : PySem.W.nsIn K mainGlobals "_law_fits" = some (some (.ref f18)))
    (l18 : K.lookup f18 = some ⟨oc18, od18, .func (PySem.W.fnOf "_law_fits" "_law_fits" (defArgs s_law_fits) (defBody s_law_fits) (defScope s_law_fits) .none kV18 dc18 pm18 an18 cd18 ct18), sl18⟩)
    (c18 : PySem.W.codeIn K cd18 "_law_fits" = true)
    (k18 : PySem.W.keepIn K (.ref f18) = true)
    (a19 : PySem.W.nsIn K mainGlobals "_law_values" = some (some (.ref f19)))
    (l19 : K.lookup f19 = some ⟨oc19, od19, .func (PySem.W.fnOf "_law_values" "_law_values" (defArgs s_law_values) (defBody s_law_values) (defScope s_law_values) .none kV19 dc19 pm19 an19 cd19 ct19), sl19⟩)
    (c19 : PySem.W.codeIn K cd19 "_law_values" = true)
    (k19 : PySem.W.keepIn K (.ref f19) = true)
    (a20 : PySem.W.nsIn K mainGlobals "_law_pot" = some (some (.ref f20)))
    (l20 : K.lookup f20 = some ⟨oc20, od20, .func (PySem.W.fnOf "_law_pot" "_law_pot" (defArgs s_law_pot) (defBody s_law_pot) (defScope s_law_pot) .none kV20 dc20 pm20 an20 cd20 ct20), sl20⟩)
    (c20 : PySem.W.codeIn K cd20 "_law_pot" = true)
    (k20 : PySem.W.keepIn K (.ref f20) = true)
    (a21 : PySem.W.nsIn K mainGlobals "_law_many" = some (some (.ref f21)))
    (l21 : K.lookup f21 = some ⟨oc21, od21, .func (PySem.W.fnOf "_law_many" "_law_many" (defArgs s_law_many) (defBody s_law_many) (defScope s_law_many) .none kV21 dc21 pm21 an21 cd21 ct21), sl21⟩)
    (c21 : PySem.W.codeIn K cd21 "_law_many" = true)
    (k21 : PySem.W.keepIn K (.ref f21) = true)
    (a22 : PySem.W.nsIn K mainGlobals "_law_worths" = some (some (.ref f22)))
    (l22 : K.lookup f22 = some ⟨oc22, od22, .func (PySem.W.fnOf "_law_worths" "_law_worths" (defArgs s_law_worths) (defBody s_law_worths) (defScope s_law_worths) .none kV22 dc22 pm22 an22 cd22 ct22), sl22⟩)
    (c22 : PySem.W.codeIn K cd22 "_law_worths" = true)
    (k22 : PySem.W.keepIn K (.ref f22) = true)
    (a23 : PySem.W.nsIn K mainGlobals "_law_lot" = some (some (.ref f23)))
    (l23 : K.lookup f23 = some ⟨oc23, od23, .func (PySem.W.fnOf "_law_lot" "_law_lot" (defArgs s_law_lot) (defBody s_law_lot) (defScope s_law_lot) .none kV23 dc23 pm23 an23 cd23 ct23), sl23⟩)
    (c23 : PySem.W.codeIn K cd23 "_law_lot" = true)
    (k23 : PySem.W.keepIn K (.ref f23) = true)
    (a24 : PySem.W.nsIn K mainGlobals "_law_lots" = some (some (.ref f24)))
    (l24 : K.lookup f24 = some ⟨oc24, od24, .func (PySem.W.fnOf "_law_lots" "_law_lots" (defArgs s_law_lots) (defBody s_law_lots) (defScope s_law_lots) .none kV24 dc24 pm24 an24 cd24 ct24), sl24⟩)
    (c24 : PySem.W.codeIn K cd24 "_law_lots" = true)
    (k24 : PySem.W.keepIn K (.ref f24) = true)
    (a25 : PySem.W.nsIn K mainGlobals "_law_every" = some (some (.ref f25)))
    (l25 : K.lookup f25 = some ⟨oc25, od25, .func (PySem.W.fnOf "_law_every" "_law_every" (defArgs s_law_every) (defBody s_law_every) (defScope s_law_every) .none kV25 dc25 pm25 an25 cd25 ct25), sl25⟩)
    (c25 : PySem.W.codeIn K cd25 "_law_every" = true)
    (k25 : PySem.W.keepIn K (.ref f25) = true)
    (a26 : PySem.W.nsIn K mainGlobals "_law_greatest" = some (some (.ref f26)))
    (l26 : K.lookup f26 = some ⟨oc26, od26, .func (PySem.W.fnOf "_law_greatest" "_law_greatest" (defArgs s_law_greatest) (defBody s_law_greatest) (defScope s_law_greatest) .none kV26 dc26 pm26 an26 cd26 ct26), sl26⟩)
    (c26 : PySem.W.codeIn K cd26 "_law_greatest" = true)
    (k26 : PySem.W.keepIn K (.ref f26) = true)
    (a27 : PySem.W.nsIn K mainGlobals "_law_family" = some (some (.ref f27)))
    (l27 : K.lookup f27 = some ⟨oc27, od27, .func (PySem.W.fnOf "_law_family" "_law_family" (defArgs s_law_family) (defBody s_law_family) (defScope s_law_family) .none kV27 dc27 pm27 an27 cd27 ct27), sl27⟩)
    (c27 : PySem.W.codeIn K cd27 "_law_family" = true)
    (k27 : PySem.W.keepIn K (.ref f27) = true)
    (a28 : PySem.W.nsIn K mainGlobals "_law_longer" = some (some (.ref f28)))
    (l28 : K.lookup f28 = some ⟨oc28, od28, .func (PySem.W.fnOf "_law_longer" "_law_longer" (defArgs s_law_longer) (defBody s_law_longer) (defScope s_law_longer) .none kV28 dc28 pm28 an28 cd28 ct28), sl28⟩)
    (c28 : PySem.W.codeIn K cd28 "_law_longer" = true)
    (k28 : PySem.W.keepIn K (.ref f28) = true)
    (a29 : PySem.W.nsIn K mainGlobals "_law_rows" = some (some (.ref f29)))
    (l29 : K.lookup f29 = some ⟨oc29, od29, .func (PySem.W.fnOf "_law_rows" "_law_rows" (defArgs s_law_rows) (defBody s_law_rows) (defScope s_law_rows) .none kV29 dc29 pm29 an29 cd29 ct29), sl29⟩)
    (c29 : PySem.W.codeIn K cd29 "_law_rows" = true)
    (k29 : PySem.W.keepIn K (.ref f29) = true)
    (a30 : PySem.W.nsIn K mainGlobals "_law_entry" = some (some (.ref f30)))
    (l30 : K.lookup f30 = some ⟨oc30, od30, .func (PySem.W.fnOf "_law_entry" "_law_entry" (defArgs s_law_entry) (defBody s_law_entry) (defScope s_law_entry) .none kV30 dc30 pm30 an30 cd30 ct30), sl30⟩)
    (c30 : PySem.W.codeIn K cd30 "_law_entry" = true)
    (k30 : PySem.W.keepIn K (.ref f30) = true)
    (a31 : PySem.W.nsIn K mainGlobals "_law_differ" = some (some (.ref f31)))
    (l31 : K.lookup f31 = some ⟨oc31, od31, .func (PySem.W.fnOf "_law_differ" "_law_differ" (defArgs s_law_differ) (defBody s_law_differ) (defScope s_law_differ) .none kV31 dc31 pm31 an31 cd31 ct31), sl31⟩)
    (c31 : PySem.W.codeIn K cd31 "_law_differ" = true)
    (k31 : PySem.W.keepIn K (.ref f31) = true)
    (a32 : PySem.W.nsIn K mainGlobals "_law_bad_manner" = some (some (.ref f32)))
    (l32 : K.lookup f32 = some ⟨oc32, od32, .func (PySem.W.fnOf "_law_bad_manner" "_law_bad_manner" (defArgs s_law_bad_manner) (defBody s_law_bad_manner) (defScope s_law_bad_manner) .none kV32 dc32 pm32 an32 cd32 ct32), sl32⟩)
    (c32 : PySem.W.codeIn K cd32 "_law_bad_manner" = true)
    (k32 : PySem.W.keepIn K (.ref f32) = true)
    (a33 : PySem.W.nsIn K mainGlobals "_law_asked" = some (some (.ref f33)))
    (l33 : K.lookup f33 = some ⟨oc33, od33, .func (PySem.W.fnOf "_law_asked" "_law_asked" (defArgs s_law_asked) (defBody s_law_asked) (defScope s_law_asked) .none kV33 dc33 pm33 an33 cd33 ct33), sl33⟩)
    (c33 : PySem.W.codeIn K cd33 "_law_asked" = true)
    (k33 : PySem.W.keepIn K (.ref f33) = true)
    (a34 : PySem.W.nsIn K mainGlobals "_law_fitted" = some (some (.ref f34)))
    (l34 : K.lookup f34 = some ⟨oc34, od34, .func (PySem.W.fnOf "_law_fitted" "_law_fitted" (defArgs s_law_fitted) (defBody s_law_fitted) (defScope s_law_fitted) .none kV34 dc34 pm34 an34 cd34 ct34), sl34⟩)
    (c34 : PySem.W.codeIn K cd34 "_law_fitted" = true)
    (k34 : PySem.W.keepIn K (.ref f34) = true)
    (a35 : PySem.W.nsIn K mainGlobals "_law_word" = some (some (.ref f35)))
    (l35 : K.lookup f35 = some ⟨oc35, od35, .func (PySem.W.fnOf "_law_word" "_law_word" (defArgs s_law_word) (defBody s_law_word) (defScope s_law_word) .none kV35 dc35 pm35 an35 cd35 ct35), sl35⟩)
    (c35 : PySem.W.codeIn K cd35 "_law_word" = true)
    (k35 : PySem.W.keepIn K (.ref f35) = true)
    (a36 : PySem.W.nsIn K mainGlobals "law" = some (some (.ref f36)))
    (l36 : K.lookup f36 = some ⟨oc36, od36, .func (PySem.W.fnOf "law" "law" (defArgs s_law) (defBody s_law) (defScope s_law) .none kV36 dc36 pm36 an36 cd36 ct36), sl36⟩)
    (c36 : PySem.W.codeIn K cd36 "law" = true)
    (k36 : PySem.W.keepIn K (.ref f36) = true)
    (a37 : PySem.W.nsIn K mainGlobals "is_whole" = some (some (.ref f37)))
    (l37 : K.lookup f37 = some ⟨oc37, od37, .func (PySem.W.fnOf "is_whole" "is_whole" (defArgs s_is_whole) (defBody s_is_whole) (defScope s_is_whole) (.ref TW) kV37 dc37 pm37 an37 cd37 ct37), sl37⟩)
    (c37 : PySem.W.codeIn K cd37 "is_whole" = true)
    (k37 : PySem.W.keepIn K (.ref f37) = true)
    (lT : K.lookup TW = some ⟨ocT, odT, .seq [Value.none, Value.none].toArray nT, slT⟩)
    (a38 : PySem.W.findIn K (.ref C) "__init__" = some (some (.ref f38)))
    (i38 : PySem.W.isFn K (.ref f38) = true)
    (l38 : K.lookup f38 = some ⟨oc38, od38, .func (PySem.W.fnOf "__init__" "Falls.__init__" (defArgs s_Falls___init__) (defBody s_Falls___init__) (defScope s_Falls___init__) .none kV38 dc38 pm38 an38 cd38 ct38), sl38⟩)
    (c38 : PySem.W.codeIn K cd38 "Falls.__init__" = true)
    (k38 : PySem.W.keepIn K (.ref f38) = true)
    (a39 : PySem.W.findIn K (.ref C) "lets" = some (some (.ref f39)))
    (i39 : PySem.W.isFn K (.ref f39) = true)
    (l39 : K.lookup f39 = some ⟨oc39, od39, .func (PySem.W.fnOf "lets" "Falls.lets" (defArgs s_Falls_lets) (defBody s_Falls_lets) (defScope s_Falls_lets) .none kV39 dc39 pm39 an39 cd39 ct39), sl39⟩)
    (c39 : PySem.W.codeIn K cd39 "Falls.lets" = true)
    (k39 : PySem.W.keepIn K (.ref f39) = true)
    (aB : PySem.W.nsIn K mainGlobals "BadManner" = some (some (.ref CB)))
    (aF : PySem.W.nsIn K mainGlobals "FirmError" = some (some (.ref CF)))
    (a40 : PySem.W.findIn K (.ref CB) "__init__" = some (some (.ref f40)))
    (tI : PySem.W.typeIn K (.ref f40) = some (.type "function"))
    (l40 : K.lookup f40 = some ⟨oc40, od40, .func (PySem.W.fnOf "__init__" "BadManner.__init__" (defArgs s_BadManner___init__) (defBody s_BadManner___init__) (defScope s_BadManner___init__) .none kV40 dc40 pm40 an40 cd40 ct40), sl40⟩)
    (c40 : PySem.W.codeIn K cd40 "BadManner.__init__" = true)
    (k40 : PySem.W.keepIn K (.ref f40) = true)
    (lB : K.lookup CB = some (excClassObj nmB qB CB NB bsB bmB true snB subB abB coB ddB x0 x1 x2 x3 x5 "ValueError.__new__"))
    (vB : PySem.HandSPX.refsVE bmB = true)
    (sB : PySem.W.findIn K (.ref CB) "__setattr__" = some (some (.builtin "object.__setattr__")))
    (eB : PySem.W.subIn K (.ref CB) (.type "BaseException") = some true)
    (yB : PySem.W.typeIn K (.ref CB) = some (.type "type"))
    (kB : PySem.W.keepIn K (.ref CB) = true)
    (nB : PySem.W.findIn K (.ref CB) "manner" = some none)
    (rdF : PySem.W.readsIn K CF (.type "type") = true)
    (gaF : PySem.W.specialIn K (.ref CF) "__getattribute__" = some (some (.builtin "type.__getattribute__")))
    (vF : PySem.W.findCls K (.ref CF) (.type "type") "__init__" = some (.val (.builtin "ValueError.__init__")))
    (xgB : PySem.W.findIn K (.ref CB) "__getattribute__" = some (some (.builtin "BaseException.__getattribute__")))
    (xhB : PySem.W.findIn K (.ref CB) "__getattr__" = some none)
    (hdB : PySem.W.hasDictIn K CB = true)
    (eF : PySem.W.subIn K (.ref CF) (.type "BaseException") = some true)
    (iF : PySem.W.isClsIn K CF = true)
    (yF : PySem.W.typeIn K (.ref CF) = some (.type "type"))
    (sbF : PySem.W.subIn K (.ref CB) (.ref CF) = some true)
    (svB : PySem.W.subIn K (.ref CB) (.type "ValueError") = some true)
    (aM : PySem.W.nsIn K mainGlobals "MANNERS" = some (some (.ref tM)))
    (lM : K.lookup tM = some ⟨.type "tuple", odM, .seq [Value.str "sure" tk1, Value.str "cells" tk2, Value.str "letters" tk3].toArray nM, slM⟩)
    (z_isinstance : PySem.W.nsIn K mainGlobals "isinstance" = some none)
    (z_list : PySem.W.nsIn K mainGlobals "list" = some none)
    (z_tuple : PySem.W.nsIn K mainGlobals "tuple" = some none)
    (z_bool : PySem.W.nsIn K mainGlobals "bool" = some none)
    (z_int : PySem.W.nsIn K mainGlobals "int" = some none)
    (z_str : PySem.W.nsIn K mainGlobals "str" = some none)
    (z_all : PySem.W.nsIn K mainGlobals "all" = some none)
    (z_any : PySem.W.nsIn K mainGlobals "any" = some none)
    (z_range : PySem.W.nsIn K mainGlobals "range" = some none)
    (z_sorted : PySem.W.nsIn K mainGlobals "sorted" = some none)
    (z_set : PySem.W.nsIn K mainGlobals "set" = some none)
    (z_max : PySem.W.nsIn K mainGlobals "max" = some none)
    (z_len : PySem.W.nsIn K mainGlobals "len" = some none)
    (z_min : PySem.W.nsIn K mainGlobals "min" = some none)
    (z_repr : PySem.W.nsIn K mainGlobals "repr" = some none)
    (z_VE : PySem.W.nsIn K mainGlobals "ValueError" = some none)
    (pg : PySem.W.plainGet K C Str.empty = true)
    (hd : PySem.W.hasDictIn K C = true)
    (po : PySem.W.plainOver K C = true)
    (sa : PySem.W.findIn K (.ref C) "__setattr__" = some (some (.builtin "object.__setattr__")))
    (mk : PySem.W.makesIn K C = true)
    (kc : PySem.W.keepIn K (.ref C) = true)
    (nN : PySem.W.findIn K (.ref C) "n" = some none)
    (nL : PySem.W.findIn K (.ref C) "lots" = some none)
    (nF : PySem.W.findIn K (.ref C) "_let" = some none)
    (ml : PySem.W.nsIn K mainGlobals "MOST_LOTS" = some (some (.int 32 tL))) :
    ∃ fd : FuncData, (∀ (s : Shared) (v : Value), BindsTo s fd ⟨[v], []⟩ [("_law_script", v)]) ∧ ∀ base : Heap, K.In base → base.Ns mainGlobals mg → FnG l.prog w K mg base CX0 8 fa fd ["_law_script"] (spLaw K) := by
  have e := hfa.symm.trans (PySem.W.mg_of X G a36)
  cases e
  have T : Tx mg := ⟨PySem.W.mg_none_of X G z_isinstance, PySem.W.mg_none_of X G z_list, PySem.W.mg_none_of X G z_tuple, PySem.W.mg_none_of X G z_bool, PySem.W.mg_none_of X G z_int, PySem.W.mg_none_of X G z_str, PySem.W.mg_none_of X G z_all, PySem.W.mg_none_of X G z_any, PySem.W.mg_none_of X G z_range, PySem.W.mg_none_of X G z_sorted, PySem.W.mg_none_of X G z_set, PySem.W.mg_none_of X G z_max, PySem.W.mg_none_of X G z_len, PySem.W.mg_none_of X G z_min, PySem.W.mg_none_of X G z_repr⟩
  have FC : FallsC K C := ⟨⟨pg, hd, po, sa⟩, nN, nL, nF⟩
  have gC := PySem.W.mg_of X G aC
  have gL := PySem.W.mg_of X G ml
  have gM := PySem.W.mg_of X G aM
  have zV := PySem.W.mg_none_of X G z_VE
  have F0 := fun_mk (st := s_is_sequence) l0 c0 k0
  have b0 := F0.binds (ps := ["thing"]) fun _ _ _ _ _ _ us hl => match us, hl with | [_], _ => rfl
  have g0 := PySem.W.mg_of X G a0
  have F1 := fun_mk (st := s_check_lot) l1 c1 k1
  have b1 := F1.binds (ps := ["houses", "lot"]) fun _ _ _ _ _ _ us hl => match us, hl with | [_, _], _ => rfl
  have g1 := PySem.W.mg_of X G a1
  have F2 := fun_mk (st := s_lot_within) l2 c2 k2
  have b2 := F2.binds (ps := ["one", "other"]) fun _ _ _ _ _ _ us hl => match us, hl with | [_, _], _ => rfl
  have g2 := PySem.W.mg_of X G a2
  have F3 := fun_mk (st := s_lots_of_size) l3 c3 k3
  have b3 := F3.binds (ps := ["houses", "size"]) fun _ _ _ _ _ _ us hl => match us, hl with | [_, _], _ => rfl
  have g3 := PySem.W.mg_of X G a3
  have F4 := fun_mk (st := s_lots_by_size) l4 c4 k4
  have b4 := F4.binds (ps := ["houses"]) fun _ _ _ _ _ _ us hl => match us, hl with | [_], _ => rfl
  have g4 := PySem.W.mg_of X G a4
  have F5 := fun_mk (st := s_checked_lots) l5 c5 k5
  have b5 := F5.binds (ps := ["houses", "lots"]) fun _ _ _ _ _ _ us hl => match us, hl with | [_, _], _ => rfl
  have g5 := PySem.W.mg_of X G a5
  have F6 := fun_mk (st := s_check_manner) l6 c6 k6
  have b6 := F6.binds (ps := ["manner"]) fun _ _ _ _ _ _ us hl => match us, hl with | [_], _ => rfl
  have g6 := PySem.W.mg_of X G a6
  have F7 := fun_mk (st := s_places_of) l7 c7 k7
  have b7 := F7.binds (ps := ["entry", "value"]) fun _ _ _ _ _ _ us hl => match us, hl with | [_, _], _ => rfl
  have g7 := PySem.W.mg_of X G a7
  have F8 := fun_mk (st := s_is_firm) l8 c8 k8
  have b8 := F8.binds (ps := ["falls", "entry", "value"]) fun _ _ _ _ _ _ us hl => match us, hl with | [_, _, _], _ => rfl
  have g8 := PySem.W.mg_of X G a8
  have F9 := fun_mk (st := s_firm_values) l9 c9 k9
  have b9 := F9.binds (ps := ["falls", "entry"]) fun _ _ _ _ _ _ us hl => match us, hl with | [_, _], _ => rfl
  have g9 := PySem.W.mg_of X G a9
  have F10 := fun_mk (st := s_hiding_lot) l10 c10 k10
  have b10 := F10.binds (ps := ["falls", "entry", "value"]) fun _ _ _ _ _ _ us hl => match us, hl with | [_, _, _], _ => rfl
  have g10 := PySem.W.mg_of X G a10
  have F11 := fun_mk (st := s_fits) l11 c11 k11
  have b11 := F11.binds (ps := ["falls", "manner", "entry", "value"]) fun _ _ _ _ _ _ us hl => match us, hl with | [_, _, _, _], _ => rfl
  have g11 := PySem.W.mg_of X G a11
  have F12 := fun_mk (st := s_fitting_values) l12 c12 k12
  have b12 := F12.binds (ps := ["falls", "manner", "entries"]) fun _ _ _ _ _ _ us hl => match us, hl with | [_, _, _], _ => rfl
  have g12 := PySem.W.mg_of X G a12
  have F13 := fun_mk (st := s_first_unfit) l13 c13 k13
  have b13 := F13.binds (ps := ["falls", "manner", "entries", "value"]) fun _ _ _ _ _ _ us hl => match us, hl with | [_, _, _, _], _ => rfl
  have g13 := PySem.W.mg_of X G a13
  have F14 := fun_mk (st := s_law_same) l14 c14 k14
  have b14 := F14.binds (ps := ["_law_told", "_law_due"]) fun _ _ _ _ _ _ us hl => match us, hl with | [_, _], _ => rfl
  have g14 := PySem.W.mg_of X G a14
  have F15 := fun_mk (st := s_law_draw) l15 c15 k15
  have b15 := F15.binds (ps := ["_law_pot_here", "_law_many_here"]) fun _ _ _ _ _ _ us hl => match us, hl with | [_, _], _ => rfl
  have g15 := PySem.W.mg_of X G a15
  have F16 := fun_mk (st := s_law_way) l16 c16 k16
  have b16 := F16.binds (ps := ["_law_pot_here", "_law_row"]) fun _ _ _ _ _ _ us hl => match us, hl with | [_, _], _ => rfl
  have g16 := PySem.W.mg_of X G a16
  have F17 := fun_mk (st := s_law_lets) l17 c17 k17
  have b17 := F17.binds (ps := ["_law_lots_here", "_law_lot_here"]) fun _ _ _ _ _ _ us hl => match us, hl with | [_, _], _ => rfl
  have g17 := PySem.W.mg_of X G a17
  have F18 := fun_mk (st := s_law_fits) l18 c18 k18
  have b18 := F18.binds (ps := ["_law_value", "_law_entry_here", "_law_lots_here", "_law_manner"]) fun _ _ _ _ _ _ us hl => match us, hl with | [_, _, _, _], _ => rfl
  have g18 := PySem.W.mg_of X G a18
  have F19 := fun_mk (st := s_law_values) l19 c19 k19
  have b19 := F19.binds (ps := ["_law_group", "_law_m", "_law_lots_here", "_law_manner"]) fun _ _ _ _ _ _ us hl => match us, hl with | [_, _, _, _], _ => rfl
  have g19 := PySem.W.mg_of X G a19
  have F20 := fun_mk (st := s_law_pot) l20 c20 k20
  have b20 := F20.binds (ps := ["_law_script", "_law_salt"]) fun _ _ _ _ _ _ us hl => match us, hl with | [_, _], _ => rfl
  have g20 := PySem.W.mg_of X G a20
  have F21 := fun_mk (st := s_law_many) l21 c21 k21
  have b21 := F21.binds (ps := ["_law_pot_here"]) fun _ _ _ _ _ _ us hl => match us, hl with | [_], _ => rfl
  have g21 := PySem.W.mg_of X G a21
  have F22 := fun_mk (st := s_law_worths) l22 c22 k22
  have b22 := F22.binds (ps := ["_law_pot_here", "_law_n"]) fun _ _ _ _ _ _ us hl => match us, hl with | [_, _], _ => rfl
  have g22 := PySem.W.mg_of X G a22
  have F23 := fun_mk (st := s_law_lot) l23 c23 k23
  have b23 := F23.binds (ps := ["_law_pot_here", "_law_n"]) fun _ _ _ _ _ _ us hl => match us, hl with | [_, _], _ => rfl
  have g23 := PySem.W.mg_of X G a23
  have F24 := fun_mk (st := s_law_lots) l24 c24 k24
  have b24 := F24.binds (ps := ["_law_pot_here", "_law_n"]) fun _ _ _ _ _ _ us hl => match us, hl with | [_, _], _ => rfl
  have g24 := PySem.W.mg_of X G a24
  have F25 := fun_mk (st := s_law_every) l25 c25 k25
  have b25 := F25.binds (ps := ["_law_n", "_law_lots_here"]) fun _ _ _ _ _ _ us hl => match us, hl with | [_, _], _ => rfl
  have g25 := PySem.W.mg_of X G a25
  have F26 := fun_mk (st := s_law_greatest) l26 c26 k26
  have b26 := F26.binds (ps := ["_law_every_here"]) fun _ _ _ _ _ _ us hl => match us, hl with | [_], _ => rfl
  have g26 := PySem.W.mg_of X G a26
  have F27 := fun_mk (st := s_law_family) l27 c27 k27
  have b27 := F27.binds (ps := ["_law_n", "_law_lots_here"]) fun _ _ _ _ _ _ us hl => match us, hl with | [_, _], _ => rfl
  have g27 := PySem.W.mg_of X G a27
  have F28 := fun_mk (st := s_law_longer) l28 c28 k28
  have b28 := F28.binds (ps := ["_law_rows_here", "_law_marks"]) fun _ _ _ _ _ _ us hl => match us, hl with | [_, _], _ => rfl
  have g28 := PySem.W.mg_of X G a28
  have F29 := fun_mk (st := s_law_rows) l29 c29 k29
  have b29 := F29.binds (ps := ["_law_n", "_law_m"]) fun _ _ _ _ _ _ us hl => match us, hl with | [_, _], _ => rfl
  have g29 := PySem.W.mg_of X G a29
  have F30 := fun_mk (st := s_law_entry) l30 c30 k30
  have b30 := F30.binds (ps := ["_law_pot_here", "_law_n", "_law_m"]) fun _ _ _ _ _ _ us hl => match us, hl with | [_, _, _], _ => rfl
  have g30 := PySem.W.mg_of X G a30
  have F31 := fun_mk (st := s_law_differ) l31 c31 k31
  have b31 := F31.binds (ps := ["_law_one", "_law_other"]) fun _ _ _ _ _ _ us hl => match us, hl with | [_, _], _ => rfl
  have g31 := PySem.W.mg_of X G a31
  have F32 := fun_mk (st := s_law_bad_manner) l32 c32 k32
  have b32 := F32.binds (ps := ["_law_pot_here"]) fun _ _ _ _ _ _ us hl => match us, hl with | [_], _ => rfl
  have g32 := PySem.W.mg_of X G a32
  have F33 := fun_mk (st := s_law_asked) l33 c33 k33
  have b33 := F33.binds (ps := ["_law_falls", "_law_n", "_law_m", "_law_every_here", "_law_greatest_here", "_law_near", "_law_entry_here"]) fun _ _ _ _ _ _ us hl => match us, hl with | [_, _, _, _, _, _, _], _ => rfl
  have g33 := PySem.W.mg_of X G a33
  have F34 := fun_mk (st := s_law_fitted) l34 c34 k34
  have b34 := F34.binds (ps := ["_law_pot_here", "_law_falls", "_law_lots_here", "_law_m", "_law_entries", "_law_manner"]) fun _ _ _ _ _ _ us hl => match us, hl with | [_, _, _, _, _, _], _ => rfl
  have g34 := PySem.W.mg_of X G a34
  have F35 := fun_mk (st := s_law_word) l35 c35 k35
  have b35 := F35.binds (ps := ["_law_which", "_law_falls", "_law_manner", "_law_entry_here"]) fun _ _ _ _ _ _ us hl => match us, hl with | [_, _, _, _], _ => rfl
  have g35 := PySem.W.mg_of X G a35
  have F36 := fun_mk (st := s_law) l36 c36 k36
  have b36 := F36.binds (ps := ["_law_script"]) fun _ _ _ _ _ _ us hl => match us, hl with | [_], _ => rfl
  have g36 := PySem.W.mg_of X G a36
  have F37 : FunW K f37 _ := ⟨⟨oc37, od37, .ref TW, kV37, dc37, pm37, an37, cd37, ct37, sl37, rfl, l37, c37, .inr ⟨by simp, TW, _, [.none, .none], nT, rfl, lT, rfl, .cons rfl (.cons rfl .nil)⟩, .inl rfl⟩, k37⟩
  have b37 := binds_whole F37
  have g37 := PySem.W.mg_of X G a37
  have F38 := fun_mk (st := s_Falls___init__) l38 c38 k38
  have b38 := F38.binds (ps := ["self", "houses", "lots"]) fun _ _ _ _ _ _ us hl => match us, hl with | [_, _, _], _ => rfl
  have F39 := fun_mk (st := s_Falls_lets) l39 c39 k39
  have b39 := F39.binds (ps := ["self", "lot"]) fun _ _ _ _ _ _ us hl => match us, hl with | [_, _], _ => rfl
  have F40 := fun_mk (st := s_BadManner___init__) l40 c40 k40
  have b40 := F40.binds (ps := ["self", "manner"]) fun _ _ _ _ _ _ us hl => match us, hl with | [_, _], _ => rfl
  have M0 : Mk K C f38 := ⟨mk, a38, i38, kc⟩
  have ML : Meth K C "lets" f39 := ⟨a39, i39, k39⟩
  have hM : ManT K tM := ⟨fun H => .inr ⟨_, _, _, lM, rfl, rfl, (by show 3 ≤ _; decide), .cons ⟨_, rfl⟩ (.cons ⟨_, rfl⟩ (.cons ⟨_, rfl⟩ .nil))⟩, _, lM, rfl⟩
  have EM : ErrM K mg CF CB f40 (.type "type") := ⟨⟨⟨_, _, _, _, _, _, _, _, _, _, _, _, _, _, _, lB, vB⟩, sB, eB, yB, kB⟩, a40, tI, nB, PySem.W.mg_of X G aB, PySem.W.mg_of X G aF, ⟨rdF, gaF⟩, vF, ⟨xgB, xhB, eB, hdB⟩, exm_of eF iF yF sbF, kit_VE svB⟩
  refine ⟨PySem.W.fnOf "law" "law" (defArgs s_law) (defBody s_law) (defScope s_law) .none kV36 dc36 pm36 an36 cd36 ct36, fun s v => .of_eq rfl, fun base _ _ => ?_⟩
  have Oinit := ok_init (P := l.prog) (w := w) (base := base) F38 T FC gL F0 b0 g0 F37 b37 g37 F1 b1 g1 F5 b5 g5 F2 b2 g2 F3 b3 g3 F4 b4 g4
  have Olets := ok_flets (P := l.prog) (w := w) (base := base) F39 T FC
  have Oman := ok_man (P := l.prog) (w := w) (base := base) F6 hM gM
  have OmanX := ok_manX (P := l.prog) (w := w) (base := base) F6 hM gM EM F40 b40
  have Oplaces := ok_places (P := l.prog) (w := w) (base := base) F7 T
  have Ofirm := ok_firm (P := l.prog) (w := w) (base := base) F8 T FC F7 b7 g7 ML Olets b39
  have OfirmV := ok_firmV (P := l.prog) (w := w) (base := base) F9 T F8 b8 g8 Ofirm
  have Ohide := ok_hide (P := l.prog) (w := w) (base := base) F10 T FC F7 b7 g7 F2 b2 g2
  have Ofits := ok_fits (P := l.prog) (w := w) (base := base) F11 T F6 b6 g6 Oman F8 b8 g8 Ofirm
  have OfitsX := ok_fitsX (P := l.prog) (w := w) (base := base) F11 T F6 b6 g6 OmanX F8 b8 g8 Ofirm
  have Ounfit := ok_unfit (P := l.prog) (w := w) (base := base) F13 T F6 b6 g6 Oman F11 b11 g11 Ofits
  have OunfitX := ok_unfitX (P := l.prog) (w := w) (base := base) F13 T F6 b6 g6 OmanX F11 b11 g11 Ofits
  have Ofit := ok_fitting (P := l.prog) (w := w) (base := base) F12 T F6 b6 g6 Oman F13 b13 g13 Ounfit
  have OfitX := ok_fittingX (P := l.prog) (w := w) (base := base) F12 T F6 b6 g6 OmanX F13 b13 g13 Ounfit
  have Osame := ok_same (P := l.prog) (w := w) (base := base) F14 T b14 g14
  have Oway := ok_way (P := l.prog) (w := w) (base := base) F16 T F15 b15 g15
  have Olfits := ok_lfits (P := l.prog) (w := w) (base := base) F18 T F17 b17 g17
  have Olvals := ok_lvals (P := l.prog) (w := w) (base := base) F19 T F17 b17 g17 F18 b18 g18
  have Omany := ok_many (P := l.prog) (w := w) (base := base) F21 T F15 b15 g15
  have Oworths := ok_worths (P := l.prog) (w := w) (base := base) F22 T F15 b15 g15
  have ObadM := ok_badM (P := l.prog) (w := w) (base := base) F32 T F15 b15 g15
  have Olots := ok_law_lots (P := l.prog) (w := w) (base := base) F24 T F15 b15 g15 F23 b23 g23
  have Oevery := ok_every (P := l.prog) (w := w) (base := base) F25 T F17 b17 g17
  have Ofamily := ok_family (P := l.prog) (w := w) (base := base) F27 T M0 gC Oinit b38
  have Orows := ok_rows (P := l.prog) (w := w) (base := base) F29 T F28 b28 g28
  have Oentry := ok_entry (P := l.prog) (w := w) (base := base) F30 T F15 b15 g15
  have Oasked := ok_asked (P := l.prog) (w := w) (base := base) F33 T F14 b14 g14 Osame F7 b7 g7 Oplaces F8 b8 g8 Ofirm F10 b10 g10 Ohide F9 b9 g9 OfirmV
  have Ofitted := ok_fitted (P := l.prog) (w := w) (base := base) F34 T F14 b14 g14 Osame F16 b16 g16 Oway F18 b18 g18 Olfits F19 b19 g19 Olvals F12 b12 g12 Ofit F13 b13 g13 Ounfit F11 b11 g11 Ofits
  have Oword := ok_word (P := l.prog) (w := w) (base := base) F35 T zV EM kB F6 b6 g6 OmanX F11 b11 g11 OfitsX F12 b12 g12 OfitX F13 b13 g13 OunfitX
  exact ok_law F36 T hM gM F20 b20 g20 F14 b14 g14 F21 b21 g21 Omany F22 b22 g22 Oworths F24 b24 g24 Olots F25 b25 g25 Oevery F26 b26 g26 F27 b27 g27 Ofamily F29 b29 g29 Orows F15 b15 g15 F30 b30 g30 Oentry F31 b31 g31 F33 b33 g33 Oasked F6 b6 g6 F34 b34 g34 Ofitted F32 b32 g32 ObadM F35 b35 g35 Oword
end
theorem walk {l : PySem.W.OpenLaw} {q : Program} {loose : List Str} {XP : (Str → Option Value) → Heap → Prop} {YP : World → Heap → Prop} {d : DefRec} {K : Params → PySem.W.Frag} (hn : l.most = some 63) (hdf : d.params.defaults = [])
    (hY : ∀ (w : World) (h : Heap), YP w h → (K w.params).In h)
    (F : ∀ (w : World) (mg : Str → Option Value) (fa : Addr) (h : Heap), (K w.params).In h → h.Ns mainGlobals mg → mg d.name = some (.ref fa) →
      ∃ fd : FuncData, (∀ (s : Shared) (u : Value), BindsTo s fd ⟨[u], []⟩ [("_law_script", u)]) ∧ ∀ base : Heap, (K w.params).In base → base.Ns mainGlobals mg → FnG l.prog w (K w.params) mg base CX0 8 fa fd ["_law_script"] (spLaw (K w.params))) :
    PySem.W.WalkO q loose XP YP l.row.toRowW d [] (fun f vs => PySem.call f vs) :=
  walkG (n := 63) (k := 8) (x := "_law_script") (CX := fun _ => CX0) (sp := fun w => spLaw (K w.params)) hn (by decide) hdf ⟨rfl, by decide, by decide⟩ hY F (fun _ _ a ns _ _ hS => ⟨a, ns, rfl, hS, fun _ => rfl⟩) fun _ _ _ _ _ z => z
end K7

open PySem PySem.W PyProof.Rows
set_option maxRecDepth 100000 in
set_option maxHeartbeats 0 in
theorem PySem.Challenge.cw_firmvalues_k07_whole_firm_by_all_lots_holds : PySem.Challenge.rw_firmvalues_k07_whole_firm_by_all_lots.Holds := by
  w_on; o_law; k_head; (case hw => w_witness2)
  k_fill
  refine K7.walk (l := PySem.Challenge.rw_firmvalues_k07_whole_firm_by_all_lots) rfl rfl (fun w h Y => PySem.W.kIn_of Y) ?F
  case F =>
    intro w mg fa h KX G hmg
    refine' K7.all_mk KX G hmg ?aC ?a0 ?l0 ?c0 ?k0 ?a1 ?l1 ?c1 ?k1 ?a2 ?l2 ?c2 ?k2 ?a3 ?l3 ?c3 ?k3 ?a4 ?l4 ?c4 ?k4 ?a5 ?l5 ?c5 ?k5 ?a6 ?l6 ?c6 ?k6 ?a7 ?l7 ?c7 ?k7 ?a8 ?l8 ?c8 ?k8 ?a9 ?l9 ?c9 ?k9 ?a10 ?l10 ?c10 ?k10 ?a11 ?l11 ?c11 ?k11 ?a12 ?l12 ?c12 ?k12 ?a13 ?l13 ?c13 ?k13 ?a14 ?l14 ?c14 ?k14 ?a15 ?l15 ?c15 ?k15 ?a16 ?l16 ?c16 ?k16 ?a17 ?l17 ?c17 ?k17 ?a18 ?l18 ?c18 ?k18 ?a19 ?l19 ?c19 ?k19 ?a20 ?l20 ?c20 ?k20 ?a21 ?l21 ?c21 ?k21 ?a22 ?l22 ?c22 ?k22 ?a23 ?l23 ?c23 ?k23 ?a24 ?l24 ?c24 ?k24 ?a25 ?l25 ?c25 ?k25 ?a26 ?l26 ?c26 ?k26 ?a27 ?l27 ?c27 ?k27 ?a28 ?l28 ?c28 ?k28 ?a29 ?l29 ?c29 ?k29 ?a30 ?l30 ?c30 ?k30 ?a31 ?l31 ?c31 ?k31 ?a32 ?l32 ?c32 ?k32 ?a33 ?l33 ?c33 ?k33 ?a34 ?l34 ?c34 ?k34 ?a35 ?l35 ?c35 ?k35 ?a36 ?l36 ?c36 ?k36 ?a37 ?l37 ?c37 ?k37 ?lT ?a38 ?i38 ?l38 ?c38 ?k38 ?a39 ?i39 ?l39 ?c39 ?k39 ?aB ?aF ?a40 ?tI ?l40 ?c40 ?k40 ?lB ?vB ?sB ?eB ?yB ?kB ?nB ?rdF ?gaF ?vF ?xgB ?xhB ?hdB ?eF ?iF ?yF ?sbF ?svB ?aM ?lM ?z_isinstance ?z_list ?z_tuple ?z_bool ?z_int ?z_str ?z_all ?z_any ?z_range ?z_sorted ?z_set ?z_max ?z_len ?z_min ?z_repr ?z_VE ?pg ?hd ?po ?sa ?mk ?kc ?nN ?nL ?nF ?ml
    (case aC => k_is)
    (case a0 => k_is)
    (case l0 => k_is)
    (case c0 => k_is)
    (case k0 => k_is)
    (case a1 => k_is)
    (case l1 => k_is)
    (case c1 => k_is)
    (case k1 => k_is)
    (case a2 => k_is)
    (case l2 => k_is)
    (case c2 => k_is)
    (case k2 => k_is)
    (case a3 => k_is)
    (case l3 => k_is)
    (case c3 => k_is)
    (case k3 => k_is)
    (case a4 => k_is)
    (case l4 => k_is)
    (case c4 => k_is)
    (case k4 => k_is)
    (case a5 => k_is)
    (case l5 => k_is)
    (case c5 => k_is)
    (case k5 => k_is)
    (case a6 => k_is)
    (case l6 => k_is)
    (case c6 => k_is)
    (case k6 => k_is)
    (case a7 => k_is)
    (case l7 => k_is)
    (case c7 => k_is)
    (case k7 => k_is)
    (case a8 => k_is)
    (case l8 => k_is)
    (case c8 => k_is)
    (case k8 => k_is)
    (case a9 => k_is)
    (case l9 => k_is)
    (case c9 => k_is)
    (case k9 => k_is)
    (case a10 => k_is)
    (case l10 => k_is)
    (case c10 => k_is)
    (case k10 => k_is)
    (case a11 => k_is)
    (case l11 => k_is)
    (case c11 => k_is)
    (case k11 => k_is)
    (case a12 => k_is)
    (case l12 => k_is)
    (case c12 => k_is)
    (case k12 => k_is)
    (case a13 => k_is)
    (case l13 => k_is)
    (case c13 => k_is)
    (case k13 => k_is)
    (case a14 => k_is)
    (case l14 => k_is)
    (case c14 => k_is)
    (case k14 => k_is)
    (case a15 => k_is)
    (case l15 => k_is)
    (case c15 => k_is)
    (case k15 => k_is)
    (case a16 => k_is)
    (case l16 => k_is)
    (case c16 => k_is)
    (case k16 => k_is)
    (case a17 => k_is)
    (case l17 => k_is)
    (case c17 => k_is)
    (case k17 => k_is)
    (case a18 => k_is)
    (case l18 => k_is)
    (case c18 => k_is)
    (case k18 => k_is)
    (case a19 => k_is)
    (case l19 => k_is)
    (case c19 => k_is)
    (case k19 => k_is)
    (case a20 => k_is)
    (case l20 => k_is)
    (case c20 => k_is)
    (case k20 => k_is)
    (case a21 => k_is)
    (case l21 => k_is)
    (case c21 => k_is)
    (case k21 => k_is)
    (case a22 => k_is)
    (case l22 => k_is)
    (case c22 => k_is)
    (case k22 => k_is)
    (case a23 => k_is)
    (case l23 => k_is)
    (case c23 => k_is)
    (case k23 => k_is)
    (case a24 => k_is)
    (case l24 => k_is)
    (case c24 => k_is)
    (case k24 => k_is)
    (case a25 => k_is)
    (case l25 => k_is)
    (case c25 => k_is)
    (case k25 => k_is)
    (case a26 => k_is)
    (case l26 => k_is)
    (case c26 => k_is)
    (case k26 => k_is)
    (case a27 => k_is)
    (case l27 => k_is)
    (case c27 => k_is)
    (case k27 => k_is)
    (case a28 => k_is)
    (case l28 => k_is)
    (case c28 => k_is)
    (case k28 => k_is)
    (case a29 => k_is)
    (case l29 => k_is)
    (case c29 => k_is)
    (case k29 => k_is)
    (case a30 => k_is)
    (case l30 => k_is)
    (case c30 => k_is)
    (case k30 => k_is)
    (case a31 => k_is)
    (case l31 => k_is)
    (case c31 => k_is)
    (case k31 => k_is)
    (case a32 => k_is)
    (case l32 => k_is)
    (case c32 => k_is)
    (case k32 => k_is)
    (case a33 => k_is)
    (case l33 => k_is)
    (case c33 => k_is)
    (case k33 => k_is)
    (case a34 => k_is)
    (case l34 => k_is)
    (case c34 => k_is)
    (case k34 => k_is)
    (case a35 => k_is)
    (case l35 => k_is)
    (case c35 => k_is)
    (case k35 => k_is)
    (case a36 => k_is)
    (case l36 => k_is)
    (case c36 => k_is)
    (case k36 => k_is)
    (case a37 => k_is)
    (case l37 => k_is)
    (case c37 => k_is)
    (case k37 => k_is)
    (case lT => k_is)
    (case a38 => k_is)
    (case i38 => k_is)
    (case l38 => k_is)
    (case c38 => k_is)
    (case k38 => k_is)
    (case a39 => k_is)
    (case i39 => k_is)
    (case l39 => k_is)
    (case c39 => k_is)
    (case k39 => k_is)
    (case aB => k_is)
    (case aF => k_is)
    (case a40 => k_is)
    (case tI => k_is)
    (case l40 => k_is)
    (case c40 => k_is)
    (case k40 => k_is)
    (case lB => k_is)
    (case vB => decide +kernel)
    (case sB => k_is)
    (case eB => k_is)
    (case yB => k_is)
    (case kB => k_is)
    (case nB => k_is)
    (case rdF => k_is)
    (case gaF => k_is)
    (case vF => k_is)
    (case xgB => k_is)
    (case xhB => k_is)
    (case hdB => k_is)
    (case eF => k_is)
    (case iF => k_is)
    (case yF => k_is)
    (case sbF => k_is)
    (case svB => k_is)
    (case aM => k_is)
    (case lM => k_is)
    (case z_isinstance => k_is)
    (case z_list => k_is)
    (case z_tuple => k_is)
    (case z_bool => k_is)
    (case z_int => k_is)
    (case z_str => k_is)
    (case z_all => k_is)
    (case z_any => k_is)
    (case z_range => k_is)
    (case z_sorted => k_is)
    (case z_set => k_is)
    (case z_max => k_is)
    (case z_len => k_is)
    (case z_min => k_is)
    (case z_repr => k_is)
    (case z_VE => k_is)
    (case pg => k_is)
    (case hd => k_is)
    (case po => k_is)
    (case sa => k_is)
    (case mk => k_is)
    (case kc => k_is)
    (case nN => k_is)
    (case nL => k_is)
    (case nF => k_is)
    (case ml => k_is)

