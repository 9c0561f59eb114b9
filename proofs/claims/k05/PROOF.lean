import PyProof.Rows.All
import Wide.All
import OpenK.AllK
import Wide.FinOn
import HandS.ForMost
import HandS.Exc
import HandS.TryOnly
import HandS.ExcOwn
import HandS.WordsExc
import HandS.Evl
import HandS.DictTup
import HandS.DictComp
import HandS.IsInst
import HandS.MakeKwOnly
import HandS.Wide
import HandS.EndBits
import HandS.TupAny
import HandS.FStr
import HandS.Rev
import HandS.SetIn
import HandS.Deep
import HandS.RaiseMore
import HandS.Walk
import HandS.Property
import HandS.Style
import HandS.Text
import PyProof.ReprRoads
import HandS.Strs
import HandS.ReCall
import PySem.Challenge.RW_fewestheld_k05_whole_text_and_back
set_option Elab.async false
set_option linter.all false
set_option maxRecDepth 100000
set_option maxHeartbeats 4000000
namespace Fw
open PySem PySem.Spec PyProof.Rows L2 Evl

/-! ### data that stands in the heap: every list and tuple tracked -/
/-- a tuple; one that is made by a call is known to have no dict of its own -/
def TupAt (H : Hp) (a : Addr) (xs : List V) : Prop := H a = some (.tup xs) ∨ ∃ ob : Obj, ob.dict = none ∧ H a = some (.frz ob (.tup xs))
theorem xt {G H : Hp} {a : Addr} {xs : List V} (e : Ex G H) (h : TupAt G a xs) : TupAt H a xs := h.elim (fun h => .inl (e _ _ h)) fun ⟨ob, h1, h2⟩ => .inr ⟨ob, h1, e _ _ h2⟩
theorem st_t {K : PySem.W.Frag} {H : Hp} {a : Addr} {xs : List V} (h : TupAt H a xs) : SqT K H a xs := .inl (h.elim (fun h => .inl h) fun ⟨ob, _, h2⟩ => .inr ⟨ob, h2⟩)
mutual
inductive Rp (H : Hp) : V → PyData → Prop
  | non : Rp H .non .none
  | bl (b : Bool) : Rp H (.bl b) (.bool b)
  | int (i : Int) : Rp H (.int i) (.int i)
  | str (x : Str) : Rp H (.str x) (.str x)
  | lst {a : Addr} {xs : List V} {ds : List PyData} (h : H a = some (.lst xs)) (hs : RpAll H xs ds) : Rp H (.ref a) (.list ds)
  | tup {a : Addr} {xs : List V} {ds : List PyData} (h : TupAt H a xs) (hs : RpAll H xs ds) : Rp H (.ref a) (.tuple ds)
inductive RpAll (H : Hp) : List V → List PyData → Prop
  | nil : RpAll H [] []
  | cons {v : V} {vs : List V} {d : PyData} {ds : List PyData} (h : Rp H v d) (hs : RpAll H vs ds) : RpAll H (v :: vs) (d :: ds)
end
mutual
theorem rp_dp {K : PySem.W.Frag} {H : Hp} : ∀ (d : PyData) (v : V), Rp H v d → Dp K H v d
  | .none, _, h => by cases h; exact .non
  | .bool b, _, h => by cases h; exact .bl b
  | .int i, _, h => by cases h; exact .int i
  | .str x, _, h => by cases h; exact .str x
  | .list ds, _, h => by
    cases h with
    | lst hs ha => exact .lst (sq_of hs) (ra_dp ds _ ha)
  | .tuple ds, _, h => by
    cases h with
    | tup hs ha => exact .tup (st_t hs) (ra_dp ds _ ha)
  | .dict kvs, _, h => by cases h
theorem ra_dp {K : PySem.W.Frag} {H : Hp} : ∀ (ds : List PyData) (vs : List V), RpAll H vs ds → DpAll K H vs ds
  | [], _, h => by cases h; exact .nil
  | d :: ds, _, h => by
    cases h with
    | cons h1 h2 => exact .cons (rp_dp d _ h1) (ra_dp ds _ h2)
end
/-! ### data stays while the heap grows -/
mutual
theorem rp_mono {G H : Hp} (e : Ex G H) : ∀ (d : PyData) (v : V), Rp G v d → Rp H v d
  | .none, _, h => by cases h; exact .non
  | .bool b, _, h => by cases h; exact .bl b
  | .int i, _, h => by cases h; exact .int i
  | .str x, _, h => by cases h; exact .str x
  | .list ds, _, h => by
    cases h with
    | lst hs ha => exact .lst (e _ _ hs) (ra_mono e ds _ ha)
  | .tuple ds, _, h => by
    cases h with
    | tup hs ha => exact .tup (xt e hs) (ra_mono e ds _ ha)
  | .dict kvs, _, h => by cases h
theorem ra_mono {G H : Hp} (e : Ex G H) : ∀ (ds : List PyData) (vs : List V), RpAll G vs ds → RpAll H vs ds
  | [], _, h => by cases h; exact .nil
  | d :: ds, _, h => by
    cases h with
    | cons h1 h2 => exact .cons (rp_mono e d _ h1) (ra_mono e ds _ h2)
end
theorem ra_len {G : Hp} : ∀ {vs : List V} {ds : List PyData}, RpAll G vs ds → vs.length = ds.length
  | _, _, .nil => rfl
  | _, _, .cons _ h => congrArg Nat.succ (ra_len h)
theorem ra_get {G : Hp} : ∀ {vs : List V} {ds : List PyData} {i : Nat} {d : PyData}, RpAll G vs ds → ds[i]? = some d → ∃ v, vs[i]? = some v ∧ Rp G v d
  | _, _, _, _, .nil, h => by simp at h
  | _, _, 0, _, .cons h1 _, h => by
    simp at h
    exact ⟨_, rfl, h ▸ h1⟩
  | _, _, i + 1, _, .cons _ h2, h => by
    obtain ⟨v, e, r⟩ := ra_get (i := i) h2 (by simpa using h)
    exact ⟨v, by simpa using e, r⟩
theorem ra_get' {G : Hp} : ∀ {vs : List V} {ds : List PyData} {i : Nat} {v : V}, RpAll G vs ds → vs[i]? = some v → ∃ d, ds[i]? = some d ∧ Rp G v d
  | _, _, _, _, .nil, h => by simp at h
  | _, _, 0, _, .cons h1 _, h => by
    simp at h
    exact ⟨_, rfl, h ▸ h1⟩
  | _, _, i + 1, _, .cons _ h2, h => by
    obtain ⟨v, e, r⟩ := ra_get' (i := i) h2 (by simpa using h)
    exact ⟨v, by simpa using e, r⟩
theorem ra_app {G : Hp} : ∀ {vs ws : List V} {ds es : List PyData}, RpAll G vs ds → RpAll G ws es → RpAll G (vs ++ ws) (ds ++ es)
  | _, _, _, _, .nil, h => h
  | _, _, _, _, .cons h1 h2, h => .cons h1 (ra_app h2 h)
theorem ra_one {G : Hp} {v : V} {d : PyData} (h : Rp G v d) : RpAll G [v] [d] := .cons h .nil
theorem ra_take {G : Hp} : ∀ {vs : List V} {ds : List PyData} (n : Nat), RpAll G vs ds → RpAll G (vs.take n) (ds.take n)
  | _, _, 0, _ => .nil
  | _, _, _ + 1, .nil => .nil
  | _, _, n + 1, .cons h1 h2 => .cons h1 (ra_take n h2)
theorem ra_drop {G : Hp} : ∀ {vs : List V} {ds : List PyData} (n : Nat), RpAll G vs ds → RpAll G (vs.drop n) (ds.drop n)
  | _, _, 0, h => h
  | _, _, _ + 1, .nil => .nil
  | _, _, n + 1, .cons _ h2 => ra_drop n h2
theorem ra_ints {G : Hp} : ∀ (ns : List Int), RpAll G (ns.map V.int) (ns.map PyData.int)
  | [] => .nil
  | n :: ns => .cons (.int n) (ra_ints ns)
theorem ra_strs {G : Hp} : ∀ (ns : List Str), RpAll G (ns.map V.str) (ns.map PyData.str)
  | [] => .nil
  | n :: ns => .cons (.str n) (ra_strs ns)
theorem rp_int {G : Hp} {v : V} {i : Int} (h : Rp G v (.int i)) : v = .int i := by cases h; rfl
theorem rp_str {G : Hp} {v : V} {x : Str} (h : Rp G v (.str x)) : v = .str x := by cases h; rfl
theorem rp_bl {G : Hp} {v : V} {b : Bool} (h : Rp G v (.bool b)) : v = .bl b := by cases h; rfl
theorem rp_non {G : Hp} {v : V} (h : Rp G v .none) : v = .non := by cases h; rfl
theorem rp_lst {G : Hp} {v : V} {ds : List PyData} (h : Rp G v (.list ds)) : ∃ a xs, v = .ref a ∧ G a = some (.lst xs) ∧ RpAll G xs ds := by
  cases h with
  | lst h1 h2 => exact ⟨_, _, rfl, h1, h2⟩
theorem rp_tup {G : Hp} {v : V} {ds : List PyData} (h : Rp G v (.tuple ds)) : ∃ a xs, v = .ref a ∧ TupAt G a xs ∧ RpAll G xs ds := by
  cases h with
  | tup h1 h2 => exact ⟨_, _, rfl, h1, h2⟩
theorem ra_int {G : Hp} : ∀ {ns : List Int} {vs : List V}, RpAll G vs (ns.map PyData.int) → vs = ns.map V.int
  | [], _, h => by cases h; rfl
  | n :: ns, _, h => by
    cases h with
    | cons h1 h2 => rw [rp_int h1, ra_int h2]; rfl
theorem ra_str {G : Hp} : ∀ {ns : List Str} {vs : List V}, RpAll G vs (ns.map PyData.str) → vs = ns.map V.str
  | [], _, h => by cases h; rfl
  | n :: ns, _, h => by
    cases h with
    | cons h1 h2 => rw [rp_str h1, ra_str h2]; rfl

/-! ### a step: G, what stands still, and H, the heap, grow by new objects -/
structure Stp (G H G2 H2 : Hp) : Prop where
  g : Ex G G2
  gh : Ex G2 H2
  h : Ex H H2
  f : ∀ a o, H a = some o → G2 a = G a
theorem Stp.refl {G H : Hp} (e : Ex G H) : Stp G H G H := ⟨Ex.refl G, e, Ex.refl H, fun _ _ _ => rfl⟩
theorem Stp.trans {G H G2 H2 G3 H3 : Hp} (a : Stp G H G2 H2) (b : Stp G2 H2 G3 H3) : Stp G H G3 H3 :=
  ⟨a.g.trans b.g, b.gh, a.h.trans b.h, fun p o e => (b.f p o (a.h p o e)).trans (a.f p o e)⟩
/-- the same step seen from a greater still part -/
def up (G H G2 : Hp) : Hp := fun a => match H a with
  | some _ => G a
  | none => G2 a
theorem up_some {G H G2 : Hp} {a : Addr} {o : HO} (h : H a = some o) : up G H G2 a = G a := by
  unfold up
  rw [h]
theorem up_none {G H G2 : Hp} {a : Addr} (h : H a = none) : up G H G2 a = G2 a := by
  unfold up
  rw [h]
theorem Stp.up {G G' H G2 H2 : Hp} (e : Ex G G') (e2 : Ex G' H) (s : Stp G H G2 H2) : Stp G' H (up G' H G2) H2 ∧ Ex G2 (Fw.up G' H G2) := by
  refine ⟨⟨fun a o h => ?_, fun a o h => ?_, s.h, fun a o h => up_some h⟩, fun a o h => ?_⟩
  · rw [up_some (e2 a o h)]
    exact h
  · cases hh : H a with
    | none =>
      rw [up_none hh] at h
      exact s.gh a o h
    | some u =>
      rw [up_some hh] at h
      exact s.h a o (e2 a o h)
  · cases hh : H a with
    | none =>
      rw [up_none hh]
      exact h
    | some u =>
      rw [up_some hh]
      rw [s.f a u hh] at h
      exact e a o h
/-- a new object -/
theorem Stp.new {G H : Hp} {p : Addr} {o : HO} (e : Ex G H) (h : H p = none) : Stp G H (upd G p o) (upd H p o) :=
  ⟨Ex.new (fresh_back e h), fun a u q => by
    by_cases hp : a = p
    · subst hp
      rw [upd_same] at q ⊢
      exact q
    · rw [upd_ne hp] at q ⊢
      exact e a u q, Ex.new h, fun a u q => upd_ne (ne_of_none q h)⟩
theorem Stp.none {G H G2 H2 : Hp} (s : Stp G H G2 H2) {p : Addr} {o : HO} (h : H p = some o) (hg : G p = none) : G2 p = none := by
  rw [s.f p o h]
  exact hg

/-! ### what an expression is worth -/
def EvD (te : TE) (σ : L2.St) (G : Hp) (d : PyData) : Prop := ∀ H, Ex G H → ∀ Q : VK, (∀ v G2 H2, Stp G H G2 H2 → Rp G2 v d → Q v H2) → te σ H Q
def EvS (ta : TA) (σ : L2.St) (G : Hp) (ds : List PyData) : Prop := ∀ H, Ex G H → ∀ Q : List V → Hp → Prop, (∀ vs G2 H2, Stp G H G2 H2 → RpAll G2 vs ds → Q vs H2) → ta σ H Q
/-- a call, an operation on data: from G on -/
def RD (r : List V → Hp → VK → Prop) (ds : List PyData) (d : PyData) : Prop := ∀ G H vs, Ex G H → RpAll G vs ds → ∀ Q : VK, (∀ v G2 H2, Stp G H G2 H2 → Rp G2 v d → Q v H2) → r vs H Q
def R2D (r : R2) (d e f : PyData) : Prop := ∀ G H v w, Ex G H → Rp G v d → Rp G w e → ∀ Q : VK, (∀ v G2 H2, Stp G H G2 H2 → Rp G2 v f → Q v H2) → r v w H Q
section
variable {K : PySem.W.Frag} {σ : L2.St} {G G' H : Hp} {te ta tb : TE} {tr : TA} {d e f : PyData} {ds es : List PyData}
theorem EvD.mono (x : Ex G G') (h : EvD te σ G d) : EvD te σ G' d := fun H e Q q =>
  h H (x.trans e) Q fun v G2 H2 s hd => q v _ H2 (s.up x e).1 (rp_mono (s.up x e).2 d v hd)
theorem EvS.mono (x : Ex G G') (h : EvS tr σ G ds) : EvS tr σ G' ds := fun H e Q q =>
  h H (x.trans e) Q fun v G2 H2 s hd => q v _ H2 (s.up x e).1 (ra_mono (s.up x e).2 ds v hd)
theorem EvD.is (h : EvD te σ G d) (e : d = f) : EvD te σ G f := e ▸ h
theorem ed_var {i : Nat} {v : V} (h : σ[i]? = some (some v)) (hd : Rp G v d) : EvD (tVar i) σ G d := fun H e Q q => ⟨v, h, q v G H (Stp.refl e) hd⟩
theorem ed_c {v : V} (hd : Rp G v d) : EvD (tC v) σ G d := fun H e Q q => q v G H (Stp.refl e) hd
theorem ed_op {r : R2} (ha : EvD ta σ G d) (hb : EvD tb σ G e) (hr : R2D r d e f) : EvD (tOp r ta tb) σ G f := fun H x Q q =>
  ha H x _ fun v G2 H2 s1 h1 => (hb.mono s1.g) H2 s1.gh _ fun w G3 H3 s2 h2 => hr G3 H3 v w s2.gh (rp_mono s2.g d v h1) h2 Q fun z G4 H4 s3 h3 => q z G4 H4 ((s1.trans s2).trans s3) h3
theorem es_nil : EvS tNil σ G [] := fun H e Q q => q [] G H (Stp.refl e) .nil
theorem es_cons (h : EvD ta σ G d) (hr : EvS tr σ G ds) : EvS (tCons ta tr) σ G (d :: ds) := fun H x Q q =>
  h H x _ fun v G2 H2 s1 h1 => (hr.mono s1.g) H2 s1.gh _ fun vs G3 H3 s2 h2 => q _ G3 H3 (s1.trans s2) (.cons (rp_mono s2.g d v h1) h2)
theorem ed_cb {r : List V → Hp → VK → Prop} (h : EvS tr σ G ds) (hr : RD r ds d) : EvD (tCB r tr) σ G d := fun H x Q q =>
  h H x _ fun vs G2 H2 s1 h1 => hr G2 H2 vs s1.gh h1 Q fun v G3 H3 s2 h2 => q v G3 H3 (s1.trans s2) h2
theorem ed_call {sp : Sp} {dvs : List V} {E : XK} (h : EvS tr σ G ds) (hr : ∀ Q' : VK, RD (fun vs H Q => sp (vs ++ dvs) H Q E) ds d) : EvD (tCall sp dvs E tr) σ G d := fun H x Q q =>
  h H x _ fun vs G2 H2 s1 h1 => hr (fun _ _ => True) G2 H2 vs s1.gh h1 Q fun v G3 H3 s2 h2 => q v G3 H3 (s1.trans s2) h2
theorem ed_tup (h : EvS tr σ G ds) (hl : ds.length ≤ 100000) : EvD (tTup tr) σ G (.tuple ds) := fun H x Q q =>
  h H x _ fun vs G2 H2 s1 h1 => ⟨sz_of (by rw [ra_len h1]; exact hl), fun p hp => q _ _ _ (s1.trans (Stp.new s1.gh hp)) (.tup (.inl upd_same) (ra_mono (Ex.new (fresh_back s1.gh hp)) ds vs h1))⟩
theorem ed_lst (h : EvS tr σ G ds) (hl : ds.length ≤ 100000) : EvD (tLst tr) σ G (.list ds) := fun H x Q q =>
  h H x _ fun vs G2 H2 s1 h1 => ⟨sz_of (by rw [ra_len h1]; exact hl), fun p hp => q _ _ _ (s1.trans (Stp.new s1.gh hp)) (.lst upd_same (ra_mono (Ex.new (fresh_back s1.gh hp)) ds vs h1))⟩
end
end Fw

namespace Fw
open PySem PySem.Spec PyProof.Rows L2 Evl
open TL (tl len_tl ext_tl tl_append tl_mk mk_tl)

/-! ### operators of several kinds at once -/
def rAddS : R2 := fun x y H Q => ∃ i j, x = .str i ∧ y = .str j ∧ i.length + j.length ≤ sizeLine ∧ Q (.str (i ++ j)) H
def rAddU (K : PySem.W.Frag) : R2 := fun x y H Q => (rI0 fun i j => .int (i + j)) x y H Q ∨ rAddS x y H Q ∨ rCat x y H Q ∨ rCatA K x y H Q
theorem op_addU {X : Cx} : OpR X (binaryOp .Add) (rAddU X.K) := op_add.or ((show OpR X (binaryOp .Add) rAddS from op_add_str).or (op_cat.or op_catA))
def rSlU (K : PySem.W.Frag) : V → Option Int → Option Int → Hp → VK → Prop := fun x lo hi H Q => rSlL K x lo hi H Q ∨ rSlA K x lo hi H Q ∨ rSlS x lo hi H Q
theorem sl_U {X : Cx} : SlR X (rSlU X.K) := sl_list.or (sl_tupA.or sl_str)
def rSign (neg : Bool) : R2 := fun x y H Q => ∃ (c : Nat) (z : Str), x = .str ⟨#[c]⟩ ∧ y = .str z ∧ Q (.bl (if neg then !decide (c ∈ z.cps.toList) else decide (c ∈ z.cps.toList))) H
def rInU (K : PySem.W.Frag) (neg : Bool) : R2 := fun x y H Q => rIn K neg x y H Q ∨ rSign neg x y H Q
theorem op_inU {X : Cx} : OpR X (compareOp .In) (rInU X.K false) := op_in_seq.or (show OpR X (compareOp .In) (rSign false) from fun pins s σ H x y v u Q I rx ry h => op_in_sign pins s σ H x y v u Q I rx ry (by
  obtain ⟨c, z, e1, e2, q⟩ := h
  exact ⟨c, z, e1, e2, q⟩))
theorem op_notInU {X : Cx} : OpR X (compareOp .NotIn) (rInU X.K true) := op_notIn_seq.or (show OpR X (compareOp .NotIn) (rSign true) from fun pins s σ H x y v u Q I rx ry h => op_notIn_sign pins s σ H x y v u Q I rx ry (by
  obtain ⟨c, z, e1, e2, q⟩ := h
  exact ⟨c, z, e1, e2, q⟩))
def rLenU (K : PySem.W.Frag) : List V → Hp → VK → Prop := fun xs H Q => ∃ x n, xs = [x] ∧ LenV K x H n ∧ Q (.int n) H
def rAbs : List V → Hp → VK → Prop := fun xs H Q => ∃ i, xs = [.int i] ∧ Q (.int (if i < 0 then -i else i)) H
def rInt1 : List V → Hp → VK → Prop := fun xs H Q => (∃ i, xs = [.int i] ∧ Q (.int i) H) ∨ ∃ k, xs = [.bl k] ∧ Q (.int (if k then 1 else 0)) H
def rMin2 : List V → Hp → VK → Prop := fun xs H Q => ∃ i j, xs = [.int i, .int j] ∧ Q (.int (if j < i then j else i)) H
def rListU (K : PySem.W.Frag) : List V → Hp → VK → Prop := fun xs H Q => ∃ p ys, xs = [.ref p] ∧ (SqL K H p ys ∨ SqT K H p ys) ∧ ∀ l, H l = none → Q (.ref l) (upd H l (.lst ys))
def rTupU (K : PySem.W.Frag) : List V → Hp → VK → Prop := fun xs H Q => ∃ p ys, xs = [.ref p] ∧ ((SqL K H p ys ∧ ∀ l, H l = none → Q (.ref l) (upd H l (.tup ys))) ∨ (SqT K H p ys ∧ Q (.ref p) H))
def rStrI : List V → Hp → VK → Prop := fun xs H Q => ∃ i, xs = [.int i] ∧ i.natAbs.log2 < 1920 ∧ Q (.str (toString i)) H
def rAll (K : PySem.W.Frag) : List V → Hp → VK → Prop := fun vs H Q => ∃ (a : Addr) (bs : List Bool), vs = [V.ref a] ∧ SqL K H a (bs.map V.bl) ∧ Q (.bl (bs.all id)) H
section
variable {X : Cx}
theorem c_len : CallR X (.builtin "len") (rLenU X.K) := call_len
theorem c_abs : CallR X (.builtin "abs") rAbs := call_abs
theorem c_int : CallR X (.type "int") rInt1 := call_int1
theorem c_max (hc : X.calm = true) : CallR X (.builtin "max") rMax2 := call_max2 hc
theorem c_min (hc : X.calm = true) : CallR X (.builtin "min") rMin2 := call_min2 hc
theorem c_list : CallR X (.type "list") (rListU X.K) := call_list_of
theorem c_tup : CallR X (.type "tuple") (rTupU X.K) := call_tuple_of
theorem c_str : CallR X (.type "str") rStrI := call_str_int
end
section
variable {K : PySem.W.Frag} {i j : Int} {x y : Str} {ds es : List PyData}
theorem r2_add : R2D (rAddU K) (.int i) (.int j) (.int (i + j)) := fun G H v w e hv hw Q q => .inl ⟨i, j, rp_int hv, rp_int hw, q _ G H (Stp.refl e) (.int _)⟩
theorem r2_adds (h : x.length + y.length ≤ sizeLine) : R2D (rAddU K) (.str x) (.str y) (.str (x ++ y)) := fun G H v w e hv hw Q q =>
  .inr (.inl ⟨x, y, rp_str hv, rp_str hw, h, q _ G H (Stp.refl e) (.str _)⟩)
theorem r2_addl (h : ds.length + es.length ≤ sizeLine) : R2D (rAddU K) (.list ds) (.list es) (.list (ds ++ es)) := fun G H v w e hv hw Q q => by
  obtain ⟨a, xs, rfl, h1, h2⟩ := rp_lst hv
  obtain ⟨b, ys, rfl, h3, h4⟩ := rp_lst hw
  refine .inr (.inr (.inl ⟨a, b, xs, ys, rfl, rfl, e _ _ h1, e _ _ h3, ?_, fun p hp => ?_⟩))
  · rw [ra_len h2, ra_len h4]
    exact h
  · exact q _ _ _ (Stp.new e hp) (.lst upd_same (ra_app (ra_mono (Ex.new (fresh_back e hp)) _ _ h2) (ra_mono (Ex.new (fresh_back e hp)) _ _ h4)))
theorem r2_addt (h : ds.length + es.length ≤ sizeLine) : R2D (rAddU K) (.tuple ds) (.tuple es) (.tuple (ds ++ es)) := fun G H v w e hv hw Q q => by
  obtain ⟨a, xs, rfl, h1, h2⟩ := rp_tup hv
  obtain ⟨b, ys, rfl, h3, h4⟩ := rp_tup hw
  refine .inr (.inr (.inr ⟨a, b, xs, ys, rfl, rfl, st_t (xt (e) h1), st_t (xt (e) h3), ?_, fun e0 => ?_, fun _ e0 => ?_, fun _ _ p hp => ?_⟩))
  · rw [ra_len h2, ra_len h4]
    exact h
  · subst e0
    cases h2
    exact q _ G H (Stp.refl e) (.tup h3 h4)
  · subst e0
    cases h4
    rw [List.append_nil] at q
    exact q _ G H (Stp.refl e) (.tup h1 h2)
  · exact q _ _ _ (Stp.new e hp) (.tup (.inl upd_same) (ra_app (ra_mono (Ex.new (fresh_back e hp)) _ _ h2) (ra_mono (Ex.new (fresh_back e hp)) _ _ h4)))
theorem r2_I0 {g : Int → Int → Int} : R2D (rI0 fun i j => .int (g i j)) (.int i) (.int j) (.int (g i j)) := fun G H v w e hv hw Q q => ⟨i, j, rp_int hv, rp_int hw, q _ G H (Stp.refl e) (.int _)⟩
theorem r2_B0 {g : Int → Int → Bool} : R2D (rI0 fun i j => .bl (g i j)) (.int i) (.int j) (.bool (g i j)) := fun G H v w e hv hw Q q => ⟨i, j, rp_int hv, rp_int hw, q _ G H (Stp.refl e) (.bl _)⟩
theorem r2_I {C : Int → Int → Prop} {g : Int → Int → Int} (hc : C i j) : R2D (rI C fun i j => .int (g i j)) (.int i) (.int j) (.int (g i j)) := fun G H v w e hv hw Q q => ⟨i, j, rp_int hv, rp_int hw, hc, q _ G H (Stp.refl e) (.int _)⟩
theorem r2_eq {d e : PyData} (hd : SeqAt.shaped d = true) (he : SeqAt.shaped e = true) : R2D (rEqD K) d e (.bool (PyData.eqv d e)) := fun G H v w x hv hw Q q =>
  ⟨d, e, rp_dp d v (rp_mono x d v hv), rp_dp e w (rp_mono x e w hw), hd, he, q _ G H (Stp.refl x) (.bl _)⟩
theorem r2_ne {d e : PyData} (hd : SeqAt.shaped d = true) (he : SeqAt.shaped e = true) : R2D (rNeD K) d e (.bool (!PyData.eqv d e)) := fun G H v w x hv hw Q q =>
  ⟨d, e, rp_dp d v (rp_mono x d v hv), rp_dp e w (rp_mono x e w hw), hd, he, q _ G H (Stp.refl x) (.bl _)⟩
/-- xs[i], t[i], s[i] -/
theorem r2_ixl {d : PyData} (h : atI ds i = some d) : R2D (rIx K) (.list ds) (.int i) d := fun G H v w e hv hw Q q => by
  obtain ⟨a, xs, rfl, h1, h2⟩ := rp_lst hv
  obtain ⟨k, hk, hd⟩ : ∃ k, ixN ds.length i = some k ∧ ds[k]? = some d := by
    unfold atI at h
    cases e : ixN ds.length i with
    | none => rw [e] at h; cases h
    | some k => rw [e] at h; exact ⟨k, rfl, h⟩
  obtain ⟨z, hz, rz⟩ := ra_get h2 hd
  refine .inl ⟨a, xs, i, z, rfl, rp_int hw, sq_of (e _ _ h1), ?_, q _ G H (Stp.refl e) rz⟩
  unfold atI
  rw [ra_len h2, hk]
  exact hz
theorem r2_ixt {d : PyData} (h : atI ds i = some d) : R2D (rIx K) (.tuple ds) (.int i) d := fun G H v w e hv hw Q q => by
  obtain ⟨a, xs, rfl, h1, h2⟩ := rp_tup hv
  obtain ⟨k, hk, hd⟩ : ∃ k, ixN ds.length i = some k ∧ ds[k]? = some d := by
    unfold atI at h
    cases e : ixN ds.length i with
    | none => rw [e] at h; cases h
    | some k => rw [e] at h; exact ⟨k, rfl, h⟩
  obtain ⟨z, hz, rz⟩ := ra_get h2 hd
  refine .inr (.inl ⟨a, xs, i, z, rfl, rp_int hw, st_t (xt (e) h1), ?_, q _ G H (Stp.refl e) rz⟩)
  unfold atI
  rw [ra_len h2, hk]
  exact hz
theorem r2_ixs {c : Nat} (hz : x.length ≤ sizeLine) (h : atI (tl x) i = some c) : R2D (rIx K) (.str x) (.int i) (.str ⟨#[c]⟩) := fun G H v w e hv hw Q q =>
  .inr (.inr ⟨x, i, c, rp_str hv, rp_int hw, hz, h, q _ G H (Stp.refl e) (.str _)⟩)
theorem r2_sign {c : Nat} : R2D (rInU K false) (.str ⟨#[c]⟩) (.str y) (.bool (decide (c ∈ tl y))) := fun G H v w e hv hw Q q =>
  .inr ⟨c, y, rp_str hv, rp_str hw, q _ G H (Stp.refl e) (.bl _)⟩
theorem r2_nsign {c : Nat} : R2D (rInU K true) (.str ⟨#[c]⟩) (.str y) (.bool (!decide (c ∈ tl y))) := fun G H v w e hv hw Q q =>
  .inr ⟨c, y, rp_str hv, rp_str hw, q _ G H (Stp.refl e) (.bl _)⟩
theorem inV_str (x : Str) (ys : List Str) : inV (.str x) (ys.map V.str) = decide (x ∈ ys) := by
  induction ys with
  | nil => rfl
  | cons y ys ih =>
    have e : inV (.str x) ((y :: ys).map V.str) = ((y == x) || inV (.str x) (ys.map V.str)) := rfl
    rw [e, ih]
    by_cases h : y = x
    · subst h
      simp
    · have h2 : ¬ x = y := fun z => h z.symm
      rw [show (y == x) = false from beq_eq_false_iff_ne.mpr h]
      simp [h2]
theorem inV_int (x : Int) (ys : List Int) : inV (.int x) (ys.map V.int) = decide (x ∈ ys) := by
  induction ys with
  | nil => rfl
  | cons y ys ih =>
    have e : inV (.int x) ((y :: ys).map V.int) = ((y == x) || inV (.int x) (ys.map V.int)) := rfl
    rw [e, ih]
    by_cases h : y = x
    · subst h
      simp
    · have h2 : ¬ x = y := fun z => h z.symm
      rw [show (y == x) = false from beq_eq_false_iff_ne.mpr h]
      simp [h2]
theorem flat_strs (ys : List Str) : (ys.map V.str).all flatV = true := by
  rw [List.all_eq_true]
  intro v hv
  obtain ⟨y, _, rfl⟩ := List.mem_map.mp hv
  rfl
theorem flat_ints (ys : List Int) : (ys.map V.int).all flatV = true := by
  rw [List.all_eq_true]
  intro v hv
  obtain ⟨y, _, rfl⟩ := List.mem_map.mp hv
  rfl
theorem r2_inl {ys : List Str} : R2D (rInU K false) (.str x) (.list (ys.map PyData.str)) (.bool (decide (x ∈ ys))) := fun G H v w e hv hw Q q => by
  obtain ⟨a, xs, rfl, h1, h2⟩ := rp_lst hw
  have ex := ra_str h2
  subst ex
  cases hv
  refine .inl ⟨a, _, rfl, .inl (sq_of (e _ _ h1)), rfl, flat_strs ys, ?_⟩
  rw [inV_str]
  exact q _ G H (Stp.refl e) (.bl _)
theorem r2_int {ys : List Str} : R2D (rInU K false) (.str x) (.tuple (ys.map PyData.str)) (.bool (decide (x ∈ ys))) := fun G H v w e hv hw Q q => by
  obtain ⟨a, xs, rfl, h1, h2⟩ := rp_tup hw
  have ex := ra_str h2
  subst ex
  cases hv
  refine .inl ⟨a, _, rfl, .inr (st_t (xt (e) h1)), rfl, flat_strs ys, ?_⟩
  rw [inV_str]
  exact q _ G H (Stp.refl e) (.bl _)
theorem r2_nint {ys : List Str} : R2D (rInU K true) (.str x) (.tuple (ys.map PyData.str)) (.bool (!decide (x ∈ ys))) := fun G H v w e hv hw Q q => by
  obtain ⟨a, xs, rfl, h1, h2⟩ := rp_tup hw
  have ex := ra_str h2
  subst ex
  cases hv
  refine .inl ⟨a, _, rfl, .inr (st_t (xt (e) h1)), rfl, flat_strs ys, ?_⟩
  rw [inV_str]
  exact q _ G H (Stp.refl e) (.bl _)
theorem r2_ninl {ys : List Str} : R2D (rInU K true) (.str x) (.list (ys.map PyData.str)) (.bool (!decide (x ∈ ys))) := fun G H v w e hv hw Q q => by
  obtain ⟨a, xs, rfl, h1, h2⟩ := rp_lst hw
  have ex := ra_str h2
  subst ex
  cases hv
  refine .inl ⟨a, _, rfl, .inl (sq_of (e _ _ h1)), rfl, flat_strs ys, ?_⟩
  rw [inV_str]
  exact q _ G H (Stp.refl e) (.bl _)
/-! calls of built-ins -/
theorem rd_lenl : RD (rLenU K) [.list ds] (.int ds.length) := fun G H vs e hv Q q => by
  cases hv with
  | cons h1 h2 =>
    cases h2
    obtain ⟨a, xs, rfl, h3, h4⟩ := rp_lst h1
    refine ⟨_, xs.length, rfl, .inl ⟨xs, sq_of (e _ _ h3), rfl⟩, ?_⟩
    rw [ra_len h4]
    exact q _ G H (Stp.refl e) (.int _)
theorem rd_lent : RD (rLenU K) [.tuple ds] (.int ds.length) := fun G H vs e hv Q q => by
  cases hv with
  | cons h1 h2 =>
    cases h2
    obtain ⟨a, xs, rfl, h3, h4⟩ := rp_tup h1
    refine ⟨_, xs.length, rfl, .inr ⟨xs, st_t (xt (e) h3), rfl⟩, ?_⟩
    rw [ra_len h4]
    exact q _ G H (Stp.refl e) (.int _)
theorem rd_lens (h : x.length ≤ sizeLine) : RD (rLenU K) [.str x] (.int x.length) := fun G H vs e hv Q q => by
  cases hv with
  | cons h1 h2 =>
    cases h2
    cases h1
    exact ⟨_, x.length, rfl, ⟨h, rfl⟩, q _ G H (Stp.refl e) (.int _)⟩
theorem rd_abs : RD rAbs [.int i] (.int (if i < 0 then -i else i)) := fun G H vs e hv Q q => by
  cases hv with
  | cons h1 h2 =>
    cases h2
    cases h1
    exact ⟨i, rfl, q _ G H (Stp.refl e) (.int _)⟩
theorem rd_int : RD rInt1 [.int i] (.int i) := fun G H vs e hv Q q => by
  cases hv with
  | cons h1 h2 =>
    cases h2
    cases h1
    exact .inl ⟨i, rfl, q _ G H (Stp.refl e) (.int _)⟩
theorem rd_intb {b : Bool} : RD rInt1 [.bool b] (.int (if b then 1 else 0)) := fun G H vs e hv Q q => by
  cases hv with
  | cons h1 h2 =>
    cases h2
    cases h1
    exact .inr ⟨b, rfl, q _ G H (Stp.refl e) (.int _)⟩
theorem rd_max : RD rMax2 [.int i, .int j] (.int (if j > i then j else i)) := fun G H vs e hv Q q => by
  cases hv with
  | cons h1 h2 =>
    cases h2 with
    | cons h2 h3 =>
      cases h3
      cases h1
      cases h2
      exact ⟨i, j, rfl, q _ G H (Stp.refl e) (.int _)⟩
theorem rd_min : RD rMin2 [.int i, .int j] (.int (if j < i then j else i)) := fun G H vs e hv Q q => by
  cases hv with
  | cons h1 h2 =>
    cases h2 with
    | cons h2 h3 =>
      cases h3
      cases h1
      cases h2
      exact ⟨i, j, rfl, q _ G H (Stp.refl e) (.int _)⟩
theorem rd_str (h : i.natAbs.log2 < 1920) : RD rStrI [.int i] (.str (toString i)) := fun G H vs e hv Q q => by
  cases hv with
  | cons h1 h2 =>
    cases h2
    cases h1
    exact ⟨i, rfl, h, q _ G H (Stp.refl e) (.str _)⟩
theorem rd_listl : RD (rListU K) [.list ds] (.list ds) := fun G H vs e hv Q q => by
  cases hv with
  | cons h1 h2 =>
    cases h2
    obtain ⟨a, xs, rfl, h3, h4⟩ := rp_lst h1
    exact ⟨a, xs, rfl, .inl (sq_of (e _ _ h3)), fun p hp => q _ _ _ (Stp.new e hp) (.lst upd_same (ra_mono (Ex.new (fresh_back e hp)) _ _ h4))⟩
theorem rd_listt : RD (rListU K) [.tuple ds] (.list ds) := fun G H vs e hv Q q => by
  cases hv with
  | cons h1 h2 =>
    cases h2
    obtain ⟨a, xs, rfl, h3, h4⟩ := rp_tup h1
    exact ⟨a, xs, rfl, .inr (st_t (xt (e) h3)), fun p hp => q _ _ _ (Stp.new e hp) (.lst upd_same (ra_mono (Ex.new (fresh_back e hp)) _ _ h4))⟩
theorem rd_tupl : RD (rTupU K) [.list ds] (.tuple ds) := fun G H vs e hv Q q => by
  cases hv with
  | cons h1 h2 =>
    cases h2
    obtain ⟨a, xs, rfl, h3, h4⟩ := rp_lst h1
    exact ⟨a, xs, rfl, .inl ⟨sq_of (e _ _ h3), fun p hp => q _ _ _ (Stp.new e hp) (.tup (.inl upd_same) (ra_mono (Ex.new (fresh_back e hp)) _ _ h4))⟩⟩
theorem rd_tupt : RD (rTupU K) [.tuple ds] (.tuple ds) := fun G H vs e hv Q q => by
  cases hv with
  | cons h1 h2 =>
    cases h2
    obtain ⟨a, xs, rfl, h3, h4⟩ := rp_tup h1
    exact ⟨a, xs, rfl, .inr ⟨st_t (xt (e) h3), q _ G H (Stp.refl e) (.tup h3 h4)⟩⟩
theorem ra_bl {G : Hp} : ∀ {ns : List Bool} {vs : List V}, RpAll G vs (ns.map PyData.bool) → vs = ns.map V.bl
  | [], _, h => by cases h; rfl
  | n :: ns, _, h => by
    cases h with
    | cons h1 h2 => rw [rp_bl h1, ra_bl h2]; rfl
theorem rd_all {bs : List Bool} : RD (rAll K) [.list (bs.map PyData.bool)] (.bool (bs.all id)) := fun G H vs e hv Q q => by
  cases hv with
  | cons h1 h2 =>
    cases h2
    obtain ⟨a, xs, rfl, h3, h4⟩ := rp_lst h1
    have ex := ra_bl h4
    subst ex
    exact ⟨a, bs, rfl, sq_of (e _ _ h3), q _ G H (Stp.refl e) (.bl _)⟩
end
/-! ### slices -/
def cutD (ds : List PyData) (lo hi : Option Int) : List PyData := (ds.drop (HT.sIx ds.length 0 lo)).take (HT.sIx ds.length ds.length hi - HT.sIx ds.length 0 lo)
theorem ra_cut {G : Hp} {xs : List V} {ds : List PyData} (h : RpAll G xs ds) (lo hi : Option Int) : RpAll G (cutV xs lo hi) (cutD ds lo hi) := by
  unfold cutV cutD
  rw [ra_len h]
  exact ra_take _ (ra_drop _ h)
section
variable {K : PySem.W.Frag} {σ : L2.St} {G H : Hp} {te ta tb : TE} {t1 t2 : TO} {ds : List PyData} {lo hi : Option Int} {i : Int} {d : PyData} {b c : Bool} {t u : TT}
/-- a bound of a slice -/
def EvB (to : TO) (σ : L2.St) (G : Hp) (o : Option Int) : Prop := ∀ H, Ex G H → ∀ Q : Option Int → Hp → Prop, (∀ G2 H2, Stp G H G2 H2 → Q o H2) → to σ H Q
theorem EvB.mono {G' : Hp} {to : TO} {o : Option Int} (x : Ex G G') (h : EvB to σ G o) : EvB to σ G' o := fun H e Q q =>
  h H (x.trans e) Q fun G2 H2 s => q _ H2 (s.up x e).1
theorem eb_none : EvB tNoPart σ G none := fun H e Q q => q G H (Stp.refl e)
theorem eb_some (h : EvD te σ G (.int i)) : EvB (tPart te) σ G (some i) := fun H e Q q => h H e _ fun v G2 H2 s hv => ⟨i, rp_int hv, q G2 H2 s⟩
theorem ed_sll (h : EvD te σ G (.list ds)) (h1 : EvB t1 σ G lo) (h2 : EvB t2 σ G hi) : EvD (tSl (rSlU K) te t1 t2) σ G (.list (cutD ds lo hi)) := fun H e Q q =>
  h H e _ fun v G2 H2 s1 hv => (h1.mono s1.g) H2 s1.gh _ fun G3 H3 s2 => (h2.mono (s1.trans s2).g) H3 s2.gh _ fun G4 H4 s3 => by
    obtain ⟨a, xs, rfl, h3, h4⟩ := rp_lst hv
    have S := (s1.trans s2).trans s3
    have e2 : Ex G2 G4 := (s2.trans s3).g
    exact .inl ⟨a, xs, rfl, sq_of (S.gh _ _ (e2 _ _ h3)), fun p hp => q _ _ _ (S.trans (Stp.new S.gh hp)) (.lst upd_same (ra_cut (ra_mono (e2.trans (Ex.new (fresh_back S.gh hp))) _ _ h4) lo hi))⟩
theorem cut_whole {α : Type} {l : List α} {lo hi : Option Int} (h : HT.sIx l.length 0 lo = 0 ∧ HT.sIx l.length l.length hi = l.length) : (l.drop (HT.sIx l.length 0 lo)).take (HT.sIx l.length l.length hi - HT.sIx l.length 0 lo) = l := by
  rw [h.1, h.2]
  simp
theorem ed_slt (h : EvD te σ G (.tuple ds)) (h1 : EvB t1 σ G lo) (h2 : EvB t2 σ G hi) : EvD (tSl (rSlU K) te t1 t2) σ G (.tuple (cutD ds lo hi)) := fun H e Q q =>
  h H e _ fun v G2 H2 s1 hv => (h1.mono s1.g) H2 s1.gh _ fun G3 H3 s2 => (h2.mono (s1.trans s2).g) H3 s2.gh _ fun G4 H4 s3 => by
    obtain ⟨a, xs, rfl, h3, h4⟩ := rp_tup hv
    have S := (s1.trans s2).trans s3
    have e2 : Ex G2 G4 := (s2.trans s3).g
    refine .inr (.inl ⟨a, xs, rfl, st_t (xt S.gh (xt e2 h3)), fun hw => ?_, fun _ p hp => q _ _ _ (S.trans (Stp.new S.gh hp)) (.tup (.inl upd_same) (ra_cut (ra_mono (e2.trans (Ex.new (fresh_back S.gh hp))) _ _ h4) lo hi))⟩)
    rw [ra_len h4] at hw
    have ed : cutD ds lo hi = ds := cut_whole hw
    refine q _ G4 H4 S ?_
    rw [ed]
    exact .tup (xt e2 h3) (ra_mono e2 _ _ h4)
theorem ed_sls {x : Str} (h : EvD te σ G (.str x)) (h1 : EvB t1 σ G lo) (h2 : EvB t2 σ G hi) (hz : x.length ≤ sizeLine) : EvD (tSl (rSlU K) te t1 t2) σ G (.str (cutS x lo hi)) := fun H e Q q =>
  h H e _ fun v G2 H2 s1 hv => (h1.mono s1.g) H2 s1.gh _ fun G3 H3 s2 => (h2.mono (s1.trans s2).g) H3 s2.gh _ fun G4 H4 s3 =>
    .inr (.inr ⟨x, rp_str hv, hz, q _ G4 H4 ((s1.trans s2).trans s3) (.str _)⟩)
/-! ### tests, and, or, not, if else -/
def EvC (t : TT) (σ : L2.St) (G : Hp) (b : Bool) : Prop := ∀ H, Ex G H → ∀ Q : Bool → Hp → Prop, (∀ G2 H2, Stp G H G2 H2 → Q b H2) → t σ H Q
theorem EvC.mono {G' : Hp} (x : Ex G G') (h : EvC t σ G b) : EvC t σ G' b := fun H e Q q => h H (x.trans e) Q fun G2 H2 s => q _ H2 (s.up x e).1
theorem EvC.is (h : EvC t σ G b) (e : b = c) : EvC t σ G c := e ▸ h
theorem et_cmp (h : EvD te σ G (.bool b)) : EvC (tTest te) σ G b := fun H e Q q => h H e _ fun v G2 H2 s hv => ⟨b, rp_bl hv, q G2 H2 s⟩
theorem et_val (h : EvD te σ G (.bool b)) : EvC (tB te) σ G b := fun H e Q q => h H e _ fun v G2 H2 s hv => ⟨b, rp_bl hv, q G2 H2 s⟩
theorem et_not (h : EvC t σ G b) : EvC (tNot t) σ G (!b) := fun H e Q q => h H e _ fun G2 H2 s => q G2 H2 s
theorem et_and (h1 : EvC t σ G b) (h2 : b = true → EvC u σ G c) : EvC (tAnd t u) σ G (b && c) := fun H e Q q => h1 H e _ fun G2 H2 s => by
  cases b with
  | true => exact iteT (((h2 rfl).mono s.g) H2 s.gh _ fun G3 H3 s2 => q G3 H3 (s.trans s2))
  | false => exact iteF (q G2 H2 s)
theorem et_or (h1 : EvC t σ G b) (h2 : b = false → EvC u σ G c) : EvC (tOr t u) σ G (b || c) := fun H e Q q => h1 H e _ fun G2 H2 s => by
  cases b with
  | true => exact iteT (q G2 H2 s)
  | false => exact iteF (((h2 rfl).mono s.g) H2 s.gh _ fun G3 H3 s2 => q G3 H3 (s.trans s2))
theorem ed_and (h1 : EvD ta σ G (.bool b)) (h2 : b = true → EvD tb σ G (.bool c)) : EvD (tAndV ta tb) σ G (.bool (b && c)) := fun H e Q q => h1 H e _ fun v G2 H2 s hv => ⟨b, rp_bl hv, by
  cases b with
  | true => exact iteT (((h2 rfl).mono s.g) H2 s.gh _ fun v G3 H3 s2 h3 => q v G3 H3 (s.trans s2) h3)
  | false => exact iteF (q _ G2 H2 s (.bl _))⟩
theorem ed_or (h1 : EvD ta σ G (.bool b)) (h2 : b = false → EvD tb σ G (.bool c)) : EvD (tOrV ta tb) σ G (.bool (b || c)) := fun H e Q q => h1 H e _ fun v G2 H2 s hv => ⟨b, rp_bl hv, by
  cases b with
  | true => exact iteT (q _ G2 H2 s (.bl _))
  | false => exact iteF (((h2 rfl).mono s.g) H2 s.gh _ fun v G3 H3 s2 h3 => q v G3 H3 (s.trans s2) h3)⟩
theorem ed_notV (h : EvD ta σ G (.bool b)) : EvD (tNotV ta) σ G (.bool (!b)) := fun H e Q q => h H e _ fun v G2 H2 s hv => ⟨b, rp_bl hv, q _ G2 H2 s (.bl _)⟩
theorem ed_if (h : EvC t σ G b) (h1 : b = true → EvD ta σ G d) (h2 : b = false → EvD tb σ G d) : EvD (tIf t ta tb) σ G d := fun H e Q q => h H e _ fun G2 H2 s => by
  cases b with
  | true => exact iteT (((h1 rfl).mono s.g) H2 s.gh _ fun v G3 H3 s2 h3 => q v G3 H3 (s.trans s2) h3)
  | false => exact iteF (((h2 rfl).mono s.g) H2 s.gh _ fun v G3 H3 s2 h3 => q v G3 H3 (s.trans s2) h3)
theorem ed_neg (h : EvD te σ G (.int i)) : EvD (tUn (rU fun i => .int (-i)) te) σ G (.int (-i)) := fun H e Q q => h H e _ fun v G2 H2 s hv => ⟨i, rp_int hv, q _ G2 H2 s (.int _)⟩
theorem ed_chain {r r' : R2} {tc : TE} {x y z : PyData} (ha : EvD ta σ G x) (hb : EvD tb σ G y) (hc : EvD tc σ G z) (h1 : R2D r x y (.bool b)) (h2 : R2D r' y z (.bool c)) : EvD (tChain r r' ta tb tc) σ G (.bool (b && c)) := fun H e Q q =>
  ha H e _ fun v G2 H2 s1 hv => (hb.mono s1.g) H2 s1.gh _ fun w G3 H3 s2 hw => h1 G3 H3 v w s2.gh (rp_mono s2.g _ _ hv) hw _ fun k G4 H4 s3 hk => ⟨b, rp_bl hk, by
    have S := (s1.trans s2).trans s3
    cases b with
    | true => exact iteT ((hc.mono S.g) H4 S.gh _ fun u G5 H5 s4 hu => h2 G5 H5 w u s4.gh (rp_mono (s3.trans s4).g _ _ hw) hu _ fun m G6 H6 s5 hm => q m G6 H6 ((S.trans s4).trans s5) (by simpa using hm))
    | false => exact iteF (q _ G4 H4 S (.bl _))⟩
end
end Fw

namespace Fw
open PySem PySem.Spec PyProof.Rows L2 Evl
open TL (tl len_tl ext_tl tl_append tl_mk mk_tl)

/-! ### reading while lists of one's own stand open -/
def flatD : PyData → Bool
  | .none => true
  | .bool _ => true
  | .int _ => true
  | .str _ => true
  | _ => false
theorem rp_flat {G H : Hp} {v : V} {d : PyData} (hf : flatD d = true) (h : Rp G v d) : Rp H v d := by
  cases h with
  | non => exact .non
  | bl b => exact .bl b
  | int i => exact .int i
  | str x => exact .str x
  | lst => cases hf
  | tup => cases hf
def EvH (te : TE) (σ : L2.St) (G H : Hp) (d : PyData) : Prop := ∀ Q : VK, (∀ v G2 H2, Stp G H G2 H2 → Rp G2 v d → Q v H2) → te σ H Q
def EvCH (t : TT) (σ : L2.St) (G H : Hp) (b : Bool) : Prop := ∀ Q : Bool → Hp → Prop, (∀ G2 H2, Stp G H G2 H2 → Q b H2) → t σ H Q
section
variable {K : PySem.W.Frag} {σ : L2.St} {G G' H : Hp} {te ta tb : TE} {t tt : TT} {d : PyData} {b : Bool}
theorem EvD.at (h : EvD te σ G d) (e : Ex G H) : EvH te σ G H d := fun Q q => h H e Q q
theorem EvC.at (h : EvC t σ G b) (e : Ex G H) : EvCH t σ G H b := fun Q q => h H e Q q
theorem ev_at (e : Ex G H) (h : EvD te σ G d) : EvH te σ G H d := fun Q q => h H e Q q
theorem ec_at (e : Ex G H) (h : EvC t σ G b) : EvCH t σ G H b := fun Q q => h H e Q q
/-- from a greater still part down -/
theorem Stp.down {G2 H2 : Hp} (e : Ex G G') (e2 : Ex G' H) (s : Stp G' H G2 H2) : Stp G H (Fw.up G H G2) H2 := by
  have e3 : Ex G H := e.trans e2
  refine ⟨fun a o h => ?_, fun a o h => ?_, s.h, fun a o h => up_some h⟩
  · rw [up_some (e3 a o h)]
    exact h
  · cases hh : H a with
    | none =>
      rw [up_none hh] at h
      exact s.gh a o h
    | some u =>
      rw [up_some hh] at h
      exact s.h a o (e3 a o h)
theorem EvH.down (e : Ex G G') (e2 : Ex G' H) (hf : flatD d = true) (h : EvH te σ G' H d) : EvH te σ G H d := fun Q q =>
  h Q fun v G2 H2 s hv => q v _ H2 (s.down e e2) (rp_flat hf hv)
theorem EvCH.down (e : Ex G G') (e2 : Ex G' H) (h : EvCH t σ G' H b) : EvCH t σ G H b := fun Q q => h Q fun G2 H2 s => q _ H2 (s.down e e2)
/-- an own list, made still -/
theorem frz {p : Addr} {xs : List V} {ds : List PyData} (e : Ex G H) (h : H p = some (.lst xs)) (g : G p = none) (r : RpAll G xs ds) :
    Ex G (upd G p (.lst xs)) ∧ Ex (upd G p (.lst xs)) H ∧ Rp (upd G p (.lst xs)) (.ref p) (.list ds) := by
  refine ⟨Ex.new g, fun a o q => ?_, .lst upd_same (ra_mono (Ex.new g) _ _ r)⟩
  by_cases hp : a = p
  · subst hp
    rw [upd_same] at q
    rw [h]
    exact q
  · rw [upd_ne hp] at q
    exact e a o q
/-! ### statements -/
variable {D : Ends} {tu tw tz : TS} {g : TG}
theorem w_set {i : Nat} (h : EvH te σ G H d) (k : ∀ v G2 H2, Stp G H G2 H2 → Rp G2 v d → tz D (σ.set i (some v)) H2) : tSeq (tAsg te (gName i)) tz D σ H := h _ fun v G2 H2 s hv => k v G2 H2 s hv
theorem w_set1 {i : Nat} (h : EvH te σ G H d) (k : ∀ v G2 H2, Stp G H G2 H2 → Rp G2 v d → D.nx (σ.set i (some v)) H2) : tAsg te (gName i) D σ H := h _ fun v G2 H2 s hv => k v G2 H2 s hv
theorem w_ret (h : EvH te σ G H d) (k : ∀ v G2 H2, Stp G H G2 H2 → Rp G2 v d → D.rt v H2) : tRet te D σ H := h _ fun v G2 H2 s hv => k v G2 H2 s hv
theorem w_drop (h : EvH te σ G H d) (k : ∀ v G2 H2, Stp G H G2 H2 → Rp G2 v d → tz D σ H2) : tSeq (tDrop te) tz D σ H := h _ fun v G2 H2 s hv => k v G2 H2 s hv
theorem w_if (h : EvCH t σ G H b) (h1 : b = true → ∀ G2 H2, Stp G H G2 H2 → tu { D with nx := tz D } σ H2) (h2 : b = false → ∀ G2 H2, Stp G H G2 H2 → tw { D with nx := tz D } σ H2) : tSeq (tIfS t tu tw) tz D σ H := h _ fun G2 H2 s => by
  cases b with
  | true => exact iteT (h1 rfl G2 H2 s)
  | false => exact iteF (h2 rfl G2 H2 s)
theorem w_if1 (h : EvCH t σ G H b) (h1 : b = true → ∀ G2 H2, Stp G H G2 H2 → tu D σ H2) (h2 : b = false → ∀ G2 H2, Stp G H G2 H2 → tw D σ H2) : tIfS t tu tw D σ H := h _ fun G2 H2 s => by
  cases b with
  | true => exact iteT (h1 rfl G2 H2 s)
  | false => exact iteF (h2 rfl G2 H2 s)
/-- an if without else -/
theorem w_when (h : EvCH t σ G H b) (h1 : b = true → ∀ G2 H2, Stp G H G2 H2 → tu { D with nx := tz D } σ H2) (h2 : b = false → ∀ G2 H2, Stp G H G2 H2 → tz D σ H2) : tSeq (tIfS t tu tNext) tz D σ H := w_if h h1 h2
/-- a new list of one's own -/
theorem w_new {i : Nat} (k : ∀ p, H p = none → tz D (σ.set i (some (.ref p))) (upd H p (.lst []))) : tSeq (tAsg (tLst tNil) (gName i)) tz D σ H :=
  ⟨Nat.zero_le _, fun p hp => k p hp⟩
theorem ex_own {p : Addr} {o : HO} (e : Ex G H) (h : H p = none) : Ex G (upd H p o) ∧ G p = none := ⟨e.trans (Ex.new h), fresh_back e h⟩
/-- l.append(e), l a list of one's own -/
theorem w_app {j : Nat} {p : Addr} {xs : List V} (hs : σ[j]? = some (some (.ref p))) (hp : H p = some (.lst xs)) (gp : G p = none) (h : EvH te σ G H d) (hz : xs.length < 100000)
    (k : ∀ v G2 H2, Stp G H G2 H2 → Rp G2 v d → G2 p = none → Ex G2 (upd H2 p (.lst (xs ++ [v]))) → tz D σ (upd H2 p (.lst (xs ++ [v])))) :
    tSeq (tDrop (tBM K "list" rAppend (tVar j) (tCons te tNil))) tz D σ H :=
  ⟨.ref p, hs, Or.inl ⟨rfl, xs, sq_of hp⟩, h _ fun v G2 H2 s hv => ⟨p, xs, v, rfl, rfl, s.h _ _ hp, sz_lt hz, k v G2 H2 s hv (s.none hp gp) (Ex.mut s.gh (s.none hp gp))⟩⟩
theorem w_app1 {j : Nat} {p : Addr} {xs : List V} (hs : σ[j]? = some (some (.ref p))) (hp : H p = some (.lst xs)) (gp : G p = none) (h : EvH te σ G H d) (hz : xs.length < 100000)
    (k : ∀ v G2 H2, Stp G H G2 H2 → Rp G2 v d → G2 p = none → Ex G2 (upd H2 p (.lst (xs ++ [v]))) → D.nx σ (upd H2 p (.lst (xs ++ [v])))) :
    tDrop (tBM K "list" rAppend (tVar j) (tCons te tNil)) D σ H := w_app (tz := tNext) hs hp gp h hz k
/-! ### targets of several names -/
theorem ra_two {G : Hp} {vs : List V} {d e : PyData} (h : RpAll G vs [d, e]) : ∃ v w, vs = [v, w] ∧ Rp G v d ∧ Rp G w e := by
  cases h with
  | cons h1 h2 =>
    cases h2 with
    | cons h2 h3 =>
      cases h3
      exact ⟨_, _, rfl, h1, h2⟩
theorem ra_three {G : Hp} {vs : List V} {d e f : PyData} (h : RpAll G vs [d, e, f]) : ∃ v w x, vs = [v, w, x] ∧ Rp G v d ∧ Rp G w e ∧ Rp G x f := by
  cases h with
  | cons h1 h2 =>
    obtain ⟨w, x, rfl, h3, h4⟩ := ra_two h2
    exact ⟨_, w, x, rfl, h1, h3, h4⟩
theorem ra_five {G : Hp} {vs : List V} {d1 d2 d3 d4 d5 : PyData} (h : RpAll G vs [d1, d2, d3, d4, d5]) : ∃ v1 v2 v3 v4 v5, vs = [v1, v2, v3, v4, v5] ∧ Rp G v1 d1 ∧ Rp G v2 d2 ∧ Rp G v3 d3 ∧ Rp G v4 d4 ∧ Rp G v5 d5 := by
  cases h with
  | cons h1 h2 =>
    cases h2 with
    | cons h2 h3 =>
      obtain ⟨x, y, z, rfl, h4, h5, h6⟩ := ra_three h3
      exact ⟨_, _, x, y, z, rfl, h1, h2, h4, h5, h6⟩
theorem g_two {j1 j2 : Nat} {v : V} {d1 d2 : PyData} {Q : L2.St → Hp → Prop} (e : Ex G H) (h : Rp G v (.tuple [d1, d2])) (k : ∀ v1 v2, Rp G v1 d1 → Rp G v2 d2 → Q ((σ.set j1 (some v1)).set j2 (some v2)) H) : gTup K 2 (gCons (gName j1) (gCons (gName j2) gNil)) v σ H Q := by
  obtain ⟨a, xs, rfl, h1, h2⟩ := rp_tup h
  obtain ⟨v1, v2, rfl, r1, r2⟩ := ra_two h2
  exact ⟨a, _, rfl, st_t (xt (e) h1), rfl, v1, _, rfl, v2, _, rfl, rfl, k v1 v2 r1 r2⟩
theorem g_three {j1 j2 j3 : Nat} {v : V} {d1 d2 d3 : PyData} {Q : L2.St → Hp → Prop} (e : Ex G H) (h : Rp G v (.tuple [d1, d2, d3])) (k : ∀ v1 v2 v3, Rp G v1 d1 → Rp G v2 d2 → Rp G v3 d3 → Q (((σ.set j1 (some v1)).set j2 (some v2)).set j3 (some v3)) H) : gTup K 3 (gCons (gName j1) (gCons (gName j2) (gCons (gName j3) gNil))) v σ H Q := by
  obtain ⟨a, xs, rfl, h1, h2⟩ := rp_tup h
  obtain ⟨v1, v2, v3, rfl, r1, r2, r3⟩ := ra_three h2
  exact ⟨a, _, rfl, st_t (xt (e) h1), rfl, v1, _, rfl, v2, _, rfl, v3, _, rfl, rfl, k v1 v2 v3 r1 r2 r3⟩
theorem g_five {j1 j2 j3 j4 j5 : Nat} {v : V} {d1 d2 d3 d4 d5 : PyData} {Q : L2.St → Hp → Prop} (e : Ex G H) (h : Rp G v (.tuple [d1, d2, d3, d4, d5]))
    (k : ∀ v1 v2 v3 v4 v5, Rp G v1 d1 → Rp G v2 d2 → Rp G v3 d3 → Rp G v4 d4 → Rp G v5 d5 → Q (((((σ.set j1 (some v1)).set j2 (some v2)).set j3 (some v3)).set j4 (some v4)).set j5 (some v5)) H) :
    gTup K 5 (gCons (gName j1) (gCons (gName j2) (gCons (gName j3) (gCons (gName j4) (gCons (gName j5) gNil))))) v σ H Q := by
  obtain ⟨a, xs, rfl, h1, h2⟩ := rp_tup h
  obtain ⟨v1, v2, v3, v4, v5, rfl, r1, r2, r3, r4, r5⟩ := ra_five h2
  exact ⟨a, _, rfl, st_t (xt (e) h1), rfl, v1, _, rfl, v2, _, rfl, v3, _, rfl, v4, _, rfl, v5, _, rfl, rfl, k v1 v2 v3 v4 v5 r1 r2 r3 r4 r5⟩
/-! ### loops -/
theorem ra_get1 {G : Hp} {vs : List V} {i : Int} (hv : RpAll G vs [.int i]) : vs = [.int i] := by
  cases hv with
  | cons a b =>
    cases b
    rw [rp_int a]
theorem ra_get2 {G : Hp} {vs : List V} {i j : Int} (hv : RpAll G vs [.int i, .int j]) : vs = [.int i, .int j] := by
  obtain ⟨v, w, rfl, a, b⟩ := ra_two hv
  rw [rp_int a, rp_int b]
theorem w_forR {ta : TA} {j : Nat} {n : Int} (h : EvS ta σ G [.int n]) (e : Ex G H) (hn : -100000 ≤ n ∧ n ≤ 100000) (Pv : Nat → L2.St → Hp → Prop) (h0 : ∀ G2 H2, Stp G H G2 H2 → Pv 0 σ H2)
    (hs : ∀ (i : Nat) σ' H', (i : Int) < n → Pv i σ' H' → tu { D with nx := Pv (i + 1), ct := Pv (i + 1), bk := tz D } (σ'.set j (some (.int (i : Int)))) H') (hd : ∀ σ' H', Pv n.toNat σ' H' → tz D σ' H') : tSeq (tFor (iRng1 ta) (gName j) tu) tz D σ H :=
  h H e _ fun vs G2 H2 s hv => ⟨n, ra_get1 hv, by omega, by omega, for_range (lo := 0) (n := n.toNat) Pv (h0 G2 H2 s) (fun i σ' H' hi p => by
        have e0 : (0 : Int) + (i : Int) = (i : Int) := Int.zero_add _
        show tu { D with nx := Pv (i + 1), ct := Pv (i + 1), bk := tz D } (σ'.set j (some (.int ((0 : Int) + (i : Int))))) H'
        rw [e0]
        exact hs i σ' H' (by omega) p) hd⟩
theorem w_forR1 {ta : TA} {j : Nat} {n : Int} (h : EvS ta σ G [.int n]) (e : Ex G H) (hn : -100000 ≤ n ∧ n ≤ 100000) (Pv : Nat → L2.St → Hp → Prop) (h0 : ∀ G2 H2, Stp G H G2 H2 → Pv 0 σ H2)
    (hs : ∀ (i : Nat) σ' H', (i : Int) < n → Pv i σ' H' → tu { D with nx := Pv (i + 1), ct := Pv (i + 1), bk := D.nx } (σ'.set j (some (.int (i : Int)))) H') (hd : ∀ σ' H', Pv n.toNat σ' H' → D.nx σ' H') : tFor (iRng1 ta) (gName j) tu D σ H := w_forR (tz := tNext) h e hn Pv h0 hs hd
theorem w_forR2 {ta : TA} {j : Nat} {lo n : Int} (h : EvS ta σ G [.int lo, .int n]) (e : Ex G H) (hl : -100000 ≤ lo ∧ lo ≤ 100000) (hn : -100000 ≤ n ∧ n ≤ 100000) (Pv : Nat → L2.St → Hp → Prop) (h0 : ∀ G2 H2, Stp G H G2 H2 → Pv 0 σ H2)
    (hs : ∀ (i : Nat) σ' H', lo + (i : Int) < n → Pv i σ' H' → tu { D with nx := Pv (i + 1), ct := Pv (i + 1), bk := tz D } (σ'.set j (some (.int (lo + (i : Int))))) H') (hd : ∀ σ' H', Pv (n - lo).toNat σ' H' → tz D σ' H') : tSeq (tFor (iRng2 ta) (gName j) tu) tz D σ H :=
  h H e _ fun vs G2 H2 s hv => ⟨lo, n, ra_get2 hv, ⟨by omega, by omega, by omega, by omega⟩, for_range (lo := lo) (n := (n - lo).toNat) Pv (h0 G2 H2 s) (fun i σ' H' hi p => hs i σ' H' (by omega) p) hd⟩
theorem w_forR21 {ta : TA} {j : Nat} {lo n : Int} (h : EvS ta σ G [.int lo, .int n]) (e : Ex G H) (hl : -100000 ≤ lo ∧ lo ≤ 100000) (hn : -100000 ≤ n ∧ n ≤ 100000) (Pv : Nat → L2.St → Hp → Prop) (h0 : ∀ G2 H2, Stp G H G2 H2 → Pv 0 σ H2)
    (hs : ∀ (i : Nat) σ' H', lo + (i : Int) < n → Pv i σ' H' → tu { D with nx := Pv (i + 1), ct := Pv (i + 1), bk := D.nx } (σ'.set j (some (.int (lo + (i : Int))))) H') (hd : ∀ σ' H', Pv (n - lo).toNat σ' H' → D.nx σ' H') : tFor (iRng2 ta) (gName j) tu D σ H := w_forR2 (tz := tNext) h e hl hn Pv h0 hs hd
/-- over a list of data -/
theorem w_forL {α : Type} {tl : TE} {as : List α} {f : α → PyData} (h : EvD tl σ G (.list (as.map f))) (e : Ex G H) (Pv : Hp → Nat → L2.St → Hp → Prop) (h0 : ∀ G2 H2, Stp G H G2 H2 → Pv G2 0 σ H2) (hl : ∀ G2 i σ' H', Pv G2 i σ' H' → Ex G2 H')
    (hs : ∀ G2 i a v σ' H', Ex G G2 → as[i]? = some a → Rp G2 v (f a) → Pv G2 i σ' H' → g v σ' H' fun σ2 H2 => tu { D with nx := Pv G2 (i + 1), ct := Pv G2 (i + 1), bk := tz D } σ2 H2) (hd : ∀ G2 σ' H', Ex G G2 → Pv G2 as.length σ' H' → tz D σ' H') : tSeq (tFor (iList K tl) g tu) tz D σ H :=
  h H e _ fun v G2 H2 s hv => by
    obtain ⟨a, xs, rfl, h1, h2⟩ := rp_lst hv
    have lx : xs.length = as.length := (ra_len h2).trans (List.length_map _)
    refine ⟨a, rfl, ⟨xs, sq_of (s.gh _ _ h1)⟩, for_list (xs := xs) (Pv G2) (h0 G2 H2 s) (fun i σ' H' _ p => sq_of (hl G2 i σ' H' p _ _ h1)) (fun i x σ' H' hx p => ?_) (fun σ' H' p => hd G2 σ' H' s.g (lx ▸ p))⟩
    obtain ⟨d, hd2, hr⟩ := ra_get' h2 hx
    rw [List.getElem?_map] at hd2
    cases ha : as[i]? with
    | none => rw [ha] at hd2; cases hd2
    | some b =>
      rw [ha] at hd2
      cases hd2
      exact hs G2 i b x σ' H' s.g ha hr p
theorem w_forL1 {α : Type} {tl : TE} {as : List α} {f : α → PyData} (h : EvD tl σ G (.list (as.map f))) (e : Ex G H) (Pv : Hp → Nat → L2.St → Hp → Prop) (h0 : ∀ G2 H2, Stp G H G2 H2 → Pv G2 0 σ H2) (hl : ∀ G2 i σ' H', Pv G2 i σ' H' → Ex G2 H')
    (hs : ∀ G2 i a v σ' H', Ex G G2 → as[i]? = some a → Rp G2 v (f a) → Pv G2 i σ' H' → g v σ' H' fun σ2 H2 => tu { D with nx := Pv G2 (i + 1), ct := Pv G2 (i + 1), bk := D.nx } σ2 H2) (hd : ∀ G2 σ' H', Ex G G2 → Pv G2 as.length σ' H' → D.nx σ' H') : tFor (iList K tl) g tu D σ H := w_forL (tz := tNext) h e Pv h0 hl hs hd
theorem w_forT {α : Type} {tl : TE} {as : List α} {f : α → PyData} (h : EvD tl σ G (.tuple (as.map f))) (e : Ex G H) (Pv : Hp → Nat → L2.St → Hp → Prop) (h0 : ∀ G2 H2, Stp G H G2 H2 → Pv G2 0 σ H2) (hl : ∀ G2 i σ' H', Pv G2 i σ' H' → Ex G2 H')
    (hs : ∀ G2 i a v σ' H', Ex G G2 → as[i]? = some a → Rp G2 v (f a) → Pv G2 i σ' H' → g v σ' H' fun σ2 H2 => tu { D with nx := Pv G2 (i + 1), ct := Pv G2 (i + 1), bk := tz D } σ2 H2) (hd : ∀ G2 σ' H', Ex G G2 → Pv G2 as.length σ' H' → tz D σ' H') : tSeq (tFor (iTup K tl) g tu) tz D σ H :=
  h H e _ fun v G2 H2 s hv => by
    obtain ⟨a, xs, rfl, h1, h2⟩ := rp_tup hv
    have lx : xs.length = as.length := (ra_len h2).trans (List.length_map _)
    refine ⟨a, rfl, ⟨xs, st_t (xt (s.gh) h1)⟩, for_tup (xs := xs) (Pv G2) (h0 G2 H2 s) (fun i σ' H' _ p => st_t (xt (hl G2 i σ' H' p) h1)) (fun i x σ' H' hx p => ?_) (fun σ' H' p => hd G2 σ' H' s.g (lx ▸ p))⟩
    obtain ⟨d, hd2, hr⟩ := ra_get' h2 hx
    rw [List.getElem?_map] at hd2
    cases ha : as[i]? with
    | none => rw [ha] at hd2; cases hd2
    | some b =>
      rw [ha] at hd2
      cases hd2
      exact hs G2 i b x σ' H' s.g ha hr p
theorem w_forT1 {α : Type} {tl : TE} {as : List α} {f : α → PyData} (h : EvD tl σ G (.tuple (as.map f))) (e : Ex G H) (Pv : Hp → Nat → L2.St → Hp → Prop) (h0 : ∀ G2 H2, Stp G H G2 H2 → Pv G2 0 σ H2) (hl : ∀ G2 i σ' H', Pv G2 i σ' H' → Ex G2 H')
    (hs : ∀ G2 i a v σ' H', Ex G G2 → as[i]? = some a → Rp G2 v (f a) → Pv G2 i σ' H' → g v σ' H' fun σ2 H2 => tu { D with nx := Pv G2 (i + 1), ct := Pv G2 (i + 1), bk := D.nx } σ2 H2) (hd : ∀ G2 σ' H', Ex G G2 → Pv G2 as.length σ' H' → D.nx σ' H') : tFor (iTup K tl) g tu D σ H := w_forT (tz := tNext) h e Pv h0 hl hs hd
/-! ### list comprehensions -/
/-- behind i turns: the list at Dl, own, holds the data ds -/
def Cm (G H : Hp) (Dl : Addr) (ds : List PyData) (H' : Hp) : Prop := ∃ G' xs, Stp G H G' H' ∧ G' Dl = none ∧ H' Dl = some (.lst xs) ∧ RpAll G' xs ds
theorem cm_end {Dl : Addr} {ds : List PyData} {H' : Hp} (hD : H Dl = none) (h : Cm G H Dl ds H') : ∃ G2, Stp G H G2 H' ∧ Rp G2 (.ref Dl) (.list ds) := by
  obtain ⟨G', xs, s, g, hx, r⟩ := h
  obtain ⟨e1, e2, r2⟩ := frz s.gh hx g r
  exact ⟨_, ⟨s.g.trans e1, e2, s.h, fun a o q => (upd_ne (ne_of_none q hD)).trans (s.f a o q)⟩, r2⟩
theorem cm_turn {Dl : Addr} {ds : List PyData} {H' : Hp} {σ2 : L2.St} {c : Bool} {y : PyData} (hD : H Dl = none) (h : Cm G H Dl ds H') (hl : ds.length < 100000) (hc : ∀ G', Ex G G' → Ex G' H' → EvC t σ2 G' c) (hy : c = true → ∀ G', Ex G G' → EvD te σ2 G' y) :
    t σ2 H' fun b H3 => if b = true then te σ2 H3 fun v H4 => ∃ acc, H4 Dl = some (.lst acc) ∧ acc.length < sizeLine ∧ Cm G H Dl (if c = true then ds ++ [y] else ds) (upd H4 Dl (.lst (acc ++ [v]))) else Cm G H Dl (if c = true then ds ++ [y] else ds) H3 := by
  obtain ⟨G', xs, s, g, hx, r⟩ := h
  refine (hc G' s.g s.gh) H' s.gh _ fun G2 H2 s2 => ?_
  cases c with
  | false => exact iteF ⟨G2, xs, s.trans s2, s2.none hx g, s2.h _ _ hx, ra_mono s2.g _ _ r⟩
  | true =>
    refine iteT ((hy rfl G2 (s.trans s2).g) H2 s2.gh _ fun v G3 H3 s3 hv => ?_)
    have S := (s.trans s2).trans s3
    have hx3 := s3.h _ _ (s2.h _ _ hx)
    have g3 : G3 Dl = none := (s2.trans s3).none hx g
    refine ⟨xs, hx3, sz_lt (by rw [ra_len r]; exact hl), G3, xs ++ [v], ⟨S.g, Ex.mut S.gh g3, Ex.mut S.h hD, S.f⟩, g3, upd_same, ?_⟩
    exact ra_app (ra_mono (s2.trans s3).g _ _ r) (ra_one hv)
theorem filter_take {α : Type} (c : α → Bool) (y : α → PyData) (as : List α) (i : Nat) (a : α) (h : as[i]? = some a) :
    ((as.take (i + 1)).filter c).map y = if c a = true then ((as.take i).filter c).map y ++ [y a] else ((as.take i).filter c).map y := by
  rw [List.take_add_one, h]
  simp only [Option.toList_some, List.filter_append, List.map_append]
  cases hc : c a with
  | true => simp [hc]
  | false => simp [hc]
theorem filter_len {α : Type} (c : α → Bool) (y : α → PyData) (as : List α) (i : Nat) : (((as.take i).filter c).map y).length ≤ as.length := by
  rw [List.length_map]
  exact Nat.le_trans (List.length_filter_le _ _) (by rw [List.length_take]; exact Nat.min_le_right _ _)
/-- [y(a) for a in as if c(a)]: S2 tells the slots behind the target -/
theorem ed_lcL {α : Type} {tl : TE} {vs : List Nat} {as : List α} {f y : α → PyData} {c : α → Bool} (S2 : α → Hp → L2.St → Prop) (h : EvD tl σ G (.list (as.map f))) (hz : as.length < 100000)
    (hg : ∀ a ∈ as, ∀ v G' H', Ex G G' → Ex G' H' → Rp G' v (f a) → ∀ Q : L2.St → Hp → Prop, (∀ σ2, S2 a G' σ2 → wipe σ2 vs = wipe σ vs → Q σ2 H') → g v (wipe σ vs) H' Q)
    (hc : ∀ a ∈ as, ∀ G' G'' σ2, Ex G G' → Ex G' G'' → S2 a G' σ2 → EvC tt σ2 G'' (c a)) (hy : ∀ a ∈ as, c a = true → ∀ G' G'' σ2, Ex G G' → Ex G' G'' → S2 a G' σ2 → EvD te σ2 G'' (y a)) :
    EvD (tLc (iList K tl) g tt te vs) σ G (.list ((as.filter c).map y)) := fun H e Q q =>
  h H e _ fun v G1 H1 s hv => by
    obtain ⟨a, xs, rfl, h1, h2⟩ := rp_lst hv
    have lx : xs.length = as.length := (ra_len h2).trans (List.length_map _)
    refine ⟨a, rfl, ⟨xs, sq_of (s.gh _ _ h1)⟩, fun Dl hD => lc_list (xs := xs) (fun i H' => Cm G1 H1 Dl (((as.take i).filter c).map y) H') ?_ (fun i H' _ p => ?_) (fun i x H' hx p => ?_) (fun H' p => ?_)⟩
    · exact ⟨G1, [], ⟨Ex.refl _, s.gh.trans (Ex.new hD), Ex.new hD, fun _ _ _ => rfl⟩, fresh_back s.gh hD, upd_same, .nil⟩
    · obtain ⟨G', ys, s', _⟩ := p
      exact sq_of (s'.gh _ _ (s'.g _ _ h1))
    · obtain ⟨d, hd2, hr⟩ := ra_get' h2 hx
      rw [List.getElem?_map] at hd2
      cases ha : as[i]? with
      | none => rw [ha] at hd2; cases hd2
      | some b =>
        rw [ha] at hd2
        cases hd2
        have hb : b ∈ as := List.mem_of_getElem? ha
        have eG : Ex G1 H' := let ⟨G', _, s', _⟩ := p; s'.g.trans s'.gh
        refine hg b hb x G1 H' s.g eG hr _ fun σ2 hS hw => ⟨hw, ?_⟩
        rw [filter_take c y as i b ha]
        exact cm_turn hD p (Nat.lt_of_le_of_lt (filter_len c y as i) hz) (fun G' e1 _ => hc b hb G1 G' σ2 s.g e1 hS) (fun hcb G' e1 => hy b hb hcb G1 G' σ2 s.g e1 hS)
    · rw [lx, List.take_length] at p
      obtain ⟨G2, s2, r⟩ := cm_end hD p
      exact q _ G2 H' (s.trans s2) r
theorem ed_lcT {α : Type} {tl : TE} {vs : List Nat} {as : List α} {f y : α → PyData} {c : α → Bool} (S2 : α → Hp → L2.St → Prop) (h : EvD tl σ G (.tuple (as.map f))) (hz : as.length < 100000)
    (hg : ∀ a ∈ as, ∀ v G' H', Ex G G' → Ex G' H' → Rp G' v (f a) → ∀ Q : L2.St → Hp → Prop, (∀ σ2, S2 a G' σ2 → wipe σ2 vs = wipe σ vs → Q σ2 H') → g v (wipe σ vs) H' Q)
    (hc : ∀ a ∈ as, ∀ G' G'' σ2, Ex G G' → Ex G' G'' → S2 a G' σ2 → EvC tt σ2 G'' (c a)) (hy : ∀ a ∈ as, c a = true → ∀ G' G'' σ2, Ex G G' → Ex G' G'' → S2 a G' σ2 → EvD te σ2 G'' (y a)) :
    EvD (tLc (iTup K tl) g tt te vs) σ G (.list ((as.filter c).map y)) := fun H e Q q =>
  h H e _ fun v G1 H1 s hv => by
    obtain ⟨a, xs, rfl, h1, h2⟩ := rp_tup hv
    have lx : xs.length = as.length := (ra_len h2).trans (List.length_map _)
    refine ⟨a, rfl, ⟨xs, st_t (xt (s.gh) h1)⟩, fun Dl hD => lc_tup (xs := xs) (fun i H' => Cm G1 H1 Dl (((as.take i).filter c).map y) H') ?_ (fun i H' _ p => ?_) (fun i x H' hx p => ?_) (fun H' p => ?_)⟩
    · exact ⟨G1, [], ⟨Ex.refl _, s.gh.trans (Ex.new hD), Ex.new hD, fun _ _ _ => rfl⟩, fresh_back s.gh hD, upd_same, .nil⟩
    · obtain ⟨G', ys, s', _⟩ := p
      exact st_t (xt s'.gh (xt s'.g h1))
    · obtain ⟨d, hd2, hr⟩ := ra_get' h2 hx
      rw [List.getElem?_map] at hd2
      cases ha : as[i]? with
      | none => rw [ha] at hd2; cases hd2
      | some b =>
        rw [ha] at hd2
        cases hd2
        have hb : b ∈ as := List.mem_of_getElem? ha
        have eG : Ex G1 H' := let ⟨G', _, s', _⟩ := p; s'.g.trans s'.gh
        refine hg b hb x G1 H' s.g eG hr _ fun σ2 hS hw => ⟨hw, ?_⟩
        rw [filter_take c y as i b ha]
        exact cm_turn hD p (Nat.lt_of_le_of_lt (filter_len c y as i) hz) (fun G' e1 _ => hc b hb G1 G' σ2 s.g e1 hS) (fun hcb G' e1 => hy b hb hcb G1 G' σ2 s.g e1 hS)
    · rw [lx, List.take_length] at p
      obtain ⟨G2, s2, r⟩ := cm_end hD p
      exact q _ G2 H' (s.trans s2) r
/-- [y(i) for i in range(lo, hi) if c(i)], i from 0 on -/
theorem ed_lcR {ta : TA} {vs : List Nat} {j : Nat} {lo n : Int} {y : Nat → PyData} {c : Nat → Bool} (h : EvS ta σ G [.int lo, .int n]) (hl : -100000 ≤ lo ∧ lo ≤ 100000) (hn : -100000 ≤ n ∧ n ≤ 100000) (hm : n - lo < 100000)
    (hw : ∀ x, wipe ((wipe σ vs).set j (some x)) vs = wipe σ vs)
    (hc : ∀ i : Nat, lo + (i : Int) < n → ∀ G', Ex G G' → EvC tt ((wipe σ vs).set j (some (.int (lo + i)))) G' (c i)) (hy : ∀ i : Nat, lo + (i : Int) < n → c i = true → ∀ G', Ex G G' → EvD te ((wipe σ vs).set j (some (.int (lo + i)))) G' (y i)) :
    EvD (tLc (iRng2 ta) (gName j) tt te vs) σ G (.list (((List.range (n - lo).toNat).filter c).map y)) := fun H e Q q =>
  h H e _ fun ws G1 H1 s hv => ⟨lo, n, ra_get2 hv, ⟨by omega, by omega, by omega, by omega⟩, fun Dl hD => by
    refine lc_range (lo := lo) (n := (n - lo).toNat) (fun i H' => Cm G1 H1 Dl (((List.range i).filter c).map y) H') ?_ (fun i H' hi p => ⟨hw _, ?_⟩) (fun H' p => ?_)
    · exact ⟨G1, [], ⟨Ex.refl _, s.gh.trans (Ex.new hD), Ex.new hD, fun _ _ _ => rfl⟩, fresh_back s.gh hD, upd_same, .nil⟩
    · have e1 : ((List.range (i + 1)).filter c).map y = if c i = true then ((List.range i).filter c).map y ++ [y i] else ((List.range i).filter c).map y := by
        rw [List.range_succ, List.filter_append, List.map_append]
        cases hc : c i with
        | true => simp [hc]
        | false => simp [hc]
      rw [e1]
      have l1 : (((List.range i).filter c).map y).length ≤ i := by
        rw [List.length_map]
        have := List.length_filter_le c (List.range i)
        rw [List.length_range] at this
        exact this
      exact cm_turn hD p (by omega) (fun G' e1 _ => hc i (by omega) G' (s.g.trans e1)) (fun hcb G' e1 => hy i (by omega) hcb G' (s.g.trans e1))
    · obtain ⟨G2, s2, r⟩ := cm_end hD p
      exact q _ G2 H' (s.trans s2) r⟩
theorem ed_lcR1 {ta : TA} {vs : List Nat} {j : Nat} {n : Int} {y : Nat → PyData} {c : Nat → Bool} (h : EvS ta σ G [.int n]) (hn : -100000 ≤ n ∧ n < 100000)
    (hw : ∀ x, wipe ((wipe σ vs).set j (some x)) vs = wipe σ vs)
    (hc : ∀ i : Nat, (i : Int) < n → ∀ G', Ex G G' → EvC tt ((wipe σ vs).set j (some (.int i))) G' (c i)) (hy : ∀ i : Nat, (i : Int) < n → c i = true → ∀ G', Ex G G' → EvD te ((wipe σ vs).set j (some (.int i))) G' (y i)) :
    EvD (tLc (iRng1 ta) (gName j) tt te vs) σ G (.list (((List.range n.toNat).filter c).map y)) := fun H e Q q =>
  h H e _ fun ws G1 H1 s hv => ⟨n, ra_get1 hv, by omega, by omega, fun Dl hD => by
    refine lc_range (lo := 0) (n := n.toNat) (fun i H' => Cm G1 H1 Dl (((List.range i).filter c).map y) H') ?_ (fun i H' hi p => ⟨hw _, ?_⟩) (fun H' p => ?_)
    · exact ⟨G1, [], ⟨Ex.refl _, s.gh.trans (Ex.new hD), Ex.new hD, fun _ _ _ => rfl⟩, fresh_back s.gh hD, upd_same, .nil⟩
    · have e1 : ((List.range (i + 1)).filter c).map y = if c i = true then ((List.range i).filter c).map y ++ [y i] else ((List.range i).filter c).map y := by
        rw [List.range_succ, List.filter_append, List.map_append]
        cases hc : c i with
        | true => simp [hc]
        | false => simp [hc]
      rw [e1, Int.zero_add]
      have l1 : (((List.range i).filter c).map y).length ≤ i := by
        rw [List.length_map]
        have := List.length_filter_le c (List.range i)
        rw [List.length_range] at this
        exact this
      exact cm_turn hD p (by omega) (fun G' e1 _ => hc i (by omega) G' (s.g.trans e1)) (fun hcb G' e1 => hy i (by omega) hcb G' (s.g.trans e1))
    · obtain ⟨G2, s2, r⟩ := cm_end hD p
      exact q _ G2 H' (s.trans s2) r⟩
theorem et_yes : EvC (fun _ H Q => Q true H) σ G true := fun H e Q q => q G H (Stp.refl e)
end
end Fw

namespace Fw
open PySem PySem.Spec PyProof.Rows L2 Evl
open TL (tl len_tl ext_tl tl_append tl_mk mk_tl)

/-! ### a list of one's own, made behind (G, H), that holds ds at (G', H') -/
structure Own (G H : Hp) (p : Addr) (ds : List PyData) (G' H' : Hp) : Prop where
  s : Stp G H G' H'
  n : H p = none
  g : G' p = none
  at_ : ∃ xs, H' p = some (.lst xs) ∧ RpAll G' xs ds
section
variable {K : PySem.W.Frag} {σ : L2.St} {G H G' H' G2 H2 : Hp} {p : Addr} {ds : List PyData} {d : PyData} {te : TE} {t : TT} {D : Ends} {tz tu : TS}
theorem Own.new (e : Ex G H) (h : H p = none) : Own G H p [] G (upd H p (.lst [])) :=
  ⟨⟨Ex.refl _, e.trans (Ex.new h), Ex.new h, fun _ _ _ => rfl⟩, h, fresh_back e h, [], upd_same, .nil⟩
theorem Own.step (o : Own G H p ds G' H') (s : Stp G' H' G2 H2) : Own G H p ds G2 H2 := by
  obtain ⟨xs, hx, r⟩ := o.at_
  exact ⟨o.s.trans s, o.n, s.none hx o.g, xs, s.h _ _ hx, ra_mono s.g _ _ r⟩
theorem Own.done (o : Own G H p ds G' H') : ∃ G2, Stp G H G2 H' ∧ Ex G' G2 ∧ Rp G2 (.ref p) (.list ds) := by
  obtain ⟨xs, hx, r⟩ := o.at_
  obtain ⟨e1, e2, r2⟩ := frz o.s.gh hx o.g r
  exact ⟨_, ⟨o.s.g.trans e1, e2, o.s.h, fun a u q => (upd_ne (ne_of_none q o.n)).trans (o.s.f a u q)⟩, e1, r2⟩
/-- the list as data, for what is read -/
theorem Own.read (o : Own G H p ds G' H') : ∃ G2, Ex G' G2 ∧ Ex G2 H' ∧ Rp G2 (.ref p) (.list ds) := by
  obtain ⟨xs, hx, r⟩ := o.at_
  obtain ⟨e1, e2, r2⟩ := frz o.s.gh hx o.g r
  exact ⟨_, e1, e2, r2⟩
/-- the list changes -/
theorem Own.put {xs : List V} {es : List PyData} (o : Own G H p ds G' H') (r : RpAll G' xs es) : Own G H p es G' (upd H' p (.lst xs)) :=
  ⟨⟨o.s.g, Ex.mut o.s.gh o.g, Ex.mut o.s.h o.n, o.s.f⟩, o.n, o.g, xs, upd_same, r⟩
theorem Own.other {q : Addr} {es : List PyData} {o : HO} (w : Own G H q es G' H') (hn : H p = none) (hg : G' p = none) (ne : p ≠ q) : Own G H q es G' (upd H' p o) := by
  obtain ⟨xs, hx, r⟩ := w.at_
  exact ⟨⟨w.s.g, Ex.mut w.s.gh hg, Ex.mut w.s.h hn, w.s.f⟩, w.n, w.g, xs, (upd_ne (fun e => ne e.symm)).trans hx, r⟩
theorem w_appO {j : Nat} (hs : σ[j]? = some (some (.ref p))) (o : Own G H p ds G' H') (h : EvH te σ G' H' d) (hz : ds.length < 100000) (k : ∀ G2 H2 xs, Stp G' H' G2 H2 → Own G H p (ds ++ [d]) G2 (upd H2 p (.lst xs)) → D.nx σ (upd H2 p (.lst xs))) :
    tDrop (tBM K "list" rAppend (tVar j) (tCons te tNil)) D σ H' := by
  obtain ⟨xs, hx, r⟩ := o.at_
  refine ⟨.ref p, hs, Or.inl ⟨rfl, xs, sq_of hx⟩, h _ fun v G2 H2 s hv => ⟨p, xs, v, rfl, rfl, s.h _ _ hx, sz_lt (by rw [ra_len r]; exact hz), ?_⟩⟩
  have o2 := o.step s
  exact k G2 H2 _ s (o2.put (ra_app (ra_mono s.g _ _ r) (ra_one hv)))
theorem w_appOS {j : Nat} (hs : σ[j]? = some (some (.ref p))) (o : Own G H p ds G' H') (h : EvH te σ G' H' d) (hz : ds.length < 100000) (k : ∀ G2 H2 xs, Stp G' H' G2 H2 → Own G H p (ds ++ [d]) G2 (upd H2 p (.lst xs)) → tz D σ (upd H2 p (.lst xs))) :
    tSeq (tDrop (tBM K "list" rAppend (tVar j) (tCons te tNil))) tz D σ H' := w_appO (D := { D with nx := tz D }) hs o h hz k
/-- while, over a list of one's own and what else W says -/
theorem w_while (W : Nat → L2.St → Hp → Prop) (m0 : Nat) (h0 : W m0 σ H)
    (hs : ∀ m σ' H', W m σ' H' → ∃ (G' : Hp) (b : Bool), EvCH t σ' G' H' b ∧ (b = true → ∀ G2 H2, Stp G' H' G2 H2 → tu { D with nx := fun σ2 H2 => ∃ m', m' < m ∧ W m' σ2 H2, ct := fun σ2 H2 => ∃ m', m' < m ∧ W m' σ2 H2, bk := tz D } σ' H2) ∧
      (b = false → ∀ G2 H2, Stp G' H' G2 H2 → tz D σ' H2)) : tSeq (tWhile t tu) tz D σ H :=
  ⟨W, ⟨m0, h0⟩, fun m σ' H' hw => by
    obtain ⟨G', b, hb, h1, h2⟩ := hs m σ' H' hw
    refine hb _ fun G2 H2 s => ?_
    cases b with
    | true => exact iteT ⟨_, fun _ _ h => h, h1 rfl G2 H2 s⟩
    | false => exact iteF (h2 rfl G2 H2 s)⟩
end
/-! ### what stands at the top -/
theorem bt_len : bootBuiltins "len" = some (.builtin "len") := by decide +kernel
theorem bt_abs : bootBuiltins "abs" = some (.builtin "abs") := by decide +kernel
theorem bt_max : bootBuiltins "max" = some (.builtin "max") := by decide +kernel
theorem bt_min : bootBuiltins "min" = some (.builtin "min") := by decide +kernel
theorem bt_all : bootBuiltins "all" = some (.builtin "all") := by decide +kernel
theorem bt_isinstance : bootBuiltins "isinstance" = some (.builtin "isinstance") := by decide +kernel
theorem bt_sorted : bootBuiltins "sorted" = some (.builtin "sorted") := by decide +kernel
theorem bt_repr : bootBuiltins "repr" = some (.builtin "repr") := by decide +kernel
theorem bt_int : bootBuiltins "int" = some (.type "int") := by decide +kernel
theorem bt_bool : bootBuiltins "bool" = some (.type "bool") := by decide +kernel
theorem bt_str : bootBuiltins "str" = some (.type "str") := by decide +kernel
theorem bt_list : bootBuiltins "list" = some (.type "list") := by decide +kernel
theorem bt_tuple : bootBuiltins "tuple" = some (.type "tuple") := by decide +kernel
theorem bt_ValueError : bootBuiltins "ValueError" = some (.type "ValueError") := by decide +kernel
structure Zs (mg : Str → Option Value) : Prop where
  len : mg "len" = none
  abs : mg "abs" = none
  max : mg "max" = none
  min : mg "min" = none
  all : mg "all" = none
  isinstance : mg "isinstance" = none
  sorted : mg "sorted" = none
  repr : mg "repr" = none
  int : mg "int" = none
  bool : mg "bool" = none
  str : mg "str" = none
  list : mg "list" = none
  tuple : mg "tuple" = none
  range : mg "range" = none
  ValueError : mg "ValueError" = none
theorem Zs.mk' {K : PySem.W.Frag} {h : Heap} {mg : Str → Option Value} (X : K.In h) (G : h.Ns mainGlobals mg)
    (z : (["len", "abs", "max", "min", "all", "isinstance", "sorted", "repr", "int", "bool", "str", "list", "tuple", "range", "ValueError"] : List Str).all (fun x => PySem.W.nsIn K mainGlobals x == some none) = true) : Zs mg := by
  have q : ∀ x ∈ (["len", "abs", "max", "min", "all", "isinstance", "sorted", "repr", "int", "bool", "str", "list", "tuple", "range", "ValueError"] : List Str), mg x = none := fun x hx => PySem.W.mg_none_of X G (by
    have := List.all_eq_true.mp z x hx
    simpa using this)
  constructor <;> exact q _ (by decide)
/-- a def that keeps its promise, and how it is called -/
structure Df (P : Program) (w : World) (K : PySem.W.Frag) (mg : Str → Option Value) (base : Heap) (CX : CXT) (k : Nat) (x : Str) (f : Addr) (fd : FuncData) (ps : List Str) (sp : Sp) : Prop where
  ok : FnOk P w K mg base CX k f fd ps sp
  g : mg x = some (.ref f)
  k : PySem.W.keepIn K (.ref f) = true
  b : Binds K fd ps []
/-- small numbers -/
def Sm (ns : List Int) : Prop := ∀ n ∈ ns, 0 ≤ n ∧ n < 1009
theorem Sm.app {ns ms : List Int} (h : Sm ns) (k : Sm ms) : Sm (ns ++ ms) := fun n hn => (List.mem_append.mp hn).elim (h n) (k n)
theorem Sm.one {n : Int} (h : 0 ≤ n ∧ n < 1009) : Sm [n] := fun m hm => by
  rw [List.mem_singleton] at hm
  rw [hm]
  exact h
theorem Sm.get {ns : List Int} {i : Nat} {n : Int} (h : Sm ns) (e : ns[i]? = some n) : 0 ≤ n ∧ n < 1009 := h n (List.mem_of_getElem? e)
theorem ed_call0 {σ : L2.St} {G : Hp} {ta : TA} {sp : Sp} {E : XK} {ds : List PyData} {d : PyData} (h : EvS ta σ G ds) (hr : RD (fun vs H Q => sp (vs ++ []) H Q E) ds d) : EvD (tCall sp [] E ta) σ G d := fun H x Q q =>
  h H x _ fun vs G2 H2 s1 h1 => hr G2 H2 vs s1.gh h1 Q fun v G3 H3 s2 h2 => q v G3 H3 (s1.trans s2) h2
end Fw

namespace Fw
open PySem PySem.Spec PyProof.Rows L2 Evl
open TL (tl len_tl ext_tl tl_append tl_mk mk_tl)

/-! ### a list or a tuple, walked -/
def iSeq (K : PySem.W.Frag) (tl : TE) : TI := fun σ H R => tl σ H fun x H1 => ∃ a, x = .ref a ∧ (((∃ xs, SqL K H1 a xs) ∧ R (Itl K a) H1) ∨ ((∃ xs, SqT K H1 a xs) ∧ R (Itt K a) H1))
theorem pi_seq {X : Cx} {tg l : Expr} {tl : TE} (hl : PE X l tl) : PI X tg l (iSeq X.K tl) :=
  ⟨fun pins s σ H R I h => thn (hl.run pins s σ H _ I h) fun v s1 ⟨x, H1, I1, r1, a, ex, q⟩ => by
    have fr := I1.fpOk (Nat.le_refl s1.heap.objs.size) I1.fresh
    subst ex
    cases r1
    rcases q with ⟨⟨xs, hq⟩, q⟩ | ⟨⟨xs, hq⟩, q⟩
    · obtain ⟨its, rv, p, hz⟩ := I1.list hq
      exact wpAny_pyIter_list p.isList ⟨_, [s1.heap.objs.size], _, _, H1, rfl, I1.kept (t' := s1.toks) (fun b o e => Heap.get?_push_of_some _ e), turn_list a _, ⟨_, Heap.get?_push_size _ rfl, rfl, rfl⟩, fun b hb => List.mem_singleton.mp hb ▸ fr, q⟩
    · obtain ⟨its, rv, p, hz⟩ := I1.tuple hq
      exact wpAny_pyIter_tuple (show s1.heap.IsTuple a its.toArray from p) ⟨_, [s1.heap.objs.size], _, _, H1, rfl, I1.kept (t' := s1.toks) (fun b o e => Heap.get?_push_of_some _ e), turn_tuple a _, ⟨_, Heap.get?_push_size _ rfl, rfl, rfl⟩, fun b hb => List.mem_singleton.mp hb ▸ fr, q⟩⟩
/-- a list, or a tuple -/
def sq (b : Bool) (ds : List PyData) : PyData := if b then .list ds else .tuple ds
section
variable {K : PySem.W.Frag} {σ : L2.St} {G G' H H' : Hp} {te ta tb tl : TE} {t tt : TT} {d : PyData} {D : Ends} {tu tw tz : TS} {g : TG} {b : Bool} {ds : List PyData}
def SqAt (b : Bool) (G : Hp) (a : Addr) (xs : List V) : Prop := if b then G a = some (.lst xs) else TupAt G a xs
theorem rp_sq {v : V} (h : Rp G v (sq b ds)) : ∃ a xs, v = .ref a ∧ SqAt b G a xs ∧ RpAll G xs ds := by
  cases b with
  | true => exact rp_lst h
  | false => exact rp_tup h
theorem sq_len {a : Addr} {xs : List V} (h : SqAt b G a xs) (e : Ex G H) : SqL K H a xs ∨ SqT K H a xs := by
  cases b with
  | true => exact .inl (sq_of (e _ _ h))
  | false => exact .inr (st_t (xt e h))
theorem rd_lenq : RD (rLenU K) [sq b ds] (.int ds.length) := by
  cases b with
  | true => exact rd_lenl
  | false => exact rd_lent
theorem rd_tupq : RD (rTupU K) [sq b ds] (.tuple ds) := by
  cases b with
  | true => exact rd_tupl
  | false => exact rd_tupt
theorem rd_listq : RD (rListU K) [sq b ds] (.list ds) := by
  cases b with
  | true => exact rd_listl
  | false => exact rd_listt
theorem w_forS {α : Type} {as : List α} {f : α → PyData} (h : EvD tl σ G (sq b (as.map f))) (e : Ex G H) (Pv : Hp → Nat → L2.St → Hp → Prop) (h0 : ∀ G2 H2, Stp G H G2 H2 → Pv G2 0 σ H2) (hl : ∀ G2 i σ' H', Pv G2 i σ' H' → Ex G2 H')
    (hs : ∀ G2 i a v σ' H', Ex G G2 → as[i]? = some a → Rp G2 v (f a) → Pv G2 i σ' H' → g v σ' H' fun σ2 H2 => tu { D with nx := Pv G2 (i + 1), ct := Pv G2 (i + 1), bk := tz D } σ2 H2) (hd : ∀ G2 σ' H', Ex G G2 → Pv G2 as.length σ' H' → tz D σ' H') : tSeq (tFor (iSeq K tl) g tu) tz D σ H :=
  h H e _ fun v G2 H2 s hv => by
    obtain ⟨a, xs, rfl, h1, h2⟩ := rp_sq hv
    have lx : xs.length = as.length := (ra_len h2).trans (List.length_map _)
    have turn : ∀ i x σ' H', xs[i]? = some x → Pv G2 i σ' H' → g x σ' H' fun σ2 H2 => tu { D with nx := Pv G2 (i + 1), ct := Pv G2 (i + 1), bk := tz D } σ2 H2 := fun i x σ' H' hx p => by
      obtain ⟨d, hd2, hr⟩ := ra_get' h2 hx
      rw [List.getElem?_map] at hd2
      cases ha : as[i]? with
      | none => rw [ha] at hd2; cases hd2
      | some b =>
        rw [ha] at hd2
        cases hd2
        exact hs G2 i b x σ' H' s.g ha hr p
    cases b with
    | true => exact ⟨a, rfl, .inl ⟨⟨xs, sq_of (s.gh _ _ h1)⟩, for_list (xs := xs) (Pv G2) (h0 G2 H2 s) (fun i σ' H' _ p => sq_of (hl G2 i σ' H' p _ _ h1)) turn (fun σ' H' p => hd G2 σ' H' s.g (lx ▸ p))⟩⟩
    | false => exact ⟨a, rfl, .inr ⟨⟨xs, st_t (xt (s.gh) h1)⟩, for_tup (xs := xs) (Pv G2) (h0 G2 H2 s) (fun i σ' H' _ p => st_t (xt (hl G2 i σ' H' p) h1)) turn (fun σ' H' p => hd G2 σ' H' s.g (lx ▸ p))⟩⟩
theorem w_forS1 {α : Type} {as : List α} {f : α → PyData} (h : EvD tl σ G (sq b (as.map f))) (e : Ex G H) (Pv : Hp → Nat → L2.St → Hp → Prop) (h0 : ∀ G2 H2, Stp G H G2 H2 → Pv G2 0 σ H2) (hl : ∀ G2 i σ' H', Pv G2 i σ' H' → Ex G2 H')
    (hs : ∀ G2 i a v σ' H', Ex G G2 → as[i]? = some a → Rp G2 v (f a) → Pv G2 i σ' H' → g v σ' H' fun σ2 H2 => tu { D with nx := Pv G2 (i + 1), ct := Pv G2 (i + 1), bk := D.nx } σ2 H2) (hd : ∀ G2 σ' H', Ex G G2 → Pv G2 as.length σ' H' → D.nx σ' H') : tFor (iSeq K tl) g tu D σ H := w_forS (tz := tNext) h e Pv h0 hl hs hd
theorem ed_lcS {α : Type} {vs : List Nat} {as : List α} {f y : α → PyData} {c : α → Bool} (S2 : α → Hp → L2.St → Prop) (h : EvD tl σ G (sq b (as.map f))) (hz : as.length < 100000)
    (hg : ∀ a ∈ as, ∀ v G' H', Ex G G' → Ex G' H' → Rp G' v (f a) → ∀ Q : L2.St → Hp → Prop, (∀ σ2, S2 a G' σ2 → wipe σ2 vs = wipe σ vs → Q σ2 H') → g v (wipe σ vs) H' Q)
    (hc : ∀ a ∈ as, ∀ G' G'' σ2, Ex G G' → Ex G' G'' → S2 a G' σ2 → EvC tt σ2 G'' (c a)) (hy : ∀ a ∈ as, c a = true → ∀ G' G'' σ2, Ex G G' → Ex G' G'' → S2 a G' σ2 → EvD te σ2 G'' (y a)) :
    EvD (tLc (iSeq K tl) g tt te vs) σ G (.list ((as.filter c).map y)) := fun H e Q q =>
  h H e _ fun v G1 H1 s hv => by
    cases b with
    | true =>
      obtain ⟨a, xs, rfl, h1, h2⟩ := rp_lst hv
      refine ⟨a, rfl, .inl ⟨⟨xs, sq_of (s.gh _ _ h1)⟩, fun Dl hD => ?_⟩⟩
      have r := ed_lcL (K := K) (tl := tC (.ref a)) (te := te) (tt := tt) (σ := σ) (G := G1) (g := g) (vs := vs) (as := as) (f := f) (y := y) (c := c) S2 (ed_c hv) hz (fun a ha v G' H' e1 => hg a ha v G' H' (s.g.trans e1)) (fun a ha G' G'' σ2 e1 => hc a ha G' G'' σ2 (s.g.trans e1)) (fun a ha hca G' G'' σ2 e1 => hy a ha hca G' G'' σ2 (s.g.trans e1)) H1 s.gh Q fun v G2 H2 s2 hv2 => q v G2 H2 (s.trans s2) hv2
      obtain ⟨a', e', _, w⟩ := r
      cases e'
      exact w Dl hD
    | false =>
      obtain ⟨a, xs, rfl, h1, h2⟩ := rp_tup hv
      refine ⟨a, rfl, .inr ⟨⟨xs, st_t (xt (s.gh) h1)⟩, fun Dl hD => ?_⟩⟩
      have r := ed_lcT (K := K) (tl := tC (.ref a)) (te := te) (tt := tt) (σ := σ) (G := G1) (g := g) (vs := vs) (as := as) (f := f) (y := y) (c := c) S2 (ed_c hv) hz (fun a ha v G' H' e1 => hg a ha v G' H' (s.g.trans e1)) (fun a ha G' G'' σ2 e1 => hc a ha G' G'' σ2 (s.g.trans e1)) (fun a ha hca G' G'' σ2 e1 => hy a ha hca G' G'' σ2 (s.g.trans e1)) H1 s.gh Q fun v G2 H2 s2 hv2 => q v G2 H2 (s.trans s2) hv2
      obtain ⟨a', e', _, w⟩ := r
      cases e'
      exact w Dl hD
/-- [y(c) for c in s if k(c)] over the signs of a text -/
theorem ed_lcC {vs : List Nat} {j : Nat} {x : Str} {y : Nat → PyData} {c : Nat → Bool} (h : EvD tl σ G (.str x)) (hz : (TL.tl x).length < 100000) (hw : ∀ x, wipe ((wipe σ vs).set j (some x)) vs = wipe σ vs)
    (hc : ∀ a ∈ TL.tl x, ∀ G', Ex G G' → EvC tt ((wipe σ vs).set j (some (.str ⟨#[a]⟩))) G' (c a)) (hy : ∀ a ∈ TL.tl x, c a = true → ∀ G', Ex G G' → EvD te ((wipe σ vs).set j (some (.str ⟨#[a]⟩))) G' (y a)) :
    EvD (tLc (iStr tl) (gName j) tt te vs) σ G (.list (((TL.tl x).filter c).map y)) := fun H e Q q =>
  h H e _ fun v G1 H1 s hv => ⟨x, rp_str hv, fun Dl hD => by
    refine lc_it walk_str (fun i H' => Cm G1 H1 Dl ((((TL.tl x).take i).filter c).map y) H') ?_ (fun _ _ _ _ => True.intro) (fun i v H0 H' hi p yy => ?_) (fun H' p => ?_)
    · exact ⟨G1, [], ⟨Ex.refl _, s.gh.trans (Ex.new hD), Ex.new hD, fun _ _ _ => rfl⟩, fresh_back s.gh hD, upd_same, .nil⟩
    · obtain ⟨rfl, a, ha, rfl⟩ := yy
      have ha' : (TL.tl x)[i]? = some a := by
        unfold TL.tl
        rw [Array.getElem?_toList]
        exact ha
      have hb : a ∈ TL.tl x := List.mem_of_getElem? ha'
      refine ⟨hw _, ?_⟩
      rw [filter_take c y (TL.tl x) i a ha']
      exact cm_turn hD p (Nat.lt_of_le_of_lt (filter_len c y (TL.tl x) i) hz) (fun G' e1 _ => hc a hb G' (s.g.trans e1)) (fun hcb G' e1 => hy a hb hcb G' (s.g.trans e1))
    · have lx : x.cps.size = (TL.tl x).length := by
        unfold TL.tl
        simp
      rw [lx, List.take_length] at p
      obtain ⟨G2, s2, r⟩ := cm_end hD p
      exact q _ G2 H' (s.trans s2) r⟩
/-! ### isinstance -/
def tyD : PyData → String
  | .none => "NoneType"
  | .bool _ => "bool"
  | .int _ => "int"
  | .str _ => "str"
  | .list _ => "list"
  | .tuple _ => "tuple"
  | .dict _ => "dict"
theorem ty_of {v : V} (h : Rp G v d) (hn : tyD d ≠ "tuple") : TyX K G v (.type (tyD d)) := by
  cases h with
  | non => exact .base .non
  | bl b => exact .base (.bl b)
  | int i => exact .base (.int i)
  | str x => exact .base (.str x)
  | lst h _ => exact .base (.lst h)
  | tup h _ => exact absurd rfl hn
theorem ed_isi {T : String} {r : Bool} (h : EvD te σ G d) (hk : kitB (tyD d) T = some r) (hn : tyD d ≠ "tuple" := by simp [tyD]) : EvD (tCB (rIsi K) (tCons te (tCons (tC (.ty T)) tNil))) σ G (.bool r) := fun H e Q q =>
  h H e _ fun v G2 H2 s hv => ⟨v, .ty T, .type (tyD d), .type T, r, rfl, .ty T, ty_of (rp_mono s.gh _ _ hv) hn, kit_ty hk, q _ G2 H2 s (.bl r)⟩
/-! ### f-strings -/
theorem ed_f2 {a x : Str} (h : EvD te σ G (.str x)) (ha : a.length ≤ 1000) (hx : x.length ≤ 100000) : EvD (fun σ H Q => tJs [tC (.str a), tFmt te] Str.empty σ H fun out H1 => Q (.str out) H1) σ G (.str (Str.empty ++ a ++ x)) := fun H e Q q => by
  have e0 : Str.empty.length = 0 := rfl
  refine ⟨a, rfl, by rw [strLen_append, sizeLine_eq]; omega, h H e _ fun v G2 H2 s hv => .inl ⟨x, rp_str hv, by rw [sizeLine_eq]; omega, x, rfl, by rw [strLen_append, strLen_append, sizeLine_eq]; omega, q _ G2 H2 s (.str _)⟩⟩
end
end Fw

namespace Fw
open PySem PySem.Spec PyProof.Rows L2 Evl
/-! ### the rules with the written part said -/
section
variable {X : Cx} (K : PySem.W.Frag) (hK : X.K = K)
include hK
theorem k_addU : OpR X (binaryOp .Add) (rAddU K) := hK ▸ op_addU
theorem k_inU : OpR X (compareOp .In) (rInU K false) := hK ▸ op_inU
theorem k_notInU : OpR X (compareOp .NotIn) (rInU K true) := hK ▸ op_notInU
theorem k_eqD (hu : X.A.units + 64 < cLine) : OpR X (compareOp .Eq) (rEqD K) := hK ▸ op_eqD hu
theorem k_neD (hu : X.A.units + 64 < cLine) : OpR X (compareOp .NotEq) (rNeD K) := hK ▸ op_neD hu
theorem k_ix : IxR X (rIx K) := hK ▸ ix_seq
theorem k_sl : SlR X (rSlU K) := hK ▸ sl_U
theorem k_len : CallR X (.builtin "len") (rLenU K) := hK ▸ c_len
theorem k_list : CallR X (.type "list") (rListU K) := hK ▸ c_list
theorem k_tup : CallR X (.type "tuple") (rTupU K) := hK ▸ c_tup
theorem k_all (hc : X.calm = true) : CallR X (.builtin "all") (rAll K) := hK ▸ cr_all hc
theorem k_isi : CallR X (.builtin "isinstance") (rIsi K) := hK ▸ call_isi
theorem k_piL {tg l : Expr} {tl : TE} (hl : PE X l tl) : PI X tg l (iList K tl) := hK ▸ pi_list hl
theorem k_piT {tg l : Expr} {tl : TE} (hl : PE X l tl) : PI X tg l (iTup K tl) := hK ▸ pi_tup hl
theorem k_piS {tg l : Expr} {tl : TE} (hl : PE X l tl) : PI X tg l (iSeq K tl) := hK ▸ pi_seq hl
theorem k_tgt {es : List Expr} {k : Nat} {t : TGs} {n : Nat} {pos : Pos} (hc : X.calm = true) (h : PGs X es t) (hn : (assignEach es X.env).length = n := by rfl) (hst : (assignEach es X.env).findIdx? (·.1) = none := by rfl) : PG X (.Tuple es k pos) (gTup K n t) := by
  subst hK
  exact pg_tup hc h hn hst
theorem k_fld {e : Expr} {ta : TE} {f : Str} {pos : Pos} (he : PE X e ta) (hb : attributeBase e f X.env (eval e X.env) = eval e X.env) : PE X (.Attribute e f pos) (tFld K ta f) := by
  subst hK
  exact pe_fld he hb
end
section
variable {X : Cx}
theorem pe_gstr {x y : Str} {t : Tok} {pos : Pos} (hg : Gl X x) (hm : X.mg x = some (.str y t)) (hd : (x == ("__debug__" : Str)) = false := by decide) : PE X (.Name x pos) (tC (.str y)) := pe_glob hg hm ⟨_, rfl⟩ hd
theorem pe_gint {x : Str} {y : Int} {t : Tok} {pos : Pos} (hg : Gl X x) (hm : X.mg x = some (.int y t)) (hd : (x == ("__debug__" : Str)) = false := by decide) : PE X (.Name x pos) (tC (.int y)) := pe_glob hg hm ⟨_, rfl⟩ hd
theorem pe_ty {x : Str} {T : String} {pos : Pos} (hg : Gl X x) (hm : X.mg x = none) (hv : bootBuiltins x = some (.type T)) (hn : x ≠ "__name__" := by decide) (hd : (x == ("__debug__" : Str)) = false := by decide) : PE X (.Name x pos) (tC (.ty T)) := pe_bltn hg hm hv rfl hn hd
end
section
variable {K : PySem.W.Frag} {σ : L2.St} {G G' H H' : Hp} {te ta tb tl : TE} {t tt : TT} {d : PyData} {D : Ends} {tu tw tz : TS} {g : TG} {b : Bool} {ds : List PyData}
theorem w_asg (h : EvH te σ G H d) (k : ∀ v G2 H2, Stp G H G2 H2 → Rp G2 v d → g v σ H2 fun σ' H' => tz D σ' H') : tSeq (tAsg te g) tz D σ H := h _ fun v G2 H2 s hv => k v G2 H2 s hv
theorem w_asg1 (h : EvH te σ G H d) (k : ∀ v G2 H2, Stp G H G2 H2 → Rp G2 v d → g v σ H2 fun σ' H' => D.nx σ' H') : tAsg te g D σ H := h _ fun v G2 H2 s hv => k v G2 H2 s hv
theorem h_run {Q : VK} (h : EvH te σ G H d) (k : ∀ v G2 H2, Stp G H G2 H2 → Rp G2 v d → Q v H2) : te σ H Q := h Q k
theorem h_runV {Q : VK} {v : V} (e : Ex G H) (h : ∀ H, Ex G H → ∀ Q : VK, (∀ G2 H2, Stp G H G2 H2 → Q v H2) → te σ H Q) (k : ∀ G2 H2, Stp G H G2 H2 → Q v H2) : te σ H Q := h H e Q k
theorem ed_is {d f : PyData} (e : d = f) (h : EvD te σ G d) : EvD te σ G f := e ▸ h
theorem ec_is {b c : Bool} (e : b = c) (h : EvC t σ G b) : EvC t σ G c := e ▸ h
/-! comprehensions whose target is one name -/
theorem ed_lcS1 {α : Type} {vs : List Nat} {j : Nat} {as : List α} {f y : α → PyData} {c : α → Bool} (h : EvD tl σ G (sq b (as.map f))) (hz : as.length < 100000) (hw : ∀ x, wipe ((wipe σ vs).set j (some x)) vs = wipe σ vs)
    (hc : ∀ a ∈ as, ∀ u G', Ex G G' → Rp G' u (f a) → EvC tt ((wipe σ vs).set j (some u)) G' (c a)) (hy : ∀ a ∈ as, c a = true → ∀ u G', Ex G G' → Rp G' u (f a) → EvD te ((wipe σ vs).set j (some u)) G' (y a)) :
    EvD (tLc (iSeq K tl) (gName j) tt te vs) σ G (.list ((as.filter c).map y)) :=
  ed_lcS (fun a G' σ2 => ∃ u, σ2 = (wipe σ vs).set j (some u) ∧ Rp G' u (f a)) h hz (fun a _ v G' H' _ _ hv Q q => q _ ⟨v, rfl, hv⟩ (hw _)) (fun a ha G' G'' σ2 e1 e2 hS => by
    obtain ⟨u, rfl, hu⟩ := hS
    exact hc a ha u G'' (e1.trans e2) (rp_mono e2 _ _ hu)) (fun a ha hca G' G'' σ2 e1 e2 hS => by
    obtain ⟨u, rfl, hu⟩ := hS
    exact hy a ha hca u G'' (e1.trans e2) (rp_mono e2 _ _ hu))
theorem ed_lcT1 {α : Type} {vs : List Nat} {j : Nat} {as : List α} {f y : α → PyData} {c : α → Bool} (h : EvD tl σ G (.tuple (as.map f))) (hz : as.length < 100000) (hw : ∀ x, wipe ((wipe σ vs).set j (some x)) vs = wipe σ vs)
    (hc : ∀ a ∈ as, ∀ u G', Ex G G' → Rp G' u (f a) → EvC tt ((wipe σ vs).set j (some u)) G' (c a)) (hy : ∀ a ∈ as, c a = true → ∀ u G', Ex G G' → Rp G' u (f a) → EvD te ((wipe σ vs).set j (some u)) G' (y a)) :
    EvD (tLc (iTup K tl) (gName j) tt te vs) σ G (.list ((as.filter c).map y)) :=
  ed_lcT (fun a G' σ2 => ∃ u, σ2 = (wipe σ vs).set j (some u) ∧ Rp G' u (f a)) h hz (fun a _ v G' H' _ _ hv Q q => q _ ⟨v, rfl, hv⟩ (hw _)) (fun a ha G' G'' σ2 e1 e2 hS => by
    obtain ⟨u, rfl, hu⟩ := hS
    exact hc a ha u G'' (e1.trans e2) (rp_mono e2 _ _ hu)) (fun a ha hca G' G'' σ2 e1 e2 hS => by
    obtain ⟨u, rfl, hu⟩ := hS
    exact hy a ha hca u G'' (e1.trans e2) (rp_mono e2 _ _ hu))
theorem ed_lcL1 {α : Type} {vs : List Nat} {j : Nat} {as : List α} {f y : α → PyData} {c : α → Bool} (h : EvD tl σ G (.list (as.map f))) (hz : as.length < 100000) (hw : ∀ x, wipe ((wipe σ vs).set j (some x)) vs = wipe σ vs)
    (hc : ∀ a ∈ as, ∀ u G', Ex G G' → Rp G' u (f a) → EvC tt ((wipe σ vs).set j (some u)) G' (c a)) (hy : ∀ a ∈ as, c a = true → ∀ u G', Ex G G' → Rp G' u (f a) → EvD te ((wipe σ vs).set j (some u)) G' (y a)) :
    EvD (tLc (iList K tl) (gName j) tt te vs) σ G (.list ((as.filter c).map y)) :=
  ed_lcL (fun a G' σ2 => ∃ u, σ2 = (wipe σ vs).set j (some u) ∧ Rp G' u (f a)) h hz (fun a _ v G' H' _ _ hv Q q => q _ ⟨v, rfl, hv⟩ (hw _)) (fun a ha G' G'' σ2 e1 e2 hS => by
    obtain ⟨u, rfl, hu⟩ := hS
    exact hc a ha u G'' (e1.trans e2) (rp_mono e2 _ _ hu)) (fun a ha hca G' G'' σ2 e1 e2 hS => by
    obtain ⟨u, rfl, hu⟩ := hS
    exact hy a ha hca u G'' (e1.trans e2) (rp_mono e2 _ _ hu))
theorem lc_all {α : Type} {as : List α} {y : α → PyData} {xs : List PyData} (h : as.map y = xs) : PyData.list ((as.filter fun _ => true).map y) = .list xs := by
  rw [List.filter_eq_self.mpr (fun _ _ => rfl), h]
/-! calls that may raise -/
theorem call_at {sp : Sp} {E : XK} {ta : TA} {Q : VK} (h : EvS ta σ G ds) (e : Ex G H) (k : ∀ vs G2 H2, Stp G H G2 H2 → RpAll G2 vs ds → sp (vs ++ []) H2 Q E) : tCall sp [] E ta σ H Q := h H e _ k
theorem w_callD {sp : Sp} {E : XK} {ta : TA} (h : EvS ta σ G ds) (e : Ex G H) (k : ∀ vs G2 H2, Stp G H G2 H2 → RpAll G2 vs ds → sp (vs ++ []) H2 (fun _ H' => tz D σ H') E) : tSeq (tDrop (tCall sp [] E ta)) tz D σ H := h H e _ k
theorem w_callS {sp : Sp} {E : XK} {ta : TA} {i : Nat} (h : EvS ta σ G ds) (e : Ex G H) (k : ∀ vs G2 H2, Stp G H G2 H2 → RpAll G2 vs ds → sp (vs ++ []) H2 (fun v H' => tz D (σ.set i (some v)) H') E) : tSeq (tAsg (tCall sp [] E ta) (gName i)) tz D σ H := h H e _ k
theorem w_callG {sp : Sp} {E : XK} {ta : TA} (h : EvS ta σ G ds) (e : Ex G H) (k : ∀ vs G2 H2, Stp G H G2 H2 → RpAll G2 vs ds → sp (vs ++ []) H2 (fun v H' => g v σ H' fun σ' H' => tz D σ' H') E) : tSeq (tAsg (tCall sp [] E ta) g) tz D σ H := h H e _ k
theorem w_callR {sp : Sp} {E : XK} {ta : TA} (h : EvS ta σ G ds) (e : Ex G H) (k : ∀ vs G2 H2, Stp G H G2 H2 → RpAll G2 vs ds → sp (vs ++ []) H2 D.rt E) : tRet (tCall sp [] E ta) D σ H := h H e _ k
/-! arguments that are data or objects -/
def EvV (te : TE) (σ : L2.St) (G : Hp) (v : V) : Prop := ∀ H, Ex G H → ∀ Q : VK, (∀ G2 H2, Stp G H G2 H2 → Q v H2) → te σ H Q
def EvSP (ta : TA) (σ : L2.St) (G : Hp) (P : Hp → List V → Prop) : Prop := ∀ H, Ex G H → ∀ Q : List V → Hp → Prop, (∀ vs G2 H2, Stp G H G2 H2 → P G2 vs → Q vs H2) → ta σ H Q
theorem ev_v {j : Nat} {v : V} (h : σ[j]? = some (some v)) : EvV (tVar j) σ G v := fun H e Q q => ⟨v, h, q G H (Stp.refl e)⟩
theorem EvV.mono {v : V} (x : Ex G G') (h : EvV te σ G v) : EvV te σ G' v := fun H e Q q => h H (x.trans e) Q fun G2 H2 s => q _ H2 (s.up x e).1
theorem ep_nil : EvSP tNil σ G (fun _ vs => vs = []) := fun H e Q q => q [] G H (Stp.refl e) rfl
theorem ep_D {tr : TA} {P : Hp → List V → Prop} (h : EvD te σ G d) (hr : ∀ G', Ex G G' → EvSP tr σ G' P) : EvSP (tCons te tr) σ G (fun G vs => ∃ v r, vs = v :: r ∧ Rp G v d ∧ P G r) := fun H e Q q =>
  h H e _ fun v G2 H2 s1 h1 => hr G2 s1.g H2 s1.gh _ fun vs G3 H3 s2 h2 => q _ G3 H3 (s1.trans s2) ⟨v, vs, rfl, rp_mono s2.g _ _ h1, h2⟩
theorem ep_V {tr : TA} {P : Hp → List V → Prop} {v : V} (h : EvV te σ G v) (hr : ∀ G', Ex G G' → EvSP tr σ G' P) : EvSP (tCons te tr) σ G (fun G vs => ∃ r, vs = v :: r ∧ P G r) := fun H e Q q =>
  h H e _ fun G2 H2 s1 => hr G2 s1.g H2 s1.gh _ fun vs G3 H3 s2 h2 => q _ G3 H3 (s1.trans s2) ⟨vs, rfl, h2⟩
section
variable {sp : Sp} {E : XK} {ta : TA} {P : Hp → List V → Prop}
theorem p_call {Q : VK} (h : EvSP ta σ G P) (e : Ex G H) (k : ∀ vs G2 H2, Stp G H G2 H2 → P G2 vs → sp (vs ++ []) H2 Q E) : tCall sp [] E ta σ H Q := h H e _ k
theorem p_callD (h : EvSP ta σ G P) (e : Ex G H) (k : ∀ vs G2 H2, Stp G H G2 H2 → P G2 vs → sp (vs ++ []) H2 (fun _ H' => tz D σ H') E) : tSeq (tDrop (tCall sp [] E ta)) tz D σ H := h H e _ k
theorem p_callS {i : Nat} (h : EvSP ta σ G P) (e : Ex G H) (k : ∀ vs G2 H2, Stp G H G2 H2 → P G2 vs → sp (vs ++ []) H2 (fun v H' => tz D (σ.set i (some v)) H') E) : tSeq (tAsg (tCall sp [] E ta) (gName i)) tz D σ H := h H e _ k
theorem p_callG (h : EvSP ta σ G P) (e : Ex G H) (k : ∀ vs G2 H2, Stp G H G2 H2 → P G2 vs → sp (vs ++ []) H2 (fun v H' => g v σ H' fun σ' H' => tz D σ' H') E) : tSeq (tAsg (tCall sp [] E ta) g) tz D σ H := h H e _ k
theorem p_callR (h : EvSP ta σ G P) (e : Ex G H) (k : ∀ vs G2 H2, Stp G H G2 H2 → P G2 vs → sp (vs ++ []) H2 D.rt E) : tRet (tCall sp [] E ta) D σ H := h H e _ k
end
theorem w_retV {v : V} (h : EvV te σ G v) (e : Ex G H) (k : ∀ G2 H2, Stp G H G2 H2 → D.rt v H2) : tRet te D σ H := h H e _ k
end
end Fw

namespace Fw
open PySem PySem.Spec PyProof.Rows L2 Evl
/-! ### dicts of one's own -/
structure OwnD (G H : Hp) (p : Addr) (kvs : List (Key × V)) (G' H' : Hp) : Prop where
  s : Stp G H G' H'
  n : H p = none
  g : G' p = none
  at_ : H' p = some (.dK kvs)
structure OwnT (G H : Hp) (p : Addr) (kvs : List (List Key × V)) (G' H' : Hp) : Prop where
  s : Stp G H G' H'
  n : H p = none
  g : G' p = none
  at_ : H' p = some (.dT kvs)
/-- an exception class of the program's own -/
structure Xc (K : PySem.W.Frag) (mg : Str → Option Value) (x : Str) (C : Addr) : Prop where
  g : mg x = some (.ref C)
  ex : PySem.W.excIn K C [.type "ValueError", .type "Exception", .type "BaseException", .type "object"] "ValueError.__new__" = true
  kp : PySem.W.keepIn K (.ref C) = true
  sub : PySem.W.subIn K (.ref C) (.type "BaseException") = some true
  ty : PySem.W.typeIn K (.ref C) = some (.type "type")
  is : PySem.W.isClsIn K C = true
  self : PySem.W.subIn K (.ref C) (.ref C) = some true
section
variable {K : PySem.W.Frag} {σ : L2.St} {G H G' H' G2 H2 : Hp} {p : Addr} {te : TE} {d : PyData} {D : Ends} {tz : TS} {E : XK} {C : Addr}
theorem OwnD.new (e : Ex G H) (h : H p = none) : OwnD G H p [] G (upd H p (.dK [])) := ⟨⟨Ex.refl _, e.trans (Ex.new h), Ex.new h, fun _ _ _ => rfl⟩, h, fresh_back e h, upd_same⟩
theorem OwnD.step {kvs : List (Key × V)} (o : OwnD G H p kvs G' H') (s : Stp G' H' G2 H2) : OwnD G H p kvs G2 H2 := ⟨o.s.trans s, o.n, s.none o.at_ o.g, s.h _ _ o.at_⟩
theorem OwnD.put {kvs kvs' : List (Key × V)} (o : OwnD G H p kvs G' H') : OwnD G H p kvs' G' (upd H' p (.dK kvs')) := ⟨⟨o.s.g, Ex.mut o.s.gh o.g, Ex.mut o.s.h o.n, o.s.f⟩, o.n, o.g, upd_same⟩
theorem OwnD.done {kvs : List (Key × V)} (o : OwnD G H p kvs G' H') : Stp G H (upd G' p (.dK kvs)) H' ∧ Ex G' (upd G' p (.dK kvs)) := by
  refine ⟨⟨o.s.g.trans (Ex.new o.g), fun a u q => ?_, o.s.h, fun a u q => (upd_ne (ne_of_none q o.n)).trans (o.s.f a u q)⟩, Ex.new o.g⟩
  by_cases hp : a = p
  · subst hp
    rw [upd_same] at q
    rw [o.at_]
    exact q
  · rw [upd_ne hp] at q
    exact o.s.gh a u q
theorem OwnT.new (e : Ex G H) (h : H p = none) : OwnT G H p [] G (upd H p (.dT [])) := ⟨⟨Ex.refl _, e.trans (Ex.new h), Ex.new h, fun _ _ _ => rfl⟩, h, fresh_back e h, upd_same⟩
theorem OwnT.step {kvs : List (List Key × V)} (o : OwnT G H p kvs G' H') (s : Stp G' H' G2 H2) : OwnT G H p kvs G2 H2 := ⟨o.s.trans s, o.n, s.none o.at_ o.g, s.h _ _ o.at_⟩
theorem OwnT.put {kvs kvs' : List (List Key × V)} (o : OwnT G H p kvs G' H') : OwnT G H p kvs' G' (upd H' p (.dT kvs')) := ⟨⟨o.s.g, Ex.mut o.s.gh o.g, Ex.mut o.s.h o.n, o.s.f⟩, o.n, o.g, upd_same⟩
theorem OwnT.done {kvs : List (List Key × V)} (o : OwnT G H p kvs G' H') : Stp G H (upd G' p (.dT kvs)) H' ∧ Ex G' (upd G' p (.dT kvs)) := by
  refine ⟨⟨o.s.g.trans (Ex.new o.g), fun a u q => ?_, o.s.h, fun a u q => (upd_ne (ne_of_none q o.n)).trans (o.s.f a u q)⟩, Ex.new o.g⟩
  by_cases hp : a = p
  · subst hp
    rw [upd_same] at q
    rw [o.at_]
    exact q
  · rw [upd_ne hp] at q
    exact o.s.gh a u q
theorem w_raise1 (h : EvH te σ G H d) (k : ∀ G2 H2, Stp G H G2 H2 → E (.ref C) none H2) : te σ H fun _ H1 => E (.ref C) none H1 := h _ fun v G2 H2 s _ => k G2 H2 s
end
section
variable {K : PySem.W.Frag} {σ : L2.St} {G H G' H' : Hp} {p : Addr} {te tv : TE} {d : PyData} {D : Ends} {tz : TS} {j : Nat} {kvs : List (Key × V)} {n : Str} {dv : PyData}
/-- in a dict that stands; key a text -/
theorem ec_din (hs : σ[j]? = some (some (.ref p))) (hp : H p = some (.dK kvs)) (h : EvH te σ G H (.str n)) : EvCH (tB (tDIn te (tVar j))) σ G H (valV kvs (Sum.inr n)).isSome := fun Q q => h _ fun v G2 H2 s hv =>
  ⟨.ref p, hs, p, _, rfl, (rp_str hv) ▸ DGet.k (k := Sum.inr n) (s.h _ _ hp), _, rfl, q G2 H2 s⟩
theorem ec_dnin (hs : σ[j]? = some (some (.ref p))) (hp : H p = some (.dK kvs)) (h : EvH te σ G H (.str n)) : EvCH (tB (tDNotIn te (tVar j))) σ G H (!(valV kvs (Sum.inr n)).isSome) := fun Q q => h _ fun v G2 H2 s hv =>
  ⟨.ref p, hs, p, _, rfl, (rp_str hv) ▸ DGet.k (k := Sum.inr n) (s.h _ _ hp), _, rfl, q G2 H2 s⟩
theorem ec_dini {i : Int} (hs : σ[j]? = some (some (.ref p))) (hp : H p = some (.dK kvs)) (h : EvH te σ G H (.int i)) : EvCH (tB (tDIn te (tVar j))) σ G H (valV kvs (Sum.inl i)).isSome := fun Q q => h _ fun v G2 H2 s hv =>
  ⟨.ref p, hs, p, _, rfl, (rp_int hv) ▸ DGet.k (k := Sum.inl i) (s.h _ _ hp), _, rfl, q G2 H2 s⟩
/-- d[k] = v, a dict of one's own -/
theorem w_dput (hs : σ[j]? = some (some (.ref p))) {G0 H0 : Hp} (o : OwnD G0 H0 p kvs G H) (hv : EvH tv σ G H dv) (hk : ∀ G2 H2, Stp G H G2 H2 → EvH te σ G2 H2 (.str n)) (hl : kvs.length < 100000)
    (k : ∀ v G2 H2, Stp G H G2 H2 → Rp G2 v dv → OwnD G0 H0 p (putK kvs (Sum.inr n) v) G2 (upd H2 p (.dK (putK kvs (Sum.inr n) v))) → D.nx σ (upd H2 p (.dK (putK kvs (Sum.inr n) v)))) : sDPut (tVar j) te tv D σ H :=
  hv _ fun v G2 H2 s r => ⟨.ref p, hs, hk G2 H2 s _ fun y G3 H3 s3 ry => ⟨p, _, rfl, (rp_str ry) ▸ DPut.k (k := Sum.inr n) (s3.h _ _ (s.h _ _ o.at_)) (sz_lt hl), k v G3 H3 (s.trans s3) (rp_mono s3.g _ _ r) (OwnD.put (o.step (s.trans s3)))⟩⟩
theorem w_dputi {i : Int} (hs : σ[j]? = some (some (.ref p))) {G0 H0 : Hp} (o : OwnD G0 H0 p kvs G H) (hv : EvH tv σ G H dv) (hk : ∀ G2 H2, Stp G H G2 H2 → EvH te σ G2 H2 (.int i)) (hl : kvs.length < 100000)
    (k : ∀ v G2 H2, Stp G H G2 H2 → Rp G2 v dv → OwnD G0 H0 p (putK kvs (Sum.inl i) v) G2 (upd H2 p (.dK (putK kvs (Sum.inl i) v))) → D.nx σ (upd H2 p (.dK (putK kvs (Sum.inl i) v)))) : sDPut (tVar j) te tv D σ H :=
  hv _ fun v G2 H2 s r => ⟨.ref p, hs, hk G2 H2 s _ fun y G3 H3 s3 ry => ⟨p, _, rfl, (rp_int ry) ▸ DPut.k (k := Sum.inl i) (s3.h _ _ (s.h _ _ o.at_)) (sz_lt hl), k v G3 H3 (s.trans s3) (rp_mono s3.g _ _ r) (OwnD.put (o.step (s.trans s3)))⟩⟩
theorem w_noneD (k : D.nx σ H) : tNext D σ H := k
end
theorem val_ints {v : V} (m : Int) : ∀ l : List Int, (valV (l.map fun n => ((Sum.inl n : Key), v)) (Sum.inl m)).isSome = decide (m ∈ l)
  | [] => rfl
  | n :: l => by
    by_cases h : n = m
    · subst h
      rw [List.map_cons, valV_pos rfl]
      simp
    · rw [List.map_cons, valV_neg (fun e => h (Sum.inl.inj e)), val_ints m l]
      have : ¬ m = n := fun e => h e.symm
      simp [this]
theorem val_none_of {κ : Type} [DecidableEq κ] {kvs : List (κ × V)} {k : κ} (h : (valV kvs k).isSome = false) : valV kvs k = none := by
  cases hh : valV kvs k with
  | none => rfl
  | some v => rw [hh] at h; cases h
theorem val_names {v : V} (m : Str) : ∀ l : List Str, (valV (l.map fun n => ((Sum.inr n : Key), v)) (Sum.inr m)).isSome = decide (m ∈ l)
  | [] => rfl
  | n :: l => by
    by_cases h : n = m
    · subst h
      rw [List.map_cons, valV_pos rfl]
      simp
    · rw [List.map_cons, valV_neg (fun e => h (Sum.inr.inj e)), val_names m l]
      have : ¬ m = n := fun e => h e.symm
      simp [this]
/-! ### keys that are tuples; what stands in dicts -/
def kD : Key → PyData
  | .inl i => .int i
  | .inr x => .str x
theorem ra_keys {G : Hp} : ∀ {ks : List Key} {vs : List V}, RpAll G vs (ks.map kD) → vs = ks.map kV
  | [], _, h => by cases h; rfl
  | .inl i :: ks, _, h => by
    cases h with
    | cons h1 h2 => rw [rp_int h1, ra_keys h2]; rfl
  | .inr x :: ks, _, h => by
    cases h with
    | cons h1 h2 => rw [rp_str h1, ra_keys h2]; rfl
/-- an expression that is a key of a dict: a tuple, just made -/
def EvK (te : TE) (σ : L2.St) (G : Hp) (ks : List Key) : Prop := ∀ H, Ex G H → ∀ Q : VK, (∀ b G2 H2, Stp G H G2 H2 → G2 b = some (.tup (ks.map kV)) → Q (.ref b) H2) → te σ H Q
def EvKH (te : TE) (σ : L2.St) (G H : Hp) (ks : List Key) : Prop := ∀ Q : VK, (∀ b G2 H2, Stp G H G2 H2 → G2 b = some (.tup (ks.map kV)) → Q (.ref b) H2) → te σ H Q
theorem EvK.mono {te : TE} {σ : L2.St} {G G' : Hp} {ks : List Key} (x : Ex G G') (h : EvK te σ G ks) : EvK te σ G' ks := fun H e Q q => h H (x.trans e) Q fun b G2 H2 s hb => q b _ H2 (s.up x e).1 ((s.up x e).2 _ _ hb)
theorem ek_at {te : TE} {σ : L2.St} {G H : Hp} {ks : List Key} (e : Ex G H) (h : EvK te σ G ks) : EvKH te σ G H ks := fun Q q => h H e Q q
theorem ek_tup {ta : TA} {σ : L2.St} {G : Hp} {ks : List Key} (h : EvS ta σ G (ks.map kD)) (hl : ks.length ≤ 100000) : EvK (tTup ta) σ G ks := fun H e Q q =>
  h H e _ fun vs G2 H2 s hv => ⟨sz_of (by rw [ra_len hv, List.length_map]; exact hl), fun p hp => by
    have ev := ra_keys hv
    subst ev
    exact q p _ _ (s.trans (Stp.new s.gh hp)) upd_same⟩
/-- a key that stands -/
theorem ek_var {i : Nat} {σ : L2.St} {G : Hp} {b : Addr} {ks : List Key} (h : σ[i]? = some (some (.ref b))) (hb : G b = some (.tup (ks.map kV))) : EvK (tVar i) σ G ks := fun H e Q q => ⟨.ref b, h, q b G H (Stp.refl e) hb⟩
section
variable {σ : L2.St} {G H G' H' : Hp} {p a : Addr} {te tv td ty : TE} {d : PyData} {D : Ends} {tz : TS} {j : Nat} {kvs : List (Key × V)} {kts : List (List Key × V)} {n : Str} {dv : PyData} {ks : List Key} {u : V}
theorem ed_dget (hs : σ[j]? = some (some (.ref a))) (ha : G a = some (.dK kvs)) (h : EvD ty σ G (.str n)) (hv : valV kvs (Sum.inr n) = some u) (hu : Rp G u d) : EvD (tDGet (tVar j) ty) σ G d := fun H e Q q =>
  ⟨.ref a, hs, h H e _ fun v G2 H2 s r => ⟨a, u, rfl, (rp_str r) ▸ hv ▸ DGet.k (k := Sum.inr n) (s.gh _ _ (s.g _ _ ha)), q u G2 H2 s (rp_mono s.g _ _ hu)⟩⟩
theorem ed_dgetT (hs : σ[j]? = some (some (.ref a))) (ha : G a = some (.dT kts)) (h : EvK ty σ G ks) (hv : valV kts ks = some u) (hu : Rp G u d) : EvD (tDGet (tVar j) ty) σ G d := fun H e Q q =>
  ⟨.ref a, hs, h H e _ fun b G2 H2 s hb => by
    exact ⟨a, u, rfl, hv ▸ DGet.t (k := ks) (s.gh _ _ (s.g _ _ ha)) (s.gh _ _ hb), q u G2 H2 s (rp_mono s.g _ _ hu)⟩⟩
theorem ec_dinD (hs : σ[j]? = some (some (.ref a))) (ha : G a = some (.dK kvs)) (h : EvD ty σ G (.str n)) : EvC (tB (tDIn ty (tVar j))) σ G (valV kvs (Sum.inr n)).isSome := fun H e Q q =>
  h H e _ fun v G2 H2 s r => ⟨.ref a, hs, a, _, rfl, (rp_str r) ▸ DGet.k (k := Sum.inr n) (s.gh _ _ (s.g _ _ ha)), _, rfl, q G2 H2 s⟩
theorem ec_dninD (hs : σ[j]? = some (some (.ref a))) (ha : G a = some (.dK kvs)) (h : EvD ty σ G (.str n)) : EvC (tB (tDNotIn ty (tVar j))) σ G (!(valV kvs (Sum.inr n)).isSome) := fun H e Q q =>
  h H e _ fun v G2 H2 s r => ⟨.ref a, hs, a, _, rfl, (rp_str r) ▸ DGet.k (k := Sum.inr n) (s.gh _ _ (s.g _ _ ha)), _, rfl, q G2 H2 s⟩
theorem ec_dninT (hs : σ[j]? = some (some (.ref a))) (ha : G a = some (.dT kts)) (h : EvK ty σ G ks) : EvC (tB (tDNotIn ty (tVar j))) σ G (!(valV kts ks).isSome) := fun H e Q q =>
  h H e _ fun b G2 H2 s hb => by
    exact ⟨.ref a, hs, a, _, rfl, DGet.t (k := ks) (s.gh _ _ (s.g _ _ ha)) (s.gh _ _ hb), _, rfl, q G2 H2 s⟩
/-- in a dict of one's own, keys tuples -/
theorem ec_dinTO (hs : σ[j]? = some (some (.ref p))) (hp : H p = some (.dT kts)) (h : EvKH te σ G H ks) : EvCH (tB (tDIn te (tVar j))) σ G H (valV kts ks).isSome := fun Q q => h _ fun b G2 H2 s hb => by
    exact ⟨.ref p, hs, p, _, rfl, DGet.t (k := ks) (s.h _ _ hp) (s.gh _ _ hb), _, rfl, q G2 H2 s⟩
theorem w_dputT (hs : σ[j]? = some (some (.ref p))) {G0 H0 : Hp} (o : OwnT G0 H0 p kts G H) (hv : EvH tv σ G H dv) (hk : ∀ G2 H2, Stp G H G2 H2 → EvKH te σ G2 H2 ks) (hl : kts.length < 100000)
    (k : ∀ v G2 H2, Stp G H G2 H2 → Rp G2 v dv → OwnT G0 H0 p (putK kts ks v) G2 (upd H2 p (.dT (putK kts ks v))) → D.nx σ (upd H2 p (.dT (putK kts ks v)))) : sDPut (tVar j) te tv D σ H :=
  hv _ fun v G2 H2 s r => ⟨.ref p, hs, hk G2 H2 s _ fun b G3 H3 s3 hb => by
    exact ⟨p, _, rfl, DPut.t (k := ks) (s3.h _ _ (s.h _ _ o.at_)) (s3.gh _ _ hb) (sz_lt hl), k v G3 H3 (s.trans s3) (rp_mono s3.g _ _ r) (OwnT.put (o.step (s.trans s3)))⟩⟩
end
/-! ### keys and values, one beside the other -/
def zK (ks : List Str) (us : List V) : List (Key × V) := (ks.zip us).map fun q => (Sum.inr q.1, q.2)
theorem zK_snoc {ks : List Str} {us : List V} {k : Str} {u : V} (h : us.length = ks.length) : zK (ks ++ [k]) (us ++ [u]) = zK ks us ++ [(Sum.inr k, u)] := by
  unfold zK
  rw [List.zip_append h.symm, List.map_append]
  rfl
theorem zK_none (k : Str) : ∀ {ks : List Str} {us : List V}, k ∉ ks → valV (zK ks us) (Sum.inr k) = none
  | [], _, _ => rfl
  | _ :: _, [], _ => rfl
  | k' :: ks, u :: us, h => (valV_neg (fun e => h (by rw [show k' = k from Sum.inr.inj e]; exact List.mem_cons_self))).trans (zK_none k fun z => h (List.mem_cons_of_mem _ z))
/-! ### an object of one's own, being made -/
def hid (a : Addr) (G : Hp) : Hp := fun b => if b = a then none else G b
theorem hid_same {a : Addr} {G : Hp} : hid a G a = none := if_pos rfl
theorem hid_ne {a b : Addr} {G : Hp} (h : b ≠ a) : hid a G b = G b := if_neg h
def notSeq : HO → Bool
  | .lst _ => false
  | .tup _ => false
  | .frz _ _ => false
  | _ => true
mutual
theorem rp_hid {a : Addr} {G : Hp} {o : HO} (ha : G a = some o) (ho : notSeq o = true) : ∀ (d : PyData) (v : V), Rp G v d → Rp (hid a G) v d
  | .none, _, h => by cases h; exact .non
  | .bool b, _, h => by cases h; exact .bl b
  | .int i, _, h => by cases h; exact .int i
  | .str x, _, h => by cases h; exact .str x
  | .list ds, _, h => by
    cases h with
    | @lst b _ _ hs hr => exact .lst ((hid_ne fun e => by rw [e, ha] at hs; cases hs; cases ho).trans hs) (ra_hid ha ho ds _ hr)
  | .tuple ds, _, h => by
    cases h with
    | @tup b _ _ hs hr => exact .tup (hs.elim (fun hs => .inl ((hid_ne fun e => by rw [e, ha] at hs; cases hs; cases ho).trans hs)) fun ⟨ob, h1, hs⟩ => .inr ⟨ob, h1, (hid_ne fun e => by rw [e, ha] at hs; cases hs; cases ho).trans hs⟩) (ra_hid ha ho ds _ hr)
  | .dict kvs, _, h => by cases h
theorem ra_hid {a : Addr} {G : Hp} {o : HO} (ha : G a = some o) (ho : notSeq o = true) : ∀ (ds : List PyData) (vs : List V), RpAll G vs ds → RpAll (hid a G) vs ds
  | [], _, h => by cases h; exact .nil
  | d :: ds, _, h => by
    cases h with
    | cons h1 h2 => exact .cons (rp_hid ha ho d _ h1) (ra_hid ha ho ds _ h2)
end
structure OwnI (G0 H0 : Hp) (a C dx : Addr) (fs : List (Str × V)) (G H : Hp) : Prop where
  s : Stp G0 H0 G H
  n : H0 a = none
  g : G a = none
  at_ : H a = some (.ins C dx fs)
section
variable {K : PySem.W.Frag} {σ : L2.St} {G0 H0 G H G3 H3 : Hp} {a C dx : Addr} {fs : List (Str × V)} {d : PyData} {f : Str} {v : V} {te td ty tl tk tv : TE} {D : Ends} {tz : TS} {j : Nat} {E : XK}
theorem OwnI.ex (o : OwnI G0 H0 a C dx fs G H) : Ex G (upd G a (.ins C dx fs)) ∧ Ex (upd G a (.ins C dx fs)) H := ⟨Ex.new o.g, fun b u q => by
  by_cases hb : b = a
  · subst hb
    rw [upd_same] at q
    rw [o.at_]
    exact q
  · rw [upd_ne hb] at q
    exact o.s.gh b u q⟩
theorem OwnI.put (o : OwnI G0 H0 a C dx fs G H) (S : Stp (upd G a (.ins C dx fs)) H G3 H3) (fs2 : List (Str × V)) : H3 a = some (.ins C dx fs) ∧ G3 a = some (.ins C dx fs) ∧ OwnI G0 H0 a C dx fs2 (hid a G3) (upd H3 a (.ins C dx fs2)) ∧ Ex G (hid a G3) := by
  have g3 : G3 a = some (.ins C dx fs) := S.g _ _ upd_same
  have x : Ex G (hid a G3) := fun b u q => by
    have hb : b ≠ a := fun e => by rw [e, o.g] at q; cases q
    rw [hid_ne hb]
    exact S.g b u ((upd_ne hb).trans q)
  refine ⟨S.h _ _ o.at_, g3, ⟨⟨o.s.g.trans x, fun b u q => ?_, fun b u q => ?_, fun b u q => ?_⟩, o.n, hid_same, upd_same⟩, x⟩
  · have hb : b ≠ a := fun e => by rw [e, hid_same] at q; cases q
    rw [upd_ne hb]
    rw [hid_ne hb] at q
    exact S.gh b u q
  · have hb : b ≠ a := fun e => by rw [e, o.n] at q; cases q
    rw [upd_ne hb]
    exact S.h b u (o.s.h b u q)
  · have hb : b ≠ a := fun e => by rw [e, o.n] at q; cases q
    rw [hid_ne hb, S.f b u (o.s.h b u q), upd_ne hb]
    exact o.s.f b u q
theorem OwnI.fail (o : OwnI G0 H0 a C dx fs G H) (S : Stp (upd G a (.ins C dx fs)) H G3 H3) : ∃ G2, Stp G0 H0 G2 H3 := by
  obtain ⟨h1, h2, h3, h4⟩ := o.put S fs
  refine ⟨hid a G3, ⟨h3.s.g, fun b u q => ?_, o.s.h.trans S.h, h3.s.f⟩⟩
  have hb : b ≠ a := fun e => by rw [e, hid_same] at q; cases q
  rw [hid_ne hb] at q
  exact S.gh b u q
/-- o.f, read -/
theorem ed_fld (hs : σ[j]? = some (some (.ref a))) (ha : G a = some (.ins C dx fs)) (c : Cls K C) (n : NoAttr K C f) (hl : fs.lookup f = some v) (hv : Rp G v d) : EvD (tFld K (tVar j) f) σ G d := fun H e Q q =>
  ⟨.ref a, hs, a, C, dx, fs, v, rfl, e _ _ ha, c, n, hl, q v G H (Stp.refl e) hv⟩
theorem ev_fld (hs : σ[j]? = some (some (.ref a))) (ha : G a = some (.ins C dx fs)) (c : Cls K C) (n : NoAttr K C f) (hl : fs.lookup f = some v) : EvV (tFld K (tVar j) f) σ G v := fun H e Q q =>
  ⟨.ref a, hs, a, C, dx, fs, v, rfl, e _ _ ha, c, n, hl, q G H (Stp.refl e)⟩
/-- self.f = e, behind e's value -/
theorem fld_put {N : L2.St → Hp → Prop} {fs2 : List (Str × V)} (hs : σ[j]? = some (some (.ref a))) (h3 : H3 a = some (.ins C dx fs)) (c : Cls K C) (n : NoAttr K C f) (hl : fs.length < 1000) (e : putF f v fs = fs2) (k : N σ (upd H3 a (.ins C dx fs2))) :
    (tVar j) σ H3 fun x H2 => ∃ a C dx fs, x = .ref a ∧ H2 a = some (.ins C dx fs) ∧ Cls K C ∧ NoAttr K C f ∧ fs.length < 1000 ∧ N σ (upd H2 a (.ins C dx (putF f v fs))) :=
  ⟨.ref a, hs, a, C, dx, fs, rfl, h3, c, n, hl, e ▸ k⟩
theorem w_fldS (h : EvH te σ G H d) (hs : σ[j]? = some (some (.ref a))) (c : Cls K C) (n : NoAttr K C f) (hl : fs.length < 1000) (k : ∀ v G2 H2, Stp G H G2 H2 → Rp G2 v d → ∃ fs2, H2 a = some (.ins C dx fs) ∧ putF f v fs = fs2 ∧ tz D σ (upd H2 a (.ins C dx fs2))) : tSeq (sFld K (tVar j) te f) tz D σ H :=
  h _ fun v G2 H2 s hv => by
    obtain ⟨fs2, h2, rfl, q⟩ := k v G2 H2 s hv
    exact ⟨.ref a, hs, a, C, dx, fs, rfl, h2, c, n, hl, q⟩
theorem w_fldV (h : te σ H fun y H1 => (tVar j) σ H1 fun x H2 => ∃ a C dx fs, x = .ref a ∧ H2 a = some (.ins C dx fs) ∧ Cls K C ∧ NoAttr K C f ∧ fs.length < 1000 ∧ tz D σ (upd H2 a (.ins C dx (putF f y fs)))) : tSeq (sFld K (tVar j) te f) tz D σ H := h
theorem OwnI.set (o : OwnI G0 H0 a C dx fs G H) (fs2 : List (Str × V)) : OwnI G0 H0 a C dx fs2 G (upd H a (.ins C dx fs2)) := ⟨⟨o.s.g, Ex.mut o.s.gh o.g, Ex.mut o.s.h o.n, o.s.f⟩, o.n, o.g, upd_same⟩
theorem OwnI.step (o : OwnI G0 H0 a C dx fs G H) (S : Stp (upd G a (.ins C dx fs)) H G3 H3) : OwnI G0 H0 a C dx fs (hid a G3) H3 ∧ Ex G (hid a G3) := by
  obtain ⟨h1, h2, h3, h4⟩ := o.put S fs
  have e : upd H3 a (.ins C dx fs) = H3 := by
    funext b
    by_cases hb : b = a
    · subst hb
      rw [upd_same, h1]
    · rw [upd_ne hb]
  rw [e] at h3
  exact ⟨h3, h4⟩
theorem OwnI.done (o : OwnI G0 H0 a C dx fs G H) : Stp G0 H0 (upd G a (.ins C dx fs)) H ∧ Ex G (upd G a (.ins C dx fs)) := by
  obtain ⟨x, y⟩ := o.ex
  exact ⟨⟨o.s.g.trans x, y, o.s.h, fun b u q => (upd_ne (ne_of_none q o.n)).trans (o.s.f b u q)⟩, x⟩
/-- in a dict told by an expression -/
theorem ec_dninV {kvs : List (Key × V)} {n : Str} (hy : EvD ty σ G (.str n)) (hd : ∀ G', Ex G G' → EvV td σ G' (.ref a)) (ha : G a = some (.dK kvs)) : EvC (tB (tDNotIn ty td)) σ G (!(valV kvs (Sum.inr n)).isSome) := fun H e Q q =>
  hy H e _ fun v G2 H2 s r => hd G2 s.g H2 s.gh _ fun G3 H3 s3 => ⟨a, _, rfl, (rp_str r) ▸ DGet.k (k := Sum.inr n) ((s.trans s3).gh _ _ ((s.trans s3).g _ _ ha)), _, rfl, q G3 H3 (s.trans s3)⟩
theorem ed_dgetV {kvs : List (Key × V)} {n : Str} {u : V} (hd : EvV td σ G (.ref a)) (ha : G a = some (.dK kvs)) (hy : ∀ G', Ex G G' → EvD ty σ G' (.str n)) (hv : valV kvs (Sum.inr n) = some u) (hu : Rp G u d) : EvD (tDGet td ty) σ G d := fun H e Q q =>
  hd H e _ fun G2 H2 s => hy G2 s.g H2 s.gh _ fun v G3 H3 s3 r => ⟨a, u, rfl, (rp_str r) ▸ hv ▸ DGet.k (k := Sum.inr n) ((s.trans s3).gh _ _ ((s.trans s3).g _ _ ha)), q u G3 H3 (s.trans s3) (rp_mono (s.trans s3).g _ _ hu)⟩
theorem ed_dgetTV {kts : List (List Key × V)} {ks : List Key} {u : V} (hd : EvV td σ G (.ref a)) (ha : G a = some (.dT kts)) (hy : ∀ G', Ex G G' → EvK ty σ G' ks) (hv : valV kts ks = some u) (hu : Rp G u d) : EvD (tDGet td ty) σ G d := fun H e Q q =>
  hd H e _ fun G2 H2 s => hy G2 s.g H2 s.gh _ fun b G3 H3 s3 hb => by
    exact ⟨a, u, rfl, hv ▸ DGet.t (k := ks) ((s.trans s3).gh _ _ ((s.trans s3).g _ _ ha)) (s3.gh _ _ hb), q u G3 H3 (s.trans s3) (rp_mono (s.trans s3).g _ _ hu)⟩
theorem ec_dninTV {kts : List (List Key × V)} {ks : List Key} (hy : EvK ty σ G ks) (hd : ∀ G', Ex G G' → EvV td σ G' (.ref a)) (ha : G a = some (.dT kts)) : EvC (tB (tDNotIn ty td)) σ G (!(valV kts ks).isSome) := fun H e Q q =>
  hy H e _ fun b G2 H2 s hb => hd G2 s.g H2 s.gh _ fun G3 H3 s3 => by
    exact ⟨a, _, rfl, DGet.t (k := ks) ((s.trans s3).gh _ _ ((s.trans s3).g _ _ ha)) (s3.gh _ _ (s3.g _ _ hb)), _, rfl, q G3 H3 (s.trans s3)⟩
/-- {key(a): val(a) for a in as}, the keys texts, all different; over a tuple -/
theorem w_dcT {α : Type} {vs : List Nat} {as : List α} {fd y : α → PyData} {key : α → Str} {Q : VK} (h : EvD tl σ G (.tuple (as.map fd))) (e : Ex G H) (hz : as.length < 100000) (hw : ∀ x, wipe ((wipe σ vs).set j (some x)) vs = wipe σ vs) (hn : (as.map key).Nodup)
    (hk : ∀ a ∈ as, ∀ u G', Ex G G' → Rp G' u (fd a) → EvD tk ((wipe σ vs).set j (some u)) G' (.str (key a))) (hy : ∀ a ∈ as, ∀ u G', Ex G G' → Rp G' u (fd a) → EvD tv ((wipe σ vs).set j (some u)) G' (y a))
    (q : ∀ t us G2 H2, Stp G H G2 H2 → G2 t = some (.dK (zK (as.map key) us)) → RpAll G2 us (as.map y) → Q (.ref t) H2) : tDc (iTup K tl) (gName j) tYes tk tv vs σ H Q := h H e _ fun v G1 H1 s hv => by
  obtain ⟨a, xs, rfl, h1, h2⟩ := rp_tup hv
  have lx : xs.length = as.length := (ra_len h2).trans (List.length_map _)
  refine ⟨a, rfl, ⟨xs, st_t (xt (s.gh) h1)⟩, fun Dl hD => dc_tup (xs := xs) (fun i H' => ∃ G' us, OwnD G1 H1 Dl (zK ((as.take i).map key) us) G' H' ∧ RpAll G' us ((as.take i).map y)) ?_ (fun i H' _ p => ?_) (fun i x H' hx p => ?_) (fun H' p => ?_)⟩
  · exact ⟨G1, [], OwnD.new s.gh hD, .nil⟩
  · obtain ⟨G', us, o, _⟩ := p
    exact st_t (xt o.s.gh (xt o.s.g h1))
  · obtain ⟨G', us, o, r⟩ := p
    obtain ⟨dd, hd2, hr⟩ := ra_get' h2 hx
    rw [List.getElem?_map] at hd2
    cases ha : as[i]? with
    | none => rw [ha] at hd2; cases hd2
    | some b =>
      rw [ha] at hd2
      cases hd2
      have hb : b ∈ as := List.mem_of_getElem? ha
      have et : as.take (i + 1) = as.take i ++ [b] := by
        rw [List.take_add_one, ha]
        rfl
      refine ⟨hw _, ?_⟩
      simp only [tYes, if_true]
      refine (hk b hb x G' (s.g.trans o.s.g) (rp_mono o.s.g _ _ hr)) H' o.s.gh _ fun v3 G3 H3 s3 r3 => ?_
      refine (hy b hb x G3 ((s.g.trans o.s.g).trans s3.g) (rp_mono (o.s.g.trans s3.g) _ _ hr)) H3 s3.gh _ fun v4 G4 H4 s4 r4 => ?_
      have o4 := o.step (s3.trans s4)
      have nin : key b ∉ (as.take i).map key := fun z => by
        have hd : ((as.take (i + 1)).map key).Nodup := hn.sublist ((List.take_sublist _ _).map _)
        rw [et, List.map_append] at hd
        exact (List.nodup_append.mp hd).2.2 _ z (key b) (by simp) rfl
      have lu : us.length = ((as.take i).map key).length := by rw [ra_len r, List.length_map, List.length_map]
      refine ⟨_, Sum.inr (key b), rp_str r3, o4.at_, ?_, G4, us ++ [v4], ?_, ?_⟩
      · unfold zK
        rw [List.length_map, List.length_zip, lu, List.length_map, List.length_take, sizeLine_eq]
        omega
      · rw [putK_new _ (zK_none _ nin), ← zK_snoc lu, et, List.map_append]
        exact o4.put
      · rw [et, List.map_append]
        exact ra_app (ra_mono (s3.trans s4).g _ _ r) (ra_one r4)
  · obtain ⟨G', us, o, r⟩ := p
    rw [lx, List.take_length] at o r
    obtain ⟨s4, x4⟩ := o.done
    exact q Dl us _ H' (s.trans s4) upd_same (ra_mono x4 _ _ r)
end
end Fw

namespace Fw
open PySem PySem.Spec PyProof.Rows L2 Evl
open TL (tl len_tl ext_tl tl_append tl_mk mk_tl)
/-! ### items by number -/
theorem atI_getD {ns : List Int} {i : Int} (h0 : 0 ≤ i) (h1 : i < ns.length) : atI (ns.map PyData.int) i = some (.int (ns.getD i.toNat 0)) := by
  obtain ⟨k, rfl⟩ := Int.eq_ofNat_of_zero_le h0
  have hk : k < ns.length := by omega
  refine atI_nat ?_
  rw [List.getElem?_map, List.getElem?_eq_getElem hk]
  simp [hk]
theorem atI_chr {l : List Nat} {i : Int} (h0 : 0 ≤ i) (h1 : i < l.length) : atI l i = some (l.getD i.toNat 0) := by
  obtain ⟨k, rfl⟩ := Int.eq_ofNat_of_zero_le h0
  have hk : k < l.length := by omega
  refine atI_nat ?_
  rw [List.getElem?_eq_getElem hk]
  simp [hk]
theorem Sm.getD {ns : List Int} (h : Sm ns) (i : Nat) : 0 ≤ ns.getD i 0 ∧ ns.getD i 0 < 1009 := by
  rw [List.getD_eq_getElem?_getD]
  cases e : ns[i]? with
  | none => decide
  | some n => exact h.get e
section
variable {K : PySem.W.Frag} {σ : L2.St} {G G' H H' : Hp} {te ta tb tl' ti : TE} {t tt : TT} {d : PyData} {D : Ends} {tu tw tz : TS} {g : TG} {b : Bool} {ds : List PyData} {ns : List Int} {i : Int} {x : Str}
theorem ed_num (h : EvD te σ G (.list (ns.map PyData.int))) (hi : EvD ti σ G (.int i)) (h0 : 0 ≤ i) (h1 : i < ns.length) : EvD (tOp (rIx K) te ti) σ G (.int (ns.getD i.toNat 0)) := ed_op h hi (r2_ixl (atI_getD h0 h1))
theorem ed_chr (h : EvD te σ G (.str x)) (hi : EvD ti σ G (.int i)) (hz : x.length ≤ 100000) (h0 : 0 ≤ i) (h1 : i < (tl x).length) : EvD (tOp (rIx K) te ti) σ G (.str ⟨#[(tl x).getD i.toNat 0]⟩) := ed_op h hi (r2_ixs (by rw [sizeLine_eq]; omega) (atI_chr h0 h1))
/-- int(..) of an int -/
theorem ed_int1 (h : EvD te σ G (.int i)) : EvD (tCB rInt1 (tCons te tNil)) σ G (.int i) := ed_cb (es_cons h es_nil) rd_int
theorem ed_mod {j : Int} (h : EvD te σ G (.int i)) (h2 : EvD ti σ G (.int j)) (hj : 0 < j) : EvD (tOp (rI (fun _ j => 0 < j) fun i j => .int (i % j)) te ti) σ G (.int (i % j)) := ed_op h h2 (r2_I hj)
theorem ed_div {j : Int} (h : EvD te σ G (.int i)) (h2 : EvD ti σ G (.int j)) (hj : 0 < j ∧ j < 1073741824) : EvD (tOp (rI CDiv fun i j => .int (i / j)) te ti) σ G (.int (i / j)) := ed_op h h2 (r2_I hj)
/-- a loop over the signs of a text -/
theorem w_forC {j : Nat} (h : EvD tl' σ G (.str x)) (e : Ex G H) (Pv : Hp → Nat → L2.St → Hp → Prop) (h0 : ∀ G2 H2, Stp G H G2 H2 → Pv G2 0 σ H2)
    (hs : ∀ G2 i c σ' H', Ex G G2 → (tl x)[i]? = some c → Pv G2 i σ' H' → tu { D with nx := Pv G2 (i + 1), ct := Pv G2 (i + 1), bk := tz D } (σ'.set j (some (.str ⟨#[c]⟩))) H') (hd : ∀ G2 σ' H', Ex G G2 → Pv G2 (tl x).length σ' H' → tz D σ' H') : tSeq (tFor (iStr tl') (gName j) tu) tz D σ H :=
  h H e _ fun v G2 H2 s hv => ⟨x, rp_str hv, by
    refine for_it walk_str (Pv G2) (h0 G2 H2 s) (fun _ _ _ _ _ => True.intro) (fun i v σ' H0 H' hi p yy => ?_) (fun σ' H' p => ?_)
    · obtain ⟨rfl, c, hc, rfl⟩ := yy
      refine hs G2 i c σ' _ s.g ?_ p
      unfold TL.tl
      rw [Array.getElem?_toList]
      exact hc
    · have lx : x.cps.size = (tl x).length := by
        unfold TL.tl
        simp
      rw [lx] at p
      exact hd G2 σ' H' s.g p⟩
end
theorem tl_cut (z : Str) (lo hi : Option Int) : tl (cutS z lo hi) = ((tl z).drop (HT.sIx (tl z).length 0 lo)).take (HT.sIx (tl z).length (tl z).length hi - HT.sIx (tl z).length 0 lo) := by
  have e : z.length = (tl z).length := len_tl z
  unfold cutS
  rw [e]
theorem cut1 {z : Str} {c : Nat} {r : List Nat} (h : tl z = c :: r) : cutS z none (some 1) = ⟨#[c]⟩ := by
  apply ext_tl
  rw [tl_cut, h, HT.sIx_none, show HT.sIx (c :: r).length (c :: r).length (some 1) = min 1 (c :: r).length from HT.sIx_nat _ _ 1]
  have : min 1 (c :: r).length = 1 := by
    rw [List.length_cons]
    omega
  rw [this]
  rfl
theorem chr_len (c : Nat) : (⟨#[c]⟩ : Str).length = 1 := rfl
/-! ### objects that are made; properties; errors that are caught -/
section
variable {K : PySem.W.Frag} {σ : L2.St} {G G' H H' : Hp} {te ta tb : TE} {d : PyData} {D : Ends} {C a dx : Addr} {fs : List (Str × V)} {f : Str} {v : V} {j m : Nat}
theorem OwnI.new (e : Ex G H) (h1 : H a = none) (h2 : H dx = none) (ne : dx ≠ a) : OwnI G H a C dx [] G (upd (upd H dx (.own a)) a (.ins C dx [])) := by
  have h3 : upd H dx (.own a) a = none := (upd_ne (Ne.symm ne)).trans h1
  exact ⟨⟨Ex.refl _, (e.trans (Ex.new h2)).trans (Ex.new h3), (Ex.new h2).trans (Ex.new h3), fun _ _ _ => rfl⟩, h1, fresh_back e h1, upd_same⟩
theorem p_make {sp : Sp} {E : XK} {tk : TA} {P : Hp → List V → Prop} {gV : List V → List V → List V} {Q : VK} (h : EvSP tk σ G P) (e : Ex G H) (hl : ∀ G vs, P G vs → vs.length = m)
    (k : ∀ vs a dx G2 H2, Stp G H G2 H2 → P G2 vs → OwnI G2 H2 a C dx [] G2 (upd (upd H2 dx (.own a)) a (.ins C dx [])) → sp (gV [.ref a] vs) (upd (upd H2 dx (.own a)) a (.ins C dx [])) (fun v H3 => v = .non ∧ Q (.ref a) H3) E) : tMakeK C 0 m sp gV E tNil tk σ H Q :=
  h H e _ fun vs G2 H2 s p => ⟨rfl, hl _ _ p, fun a dx h1 h2 ne => k vs a dx G2 H2 s p (OwnI.new s.gh h1 h2 ne)⟩
theorem d_make {sp : Sp} {E : XK} {tk : TA} {ds : List PyData} {gV : List V → List V → List V} {Q : VK} (h : EvS tk σ G ds) (e : Ex G H) (hl : ds.length = m)
    (k : ∀ vs a dx G2 H2, Stp G H G2 H2 → RpAll G2 vs ds → OwnI G2 H2 a C dx [] G2 (upd (upd H2 dx (.own a)) a (.ins C dx [])) → sp (gV [.ref a] vs) (upd (upd H2 dx (.own a)) a (.ins C dx [])) (fun v H3 => v = .non ∧ Q (.ref a) H3) E) : tMakeK C 0 m sp gV E tNil tk σ H Q :=
  h H e _ fun vs G2 H2 s p => ⟨rfl, (ra_len p).trans hl, fun a dx h1 h2 ne => k vs a dx G2 H2 s p (OwnI.new s.gh h1 h2 ne)⟩
theorem ra_four {vs : List V} {d1 d2 d3 d4 : PyData} (h : RpAll G vs [d1, d2, d3, d4]) : ∃ v1 v2 v3 v4, vs = [v1, v2, v3, v4] ∧ Rp G v1 d1 ∧ Rp G v2 d2 ∧ Rp G v3 d3 ∧ Rp G v4 d4 := by
  cases h with
  | cons h1 h2 =>
    obtain ⟨x, y, z, rfl, h4, h5, h6⟩ := ra_three h2
    exact ⟨_, x, y, z, rfl, h1, h4, h5, h6⟩
theorem w_asgQ {g : TG} (h : te σ H fun x H1 => g x σ H1 D.nx) : tAsg te g D σ H := h
theorem w_tryQ {te : Ends → TE} {g : TG} {tz : TS} (h : te { D with nx := tz D } σ H fun x H1 => g x σ H1 fun σ' H' => tz D σ' H') : tSeq (fun D σ H => tAsg (te D) g D σ H) tz D σ H := h
theorem w_whenK {t : TT} {tu tz : TS} {b : Bool} (M : L2.St → Hp → Prop) (h : EvCH t σ G H b) (h1 : b = true → ∀ G2 H2, Stp G H G2 H2 → (∀ σ' H', M σ' H' → tz D σ' H') → tu { D with nx := tz D } σ H2) (h2 : b = false → ∀ G2 H2, Stp G H G2 H2 → M σ H2) (k : ∀ σ' H', M σ' H' → tz D σ' H') : tSeq (tIfS t tu tNext) tz D σ H :=
  w_when h (fun hb G2 H2 s => h1 hb G2 H2 s k) (fun hb G2 H2 s => k _ _ (h2 hb G2 H2 s))
theorem w_ifK {t : TT} {tu tw tz : TS} {b : Bool} (M : L2.St → Hp → Prop) (h : EvCH t σ G H b) (h1 : b = true → ∀ G2 H2, Stp G H G2 H2 → (∀ σ' H', M σ' H' → tz D σ' H') → tu { D with nx := tz D } σ H2) (h2 : b = false → ∀ G2 H2, Stp G H G2 H2 → (∀ σ' H', M σ' H' → tz D σ' H') → tw { D with nx := tz D } σ H2) (k : ∀ σ' H', M σ' H' → tz D σ' H') : tSeq (tIfS t tu tw) tz D σ H :=
  w_if h (fun hb G2 H2 s => h1 hb G2 H2 s k) (fun hb G2 H2 s => h2 hb G2 H2 s k)
theorem ed_prop (hs : σ[j]? = some (some (.ref a))) (ha : G a = some (.ins C dx fs)) (hl : fs.lookup f = some v) (hv : Rp G v d) : EvD (tProp C (getSp C f) [] E0 (tVar j)) σ G d := fun H e Q q =>
  ⟨.ref a, hs, a, dx, fs, rfl, e _ _ ha, a, dx, fs, v, rfl, e _ _ ha, hl, q v G H (Stp.refl e) hv⟩
end
theorem exm_own {K : PySem.W.Frag} {mg : Str → Option Value} {x : Str} {C : Addr} (X : Xc K mg x C) : PySem.W.exmOne K (.ref C) (.ref C) = some true := by
  have h1 := X.sub
  have h2 := X.is
  have h3 := X.ty
  have h4 := X.self
  unfold PySem.W.isClsIn at h2
  unfold PySem.W.exmOne PySem.W.kitCls
  simp [h1, h2, h3, h4]
/-! ### data that may be compared -/
def okS (x : Str) : Prop := ∀ c ∈ tl x, c < 1114112
theorem okS.ok {x : Str} (h : okS x) : PyData.strOk x = true := by
  unfold PyData.strOk
  rw [Array.all_eq_true']
  intro c hc
  exact decide_eq_true (h c (Array.mem_toList_iff.mpr hc))
/-- depth and form of data of one's own: n levels at most -/
def okD : Nat → PyData → Prop
  | _, .none => True
  | _, .bool _ => True
  | _, .int _ => True
  | _, .str x => okS x
  | n + 1, .list ds => ∀ d ∈ ds, okD n d
  | n + 1, .tuple ds => ∀ d ∈ ds, okD n d
  | _, _ => False
theorem lay_all {ds : List PyData} (h : ∀ d ∈ ds, d.canLay0 = true) : PyData.canLayAll0 ds = true := by
  induction ds with
  | nil => rfl
  | cons d ds ih =>
    unfold PyData.canLayAll0
    rw [h d List.mem_cons_self, ih fun e he => h e (List.mem_cons_of_mem _ he)]
    rfl
theorem depth_all {n : Nat} {ds : List PyData} (h : ∀ d ∈ ds, d.depth ≤ n) : PyData.depthAll ds ≤ n := by
  induction ds with
  | nil => exact Nat.zero_le _
  | cons d ds ih =>
    unfold PyData.depthAll
    exact Nat.max_le.mpr ⟨h d List.mem_cons_self, ih fun e he => h e (List.mem_cons_of_mem _ he)⟩
theorem okD.lay : ∀ (n : Nat) (d : PyData), okD n d → d.canLay0 = true ∧ d.depth ≤ n + 1
  | n, .none, _ => ⟨rfl, by unfold PyData.depth; omega⟩
  | n, .bool _, _ => ⟨rfl, by unfold PyData.depth; omega⟩
  | n, .int _, _ => ⟨rfl, by unfold PyData.depth; omega⟩
  | n, .str x, h => ⟨by unfold PyData.canLay0; exact okS.ok (by cases n <;> exact h), by unfold PyData.depth; omega⟩
  | 0, .list _, h => h.elim
  | 0, .tuple _, h => h.elim
  | 0, .dict _, h => h.elim
  | _ + 1, .dict _, h => h.elim
  | n + 1, .list ds, h => by
    have h' : ∀ d ∈ ds, okD n d := h
    unfold PyData.canLay0 PyData.depth
    refine ⟨lay_all fun d hd => (okD.lay n d (h' d hd)).1, ?_⟩
    have := depth_all fun d hd => (okD.lay n d (h' d hd)).2
    omega
  | n + 1, .tuple ds, h => by
    have h' : ∀ d ∈ ds, okD n d := h
    unfold PyData.canLay0 PyData.depth
    refine ⟨lay_all fun d hd => (okD.lay n d (h' d hd)).1, ?_⟩
    have := depth_all fun d hd => (okD.lay n d (h' d hd)).2
    omega
theorem okD.shaped {n : Nat} {d : PyData} (h : okD n d) (hn : n ≤ 63) : SeqAt.shaped d = true := by
  obtain ⟨h1, h2⟩ := h.lay
  unfold SeqAt.shaped
  rw [h1, decide_eq_true (by omega)]
  rfl
theorem eqv_same {n : Nat} {d : PyData} (h : okD n d) : PyData.eqv d d = true := SeqAt.eqv_refl d h.lay.1
theorem eqv_bools (a b : Bool) : PyData.eqv (.bool a) (.bool b) = (a == b) := by
  unfold PyData.eqv
  rfl
end Fw

namespace Fw
open PySem PySem.Spec PyProof.Rows L2 Evl
open TL (tl len_tl ext_tl tl_append tl_mk mk_tl)
/-! ### a list of the caller's that changes -/
section
variable {K : PySem.W.Frag} {σ : L2.St} {G H G' H' G1 H1 G2 H2 : Hp} {p q : Addr} {ds es : List PyData} {d : PyData} {te : TE} {D : Ends} {tz : TS} {o : HO}
theorem hid_some {a : Addr} (h : hid p H a = some o) : a ≠ p ∧ H a = some o := by
  have ne : a ≠ p := fun e => by rw [e, hid_same] at h; cases h
  rw [hid_ne ne] at h
  exact ⟨ne, h⟩
theorem hid_none (h : H p = none) : hid p H = H := by
  funext a
  by_cases e : a = p
  · rw [e, hid_same, h]
  · rw [hid_ne e]
theorem hid_fresh (h : H q = none) : hid p H q = none := by
  by_cases e : q = p
  · rw [e, hid_same]
  · rw [hid_ne e, h]
theorem Stp.wk (s : Stp G H G2 H2) : Stp G (hid p H) G2 H2 :=
  ⟨s.g, s.gh, fun a u q => s.h a u (hid_some q).2, fun a u q => s.f a u (hid_some q).2⟩
theorem Stp.transP (a : Stp G (hid p H) G1 H1) (b : Stp G1 (hid p H1) G2 H2) : Stp G (hid p H) G2 H2 :=
  ⟨a.g.trans b.g, b.gh, fun x u q => b.h x u ((hid_ne (hid_some q).1).trans (a.h x u q)), fun x u q => (b.f x u ((hid_ne (hid_some q).1).trans (a.h x u q))).trans (a.f x u q)⟩
theorem Stp.mutP (s : Stp G (hid p H) G2 H2) (g : G2 p = Option.none) : Stp G (hid p H) G2 (upd H2 p o) :=
  ⟨s.g, Ex.mut s.gh g, fun a u q => (upd_ne (hid_some q).1).trans (s.h a u q), s.f⟩
theorem Stp.idP (e : Ex G H) : Stp G (hid p H) G H := (Stp.refl e).wk
theorem Own.wk (w : Own G H q ds G' H') : Own G (hid p H) q ds G' H' := ⟨w.s.wk, hid_fresh w.n, w.g, w.at_⟩
theorem Own.stepP (w : Own G (hid p H) q ds G1 H1) (s : Stp G1 (hid p H1) G2 H2) (ne : q ≠ p) : Own G (hid p H) q ds G2 H2 := by
  obtain ⟨xs, hx, r⟩ := w.at_
  have hx' : hid p H1 q = some (.lst xs) := (hid_ne ne).trans hx
  exact ⟨w.s.transP s, w.n, (s.f _ _ hx').trans w.g, xs, s.h _ _ hx', ra_mono s.g _ _ r⟩
/-- an own list, new, with data in it -/
theorem Own.with {xs : List V} (e : Ex G H) (h : H q = none) (r : RpAll G xs ds) : Own G H q ds G (upd H q (.lst xs)) :=
  ⟨⟨Ex.refl _, e.trans (Ex.new h), Ex.new h, fun _ _ _ => rfl⟩, h, fresh_back e h, xs, upd_same, r⟩
/-- the base goes back -/
theorem Own.back (s : Stp G H G1 H1) (w : Own G1 H1 q ds G2 H2) (h : H q = none) : Own G H q ds G2 H2 := ⟨s.trans w.s, h, w.g, w.at_⟩
theorem Own.backP (s : Stp G (hid p H) G1 H1) (w : Own G1 (hid p H1) q ds G2 H2) (h : H q = none) : Own G (hid p H) q ds G2 H2 := ⟨s.transP w.s, hid_fresh h, w.g, w.at_⟩
theorem Own.fin (w : Own G H q ds G' H') : ∃ xs, H' q = some (.lst xs) ∧ Stp G H (upd G' q (.lst xs)) H' ∧ Ex G' (upd G' q (.lst xs)) ∧ Rp (upd G' q (.lst xs)) (.ref q) (.list ds) := by
  obtain ⟨xs, hx, r⟩ := w.at_
  obtain ⟨e1, e2, r2⟩ := frz w.s.gh hx w.g r
  exact ⟨xs, hx, ⟨w.s.g.trans e1, e2, w.s.h, fun a u q => (upd_ne (ne_of_none q w.n)).trans (w.s.f a u q)⟩, e1, r2⟩
theorem stp_old (s : Stp G (hid p H) G2 H2) {a : Addr} (h : H2 a = none) (ne : a ≠ p) : H a = none := by
  cases e : H a with
  | none => rfl
  | some u => rw [s.h a u ((hid_ne ne).trans e)] at h; cases h
theorem ne_some {a : Addr} (h : H a = none) (k : H p = some o) : a ≠ p := fun e => by rw [e, k] at h; cases h
/-- what is drawn from: a list of the numbers and how many were drawn -/
structure Dr (G H : Hp) (p : Addr) (vn : V) (ns : List Int) : Prop where
  ex : Ex G H
  g : G p = none
  n : Rp G vn (.list (ns.map PyData.int))
  l : 1 ≤ ns.length ∧ ns.length ≤ 1000
  k : ∃ k : Int, 0 ≤ k ∧ H p = some (.lst [vn, .int k])
variable {vn : V} {ns : List Int}
theorem Dr.step (w : Dr G H p vn ns) (s : Stp G H G2 H2) : Dr G2 H2 p vn ns := by
  obtain ⟨k, h0, hk⟩ := w.k
  exact ⟨s.gh, s.none hk w.g, rp_mono s.g _ _ w.n, w.l, k, h0, s.h _ _ hk⟩
theorem Dr.mut (w : Dr G H p vn ns) (g : G q = none) (ne : q ≠ p) : Dr G (upd H q o) p vn ns := by
  obtain ⟨k, h0, hk⟩ := w.k
  exact ⟨Ex.mut w.ex g, w.g, w.n, w.l, k, h0, (upd_ne ne.symm).trans hk⟩
theorem Dr.up (w : Dr G H p vn ns) (e : Ex G G2) (e2 : Ex G2 H) (g : G2 p = none) : Dr G2 H p vn ns := ⟨e2, g, rp_mono e _ _ w.n, w.l, w.k⟩
theorem Dr.ne (w : Dr G H p vn ns) (h : H q = none) : q ≠ p := by
  obtain ⟨k, h0, hk⟩ := w.k
  exact ne_some h hk
/-- x = list(l), a list of one's own -/
theorem w_listO {i : Nat} (h : EvD te σ G (.list ds)) (e : Ex G H) (k : ∀ l G2 H2 xs, Stp G H G2 H2 → H2 l = none → RpAll G2 xs ds → tz D (σ.set i (some (.ref l))) (upd H2 l (.lst xs))) : tSeq (tAsg (tCB (rListU K) (tCons te tNil)) (gName i)) tz D σ H :=
  h H e _ fun v G2 H2 s hv => by
    obtain ⟨a, xs, rfl, h1, h2⟩ := rp_lst hv
    exact ⟨a, xs, rfl, .inl (sq_of (s.gh _ _ h1)), fun l hl => k l G2 H2 xs s hl h2⟩
theorem w_putI {j n : Nat} {i : Int} {ti : TE} {xs : List V} (hs : σ[j]? = some (some (.ref p))) (h : EvH te σ G H d) (hp : H p = some (.lst xs)) (hi : ∀ G2 H2, Stp G H G2 H2 → EvH ti σ G2 H2 (.int i)) (hn : ixN xs.length i = some n)
    (k : ∀ v G2 H2, Stp G H G2 H2 → Rp G2 v d → tz D σ (upd H2 p (.lst (xs.set n v)))) : tSeq (tAsg te (gSub (tVar j) ti rSetL)) tz D σ H :=
  h _ fun v G2 H2 s r => ⟨.ref p, hs, hi G2 H2 s _ fun u G3 H3 s3 r3 => ⟨p, xs, i, n, rfl, rp_int r3, s3.h _ _ (s.h _ _ hp), hn, k v G3 H3 (s.trans s3) (rp_mono s3.g _ _ r)⟩⟩
theorem w_opL {r : R2} {ta tb : TE} {g : TG} (h : EvH ta σ G H d) (k : ∀ v G2 H2, Stp G H G2 H2 → Rp G2 v d → tb σ H2 fun w H3 => r v w H3 fun x H4 => g x σ H4 fun σ' H' => tz D σ' H') : tSeq (tAsg (tOp r ta tb) g) tz D σ H := h _ k
/-- x = C(k = v, ..) -/
theorem w_makeS {sp : Sp} {E : XK} {tk : TA} {ds : List PyData} {gV : List V → List V → List V} {C : Addr} {m i : Nat} (h : EvS tk σ G ds) (e : Ex G H) (hl : ds.length = m)
    (k : ∀ vs a dx G2 H2, Stp G H G2 H2 → RpAll G2 vs ds → OwnI G2 H2 a C dx [] G2 (upd (upd H2 dx (.own a)) a (.ins C dx [])) → sp (gV [.ref a] vs) (upd (upd H2 dx (.own a)) a (.ins C dx [])) (fun v H3 => v = .non ∧ tz D (σ.set i (some (.ref a))) H3) E) : tSeq (tAsg (tMakeK C 0 m sp gV E tNil tk) (gName i)) tz D σ H :=
  d_make (Q := fun v H' => tz D (σ.set i (some v)) H') h e hl k
theorem ra_erase {G : Hp} : ∀ {vs : List V} {ds : List PyData} (k : Nat), RpAll G vs ds → RpAll G (vs.eraseIdx k) (ds.eraseIdx k)
  | _, _, _, .nil => by
    rw [List.eraseIdx_nil, List.eraseIdx_nil]
    exact .nil
  | _, _, 0, .cons _ h2 => h2
  | _, _, k + 1, .cons h1 h2 => .cons h1 (ra_erase k h2)
theorem perm_erase {α : Type} : ∀ {l : List α} {k : Nat} {a : α}, l[k]? = some a → (a :: l.eraseIdx k).Perm l
  | [], _, _, h => by simp at h
  | b :: l, 0, a, h => by
    have : b = a := by simpa using h
    subst this
    exact .refl _
  | b :: l, k + 1, a, h => by
    have ih := perm_erase (l := l) (k := k) (a := a) (by simpa using h)
    exact (List.Perm.swap b a _).trans (ih.cons b)
theorem perm_inv {α β : Type} {f : α → β} {es ds : List β} (h : es.Perm ds) : ∀ l : List α, ds = l.map f → ∃ l' : List α, es = l'.map f ∧ l'.Perm l := by
  induction h with
  | nil => intro l hl; cases l with
    | nil => exact ⟨[], rfl, .refl _⟩
    | cons a l => cases hl
  | cons x _ ih => intro l hl; cases l with
    | nil => cases hl
    | cons a l =>
      rw [List.map_cons] at hl
      injection hl with h1 h2
      obtain ⟨l', e, p⟩ := ih l h2
      exact ⟨a :: l', by rw [List.map_cons, e, h1], p.cons a⟩
  | swap x y t => intro l hl; match l, hl with
    | [], hl => cases hl
    | [a], hl => cases hl
    | a :: b :: l, hl =>
      simp only [List.map_cons, List.cons.injEq] at hl
      obtain ⟨rfl, rfl, rfl⟩ := hl
      exact ⟨b :: a :: l, rfl, List.Perm.swap a b l⟩
  | trans _ _ ih1 ih2 =>
    intro l hl
    obtain ⟨l2, e2, p2⟩ := ih2 l hl
    obtain ⟨l1, e1, p1⟩ := ih1 l2 e2
    exact ⟨l1, e1, p1.trans p2⟩
end
end Fw

namespace HT
open PySem PySem.Spec PyProof.Rows L2
/-! ### t[::-1], t a tuple -/
section
variable {prog : Program} {w : World} {A : Around} {E : Value → Shared → Prop} {s : Shared}
theorem rev_adjust (n : Nat) : Builtin.Slice.sliceAdjust none none (-1) (n : Int) = ((n : Int) - 1, -1) := by
  unfold Builtin.Slice.sliceAdjust
  simp
theorem rev_places (n : Nat) : Builtin.Slice.slicePlaces ((n : Int) - 1) (-1) (-1) = n := by
  unfold Builtin.Slice.slicePlaces
  simp
  omega
theorem rev_pick (xs : Array Value) : ((List.range xs.size).filterMap fun (m : Nat) => xs[(((xs.size : Int) - 1) + (m : Int) * (-1)).toNat]?).toArray = xs.toList.reverse.toArray := by
  have e : (fun (m : Nat) => xs[(((xs.size : Int) - 1) + (m : Int) * (-1)).toNat]?) = (fun i => xs[i]?) ∘ fun m => xs.size - 1 - m := by
    funext m
    have : (((xs.size : Int) - 1) + (m : Int) * (-1)).toNat = xs.size - 1 - m := by omega
    show xs[_]? = xs[xs.size - 1 - m]?
    rw [this]
  rw [e, ← List.filterMap_map, PySem.W.krv_range, List.filterMap_reverse, PySem.W.krv_all]
theorem rev_applied {z : Addr} {n : Nat} {Q : Int × Int × Nat → Shared → Prop} {c : Value} (hz : s.heap.IsSliceOf z .none .none c) (pc : IsPart c (some (-1))) (h : Q ((n : Int) - 1, -1, n) s) : wpAny (model prog w) A (Builtin.Slice.sliceApplied (.ref z) (pure (n : Int))) Q E s := by
  obtain ⟨o1, o2, o3, o4⟩ := id hz
  unfold Builtin.Slice.sliceApplied
  unfold Builtin.Slice.sliceFields
  refine wpAny_bind (wpAny_bind (wpAny_field o2 o4 (x := .none) rfl (wpAny_bind (wpAny_field o2 o4 (x := .none) rfl (wpAny_bind (wpAny_field o2 o4 (x := c) rfl (wpAny_pure ?_)))))))
  refine wpAny_bind (slicePart_ pc ?_)
  show wpAny _ _ (if ((-1 : Int) == 0) = true then _ else _) _ _ s
  rw [if_neg (by decide)]
  refine wpAny_bind (slicePart_none (wpAny_bind (slicePart_none (wpAny_bind (wpAny_pure ?_)))))
  show wpAny _ _ (match Builtin.Slice.sliceAdjust none none (-1) (n : Int) with | (a, b) => pure (a, (-1 : Int), Builtin.Slice.slicePlaces a b (-1))) _ _ s
  rw [rev_adjust]
  show wpAny _ _ (pure ((n : Int) - 1, (-1 : Int), Builtin.Slice.slicePlaces ((n : Int) - 1) (-1) (-1))) _ _ s
  rw [rev_places]
  exact wpAny_pure h
theorem rev_getItem {t z : Addr} {us : Array Value} {c : Value} {Q : Value → Shared → Prop} (q : IsTup s.heap t us) (hz : s.heap.IsSliceOf z .none .none c) (pc : IsPart c (some (-1)))
    (h : Q (.ref s.heap.objs.size) { s with heap := s.heap.push { cls := .type "tuple", data := .seq us.toList.reverse.toArray } }) (hl : us.size ≤ sizeLine) : wpAny (model prog w) A (getItem (.ref t) (.ref z)) Q E s := by
  have ok : sizeOk (.seq us.toList.reverse.toArray) := by
    show us.toList.reverse.toArray.size ≤ sizeLine
    rw [List.size_toArray, List.length_reverse, Array.length_toList]
    exact hl
  obtain ⟨o1, o2, o3, o4⟩ := id hz
  have tz : s.TypeIs (.ref z) "slice" := ⟨o1, o2, o3⟩
  unfold getItem
  try with_reducible refine (wpAny_holding ?_)
  first | refine wpAny_bind (wpAny_pure ?_) | skip
  refine wpAny_bind (wpAny_sequenceKey q.typeIs (by decide) ?_)
  refine wpAny_bind (wpAny_callSpecial?_slot (name := Str.ofString "__getitem__") q.typeIs PyProof.Rows.slot_tuple_getitem (wpAny_call_entry PyProof.Rows.slot_tuple_getitem q.typeIs entry_tuple_getitem ?_ (args_tuple_getitem _ _)))
  show wpAny _ _ (Builtin.Tuple.tupleItemsOf (.ref t) >>= fun _ => _) _ _ s
  refine wpAny_bind (tupleItemsOf_ q ?_)
  refine wpAny_bind (wpAny_typeOf tz ?_)
  rw [if_pos (by decide)]
  refine wpAny_bind (rev_applied hz pc ?_)
  have no : ¬ ((((us.size : Int) - 1) == 0 && (-1 : Int) == 1 && us.size == us.size) = true) := by
    intro q
    rw [Bool.and_eq_true, Bool.and_eq_true] at q
    have := q.1.2
    exact absurd this (by decide)
  show wpAny _ _ (if (((us.size : Int) - 1) == 0 && (-1 : Int) == 1 && us.size == us.size) = true then _ else _) _ _ s
  rw [if_neg no, rev_pick]
  first
    | exact wpAny_bind (m := Builtin.Tuple.tupleExact _) (wpAny_newObj_type (wpAny_pure ⟨_, rfl, wpAny_pure h⟩) ok)
    | exact wpAny_bind (m := Builtin.Tuple.tupleExact _) (wpAny_newObj_type (wpAny_bind (wpAny_pure (wpAny_pure ⟨_, rfl, wpAny_pure h⟩))) ok)
    | exact wpAny_bind (wpAny_bind (m := Builtin.Tuple.tupleExact _) (wpAny_newObj_type (wpAny_pure (wpAny_pure ⟨_, rfl, wpAny_pure h⟩)) ok))
    | exact wpAny_bind (wpAny_bind (m := Builtin.Tuple.tupleExact _) (wpAny_newObj_type (wpAny_pure ⟨_, rfl, wpAny_pure h⟩) ok))
end
end HT
namespace Fw
open PySem PySem.Spec PyProof.Rows L2 Evl
def tRevT (K : PySem.W.Frag) (te : TE) : TE := fun σ H Q => te σ H fun x H1 => ∃ a xs, x = .ref a ∧ SqT K H1 a xs ∧ ∀ p, H1 p = none → Q (.ref p) (upd H1 p (.tup xs.reverse))
theorem pe_revT {X : Cx} {e : Expr} {te : TE} {k : Nat} {p1 p2 p3 pos : Pos} (he : PE X e te) : PE X (.Subscript e (.Slice none none (some (.UnaryOp .USub (.Constant (.int 1) k p1) p2)) p3) pos) (tRevT X.K te) := by
  refine ⟨fun pins s σ H Q I h => ?_⟩
  refine Subscript_ (thn (he.run pins s σ H _ I h) fun v s1 ⟨x, H1, I1, r1, q1⟩ => ?_)
  obtain ⟨a, xs, ex, hx, q⟩ := q1
  subst ex
  cases r1
  have step : PO X (some (.UnaryOp .USub (.Constant (.int 1) k p1) p2)) (tPart (tUn (rU fun i => .int (-i)) (tC (.int 1)))) := po_some (pe_un un_neg pe_int)
  refine wpAny_Slice (thn (po_none.run pins s1 σ H1 (fun o H2 => (o = none ∧ H2 = H1)) I1 ⟨rfl, rfl⟩) fun y1 s2 ⟨l, H2, I2, pl, el, e2⟩ => ?_)
  subst el e2
  refine thn (po_none.run pins s2 σ H2 (fun o H3 => (o = none ∧ H3 = H2)) I2 ⟨rfl, rfl⟩) fun y2 s3 ⟨u, H3, I3, pu, eu, e3⟩ => ?_
  subst eu e3
  refine thn (step.run pins s3 σ H3 (fun o H4 => (o = some (-1) ∧ H4 = H3)) I3 ⟨1, rfl, -1, rfl, rfl, rfl⟩) fun y3 s4 ⟨o, H4, I4, ps, eo, e4⟩ => ?_
  subst eo e4
  cases pl
  cases pu
  have I5 : Inv X pins σ H4 { s4 with heap := s4.heap.push { cls := .type "slice", data := .fields #[.none, .none, y3] } } := I4.kept (t' := s4.toks) fun b ob z => Heap.get?_push_of_some _ z
  obtain ⟨its, r, ht, hz⟩ := I5.tuple hx
  have hlen : its.toArray.size = xs.length := by rw [List.size_toArray]; exact (r.length).symm
  show wpAny (model X.prog X.w) X.A (subscriptTail e (.Slice none none (some (.UnaryOp .USub (.Constant (.int 1) k p1) p2)) p3) (.ref a) (.ref s4.heap.objs.size)) (EP X pins σ Q) X.xe { s4 with heap := s4.heap.push { cls := .type "slice", data := .fields #[.none, .none, y3] } }
  refine tail_any (ops := [.ref a, .ref s4.heap.objs.size]) (ht).typeIs (PyProof.Rows.slot_tuple_getitem.lookup) ?_ (by with_unfolding_all rfl)
  refine HT.rev_getItem ht (Heap.IsSliceOf.new _ .none .none y3) ps ?_ (by rw [hlen]; exact hz)
  refine ⟨.ref _, _, I5.laid (t' := s4.toks) (o := .tup xs.reverse) (fun b ob z => Heap.get?_push_of_some _ z) (Nat.le_refl _) ?_, rfl, q _ (I5.hok.fresh (Nat.le_refl _))⟩
  exact ⟨by rw [List.length_reverse]; exact hz, _, r.reverse, IsTup.new _ _⟩
theorem k_revT {X : Cx} (K : PySem.W.Frag) (hK : X.K = K) {e : Expr} {te : TE} {k : Nat} {p1 p2 p3 pos : Pos} (he : PE X e te) : PE X (.Subscript e (.Slice none none (some (.UnaryOp .USub (.Constant (.int 1) k p1) p2)) p3) pos) (tRevT K te) := hK ▸ pe_revT he
theorem ra_rev {G : Hp} {vs : List V} {ds : List PyData} (h : RpAll G vs ds) : RpAll G vs.reverse ds.reverse := by
  induction h using RpAll.rec (motive_1 := fun _ _ _ => True) with
  | nil => exact .nil
  | cons h _ _ ih =>
    rw [List.reverse_cons, List.reverse_cons]
    exact ra_app ih (ra_one h)
  | _ => trivial
theorem ed_revT {K : PySem.W.Frag} {σ : L2.St} {G : Hp} {te : TE} {ds : List PyData} (h : EvD te σ G (.tuple ds)) : EvD (tRevT K te) σ G (.tuple ds.reverse) := fun H e Q q =>
  h H e _ fun v G2 H2 s hv => by
    obtain ⟨a, xs, rfl, h1, h2⟩ := rp_tup hv
    exact ⟨a, xs, rfl, st_t (xt (s.gh) h1), fun p hp => q _ _ _ (s.trans (Stp.new s.gh hp)) (.tup (.inl upd_same) (ra_rev (ra_mono (Ex.new (fresh_back s.gh hp)) _ _ h2)))⟩
end Fw

namespace Fw
open PySem PySem.Spec PyProof.Rows L2 Evl
open TL (tl len_tl ext_tl tl_append tl_mk mk_tl)
/-! ### texts that are put together -/
def rJoin (K : PySem.W.Frag) : V → List V → Hp → VK → Prop := fun x xs H Q => ∃ a p, ∃ ys : List Str, x = .str a ∧ xs = [.ref p] ∧ (SqL K H p (ys.map V.str) ∨ SqT K H p (ys.map V.str)) ∧ (ys.map (fun y => y.length)).sum + ys.length * a.length ≤ 16777216 ∧ Q (.str (Txt.join a ys)) H
theorem k_join {X : Cx} (K : PySem.W.Frag) (hK : X.K = K) {o e : Expr} {to te : TE} {apos pos : Pos} (ho : PE X o to) (he : PE X e te) (hs : starEach [e] X.env = [(false, eval e X.env)] := by rfl) (hbase : attributeBase o "join" X.env (eval o X.env) = eval o X.env := by rfl) (hline : (apos.endLine == pos.line) = true := by rfl) :
    PE X (.Call (.Attribute o "join" apos) [e] [] pos) (tM1 (rJoin K) to te) := by
  subst hK
  exact pe_join ho he hs hbase hline
section
variable {K : PySem.W.Frag} {σ : L2.St} {G H G' H' G2 H2 : Hp} {p q : Addr} {ds es : List PyData} {d : PyData} {te to : TE} {ta : TA} {D : Ends} {tz : TS} {b : Bool} {x a : Str}
theorem sum_le {ys : List Str} {m : Nat} (h : ∀ y ∈ ys, y.length ≤ m) : (ys.map (fun y : Str => y.length)).sum ≤ ys.length * m := by
  induction ys with
  | nil => simp
  | cons y ys ih =>
    have h1 := h y List.mem_cons_self
    have h2 := ih fun z hz => h z (List.mem_cons_of_mem _ hz)
    rw [List.map_cons, List.sum_cons, List.length_cons, Nat.succ_mul]
    omega
theorem ed_join {ys : List Str} {m n : Nat} (ho : EvD to σ G (.str a)) (h : EvD te σ G (sq b (ys.map PyData.str))) (hy : ∀ y ∈ ys, y.length ≤ m) (hn : ys.length ≤ n) (hm : n * m + n * a.length ≤ 16777216) : EvD (tM1 (rJoin K) to te) σ G (.str (Txt.join a ys)) := fun H e Q q =>
  ho H e _ fun v G2 H2 s hv => ⟨⟨a, rp_str hv⟩, (h.mono s.g) H2 s.gh _ fun w G3 H3 s3 hw => by
    obtain ⟨l, xs, rfl, h1, h2⟩ := rp_sq hw
    have ex := ra_str h2
    subst ex
    refine ⟨a, l, ys, rp_str hv, rfl, sq_len h1 s3.gh, ?_, q _ G3 H3 (s.trans s3) (.str _)⟩
    have h3 := sum_le hy
    have h4 : ys.length * m ≤ n * m := Nat.mul_le_mul_right m hn
    have h5 : ys.length * a.length ≤ n * a.length := Nat.mul_le_mul_right _ hn
    omega⟩
/-- the parts of an f-string -/
inductive JsD (σ : L2.St) (G : Hp) : List TE → List Str → Prop
  | nil : JsD σ G [] []
  | cons {te : TE} {x : Str} {ts : List TE} {xs : List Str} (h : EvD te σ G (.str x)) (r : JsD σ G ts xs) : JsD σ G (te :: ts) (x :: xs)
theorem JsD.mono {ts : List TE} {xs : List Str} (x : Ex G G') (h : JsD σ G ts xs) : JsD σ G' ts xs := by
  induction h with
  | nil => exact .nil
  | cons h _ ih => exact .cons (h.mono x) ih
theorem js_run {ts : List TE} {xs : List Str} (h : JsD σ G ts xs) : ∀ (acc : Str) (G' H : Hp), Ex G G' → Ex G' H → acc.length + (xs.map (fun y : Str => y.length)).sum ≤ 100000 → ∀ Q : Str → Hp → Prop, (∀ G2 H2, Stp G' H G2 H2 → Q (xs.foldl (fun a b => a ++ b) acc) H2) → tJs ts acc σ H Q := by
  induction h with
  | nil => exact fun acc G' H _ e2 _ Q q => q G' H (Stp.refl e2)
  | @cons te x ts xs h r ih =>
    intro acc G' H e1 e2 hl Q q
    rw [List.map_cons, List.sum_cons] at hl
    exact (h.mono e1) H e2 _ fun v G2 H2 s hv => ⟨x, rp_str hv, by rw [strLen_append, sizeLine_eq]; omega, ih (acc ++ x) G2 H2 (e1.trans s.g) s.gh (by rw [strLen_append]; omega) Q fun G3 H3 s3 => q G3 H3 (s.trans s3)⟩
theorem ed_fs {ts : List TE} {xs : List Str} (h : JsD σ G ts xs) (hl : (xs.map (fun y : Str => y.length)).sum ≤ 100000) : EvD (fun σ H Q => tJs ts Str.empty σ H fun out H1 => Q (.str out) H1) σ G (.str (xs.foldl (fun a b => a ++ b) Str.empty)) := fun H e Q q =>
  js_run h Str.empty G H (Ex.refl _) e (by have e0 : Str.empty.length = 0 := rfl; omega) _ fun G2 H2 s => q _ G2 H2 s (.str _)
theorem ed_fmtS (h : EvD te σ G (.str x)) (hx : x.length ≤ 100000) : EvD (tFmt te) σ G (.str x) := fun H e Q q => h H e _ fun v G2 H2 s hv => .inl ⟨x, rp_str hv, by rw [sizeLine_eq]; omega, q _ G2 H2 s (.str _)⟩
theorem ed_fmtI {i : Int} (h : EvD te σ G (.int i)) (hi : i.natAbs.log2 < 1920) : EvD (tFmt te) σ G (.str (toString i)) := fun H e Q q => h H e _ fun v G2 H2 s hv => .inr ⟨i, rp_int hv, hi, q _ G2 H2 s (.str _)⟩
/-- x = [e, ..], a list of one's own -/
theorem w_lstO {i : Nat} (h : EvS ta σ G ds) (e : Ex G H) (hl : ds.length ≤ 100000) (k : ∀ l G2 H2 xs, Stp G H G2 H2 → H2 l = none → RpAll G2 xs ds → tz D (σ.set i (some (.ref l))) (upd H2 l (.lst xs))) : tSeq (tAsg (tLst ta) (gName i)) tz D σ H :=
  h H e _ fun vs G2 H2 s hv => ⟨sz_of (by rw [ra_len hv]; exact hl), fun l hp => k l G2 H2 vs s hp hv⟩
/-- small numbers written -/
theorem log6 {i : Int} (h0 : 0 ≤ i) (h : i ≤ 6) : i.natAbs.log2 < 1920 := by
  have : i = 0 ∨ i = 1 ∨ i = 2 ∨ i = 3 ∨ i = 4 ∨ i = 5 ∨ i = 6 := by omega
  rcases this with rfl | rfl | rfl | rfl | rfl | rfl | rfl <;> decide +kernel
theorem str6 {i : Int} (h0 : 0 ≤ i) (h : i ≤ 6) : (toString i : Str).length = 1 ∧ ∀ c ∈ tl (toString i : Str), c < 128 ∧ c ≠ 32 ∧ c ≠ 10 := by
  have : i = 0 ∨ i = 1 ∨ i = 2 ∨ i = 3 ∨ i = 4 ∨ i = 5 ∨ i = 6 := by omega
  rcases this with rfl | rfl | rfl | rfl | rfl | rfl | rfl <;> decide +kernel
end
end Fw

namespace Fw
open PySem PySem.Spec PyProof.Rows L2 Evl
open TL (tl len_tl ext_tl tl_append tl_mk mk_tl)
/-! ### what is not come to -/
def tNever : TS := fun _ _ _ => False
theorem ps_never {X : Cx} {st : Stmt} : PS X st tNever := ⟨fun _ _ _ _ _ _ h => h.elim⟩
/-! ### texts that are split; int(text); enumerate -/
def rSplit : V → List V → Hp → VK → Prop := fun x xs H Q => ∃ a b, x = .str a ∧ xs = [.str b] ∧ (b.length == 0) = false ∧ a.length + 2 ≤ sizeLine ∧ rNewStrs (Txt.split a b) H Q
theorem k_split {X : Cx} {o e : Expr} {to te : TE} {apos pos : Pos} (ho : PE X o to) (he : PE X e te) (hs : starEach [e] X.env = [(false, eval e X.env)] := by rfl) (hbase : attributeBase o "split" X.env (eval o X.env) = eval o X.env := by rfl) (hline : (apos.endLine == pos.line) = true := by rfl) :
    PE X (.Call (.Attribute o "split" apos) [e] [] pos) (tM1 rSplit to te) := pe_split ho he hs hbase hline
def rIntS : List V → Hp → VK → Prop := fun xs H Q => ∃ a n, xs = [.str a] ∧ PySem.intText? a = some n ∧ a.length ≤ 640 ∧ Q (.int n) H
theorem c_intS {X : Cx} : CallR X (.type "int") rIntS := call_int_str
theorem k_enum {X : Cx} (K : PySem.W.Frag) (hK : X.K = K) {e : Expr} {ta : TA} {p pos tpos : Pos} {elts : List Expr} {kk : Nat} (hg : Gl X "enumerate") (hm : X.mg "enumerate" = none) (ha : PA X [e] ta) (hs : starEach [e] X.env = [(false, eval e X.env)] := by rfl) :
    PI X (.Tuple elts kk tpos) (.Call (.Name "enumerate" p) [e] [] pos) (iEnum K ta) := hK ▸ pi_enum hg hm ha hs
section
variable {K : PySem.W.Frag} {σ : L2.St} {G H G' H' G2 H2 : Hp} {p q : Addr} {ds es : List PyData} {d : PyData} {te to tl' : TE} {ta : TA} {D : Ends} {tu tz : TS} {b : Bool} {x a : Str}
theorem rp_strs (G : Hp) {H : Hp} {p : Addr} (e : Ex G H) (hp : H p = none) (ys : List Str) : Stp G H (upd G p (.lst (ys.map V.str))) (upd H p (.lst (ys.map V.str))) ∧ Rp (upd G p (.lst (ys.map V.str))) (.ref p) (.list (ys.map PyData.str)) :=
  ⟨Stp.new e hp, .lst upd_same (ra_strs ys)⟩
theorem ed_split {y : Str} {s : Nat} {parts : List Str} (ho : EvD to σ G (.str (Txt.join y parts))) (h : EvD te σ G (.str y)) (ey : tl y = [s]) (hk : y.cps.all (· < 256) = true) (hne : parts ≠ []) (hp : ∀ p ∈ parts, s ∉ tl p) (hl : (Txt.join y parts).length ≤ 16000000) :
    EvD (tM1 rSplit to te) σ G (.list (parts.map PyData.str)) := fun H e Q q =>
  ho H e _ fun v G2 H2 s2 hv => ⟨⟨_, rp_str hv⟩, (h.mono s2.g) H2 s2.gh _ fun w G3 H3 s3 hw => by
    refine ⟨Txt.join y parts, y, rp_str hv, by rw [rp_str hw], ?_, by rw [sizeLine_eq]; omega, fun l hn => ?_⟩
    · rw [len_tl, ey]
      rfl
    · rw [TL.split_join ey hk hne hp]
      obtain ⟨s4, r4⟩ := rp_strs G3 s3.gh hn parts
      exact q _ _ _ ((s2.trans s3).trans s4) r4⟩
theorem ed_intS {n : Int} (h : EvD te σ G (.str x)) (hn : PySem.intText? x = some n) (hl : x.length ≤ 640) : EvD (tCB rIntS (tCons te tNil)) σ G (.int n) := fun H e Q q =>
  h H e _ fun v G2 H2 s hv => ⟨x, n, by rw [rp_str hv], hn, hl, q _ G2 H2 s (.int n)⟩
theorem int6 {i : Int} (h0 : 0 ≤ i) (h : i ≤ 6) : PySem.intText? (toString i : Str) = some i := by
  have : i = 0 ∨ i = 1 ∨ i = 2 ∨ i = 3 ∨ i = 4 ∨ i = 5 ∨ i = 6 := by omega
  rcases this with rfl | rfl | rfl | rfl | rfl | rfl | rfl <;> decide +kernel
theorem cut_from {α : Type} (f : α → PyData) (l : List α) (n : Nat) : cutD (l.map f) (some (n : Int)) none = (l.drop n).map f := by
  unfold cutD
  rw [HT.sIx_none, HT.sIx_nat, List.length_map, ← List.map_drop, ← List.map_take]
  congr 1
  by_cases h : n ≤ l.length
  · rw [Nat.min_eq_left h, List.take_of_length_le (by rw [List.length_drop]; exact Nat.le_refl _)]
  · rw [Nat.min_eq_right (by omega), List.drop_length, List.take_nil, List.drop_eq_nil_of_le (by omega)]
/-- for at, x in enumerate(a list) -/
theorem w_forE {α : Type} {as : List α} {f : α → PyData} {j1 j2 : Nat} (h : EvD tl' σ G (.list (as.map f))) (e : Ex G H) (Pv : Hp → Nat → L2.St → Hp → Prop) (h0 : ∀ G2 H2, Stp G H G2 H2 → Pv G2 0 σ H2) (hl : ∀ G2 i σ' H', Pv G2 i σ' H' → Ex G2 H')
    (hs : ∀ G2 i a v σ' H' T, Ex G G2 → as[i]? = some a → Rp G2 v (f a) → Pv G2 i σ' H' → H' T = none → tu { D with nx := Pv G2 (i + 1), ct := Pv G2 (i + 1), bk := tz D } ((σ'.set j1 (some (.int (i : Nat)))).set j2 (some v)) (upd H' T (.tup [.int (i : Nat), v])))
    (hd : ∀ G2 σ' H', Ex G G2 → Pv G2 as.length σ' H' → tz D σ' H') : tSeq (tFor (iEnum K (tCons tl' tNil)) (gTup K 2 (gCons (gName j1) (gCons (gName j2) gNil))) tu) tz D σ H :=
  h H e _ fun v G2 H2 s hv => by
    obtain ⟨a, xs, rfl, h1, h2⟩ := rp_lst hv
    have lx : xs.length = as.length := (ra_len h2).trans (List.length_map _)
    refine ⟨a, xs, rfl, sq_of (s.gh _ _ h1), for_it (walk_enum (xs := xs)) (Pv G2) (h0 G2 H2 s) (fun i σ' H' _ p => sq_of (hl G2 i σ' H' p _ _ h1)) (fun i x σ' H0 H' hi p y => ?_) (fun σ' H' p => hd G2 σ' H' s.g (lx ▸ p))⟩
    obtain ⟨T, x1, x2, rfl, hT, rfl, e1, e2⟩ := y
    cases e1
    obtain ⟨d, hd2, hr⟩ := ra_get' h2 e2
    rw [List.getElem?_map] at hd2
    cases ha : as[i]? with
    | none => rw [ha] at hd2; cases hd2
    | some b =>
      rw [ha] at hd2
      cases hd2
      exact ⟨T, _, rfl, st_of upd_same, rfl, _, _, rfl, _, _, rfl, rfl, hs G2 i b x2 σ' H0 T s.g ha hr p hT⟩
end
end Fw

namespace Fw
open PySem PySem.Spec PyProof.Rows L2 Evl
open TL (tl len_tl ext_tl tl_append tl_mk mk_tl)
/-! ### the law's own frame: no repr is under way -/
/-- the promise of a def at one place from which it is called -/
def OkAt (P : Program) (w : World) (K : PySem.W.Frag) (mg : Str → Option Value) (base : Heap) (f : Addr) (fd : FuncData) (ps : List Str) (sp : Sp) (A : Around) : Prop :=
  ∀ (outer : List Env) (t : Shared) (Y : Hp) (args : Args) (us : List Value) (vs : List V) (Q : VK) (E : XK), Env0 P w K mg base A outer t Y → BindsTo t fd args (ps.zip us) → Vals vs us → sp vs Y Q E → codeAny (model P w) A (.call (.ref f) args) (CR CX0 outer P w Y t Q E) t
theorem fun_at {P : Program} {w : World} {K : PySem.W.Frag} {mg : Str → Option Value} {base : Heap} {x qual : Str} {st : Stmt} {f : Addr} {fd : FuncData} {N ps : List Str} {k : Nat} {sp : Sp} {A : Around} (F : Fun K x qual st f fd) (S : FnScope N ps (defScope st)) (len : ∀ vs Y Q E, sp vs Y Q E → vs.length = ps.length) (room : Room (k + 1) A)
    (body : ∀ (cdv : Value) (outer : List Env) (t : Shared) (Y : Hp) (vs : List V) (Q : VK) (E : XK), Room k (A.deeper (envOfC qual (defScope st) t.heap.objs.size f cdv)) → sp vs Y Q E →
      ∃ ts, PSs (cxOf CX0 P w K mg base N qual (defScope st) f cdv A outer t Y E).nox (defBody st) ts ∧ ts { nx := fun _ Y' => Q .non Y', rt := Q } (start N vs) Y) : OkAt P w K mg base f fd ps sp A := by
  intro outer t Y args us vs Q E e0 hb r hq
  obtain ⟨oc, od, kV, doc, pm, an, cdv, ct, osl, rfl, lk, hcd⟩ := F.ex
  have ln := len _ _ _ _ hq
  have KX : K.In t.heap := e0.mod.kin.keeps fun z o e => (e0.bs z o e).1
  have lim : t.heap.NoLimit := e0.mod.nolimit.keeps fun z o e => (e0.bs z o e).1
  have kinds : ∀ y ∈ ps.zip us, (defScope st).names.lookup y.1 = some .local ∨ ((defScope st).names.lookup y.1 = some .cell ∧ ((cellsFrom (t.heap.objs.size + 1) (defScope st).names []).lookup y.1).isSome = true) := fun y hy => by
    obtain ⟨n, v⟩ := y
    rcases S.par n (List.of_mem_zip hy).1 with z | z
    · exact .inl z
    · exact .inr ⟨z, PySem.W.cellsFrom_some _ _ _ (.inl z)⟩
  refine codeAny_call_function room.depth (KX _ _ lk) rfl S.co S.gen rfl (PySem.W.codeRec_of KX hcd) (hb _ _ _ _ ?_)
  refine wpAny_newFunctionEnv_cells S.kind kinds fun env he t1 z => ?_
  subst he
  refine ⟨lim.keeps z.toInCall.keep, codeAny_func ?_⟩
  obtain ⟨ts, hts, hx⟩ := body cdv outer t Y vs Q E (room.deeper _) hq
  have I : Inv (cxOf CX0 P w K mg base N qual (defScope st) f cdv A outer t Y E) [] (start N vs) Y t1 := inv_start S room.hd e0 ln r z
  refine wpAny_mono (hts.nox.run [] t1 (start N vs) Y _ I hx) (fun fl t' ht => ?_) fun e t' ht => ht
  have fin : ∀ {σ' : L2.St} {Y' : Hp} {v : V} {u : Value}, Inv (cxOf CX0 P w K mg base N qual (defScope st) f cdv A outer t Y E) [] σ' Y' t' → RelV v u → Q v Y' → CE outer P w Y t Q u t' :=
    fun {σ' Y' v u} J rv q => ⟨v, Y', J.os, J.bare, J.base, J.hok, rv, q⟩
  cases fl with
  | ret u =>
    obtain ⟨v, σ', Y', J, rv, q⟩ := ht
    exact fin J rv q
  | next =>
    obtain ⟨σ', Y', J, q⟩ := ht
    exact fin (v := V.non) (u := Value.none) J rfl q
  | brk =>
    obtain ⟨_, _, _, q⟩ := ht
    exact False.elim q
  | cont =>
    obtain ⟨_, _, _, q⟩ := ht
    exact False.elim q
theorem at_law {P : Program} {w : World} {K : PySem.W.Frag} {mg mb : Str → Option Value} {fa c : Addr} {fd : FuncData} {x : Str} {sp : Sp} {t : Shared} {cells : List Value} {ns : List Int}
    (KX : K.In t.heap) (h1 : t.heap.Ns mainGlobals mg) (h2 : t.heap.Ns builtinsNs mb) (h3 : ∀ y : Str, y ≠ "__name__" → mb y = bootBuiltins y) (h4 : t.heap.NoLimit) (h5 : t.gens = #[])
    (hc : t.heap.get? c = some { cls := .type "list", data := .seq cells.toArray }) (hi : IntsAre cells ns) (hz : ns.length ≤ sizeLine)
    (F : ∀ base : Heap, K.In base → base.Ns mainGlobals mg → OkAt P w K mg base fa fd [x] sp callerA) (hbind : ∀ (t : Shared) (u : Value), BindsTo t fd ⟨[u], []⟩ [(x, u)])
    (hq : ∀ Y : Hp, SqL K Y c (ns.map V.int) → sp [.ref c] Y (fun v _ => v = .bl true) fun _ _ _ => False) :
    codeAny (model P w) callerA (.call (.ref fa) ⟨[.ref c], []⟩) (fun r t' => r = .ok (.ret (.bool true)) ∧ OldK t.heap t'.heap ∧ t'.os = t.os ∧ AllBare t'.gens) t := by
  have rv := vals_ints hi
  have lv := hi.length
  have core : ∀ Y : Hp, Only Y → SqL K Y c (ns.map V.int) → HOk P w Y t.heap → (∀ z, Y z ≠ none → z = c) → (Y c ≠ none → K.lookup c = none) →
      codeAny (model P w) callerA (.call (.ref fa) ⟨[.ref c], []⟩) (fun r t' => r = .ok (.ret (.bool true)) ∧ OldK t.heap t'.heap ∧ t'.os = t.os ∧ AllBare t'.gens) t := by
    intro Y hO hS hok hA hK
    have keepB : ∀ {z : Addr} {o : Obj}, t.heap.get? z = some o → Y z = none → (hidT t.heap Y).get? z = some o := fun e n => hidT_get e n
    have noD : ∀ {z : Addr} {o : Obj} {es : Array DictEntry} {ep : Nat}, t.heap.get? z = some o → o.data = .dict es ep → Y z = none := fun {z o es ep} e d => by
      cases q : Y z with
      | none => rfl
      | some u =>
        have ez : z = c := hA z (by rw [q]; exact Option.some_ne_none _)
        subst ez
        rw [hc] at e
        cases e
        have d' : Data.seq cells.toArray _ = Data.dict es ep := d
        cases d'
    have nsB : ∀ {z : Addr} {m : Str → Option Value}, t.heap.Ns z m → (hidT t.heap Y).Ns z m := fun {z m} ⟨o, es, ep, e, d, r⟩ => ⟨o, es, ep, keepB e (noD e d), d, r⟩
    have inB : K.In (hidT t.heap Y) := fun z o e => keepB (KX z o e) (by
      cases q : Y z with
      | none => rfl
      | some u =>
        have ez : z = c := hA z (by rw [q]; exact Option.some_ne_none _)
        subst ez
        rw [hK (by rw [q]; exact Option.some_ne_none _)] at e
        cases e)
    have md : Mod K mg (hidT t.heap Y) := ⟨inB, nsB h1, ⟨mb, nsB h2, h3⟩, let ⟨mc, z1, z2⟩ := h4; ⟨mc, nsB z1, z2⟩⟩
    have e0 : Env0 P w K mg (hidT t.heap Y) callerA [] t Y := ⟨rfl, md, fun z o e => of_hidT e, Nat.le_of_eq (hidT_size _ _), trivial, fun z hz => absurd (show z ∈ ([] : List Addr) from hz) List.not_mem_nil, hok, .of_eq h5⟩
    refine codeAny_mono (F _ inB (nsB h1) [] t Y ⟨[.ref c], []⟩ [.ref c] [.ref c] _ _ e0 (hbind t (.ref c)) (.cons rfl .nil) (hq Y hS)) fun r t' hr => ?_
    cases r with
    | error e => exact False.elim (show False from hr)
    | ok fl =>
      cases fl with
      | next => exact False.elim hr
      | brk => exact False.elim hr
      | cont => exact False.elim hr
      | ret u =>
        obtain ⟨v, Y', os, bare, un, hok', ru, qv⟩ := hr
        have qv' : v = .bl true := qv
        subst qv'
        obtain rfl : u = Value.bool true := ru
        refine ⟨rfl, OldK.of_keep fun z o e => ?_, os, bare⟩
        cases q : Y z with
        | none => exact un.keep z o e q (fun y => absurd (show z ∈ ([] : List Addr) from y) List.not_mem_nil) (by simp)
        | some u =>
          rcases hO z with y | ⟨ob, xs, y⟩
          · rw [q] at y
            cases y
          · have y2 := un.frzs z ob _ y
            obtain ⟨e1, _⟩ := hok z _ y
            obtain ⟨e2, _⟩ := hok' z _ y2
            rw [e] at e1
            cases e1
            exact e2
  cases hk : K.lookup c with
  | some o =>
    have e := KX c o hk
    rw [hc] at e
    cases e
    exact core (fun _ => none) (fun _ => .inl rfl) (.inr ⟨_, cells.toArray, _, hk, rfl, rfl, rfl, by rw [List.size_toArray, lv]; exact hz, by simpa using rv⟩) (fun z u y => by have y' : (none : Option HO) = some u := y; cases y') (fun z y => absurd rfl y) fun y => absurd rfl y
  | none =>
    refine core (fun z => if z = c then some (.frz { cls := .type "list", data := .seq cells.toArray } (.lst (ns.map V.int))) else none) (fun z => ?_) (.inl (.inr ⟨{ cls := .type "list", data := .seq cells.toArray }, if_pos rfl⟩)) (fun z u y => ?_) (fun z y => ?_) fun _ => hk
    · by_cases ez : z = c
      · exact .inr ⟨_, _, if_pos ez⟩
      · exact .inl (if_neg ez)
    · by_cases ez : z = c
      · have y' := (if_pos ez).symm.trans y
        cases y'
        subst ez
        exact ⟨hc, by rw [List.length_map]; exact hz, cells, _, rv, hc⟩
      · have y' := (if_neg ez).symm.trans y
        cases y'
    · by_cases ez : z = c
      · exact ez
      · exact absurd (if_neg ez) y
/-- the head, the promise of the law's def at the caller's place -/
theorem walk_at {l : PySem.W.OpenLaw} {n : Nat} {q : Program} {loose : List Str} {XP : (Str → Option Value) → Heap → Prop} {YP : World → Heap → Prop} {d : DefRec} {K : Params → PySem.W.Frag} {sp : World → Sp} {x : Str}
    (hn : l.most = some n) (hn2 : n ≤ sizeLine) (hdf : d.params.defaults = []) (hY : ∀ (w : World) (h : Heap), YP w h → (K w.params).In h)
    (F : ∀ (w : World) (mg : Str → Option Value) (fa : Addr) (h : Heap), (K w.params).In h → h.Ns mainGlobals mg → mg d.name = some (.ref fa) →
      ∃ fd : FuncData, (∀ (t : Shared) (u : Value), BindsTo t fd ⟨[u], []⟩ [(x, u)]) ∧ ∀ base : Heap, (K w.params).In base → base.Ns mainGlobals mg → OkAt l.prog w (K w.params) mg base fa fd [x] (sp w) callerA)
    (hq : ∀ (w : World) (Y : Hp) (c : Addr) (ns : List Int), ns.length ≤ n → SqL (K w.params) Y c (ns.map V.int) → sp w [.ref c] Y (fun v _ => v = .bl true) fun _ _ _ => False) :
    PySem.W.WalkO q loose XP YP l.row.toRowW d [] (fun f vs => PySem.call f vs) := by
  refine Att.attach_call hn hdf fun w s0 s1 mg mb fa o pm cd doc c vs ns G Y ho hd hcd hmg hobj hints hlen hg => ?_
  obtain ⟨fd, hb, hF⟩ := F w mg fa _ (hY w _ Y) G.T.g hmg
  exact at_law (hY w _ Y) G.T.g G.T.b G.T.builtins G.T.nolimit hg hobj hints (Nat.le_trans hlen hn2) hF hb fun Y hS => hq w Y c ns hlen hS
/-! ### repr of data -/
def rRepr (K : PySem.W.Frag) : List V → Hp → VK → Prop := fun xs H Q => ∃ (a : Addr) (d : PyData), xs = [.ref a] ∧ Dp K H (.ref a) d ∧ SeqAt.shaped d = true ∧ d.showable = true ∧ d.shown.length ≤ 16000000 ∧ Q (.str d.shown) H
theorem call_reprD {X : Cx} (hg : X.A.guards = some []) (hu : X.A.units + 80 < cLine) : CallR X (.builtin "repr") (rRepr X.K) := by
  intro pins s σ H xs us Q I r h
  obtain ⟨a, d, rfl, hd, hs, hw, hz, q⟩ := h
  obtain ⟨u, rfl, ru⟩ := vals1 r
  obtain rfl : u = Value.ref a := ru
  obtain ⟨as, hr⟩ := Dp.reads I d _ _ hd rfl
  have hc := SeqAt.canLay_of_shaped hs
  have h64 := SeqAt.depth_of_shaped hs
  refine repr_of_reads' hr hw (PyData.noDict_hsm (PyData.hasDict_of_canLay d hc)) hg (by omega) (fun _ _ e => e) (fun h' u tk hk => ⟨.str d.shown, H, I.kept (t' := tk) hk, ⟨u, rfl⟩, q⟩) (by rw [sizeLine_eq]; omega)
end Fw

namespace Fw
open PySem PySem.Spec PyProof.Rows L2 Evl
open TL (tl len_tl ext_tl tl_append tl_mk mk_tl)
/-! ### tuples that are made by a call, and asked for an index -/
def rTupF (K : PySem.W.Frag) : List V → Hp → VK → Prop := fun xs H Q => ∃ p ys, xs = [.ref p] ∧ ((SqL K H p ys ∧ ∀ l (ob : Obj), H l = none → ob.dict = none → Q (.ref l) (upd H l (.frz ob (.tup ys)))) ∨ (SqT K H p ys ∧ Q (.ref p) H))
theorem call_tupF {X : Cx} : CallR X (.type "tuple") (rTupF X.K) := by
  intro pins s σ H xs us Q I r h
  obtain ⟨p, ys, rfl, h⟩ := h
  obtain ⟨u, rfl, rx⟩ := vals1 r
  cases rx
  rcases h with ⟨hq, q⟩ | ⟨hq, q⟩
  · obtain ⟨its, rv, pl, hz⟩ := I.list hq
    have hl := rv.length
    refine call_tuple_list pl.isList (fun h1 kp => ?_) (by simp only [List.size_toArray]; omega)
    have J : Inv X pins σ H { s with heap := h1 } := I.kept (t' := s.toks) kp
    have J2 : Inv X pins σ (upd H h1.objs.size (.frz { cls := .type "tuple", data := .seq its.toArray } (.tup ys))) { s with heap := h1.push { cls := .type "tuple", data := .seq its.toArray } } :=
      J.laid (t' := s.toks) (fun b o e => Heap.get?_push_of_some _ e) (Nat.le_refl _) (show ObjOk X.prog X.w _ _ _ (.frz _ (.tup ys)) from ⟨Heap.get?_push_size _ rfl, hz, its, rv, IsTup.new _ _⟩)
    exact ⟨.ref h1.objs.size, _, J2, rfl, q _ _ (J.hok.fresh (Nat.le_refl _)) rfl⟩
  · obtain ⟨its, rv, pl, hz⟩ := I.tuple hq
    exact call_tuple_same pl ⟨.ref p, H, I, rfl, q⟩
theorem k_tupF {X : Cx} (K : PySem.W.Frag) (hK : X.K = K) : CallR X (.type "tuple") (rTupF K) := hK ▸ call_tupF
/-- the tuple that is asked: nothing is written on it -/
def tyTup (x : V) (H : Hp) : Prop := ∃ (a : Addr) (xs : List V) (ob : Obj), x = .ref a ∧ H a = some (.frz ob (.tup xs)) ∧ ob.dict = none
theorem ty_tup {X : Cx} : TyOk X "tuple" tyTup := by
  intro pins σ H s x v I r h
  obtain ⟨a, xs, ob, rfl, ha, hd⟩ := h
  cases r
  obtain ⟨h1, h2, its, rv, h3⟩ := I.hok a _ ha
  exact ⟨let ⟨o, ho, hc, _⟩ := h3; ⟨o, ho, hc⟩, fun b e => by
    cases e
    exact ⟨ob, h1, hd⟩⟩
def rTIdx (K : PySem.W.Frag) : V → List V → Hp → VK → Prop := fun x xs H Q => ∃ p, ∃ ys : List Str, ∃ z j, x = .ref p ∧ xs = [.str z] ∧ SqT K H p (ys.map V.str) ∧ ys[j]? = some z ∧ (∀ m, m < j → ys[m]? ≠ some z) ∧ Q (.int (j : Nat)) H
theorem k_tidx {X : Cx} (K : PySem.W.Frag) (hK : X.K = K) {o e : Expr} {to te : TE} {apos cpos : Pos} (ho : PE X o to) (he : PE X e te) (hbase : attributeBase o "index" X.env (eval o X.env) = eval o X.env := by rfl)
    (hfew : ((backTo cpos (starEach [e] X.env)).all (fun x => !x.1) && (backToKw cpos (keywordEach [] X.env)).all (fun x => x.1.isSome) && decide ([e].length + ([] : List Keyword).length + (if ([] : List Keyword).isEmpty then 0 else 1) < 30)) = true := by rfl)
    (hline : (apos.endLine == cpos.line) = true := by rfl) (hs : starEach [e] X.env = (false, eval e X.env) :: starEach [] X.env := by rfl) (hplain : (backTo cpos (starEach [] X.env)).any (·.1) = false := by rfl) :
    PE X (.Call (.Attribute o "index" apos) [e] [] cpos) (tMG tyTup (rTIdx K) to (tCons te tNil)) := by
  subst hK
  exact pe_mG ty_tup PySem.F.plainAttrs_tuple PySem.F.slot_tuple_index PySem.F.type_tuple_index mt_tup_index ho (pa_cons he pa_nil (hs := hs)) hbase hfew hline hs hplain
/-- (e, ..) , a new tuple of which it is known that nothing is written on it -/
def tTupF (t : TA) : TE := fun σ H Q => t σ H fun xs H1 => xs.length ≤ sizeLine ∧ ∀ p (ob : Obj), H1 p = none → ob.dict = none → Q (.ref p) (upd H1 p (.frz ob (.tup xs)))
theorem pe_tupF {X : Cx} {es : List Expr} {t : TA} {x1 : Nat} {pos : Pos} (h : PA X es t) : PE X (.Tuple es x1 pos) (tTupF t) := by
  refine ⟨fun pins s σ H Q I hq => ?_⟩
  refine wpAny_Tuple_spliced (thn (h.run pos pins s σ H _ I hq) fun us s1 ⟨xs, H1, J, r, z, q⟩ => ⟨by rw [← r.length]; exact z, ?_⟩)
  have fr : H1 s1.heap.objs.size = none := J.hok.fresh (Nat.le_refl _)
  refine ⟨.ref s1.heap.objs.size, upd H1 s1.heap.objs.size (.frz { cls := .type "tuple", data := .seq us.toArray } (.tup xs)), J.laid (t' := s1.toks) (fun b u e => Heap.get?_push_of_some _ e) (Nat.le_refl _) ?_, rfl, q _ _ fr rfl⟩
  exact ⟨Heap.get?_push_size _ rfl, z, us, r, ⟨_, Heap.get?_push_size _ rfl, rfl, _, rfl⟩⟩
section
variable {K : PySem.W.Frag} {σ : L2.St} {G G' H H' : Hp} {te to : TE} {ta : TA} {d : PyData} {ds : List PyData} {b : Bool}
/-- data at the top a tuple of which that is known -/
def EvF (te : TE) (σ : L2.St) (G : Hp) (ds : List PyData) : Prop := ∀ H, Ex G H → ∀ Q : VK, (∀ a xs ob G2 H2, Stp G H G2 H2 → G2 a = some (.frz ob (.tup xs)) → ob.dict = none → RpAll G2 xs ds → Q (.ref a) H2) → te σ H Q
def RpF (G : Hp) (v : V) (ds : List PyData) : Prop := ∃ (a : Addr) (xs : List V) (ob : Obj), v = .ref a ∧ G a = some (.frz ob (.tup xs)) ∧ ob.dict = none ∧ RpAll G xs ds
theorem RpF.rp {v : V} (h : RpF G v ds) : Rp G v (.tuple ds) := by
  obtain ⟨a, xs, ob, rfl, h1, h2, h3⟩ := h
  exact .tup (.inr ⟨ob, h2, h1⟩) h3
theorem RpF.mono {v : V} (e : Ex G G') (h : RpF G v ds) : RpF G' v ds := by
  obtain ⟨a, xs, ob, rfl, h1, h2, h3⟩ := h
  exact ⟨a, xs, ob, rfl, e _ _ h1, h2, ra_mono e _ _ h3⟩
def EvT (te : TE) (σ : L2.St) (G : Hp) (ds : List PyData) : Prop := ∀ H, Ex G H → ∀ Q : VK, (∀ v G2 H2, Stp G H G2 H2 → RpF G2 v ds → Q v H2) → te σ H Q
theorem EvT.mono (x : Ex G G') (h : EvT te σ G ds) : EvT te σ G' ds := fun H e Q q => h H (x.trans e) Q fun v G2 H2 s hv => q v _ H2 (s.up x e).1 (hv.mono (s.up x e).2)
theorem EvT.ev (h : EvT te σ G ds) : EvD te σ G (.tuple ds) := fun H e Q q => h H e Q fun v G2 H2 s hv => q v G2 H2 s hv.rp
theorem et_var {i : Nat} {v : V} (h : σ[i]? = some (some v)) (hd : RpF G v ds) : EvT (tVar i) σ G ds := fun H e Q q => ⟨v, h, q v G H (Stp.refl e) hd⟩
theorem et_tup (h : EvS ta σ G ds) (hl : ds.length ≤ 100000) : EvT (tTupF ta) σ G ds := fun H e Q q =>
  h H e _ fun vs G2 H2 s hv => ⟨sz_of (by rw [ra_len hv]; exact hl), fun p ob hp ho => q _ _ _ (s.trans (Stp.new s.gh hp)) ⟨p, vs, ob, rfl, upd_same, ho, ra_mono (Ex.new (fresh_back s.gh hp)) _ _ hv⟩⟩
/-- tuple(a list) -/
theorem et_tupl (h : EvD te σ G (.list ds)) : EvT (tCB (rTupF K) (tCons te tNil)) σ G ds := fun H e Q q =>
  h H e _ fun v G2 H2 s hv => by
    obtain ⟨a, xs, rfl, h1, h2⟩ := rp_lst hv
    exact ⟨a, xs, rfl, .inl ⟨sq_of (s.gh _ _ h1), fun p ob hp ho => q _ _ _ (s.trans (Stp.new s.gh hp)) ⟨p, xs, ob, rfl, upd_same, ho, ra_mono (Ex.new (fresh_back s.gh hp)) _ _ h2⟩⟩⟩
/-- where a text first stands -/
def fstAt : List Str → Str → Nat
  | [], _ => 0
  | y :: ys, x => if y = x then 0 else fstAt ys x + 1
theorem fst_at : ∀ {ys : List Str} {x : Str}, x ∈ ys → ys[fstAt ys x]? = some x ∧ ∀ m, m < fstAt ys x → ys[m]? ≠ some x
  | y :: ys, x, h => by
    unfold fstAt
    by_cases e : y = x
    · rw [if_pos e]
      exact ⟨by rw [e]; rfl, fun m hm => absurd hm (Nat.not_lt_zero m)⟩
    · rw [if_neg e]
      have hm : x ∈ ys := (List.mem_cons.mp h).elim (fun z => absurd z.symm e) id
      obtain ⟨h1, h2⟩ := fst_at hm
      refine ⟨h1, fun m hm => ?_⟩
      cases m with
      | zero => exact fun z => e (Option.some.inj z)
      | succ m => exact h2 m (Nat.lt_of_succ_lt_succ hm)
theorem fst_lt {ys : List Str} {x : Str} (h : x ∈ ys) : fstAt ys x < ys.length := (List.getElem?_eq_some_iff.mp (fst_at h).1).1
theorem ed_tidx {ys : List Str} {x : Str} (h : EvT to σ G (ys.map PyData.str)) (hx : EvD te σ G (.str x)) (hm : x ∈ ys) : EvD (tMG tyTup (rTIdx K) to (tCons te tNil)) σ G (.int (fstAt ys x : Nat)) := fun H e Q q =>
  h H e _ fun v G2 H2 s hv => by
    obtain ⟨a, xs, ob, rfl, h1, h2, h3⟩ := hv
    refine ⟨⟨a, xs, ob, rfl, s.gh _ _ h1, h2⟩, (hx.mono s.g) H2 s.gh _ fun w G3 H3 s3 hw => ?_⟩
    obtain rfl := ra_str h3
    exact ⟨a, ys, x, fstAt ys x, rfl, by rw [rp_str hw], st_t (xt s3.gh (.inr ⟨ob, h2, s3.g _ _ h1⟩)), (fst_at hm).1, (fst_at hm).2, q _ G3 H3 (s.trans s3) (.int _)⟩
/-- if i, i an int -/
def tTru (K : PySem.W.Frag) (te : TE) : TT := fun σ H Q => te σ H fun x H' => ∃ k, TruV K x H' k ∧ Q k H'
theorem k_tru {X : Cx} (K : PySem.W.Frag) (hK : X.K = K) {a : Expr} {ta : TE} (ha : PE X a ta) (he : ∀ whole, isTrue a X.env whole = (do let v ← whole; standAt a.pos; holding [v] (truthy v)) := by intro _; rfl) : PT X a (tTru K ta) := by
  subst hK
  exact pt_truth ha he
theorem ec_tru {i : Int} (h : EvD te σ G (.int i)) : EvC (tTru K te) σ G (i != 0) := fun H e Q q => h H e _ fun v G2 H2 s hv => ⟨_, by rw [rp_int hv]; rfl, q G2 H2 s⟩
end
end Fw

namespace Fw
open PySem PySem.Spec PyProof.Rows L2 Evl
open TL (tl len_tl ext_tl tl_append tl_mk mk_tl)
def topS (i : Nat) : Stmt := PySem.Challenge.pw_fewestheld_k05_whole_text_and_back.main.body.getD i (.Pass ⟨0, 0, 0, 0⟩)
/-! ### the law's numbers -/
section
variable {P : Program} {w : World} {K : PySem.W.Frag} {mg : Str → Option Value} {base : Heap}
abbrev s_law_row : Stmt := topS 39
theorem sc_law_row : FnScope ["cell", "many", "row", "rest", "mixed", "k"] ["cell", "many"] (defScope s_law_row) := ⟨rfl, rfl, rfl, by decide +kernel, rfl, by decide +kernel, by decide +kernel⟩
abbrev s_law_numbers : Stmt := topS 40
theorem sc_law_numbers : FnScope ["script", "many", "cells", "each", "numbers", "cell", "number"] ["script", "many"] (defScope s_law_numbers) := ⟨rfl, rfl, rfl, by decide +kernel, rfl, by decide +kernel, by decide +kernel⟩
def rowGo (big : Bool) : Nat → Nat → Int → Int → List Int
  | 0, _, _, _ => []
  | n + 1, k, rest, mixed => if big = true then rest % 1009 :: rowGo big n (k + 1) (rest / 1009) ((mixed * 16807 + 271 * ((k : Int) + 3)) % 2147483629)
    else (mixed * 16807 + 271 * ((k : Int) + 3)) % 2147483629 / 7 % 1009 :: rowGo big n (k + 1) rest ((mixed * 16807 + 271 * ((k : Int) + 3)) % 2147483629)
def absI (c : Int) : Int := if c < 0 then -c else c
def rowOf (c : Int) (m : Nat) : List Int := rowGo (decide ((10 : Int) ^ (18 : Int).toNat ≤ absI c)) m 0 (absI c) ((absI c * 48271 + 69621) % 2147483647)
def spRow : Sp := fun vs H Q _ => ∃ (c : Int) (m : Nat) (G : Hp), vs = [.int c, .int m] ∧ m ≤ 10000 ∧ Ex G H ∧ ∀ v G2 H2, Stp G H G2 H2 → Rp G2 v (.list ((rowOf c m).map PyData.int)) → Q v H2
theorem mod_sm (i : Int) : 0 ≤ i % 1009 ∧ i % 1009 < 1009 := ⟨Int.emod_nonneg _ (by decide), Int.emod_lt_of_pos _ (by decide)⟩
theorem row_sm (big : Bool) : ∀ (n k : Nat) (r mx : Int), Sm (rowGo big n k r mx)
  | 0, _, _, _ => fun _ h => (nomatch h)
  | n + 1, k, r, mx => fun x hx => by
    unfold rowGo at hx
    split at hx
    · rcases List.mem_cons.mp hx with e | e
      · rw [e]; exact mod_sm _
      · exact row_sm big n _ _ _ x e
    · rcases List.mem_cons.mp hx with e | e
      · rw [e]; exact mod_sm _
      · exact row_sm big n _ _ _ x e
theorem row_len (big : Bool) : ∀ (n k : Nat) (r mx : Int), (rowGo big n k r mx).length = n
  | 0, _, _, _ => rfl
  | n + 1, k, r, mx => by
    unfold rowGo
    split
    · rw [List.length_cons, row_len big n]
    · rw [List.length_cons, row_len big n]
theorem ok_law_row {f : Addr} {fd : FuncData} (F : Fun K "_law_row" "_law_row" s_law_row f fd) (Z : Zs mg) : FnOk P w K mg base CX0 1 f fd ["cell", "many"] spRow := by
  refine F.ok sc_law_row (fun vs H Q E h => ?_) (fun cdv A outer s H vs Q E hr h => ?_)
  · obtain ⟨c, m, G, rfl, _⟩ := h
    rfl
  · obtain ⟨c, m, G, rfl, hm, e, q⟩ := h
    refine ⟨_, (pss_cons (ps_set (i := 2) sc_law_row.nd rfl (Or.inl rfl) (pe_lst pa_nil))
      (pss_cons (ps_set (i := 3) sc_law_row.nd rfl (Or.inl rfl) (pe_callB c_abs (by rfl) Z.abs bt_abs (pa_cons (pv 0) pa_nil)))
      (pss_cons (ps_set (i := 4) sc_law_row.nd rfl (Or.inl rfl) (pe_op op_mod (pe_callTy c_int (by rfl) Z.int bt_int (pa_cons (pe_op (k_addU K rfl) (pe_op op_mul (pv 3) pe_int) pe_int) pa_nil)) pe_int))
      (pss_cons (ps_for PassesOwn.never rfl (pi_range1 (by rfl) Z.range (pa_cons (pv 1) pa_nil)) (pg_name (i := 5) sc_law_row.nd rfl (Or.inl rfl)) (pss_cons (ps_set (i := 4) sc_law_row.nd rfl (Or.inl rfl) (pe_op op_mod (pe_callTy c_int (by rfl) Z.int bt_int (pa_cons (pe_op (k_addU K rfl) (pe_op op_mul (pv 4) pe_int) (pe_op op_mul pe_int (pe_op (k_addU K rfl) (pv 5) pe_int))) pa_nil)) pe_int))
        (pss_one (ps_if (pt_cmpR op_ge (pe_callB c_abs (by rfl) Z.abs bt_abs (pa_cons (pv 0) pa_nil)) (pe_op op_pow pe_int pe_int) (nomark _)) (pss_cons (ps_expr (pe_bm PySem.F.plainAttrs_list PySem.F.slot_list_append PySem.F.type_list_append mt_append (pv 2) (pa_cons (pe_op op_mod (pe_callTy c_int (by rfl) Z.int bt_int (pa_cons (pv 3) pa_nil)) pe_int) pa_nil)))
          (pss_one (ps_set (i := 3) sc_law_row.nd rfl (Or.inl rfl) (pe_op op_fdiv (pv 3) pe_int)))) (pss_one (ps_expr (pe_bm PySem.F.plainAttrs_list PySem.F.slot_list_append PySem.F.type_list_append mt_append (pv 2) (pa_cons (pe_op op_mod (pe_callTy c_int (by rfl) Z.int bt_int (pa_cons (pe_op op_fdiv (pv 4) pe_int) pa_nil)) pe_int) pa_nil))))))))
      (pss_one (ps_ret (pv 2))))))), ?_⟩
    refine w_new fun p np => ?_
    have o0 := Own.new e np
    refine w_set (ev_at o0.s.gh (ed_cb (es_cons (ed_var rfl (.int c)) es_nil) rd_abs)) fun v1 G1 H1 s1 r1 => ?_
    obtain rfl := rp_int r1
    have o1 := o0.step s1
    refine w_set (ev_at o1.s.gh (ed_op (ed_cb (es_cons (ed_op (ed_op (ed_var rfl (.int _)) (ed_c (.int _)) (r2_I (.inr (by decide)))) (ed_c (.int _)) r2_add) es_nil) rd_int) (ed_c (.int _)) (r2_I (show (0 : Int) < _ by decide)))) fun v2 G2 H2 s2 r2 => ?_
    obtain rfl := rp_int r2
    have o2 := o1.step s2
    refine w_forR (es_cons (ed_var rfl (.int (m : Int))) es_nil) o2.s.gh (by omega) (fun i σ' H' => ∃ (G' : Hp) (ns : List Int) (r mx : Int) (y : Option V), σ' = [some (.int c), some (.int m), some (.ref p), some (.int r), some (.int mx), y] ∧ Own G H p (ns.map PyData.int) G' H' ∧ ns.length = i ∧ i ≤ m ∧ (0 ≤ mx ∧ mx < 2147483647) ∧ ns ++ rowGo (decide ((10 : Int) ^ (18 : Int).toNat ≤ absI c)) (m - i) i r mx = rowOf c m)
      (fun G3 H3 s3 => ⟨G3, [], _, _, none, rfl, o2.step s3, rfl, Nat.zero_le _, ⟨Int.emod_nonneg _ (by decide), Int.emod_lt_of_pos _ (by decide)⟩, rfl⟩) (fun i σ' H' hi hp => ?_) (fun σ' H' hp => ?_)
    · obtain ⟨G', ns, r, mx, y, rfl, o, hl, hi2, hx, hr2⟩ := hp
      refine w_set (ev_at o.s.gh (ed_op (ed_cb (es_cons (ed_op (ed_op (ed_var rfl (.int _)) (ed_c (.int _)) (r2_I (.inr (by decide)))) (ed_op (ed_c (.int _)) (ed_op (ed_var rfl (.int _)) (ed_c (.int _)) r2_add) (r2_I (.inl (by decide)))) r2_add) es_nil) rd_int) (ed_c (.int _)) (r2_I (show (0 : Int) < _ by decide)))) fun v3 G3 H3 s3 r3 => ?_
      obtain rfl := rp_int r3
      have o3 := o.step s3
      refine w_if1 (ec_at o3.s.gh (et_cmp (ed_op (ed_cb (es_cons (ed_var rfl (.int _)) es_nil) rd_abs) (ed_op (ed_c (.int _)) (ed_c (.int _)) (r2_I ⟨by decide, by decide, by decide⟩)) r2_B0))) (fun hb G4 H4 s4 => ?_) (fun hb G4 H4 s4 => ?_)
      · have o4 := o3.step s4
        refine w_appOS (d := .int (r % 1009)) rfl o4 (ev_at o4.s.gh (ed_op (ed_cb (es_cons (ed_var rfl (.int _)) es_nil) rd_int) (ed_c (.int _)) (r2_I (show (0 : Int) < _ by decide)))) (by rw [List.length_map]; omega) fun G5 H5 xs s5 o5 => ?_
        refine w_set1 (ev_at o5.s.gh (ed_op (ed_var rfl (.int _)) (ed_c (.int _)) (r2_I ⟨by decide, by decide⟩))) fun v6 G6 H6 s6 r6 => ?_
        obtain rfl := rp_int r6
        refine ⟨G6, ns ++ [_], _, _, _, rfl, by rw [List.map_append]; exact o5.step s6, by rw [List.length_append]; simp [hl], by omega, ⟨Int.emod_nonneg _ (by decide), Int.lt_trans (Int.emod_lt_of_pos _ (by decide)) (by decide)⟩, ?_⟩
        rw [← hr2, show m - i = (m - (i + 1)) + 1 by omega, List.append_assoc]
        refine congrArg (ns ++ ·) ?_
        conv => rhs; unfold rowGo
        rw [if_pos (show decide ((10 : Int) ^ (18 : Int).toNat ≤ absI c) = true from hb)]
        rfl
      · have o4 := o3.step s4
        refine w_appO rfl o4 (ev_at o4.s.gh (ed_op (ed_cb (es_cons (ed_op (ed_var rfl (.int _)) (ed_c (.int _)) (r2_I ⟨by decide, by decide⟩)) es_nil) rd_int) (ed_c (.int _)) (r2_I (show (0 : Int) < _ by decide)))) (by rw [List.length_map]; omega) fun G5 H5 xs s5 o5 => ?_
        refine ⟨G5, ns ++ [_], _, _, _, rfl, by rw [List.map_append]; exact o5, by rw [List.length_append]; simp [hl], by omega, ⟨Int.emod_nonneg _ (by decide), Int.lt_trans (Int.emod_lt_of_pos _ (by decide)) (by decide)⟩, ?_⟩
        rw [← hr2, show m - i = (m - (i + 1)) + 1 by omega, List.append_assoc]
        refine congrArg (ns ++ ·) ?_
        conv => rhs; unfold rowGo
        rw [if_neg (show ¬ decide ((10 : Int) ^ (18 : Int).toNat ≤ absI c) = true from fun z => by
          have hb' : decide ((10 : Int) ^ (18 : Int).toNat ≤ absI c) = false := hb
          rw [hb'] at z
          cases z)]
        rfl
    · obtain ⟨G', ns, r, mx, y, rfl, o, hl, hi2, hx, hr2⟩ := hp
      obtain ⟨G3, s3, _, r3⟩ := o.done
      have en : ns = rowOf c m := by
        rw [← hr2, show m - ((m : Int).toNat) = 0 by omega]
        unfold rowGo
        rw [List.append_nil]
      exact ⟨_, rfl, q _ G3 H' s3 (en ▸ r3)⟩
/-! all numbers -/
def cutI (ns : List Int) : List Int := (ns.drop (HT.sIx ns.length 0 none)).take (HT.sIx ns.length ns.length (some 63) - HT.sIx ns.length 0 none)
theorem cutV_ints (ns : List Int) : cutV (ns.map V.int) none (some 63) = (cutI ns).map V.int := by
  unfold cutV cutI
  rw [List.length_map, List.map_take, List.map_drop]
theorem cutI_len (ns : List Int) : (cutI ns).length ≤ ns.length := by
  unfold cutI
  rw [List.length_take, List.length_drop]
  omega
/-- how many of each cell -/
def eachOf (n m : Nat) : Nat := 1 + m / (if n > 1 then n else 1)
def allOf (cs : List Int) (m : Nat) : List Int := cs.flatMap fun c => rowOf c (eachOf cs.length m)
def numsOf (ns : List Int) (m : Nat) : List Int := (allOf (cutI ns) m ++ List.replicate (m - (allOf (cutI ns) m).length) 0).take m
theorem numsOf_len (ns : List Int) (m : Nat) : (numsOf ns m).length = m := by
  unfold numsOf
  rw [List.length_take, List.length_append, List.length_replicate]
  omega
theorem numsOf_sm (ns : List Int) (m : Nat) : Sm (numsOf ns m) := fun x hx => by
  have h := List.mem_of_mem_take hx
  rcases List.mem_append.mp h with e | e
  · unfold allOf at e
    obtain ⟨c, _, hc⟩ := List.mem_flatMap.mp e
    exact row_sm _ _ _ _ _ x hc
  · rw [(List.mem_replicate.mp e).2]
    decide
def spNumbers (K : PySem.W.Frag) : Sp := fun vs H Q _ => ∃ (a : Addr) (ns : List Int) (m : Nat) (G : Hp), vs = [.ref a, .int m] ∧ SqL K H a (ns.map V.int) ∧ ns.length ≤ 63 ∧ m ≤ 1000 ∧ Ex G H ∧ ∀ v G2 H2, Stp G H G2 H2 → Rp G2 v (.list ((numsOf ns m).map PyData.int)) → Q v H2
theorem eachOf_le (n m : Nat) : eachOf n m ≤ 1 + m := by
  unfold eachOf
  have := Nat.div_le_self m (if n > 1 then n else 1)
  omega
theorem allOf_take (cs : List Int) (k i : Nat) (c : Int) (h : cs[i]? = some c) : (cs.take (i + 1)).flatMap (fun c => rowOf c k) = (cs.take i).flatMap (fun c => rowOf c k) ++ rowOf c k := by
  rw [List.take_add_one, h]
  simp
theorem all_len (cs : List Int) (k : Nat) : ∀ i, ((cs.take i).flatMap (fun c => rowOf c k)).length ≤ i * k
  | 0 => by simp
  | i + 1 => by
    cases h : cs[i]? with
    | none =>
      have e : cs.take (i + 1) = cs.take i := by
        rw [List.take_add_one, h]
        simp
      rw [e, Nat.succ_mul]
      have := all_len cs k i
      omega
    | some c =>
      rw [allOf_take cs k i c h, List.length_append, Nat.succ_mul]
      have := all_len cs k i
      have e : (rowOf c k).length = k := row_len _ _ _ _ _
      omega
theorem ok_law_numbers {f f1 : Addr} {fd fd1 : FuncData} (F : Fun K "_law_numbers" "_law_numbers" s_law_numbers f fd) (Z : Zs mg) (G_law_row : Df P w K mg base CX0 1 "_law_row" f1 fd1 ["cell", "many"] spRow) : FnOk P w K mg base CX0 2 f fd ["script", "many"] (spNumbers K) := by
  refine F.ok sc_law_numbers (fun vs H Q E h => ?_) (fun cdv A outer s H vs Q E hr h => ?_)
  · obtain ⟨a, ns, m, G, rfl, _⟩ := h
    rfl
  · obtain ⟨a, ns, m, G, rfl, ha, hn, hm, e, q⟩ := h
    have P_law_row {X : Cx} : Passes CX0 X E0 := pass0
    refine ⟨_, (pss_cons (ps_set (i := 2) sc_law_numbers.nd rfl (Or.inl rfl) (pe_slice (k_sl K rfl) (pv 0) po_none (po_some pe_int)))
      (pss_cons (ps_set (i := 3) sc_law_numbers.nd rfl (Or.inl rfl) (pe_op (k_addU K rfl) pe_int (pe_op op_fdiv (pv 1) (pe_callB (c_max rfl) (by rfl) Z.max bt_max (pa_cons pe_int (pa_cons (pe_callB (k_len K rfl) (by rfl) Z.len bt_len (pa_cons (pv 2) pa_nil)) pa_nil))))))
      (pss_cons (ps_set (i := 4) sc_law_numbers.nd rfl (Or.inl rfl) (pe_lst pa_nil))
      (pss_cons (ps_for PassesOwn.never rfl (k_piL K rfl (pv 2)) (pg_name (i := 5) sc_law_numbers.nd rfl (Or.inl rfl)) (pss_one (ps_for PassesOwn.never rfl (k_piL K rfl (pe_call G_law_row.ok (hr.mono (by decide)) (by rfl) G_law_row.g G_law_row.k G_law_row.b .nil pass0 (pa_cons (pv 5) (pa_cons (pv 3) pa_nil)))) (pg_name (i := 6) sc_law_numbers.nd rfl (Or.inl rfl)) (pss_one (ps_expr (pe_bm PySem.F.plainAttrs_list PySem.F.slot_list_append PySem.F.type_list_append mt_append (pv 4) (pa_cons (pv 6) pa_nil)))))))
      (pss_cons (ps_while PassesOwn.never (pt_cmpR op_lt (pe_callB (k_len K rfl) (by rfl) Z.len bt_len (pa_cons (pv 4) pa_nil)) (pv 1) (nomark _)) (pss_one (ps_expr (pe_bm PySem.F.plainAttrs_list PySem.F.slot_list_append PySem.F.type_list_append mt_append (pv 4) (pa_cons pe_int pa_nil)))))
      (pss_one (ps_ret (pe_slice (k_sl K rfl) (pv 4) po_none (po_some (pv 1)))))))))), ?_⟩
    -- cells = script[:63]
    refine ⟨.ref a, rfl, 63, rfl, .inl ⟨a, _, rfl, ha, fun pc nc => ?_⟩⟩
    rw [cutV_ints]
    have sc : Stp G H (upd G pc (.lst ((cutI ns).map V.int))) (upd H pc (.lst ((cutI ns).map V.int))) := Stp.new e nc
    have rc : Rp (upd G pc (.lst ((cutI ns).map V.int))) (.ref pc) (.list ((cutI ns).map PyData.int)) := .lst upd_same (ra_ints _)
    have lc : (cutI ns).length ≤ 63 := Nat.le_trans (cutI_len ns) hn
    generalize hC : cutI ns = cs at sc rc lc
    generalize upd G pc (.lst (cs.map V.int)) = G1 at sc rc
    generalize upd H pc (.lst (cs.map V.int)) = H1 at sc ⊢
    -- each
    have hd : CDiv (m : Int) (if ((cs.map PyData.int).length : Int) > 1 then ((cs.map PyData.int).length : Int) else 1) := by
      rw [List.length_map]
      constructor <;> split <;> omega
    refine w_set (ev_at sc.gh (ed_op (ed_c (.int 1)) (ed_op (ed_var rfl (.int (m : Int))) (ed_cb (es_cons (ed_c (.int 1)) (es_cons (ed_cb (es_cons (ed_var rfl rc) es_nil) rd_lenl) es_nil)) rd_max) (r2_I hd)) r2_add)) fun v2 G2 H2 s2 r2 => ?_
    obtain rfl := rp_int r2
    have ee : (1 : Int) + (m : Int) / (if ((cs.map PyData.int).length : Int) > 1 then ((cs.map PyData.int).length : Int) else 1) = (eachOf cs.length m : Nat) := by
      unfold eachOf
      rw [List.length_map]
      by_cases h1 : cs.length > 1
      · rw [if_pos (by omega), if_pos h1]
        simp
      · rw [if_neg (by omega), if_neg h1]
        simp
    rw [ee]
    have hk := eachOf_le cs.length m
    generalize hE : eachOf cs.length m = ek at hk
    -- numbers = []
    refine w_new fun p np => ?_
    have o0 := Own.new s2.gh np
    have rc2 := rp_mono (s2.g) _ _ rc
    refine w_forL (as := cs) (f := PyData.int) (ed_var rfl rc2) o0.s.gh (fun Gl i σ' H' => ∃ (G' : Hp) (y5 y6 : Option V), σ' = [some (.ref a), some (.int m), some (.ref pc), some (.int (ek : Int)), some (.ref p), y5, y6] ∧ Own G2 H2 p (((cs.take i).flatMap fun c => rowOf c ek).map PyData.int) G' H' ∧ Ex Gl G')
      (fun G3 H3 s3 => ⟨G3, none, none, rfl, o0.step s3, Ex.refl _⟩) (fun Gl i σ' H' hp => ?_) (fun Gl i c v σ' H' eG hc hv hp => ?_) (fun Gl σ' H' eG hp => ?_)
    · obtain ⟨G', _, _, _, o, x⟩ := hp
      exact x.trans o.s.gh
    · obtain ⟨G', y5, y6, rfl, o, x⟩ := hp
      obtain rfl := rp_int hv
      show tFor _ _ _ _ _ _
      refine w_forL1 (as := rowOf c ek) (f := PyData.int) (ed_call0 (es_cons (ed_var rfl (.int c)) (es_cons (ed_var rfl (.int (ek : Int))) es_nil)) (fun G0 H0 vs e0 hv Q' q' => ?_)) o.s.gh
        (fun Gm j σ' H' => ∃ (G'' : Hp) (y6 : Option V), σ' = [some (.ref a), some (.int m), some (.ref pc), some (.int (ek : Int)), some (.ref p), some (.int c), y6] ∧ Own G2 H2 p (((cs.take i).flatMap (fun c => rowOf c ek) ++ (rowOf c ek).take j).map PyData.int) G'' H' ∧ Ex Gm G'')
        (fun G3 H3 s3 => ⟨G3, y6, rfl, by rw [List.take_zero, List.append_nil]; exact o.step s3, Ex.refl _⟩) (fun Gm j σ' H' hp => ?_) (fun Gm j z v σ' H' eG2 hz hv hp => ?_) (fun Gm σ' H' eG2 hp => ?_)
      · rw [ra_get2 hv]
        exact ⟨c, ek, G0, rfl, by omega, e0, fun v G2 H2 s r => q' v G2 H2 s r⟩
      · obtain ⟨G'', _, _, o', x'⟩ := hp
        exact x'.trans o'.s.gh
      · obtain ⟨G'', y6, rfl, o', x'⟩ := hp
        obtain rfl := rp_int hv
        have lz : i * ek ≤ 63 * 1001 := Nat.mul_le_mul (by have := (List.getElem?_eq_some_iff.mp hc).1; omega) (by omega)
        refine w_appO rfl o' (ev_at o'.s.gh (ed_var rfl (.int z))) ?_ fun G5 H5 xs s5 o5 => ?_
        · have h1 := all_len cs ek i
          rw [List.length_map, List.length_append, List.length_take]
          have h2 : (rowOf c ek).length = ek := row_len _ _ _ _ _
          omega
        · refine ⟨G5, _, rfl, ?_, x'.trans s5.g⟩
          rw [List.take_add_one, hz]
          simpa using o5
      · obtain ⟨G'', y6, rfl, o', x'⟩ := hp
        refine ⟨G'', _, _, rfl, ?_, (x.trans eG2).trans x'⟩
        rw [allOf_take cs ek i c hc]
        rw [List.take_length] at o'
        exact o'
    · obtain ⟨G', y5, y6, rfl, o, x⟩ := hp
      rw [List.take_length] at o
      have hA : (cs.flatMap fun c => rowOf c ek) = allOf (cutI ns) m := by
        rw [hC]
        unfold allOf
        rw [hE]
      rw [hA] at o
      have lA : (allOf (cutI ns) m).length ≤ 63 * 1001 := by
        rw [← hA]
        have h1 := all_len cs ek cs.length
        rw [List.take_length] at h1
        exact Nat.le_trans h1 (Nat.mul_le_mul lc (by omega))
      generalize hL : allOf (cutI ns) m = al at o lA
      -- while len(numbers) < many
      refine w_while (fun d σ' H' => ∃ (G'' : Hp) (t : Nat), σ' = [some (.ref a), some (.int m), some (.ref pc), some (.int (ek : Int)), some (.ref p), y5, y6] ∧ Own G2 H2 p ((al ++ List.replicate t 0).map PyData.int) G'' H' ∧ t ≤ m - al.length ∧ d = m - al.length - t) (m - al.length) ⟨G', 0, rfl, by simpa using o, Nat.zero_le _, rfl⟩ (fun d σ' H' hp => ?_)
      obtain ⟨G'', t, rfl, o', ht, rfl⟩ := hp
      obtain ⟨Gr, e1, e2, rr⟩ := o'.read
      refine ⟨G'', decide ((al.length : Int) + t < m), (ec_at e2 ((et_cmp (ed_op (ed_cb (es_cons (ed_var rfl rr) es_nil) rd_lenl) (ed_var rfl (.int (m : Int))) r2_B0)).is ?_)).down e1 e2, fun hb G3 H3 s3 => ?_, fun hb G3 H3 s3 => ?_⟩
      · rw [List.length_map, List.length_append, List.length_replicate]
        rfl
      · have hb' := of_decide_eq_true hb
        have o3 := o'.step s3
        refine w_appO rfl o3 (ev_at o3.s.gh (ed_c (.int 0))) (by rw [List.length_map, List.length_append, List.length_replicate]; omega) fun G5 H5 xs s5 o5 => ?_
        refine ⟨m - al.length - (t + 1), by omega, G5, t + 1, rfl, ?_, by omega, rfl⟩
        rw [List.replicate_succ', ← List.append_assoc, List.map_append]
        exact o5
      · have hb' := of_decide_eq_false hb
        have o3 := o'.step s3
        obtain ⟨G4, s4, _, r4⟩ := o3.done
        have et : t = m - al.length := by omega
        refine w_ret (ev_at s4.gh (ed_sll (ed_var rfl r4) eb_none (eb_some (ed_var rfl (.int (m : Int)))))) fun v G5 H5 s5 r5 => ?_
        refine q v G5 H5 (((sc.trans s2).trans s4).trans s5) ?_
        have ec : cutD ((al ++ List.replicate t 0).map PyData.int) none (some (m : Int)) = (numsOf ns m).map PyData.int := by
          unfold cutD numsOf
          rw [hL, HT.sIx_none, HT.sIx_nat, List.drop_zero, Nat.sub_zero, ← et, List.map_take]
          rw [List.length_map, List.length_append, List.length_replicate]
          congr 1
          omega
        rw [ec] at r5
        exact r5
end
end Fw

namespace Fw
open PySem PySem.Spec PyProof.Rows L2 Evl
open TL (tl len_tl ext_tl tl_append tl_mk mk_tl)
/-! ### names -/
abbrev LET : Str := "abcdefghijklmnopqrstuvwxyz"
abbrev SIG : Str := "abcdefghijklmnopqrstuvwxyz0123456789"
def isNm (l : List Nat) : Bool := (decide (1 ≤ l.length) && decide (l.length ≤ 12)) && (match l with
  | [] => false
  | c :: _ => decide (c ∈ tl LET)) && l.all fun c => decide (c ∈ tl SIG)
/-- the module's numbers and texts -/
structure Md (mg : Str → Option Value) (t1 t2 t3 : Tok) : Prop where
  LETTERS : mg "LETTERS" = some (.str LET t1)
  SIGNS : mg "SIGNS" = some (.str SIG t2)
  LONGEST_NAME : mg "LONGEST_NAME" = some (.int 12 t3)
section
variable {P : Program} {w : World} {K : PySem.W.Frag} {mg : Str → Option Value} {base : Heap} {t1 t2 t3 : Tok}
abbrev s_is_name : Stmt := topS 14
theorem sc_is_name : FnScope ["text", "sign"] ["text"] (defScope s_is_name) := ⟨rfl, rfl, rfl, by decide +kernel, rfl, by decide +kernel, by decide +kernel⟩
def spIsName : Sp := fun vs H Q _ => ∃ (x : Str) (G : Hp), vs = [.str x] ∧ x.length ≤ 1000 ∧ Ex G H ∧ ∀ G2 H2, Stp G H G2 H2 → Q (.bl (isNm (tl x))) H2
theorem ok_is_name {f : Addr} {fd : FuncData} (F : Fun K "is_name" "is_name" s_is_name f fd) (Z : Zs mg) (M : Md mg t1 t2 t3) : FnOk P w K mg base CX0 1 f fd ["text"] spIsName := by
  refine F.ok sc_is_name (fun vs H Q E h => ?_) (fun cdv A outer s H vs Q E hr h => ?_)
  · obtain ⟨x, G, rfl, _⟩ := h
    rfl
  · obtain ⟨x, G, rfl, hx, e, q⟩ := h
    refine ⟨_, (pss_cons (ps_if (PW.pt (pw_or (pt_not (pt_val (pe_callB (k_isi K rfl) (by rfl) Z.isinstance bt_isinstance (pa_cons (pv 0) (pa_cons (pe_ty (by rfl) Z.str bt_str) pa_nil))))) (pw_or1 (pt_not (pt_chain op_le op_le pe_int (pe_callB (k_len K rfl) (by rfl) Z.len bt_len (pa_cons (pv 0) pa_nil)) (pe_gint rfl M.LONGEST_NAME)))))) (pss_one (ps_ret pe_bl)) pss_nil)
      (pss_one (ps_ret (pe_and (pe_cmpR (k_inU K rfl) (pe_ix (k_ix K rfl) (pv 0) pe_int (fun _ _ => rfl)) (pe_gstr rfl M.LETTERS) (by rfl)) (pe_one (pe_callB (k_all K rfl rfl) (by rfl) Z.all bt_all (pa_cons (pe_lc (own := [("sign", 1)]) (g := (gName 1)) (tt := tYes) rfl sc_is_name.nd (pi_str (pv 0)) (blkOk_by (N := ["text", "sign"]) (sc := defScope s_is_name) (own := [("sign", 1)]) (by decide +kernel)) (fun _ _ _ _ _ => (pg_name (i := 1) sc_is_name.nd rfl (Or.inl rfl))) (fun _ _ _ _ _ => pts_nil) (fun _ _ _ _ _ => (pe_cmpR (k_inU K rfl) (pv 1) (pe_gstr rfl M.SIGNS) (by rfl)))) pa_nil))))))), ?_⟩
    have hl : x.length = (tl x).length := len_tl x
    have hs : x.length ≤ sizeLine := by rw [sizeLine_eq]; omega
    refine w_when (ec_at e (et_or (et_not (et_val (ed_isi (ed_var rfl (.str x)) (show kitB "str" "str" = some true by decide +kernel)))) (fun _ => et_not (et_cmp (ed_chain (ed_c (.int 1)) (ed_cb (es_cons (ed_var rfl (.str x)) es_nil) (rd_lens hs)) (ed_c (.int 12)) r2_B0 r2_B0))))) (fun hb G2 H2 s2 => ?_) (fun hb G2 H2 s2 => ?_)
    · have h1 : (decide ((1 : Int) ≤ (x.length : Int)) && decide ((x.length : Int) ≤ 12)) = false := by
        cases hz : (decide ((1 : Int) ≤ (x.length : Int)) && decide ((x.length : Int) ≤ 12)) with
        | false => rfl
        | true =>
          rw [hz] at hb
          cases hb
      have h2 : isNm (tl x) = false := by
        unfold isNm
        rw [← hl]
        have h3 : (decide (1 ≤ x.length) && decide (x.length ≤ 12)) = false := by
          rw [← h1]
          congr 1
          · exact decide_eq_decide.mpr (by omega)
          · exact decide_eq_decide.mpr (by omega)
        rw [h3]
        rfl
      refine w_ret (ev_at s2.gh (ed_c (.bl false))) fun v G3 H3 s3 r3 => ?_
      obtain rfl := rp_bl r3
      exact h2 ▸ q G3 H3 (s2.trans s3)
    · have h1 : (decide ((1 : Int) ≤ (x.length : Int)) && decide ((x.length : Int) ≤ 12)) = true := by
        cases hz : (decide ((1 : Int) ≤ (x.length : Int)) && decide ((x.length : Int) ≤ 12)) with
        | true => rfl
        | false =>
          rw [hz] at hb
          cases hb
      have h3 : (1 : Int) ≤ (x.length : Int) ∧ (x.length : Int) ≤ 12 := by simpa using h1
      obtain ⟨c, r, hc⟩ : ∃ c r, tl x = c :: r := by
        cases hh : tl x with
        | nil => rw [hh] at hl; simp at hl; omega
        | cons c r => exact ⟨c, r, rfl⟩
      have hn : isNm (tl x) = (decide (c ∈ tl LET) && (tl x).all fun c => decide (c ∈ tl SIG)) := by
        have h4 : (decide (1 ≤ (tl x).length) && decide ((tl x).length ≤ 12)) = true := by
          rw [← hl]
          simp
          omega
        unfold isNm
        rw [h4, hc]
        rfl
      refine w_ret (ev_at s2.gh (ed_and (ed_op (ed_op (ed_var rfl (.str x)) (ed_c (.int 0)) (r2_ixs hs (show atI (tl x) 0 = some c by rw [hc]; exact atI_nat (j := 0) rfl))) (ed_c (.str LET)) r2_sign) (fun _ => ed_cb (es_cons ((ed_lcC (c := fun _ => true) (y := fun a => .bool (decide (a ∈ tl SIG))) (ed_var rfl (.str x)) (by omega) (fun _ => rfl) (fun _ _ _ _ => et_yes) (fun a _ _ G' _ => ed_op (ed_var rfl (.str _)) (ed_c (.str SIG)) r2_sign)).is (?_ : _ = .list (((tl x).map fun a => decide (a ∈ tl SIG)).map PyData.bool))) es_nil) rd_all))) fun v G3 H3 s3 r3 => ?_
      · rw [List.filter_eq_self.mpr (fun _ _ => rfl), List.map_map]
        rfl
      · obtain rfl := rp_bl r3
        have he : isNm (tl x) = (decide (c ∈ tl LET) && ((tl x).map fun a => decide (a ∈ tl SIG)).all id) := by
          rw [hn, List.all_map]
          rfl
        have qq := q G3 H3 (s2.trans s3)
        rw [he] at qq
        exact qq
theorem ed_is_name {σ : L2.St} {G : Hp} {te : TE} {x : Str} (h : EvD te σ G (.str x)) (hx : x.length ≤ 1000) : EvD (tCall spIsName [] E0 (tCons te tNil)) σ G (.bool (isNm (tl x))) :=
  ed_call0 (es_cons h es_nil) fun G0 H0 vs e0 hvs Q' q' => by
    rw [ra_str (ns := [x]) hvs]
    exact ⟨x, G0, rfl, hx, e0, fun G2 H2 s => q' _ G2 H2 s (.bl _)⟩
end
end Fw

namespace Fw
open PySem PySem.Spec PyProof.Rows L2 Evl
open TL (tl len_tl ext_tl tl_append tl_mk mk_tl)
/-! ### names that are checked -/
section
variable {P : Program} {w : World} {K : PySem.W.Frag} {mg : Str → Option Value} {base : Heap}
abbrev s_check_names : Stmt := topS 18
theorem sc_check_names : FnScope ["names", "seen", "name"] ["names"] (defScope s_check_names) := ⟨rfl, rfl, rfl, by decide +kernel, rfl, by decide +kernel, by decide +kernel⟩
def namesOk (ns : List Str) : Prop := (∀ n ∈ ns, isNm (tl n) = true) ∧ ns.Nodup
def spChk (C : Addr) : Sp := fun vs H Q E => ∃ (v : V) (b : Bool) (ns : List Str) (G : Hp), vs = [v] ∧ Rp G v (sq b (ns.map PyData.str)) ∧ Ex G H ∧ ns.length ≤ 1000 ∧ (∀ n ∈ ns, n.length ≤ 1000) ∧
  (namesOk ns → ∀ G2 H2, Stp G H G2 H2 → Q .non H2) ∧ (¬ namesOk ns → ∀ G2 H2, Stp G H G2 H2 → E (.ref C) none H2)
theorem ok_check_names {f C f1 : Addr} {fd fd1 : FuncData} (F : Fun K "_check_names" "_check_names" s_check_names f fd) (x_InvalidBook : Xc K mg "InvalidBook" C) (G_is_name : Df P w K mg base CX0 1 "is_name" f1 fd1 ["text"] spIsName) :
    FnOk P w K mg base (L2.CX P w) 2 f fd ["names"] (spChk C) := by
  refine F.okX sc_check_names (fun vs H Q E h => ?_) (fun cdv A outer s H vs Q E hr h => ?_)
  · obtain ⟨v, b, ns, G, rfl, _⟩ := h
    rfl
  · obtain ⟨v, b, ns, G, rfl, hv, e, hn, hz, q1, q2⟩ := h
    have hu := hu_of hr
    refine ⟨_, (pss_cons (ps_set (i := 1) sc_check_names.nd rfl (Or.inl rfl) pe_dnewK)
      (pss_one (ps_for (passes_of rfl) rfl (k_piS K rfl (pv 0)) (pg_name (i := 2) sc_check_names.nd rfl (Or.inl rfl)) (pss_cons (ps_if (pt_not (pt_val (pe_call G_is_name.ok (hr.mono (by decide)) (by rfl) G_is_name.g G_is_name.k G_is_name.b .nil pass0 (pa_cons (pv 2) pa_nil)))) (pss_one (ps_raise rfl (takes_of rfl rfl rfl rfl) (SkE.pmk_own1 PySem.F.excBase_ValueError x_InvalidBook.ex x_InvalidBook.g x_InvalidBook.kp (raises_own x_InvalidBook.sub x_InvalidBook.ty) (by rfl) (pe_joined (PJ.cons pe_str (PJ.cons (pe_fmt (pv 2)) PJ.nil)))))) pss_nil)
        (pss_cons (ps_if (pt_cmp (pc_din hu (pv 2) (pv 1))) (pss_one (ps_raise rfl (takes_of rfl rfl rfl rfl) (SkE.pmk_own1 PySem.F.excBase_ValueError x_InvalidBook.ex x_InvalidBook.g x_InvalidBook.kp (raises_own x_InvalidBook.sub x_InvalidBook.ty) (by rfl) (pe_joined (PJ.cons pe_str (PJ.cons (pe_fmt (pv 2)) PJ.nil)))))) pss_nil)
        (pss_one (ps_dput hu (pv 1) (pv 2) pe_bl rfl))))))), ?_⟩
    -- seen = {}
    show ∀ p, H p = none → _
    intro p np
    have o0 := OwnD.new e np
    refine w_forS1 (as := ns) (f := PyData.str) (b := b) (ed_var rfl hv) o0.s.gh (fun Gl i σ' H' => ∃ (G' : Hp) (y : Option V), σ' = [some v, some (.ref p), y] ∧ OwnD G H p ((ns.take i).map fun n => (Sum.inr n, V.bl true)) G' H' ∧ Ex Gl G' ∧ (∀ n ∈ ns.take i, isNm (tl n) = true) ∧ (ns.take i).Nodup)
      (fun G2 H2 s2 => ⟨G2, none, rfl, o0.step s2, Ex.refl _, fun _ h => (nomatch h), List.Pairwise.nil⟩) (fun Gl i σ' H' hp => ?_) (fun Gl i n v' σ' H' eG hi hv' hp => ?_) (fun Gl σ' H' eG hp => ?_)
    · obtain ⟨G', _, _, o, x, _⟩ := hp
      exact x.trans o.s.gh
    · obtain ⟨G', y, rfl, o, x, h1, h2⟩ := hp
      obtain rfl := rp_str hv'
      have mem : n ∈ ns := List.mem_of_getElem? hi
      have nz := hz n mem
      refine w_when (ec_at o.s.gh (et_not (et_val (ed_is_name (ed_var rfl (.str n)) nz)))) (fun hb G2 H2 s2 => ?_) (fun hb G2 H2 s2 => ?_)
      · refine w_raise1 (ev_at s2.gh (ed_f2 (ed_var rfl (.str n)) (by decide +kernel) (by omega))) fun G3 H3 s3 => q2 (fun ok => ?_) G3 H3 ((o.step s2).s.trans s3)
        rw [ok.1 n mem] at hb
        cases hb
      · have hn1 : isNm (tl n) = true := by
          cases hh : isNm (tl n) with
          | true => rfl
          | false => rw [hh] at hb; cases hb
        have o2 := o.step s2
        refine w_when (ec_din rfl o2.at_ (ev_at o2.s.gh (ed_var rfl (.str n)))) (fun hb G3 H3 s3 => ?_) (fun hb G3 H3 s3 => ?_)
        · refine w_raise1 (ev_at s3.gh (ed_f2 (ed_var rfl (.str n)) (by decide +kernel) (by omega))) fun G4 H4 s4 => q2 (fun ok => ?_) G4 H4 ((o2.step s3).s.trans s4)
          rw [val_names] at hb
          have hm := of_decide_eq_true hb
          have hd : (ns.take (i + 1)).Nodup := ok.2.sublist (List.take_sublist _ _)
          rw [List.take_add_one, hi] at hd
          exact (List.nodup_append.mp hd).2.2 n hm n (by simp) rfl
        · have o3 := o2.step s3
          rw [val_names] at hb
          have hm := of_decide_eq_false hb
          refine w_dput (dv := .bool true) rfl o3 (ev_at o3.s.gh (ed_c (.bl true))) (fun G4 H4 s4 => ev_at s4.gh (ed_var rfl (.str n))) (by rw [List.length_map, List.length_take]; omega) fun v4 G4 H4 s4 r4 o4 => ?_
          obtain rfl := rp_bl r4
          have et : ns.take (i + 1) = ns.take i ++ [n] := by
            rw [List.take_add_one, hi]
            rfl
          rw [putK_new _ (val_none_of (by rw [val_names]; exact hb))] at o4 ⊢
          refine ⟨G4, _, rfl, ?_, ((x.trans s2.g).trans s3.g).trans s4.g, ?_, ?_⟩
          · rw [et, List.map_append]
            exact o4
          · rw [et]
            intro m hm2
            rcases List.mem_append.mp hm2 with h | h
            · exact h1 m h
            · rw [List.mem_singleton.mp h]
              exact hn1
          · rw [et]
            refine List.nodup_append.mpr ⟨h2, by simp, fun a ha b hb e => ?_⟩
            rw [List.mem_singleton.mp hb] at e
            exact hm (e ▸ ha)
    · obtain ⟨G', y, rfl, o, x, h1, h2⟩ := hp
      rw [List.take_length] at h1 h2
      exact q1 ⟨h1, h2⟩ G' H' o.s
end
end Fw

namespace Fw
open PySem PySem.Spec PyProof.Rows L2 Evl
open TL (tl len_tl ext_tl tl_append tl_mk mk_tl)
/-! ### words and places that are kept -/
section
variable {P : Program} {w : World} {K : PySem.W.Frag} {mg : Str → Option Value} {base : Heap} {t4 t5 t6 : Tok}
/-- the module's other numbers -/
structure Me (mg : Str → Option Value) (t4 t5 t6 : Tok) : Prop where
  MOST_WORDS : mg "MOST_WORDS" = some (.int 3 t4)
  MOST_PLACES : mg "MOST_PLACES" = some (.int 60 t5)
  MOST_SLOTS : mg "MOST_SLOTS" = some (.int 6 t6)
theorem not_true {b : Bool} (h : (!b) = true) : b = false := by cases b with
  | true => cases h
  | false => rfl
theorem not_false' {b : Bool} (h : (!b) = false) : b = true := by cases b with
  | true => rfl
  | false => cases h
theorem two_true {a b : Prop} [Decidable a] [Decidable b] (h : (decide a && decide b) = true) : a ∧ b := by simpa using h
theorem two_false {a b : Prop} [Decidable a] [Decidable b] (h : (decide a && decide b) = false) : ¬ (a ∧ b) := fun ⟨x, y⟩ => by
  rw [decide_eq_true x, decide_eq_true y] at h
  cases h
abbrev s_kept_words : Stmt := topS 19
theorem sc_kept_words : FnScope ["words", "kept"] ["words"] (defScope s_kept_words) := ⟨rfl, rfl, rfl, by decide +kernel, rfl, by decide +kernel, by decide +kernel⟩
def wordsOk (ws : List Str) : Prop := (1 ≤ ws.length ∧ ws.length ≤ 3) ∧ namesOk ws
def spKeptW (C : Addr) : Sp := fun vs H Q E => ∃ (v : V) (b : Bool) (ns : List Str) (G : Hp), vs = [v] ∧ Rp G v (sq b (ns.map PyData.str)) ∧ Ex G H ∧ ns.length ≤ 1000 ∧ (∀ n ∈ ns, n.length ≤ 1000) ∧
  (wordsOk ns → ∀ v G2 H2, Stp G H G2 H2 → Rp G2 v (.tuple (ns.map PyData.str)) → Q v H2) ∧ (¬ wordsOk ns → ∀ G2 H2, Stp G H G2 H2 → E (.ref C) none H2)
theorem ok_kept_words {f C f1 : Addr} {fd fd1 : FuncData} (F : Fun K "_kept_words" "_kept_words" s_kept_words f fd) (Z : Zs mg) (M : Me mg t4 t5 t6) (x_InvalidBook : Xc K mg "InvalidBook" C) (G_check_names : Df P w K mg base (L2.CX P w) 2 "_check_names" f1 fd1 ["names"] (spChk C)) :
    FnOk P w K mg base (L2.CX P w) 3 f fd ["words"] (spKeptW C) := by
  refine F.okX sc_kept_words (fun vs H Q E h => ?_) (fun cdv A outer s H vs Q E hr h => ?_)
  · obtain ⟨v, b, ns, G, rfl, _⟩ := h
    rfl
  · obtain ⟨v, b, ns, G, rfl, hv, e, hn, hz, q1, q2⟩ := h
    refine ⟨_, (pss_cons (ps_set (i := 1) sc_kept_words.nd rfl (Or.inl rfl) (pe_callTy (k_tup K rfl) (by rfl) Z.tuple bt_tuple (pa_cons (pv 0) pa_nil)))
      (pss_cons (ps_if (pt_not (pt_chain op_le op_le pe_int (pe_callB (k_len K rfl) (by rfl) Z.len bt_len (pa_cons (pv 1) pa_nil)) (pe_gint rfl M.MOST_WORDS))) (pss_one (ps_raise rfl (takes_of rfl rfl rfl rfl) (pmk_own PySem.F.excBase_ValueError x_InvalidBook.ex x_InvalidBook.g x_InvalidBook.kp (raises_own x_InvalidBook.sub x_InvalidBook.ty) (by rfl)))) pss_nil)
      (pss_cons (ps_expr (pe_call G_check_names.ok (hr.mono (by decide)) (by rfl) G_check_names.g G_check_names.k G_check_names.b .nil (passes_call (takes_of rfl rfl rfl rfl) (fun _ _ _ _ h => h)) (pa_cons (pv 1) pa_nil)))
      (pss_one (ps_ret (pv 1)))))), ?_⟩
    refine w_set (ev_at e (ed_cb (es_cons (ed_var rfl hv) es_nil) rd_tupq)) fun v1 G1 H1 s1 r1 => ?_
    refine w_when (ec_at s1.gh (et_not (et_cmp (ed_chain (ed_c (.int 1)) (ed_cb (es_cons (ed_var rfl r1) es_nil) rd_lent) (ed_c (.int 3)) r2_B0 r2_B0)))) (fun hb G2 H2 s2 => ?_) (fun hb G2 H2 s2 => ?_)
    · have h1 := two_false (not_true hb)
      rw [List.length_map] at h1
      refine q2 (fun ok => h1 ?_) G2 H2 (s1.trans s2)
      have := ok.1
      omega
    · have h1 := two_true (not_false' hb)
      rw [List.length_map] at h1
      refine ⟨v1, rfl, v1, false, ns, G2, rfl, rp_mono s2.g _ _ r1, s2.gh, hn, hz, fun ok G3 H3 s3 => ?_, fun no G3 H3 s3 => ?_⟩
      · have S := (s1.trans s2).trans s3
        refine w_ret (ev_at S.gh (ed_var rfl (rp_mono (s2.trans s3).g _ _ r1))) fun v4 G4 H4 s4 r4 => ?_
        exact q1 ⟨by omega, ok⟩ v4 G4 H4 (S.trans s4) r4
      · exact q2 (fun ok => no ok.2) G3 H3 ((s1.trans s2).trans s3)
abbrev s_is_number : Stmt := topS 17
theorem sc_is_number : FnScope ["value", "most"] ["value", "most"] (defScope s_is_number) := ⟨rfl, rfl, rfl, by decide +kernel, rfl, by decide +kernel, by decide +kernel⟩
def spNum : Sp := fun vs H Q _ => ∃ (i m : Int) (G : Hp), vs = [.int i, .int m] ∧ Ex G H ∧ ∀ G2 H2, Stp G H G2 H2 → Q (.bl (decide (0 ≤ i) && decide (i ≤ m))) H2
theorem ok_is_number {f : Addr} {fd : FuncData} (F : Fun K "_is_number" "_is_number" s_is_number f fd) (Z : Zs mg) : FnOk P w K mg base CX0 1 f fd ["value", "most"] spNum := by
  refine F.ok sc_is_number (fun vs H Q E h => ?_) (fun cdv A outer s H vs Q E hr h => ?_)
  · obtain ⟨i, m, G, rfl, _⟩ := h
    rfl
  · obtain ⟨i, m, G, rfl, e, q⟩ := h
    refine ⟨_, (pss_one (ps_ret (pe_and (pe_callB (k_isi K rfl) (by rfl) Z.isinstance bt_isinstance (pa_cons (pv 0) (pa_cons (pe_ty (by rfl) Z.int bt_int) pa_nil))) (pe_and (pe_not (pe_callB (k_isi K rfl) (by rfl) Z.isinstance bt_isinstance (pa_cons (pv 0) (pa_cons (pe_ty (by rfl) Z.bool bt_bool) pa_nil)))) (pe_one (pe_chain op_le op_le pe_int (pv 0) (pv 1))))))), ?_⟩
    refine w_ret (ev_at e (ed_and (ed_isi (ed_var rfl (.int i)) (show kitB "int" "int" = some true by decide +kernel)) (fun _ => ed_and (ed_notV (ed_isi (ed_var rfl (.int i)) (show kitB "int" "bool" = some false by decide +kernel))) (fun _ => ed_chain (ed_c (.int 0)) (ed_var rfl (.int i)) (ed_var rfl (.int m)) r2_B0 r2_B0)))) fun v G2 H2 s2 r2 => ?_
    obtain rfl := rp_bl r2
    exact q G2 H2 s2
theorem ed_is_number {σ : L2.St} {G : Hp} {ta tb : TE} {i m : Int} (h : EvD ta σ G (.int i)) (h2 : EvD tb σ G (.int m)) : EvD (tCall spNum [] E0 (tCons ta (tCons tb tNil))) σ G (.bool (decide (0 ≤ i) && decide (i ≤ m))) :=
  ed_call0 (es_cons h (es_cons h2 es_nil)) fun G0 H0 vs e0 hvs Q' q' => by
    rw [ra_get2 hvs]
    exact ⟨i, m, G0, rfl, e0, fun G2 H2 s => q' _ G2 H2 s (.bl _)⟩
abbrev s_kept_place : Stmt := topS 21
theorem sc_kept_place : FnScope ["place", "name", "slots", "yes"] ["place"] (defScope s_kept_place) := ⟨rfl, rfl, rfl, by decide +kernel, rfl, by decide +kernel, by decide +kernel⟩
/-- a place's parts -/
abbrev Pl := Str × Int × Bool
def plD (p : Pl) : PyData := .tuple [.str p.1, .int p.2.1, .bool p.2.2]
def plOk (p : Pl) : Prop := 0 ≤ p.2.1 ∧ p.2.1 ≤ 6
def spKeptP (C : Addr) : Sp := fun vs H Q E => ∃ (v : V) (ds : List PyData) (G : Hp), vs = [v] ∧ Rp G v (.tuple ds) ∧ Ex G H ∧
  (ds.length ≠ 3 ∧ (∀ G2 H2, Stp G H G2 H2 → E (.ref C) none H2) ∨ ∃ p : Pl, ds = [.str p.1, .int p.2.1, .bool p.2.2] ∧ (plOk p → ∀ v G2 H2, Stp G H G2 H2 → Rp G2 v (plD p) → Q v H2) ∧ (¬ plOk p → ∀ G2 H2, Stp G H G2 H2 → E (.ref C) none H2))
theorem ok_kept_place {f C f1 : Addr} {fd fd1 : FuncData} (F : Fun K "_kept_place" "_kept_place" s_kept_place f fd) (Z : Zs mg) (M : Me mg t4 t5 t6) (x_InvalidBook : Xc K mg "InvalidBook" C) (G_is_number : Df P w K mg base CX0 1 "_is_number" f1 fd1 ["value", "most"] spNum) :
    FnOk P w K mg base (L2.CX P w) 2 f fd ["place"] (spKeptP C) := by
  refine F.okX sc_kept_place (fun vs H Q E h => ?_) (fun cdv A outer s H vs Q E hr h => ?_)
  · obtain ⟨v, ds, G, rfl, _⟩ := h
    rfl
  · obtain ⟨v, ds, G, rfl, hv, e, hq⟩ := h
    refine ⟨_, (pss_cons (ps_if (pt_cmpR (k_neD K rfl hr.units) (pe_callB (k_len K rfl) (by rfl) Z.len bt_len (pa_cons (pv 0) pa_nil)) pe_int (nomark _)) (pss_one (ps_raise rfl (takes_of rfl rfl rfl rfl) (pmk_own PySem.F.excBase_ValueError x_InvalidBook.ex x_InvalidBook.g x_InvalidBook.kp (raises_own x_InvalidBook.sub x_InvalidBook.ty) (by rfl)))) pss_nil)
      (pss_cons (ps_asg (pv 0) (k_tgt K rfl rfl (pgs_cons (pg_name (i := 1) sc_kept_place.nd rfl (Or.inl rfl)) (pgs_cons (pg_name (i := 2) sc_kept_place.nd rfl (Or.inl rfl)) (pgs_cons (pg_name (i := 3) sc_kept_place.nd rfl (Or.inl rfl)) pgs_nil)))))
      (pss_cons (ps_if (pt_not (pt_val (pe_call G_is_number.ok (hr.mono (by decide)) (by rfl) G_is_number.g G_is_number.k G_is_number.b .nil pass0 (pa_cons (pv 2) (pa_cons (pe_gint rfl M.MOST_SLOTS) pa_nil))))) (pss_one (ps_raise rfl (takes_of rfl rfl rfl rfl) (pmk_own PySem.F.excBase_ValueError x_InvalidBook.ex x_InvalidBook.g x_InvalidBook.kp (raises_own x_InvalidBook.sub x_InvalidBook.ty) (by rfl)))) pss_nil)
      (pss_cons (ps_if (pt_not (pt_val (pe_callB (k_isi K rfl) (by rfl) Z.isinstance bt_isinstance (pa_cons (pv 3) (pa_cons (pe_ty (by rfl) Z.bool bt_bool) pa_nil))))) (pss_one (ps_raise rfl (takes_of rfl rfl rfl rfl) (pmk_own PySem.F.excBase_ValueError x_InvalidBook.ex x_InvalidBook.g x_InvalidBook.kp (raises_own x_InvalidBook.sub x_InvalidBook.ty) (by rfl)))) pss_nil)
      (pss_one (ps_ret (pe_tup (pa_cons (pv 1) (pa_cons (pv 2) (pa_cons (pv 3) pa_nil)))))))))), ?_⟩
    refine w_when (ec_at e (et_cmp (ed_op (ed_cb (es_cons (ed_var rfl hv) es_nil) rd_lent) (ed_c (.int 3)) (r2_ne rfl rfl)))) (fun hb G2 H2 s2 => ?_) (fun hb G2 H2 s2 => ?_)
    · rcases hq with ⟨h1, q2⟩ | ⟨p, rfl, q1, q2⟩
      · exact q2 G2 H2 s2
      · cases hb
    · rcases hq with ⟨h1, q2⟩ | ⟨p, rfl, q1, q2⟩
      · have h2 : (ds.length : Int) = 3 := by
          have h3 := not_false' hb
          simpa [PyData.eqv] using h3
        exact absurd (by omega) h1
      · refine w_asg (ev_at s2.gh (ed_var rfl (rp_mono s2.g _ _ hv))) fun v3 G3 H3 s3 r3 => ?_
        refine g_three s3.gh r3 fun v1 v2 v4 r1 r2 r4 => ?_
        refine w_when (ec_at s3.gh (et_not (et_val (ed_is_number (ed_var rfl r2) (ed_c (.int 6)))))) (fun hb G4 H4 s4 => ?_) (fun hb G4 H4 s4 => ?_)
        · have h1 := two_false (not_true hb)
          exact q2 h1 G4 H4 ((s2.trans s3).trans s4)
        · have h1 := two_true (not_false' hb)
          refine w_when (ec_at s4.gh (et_not (et_val (ed_isi (ed_var rfl (rp_mono s4.g _ _ r4)) (show kitB "bool" "bool" = some true by decide +kernel))))) (fun hb G5 H5 s5 => ?_) (fun hb G5 H5 s5 => ?_)
          · cases hb
          · have e5 := (s4.trans s5).g
            refine w_ret (ev_at s5.gh (ed_tup (es_cons (ed_var rfl (rp_mono e5 _ _ r1)) (es_cons (ed_var rfl (rp_mono e5 _ _ r2)) (es_cons (ed_var rfl (rp_mono e5 _ _ r4)) es_nil))) (by simp))) fun v6 G6 H6 s6 r6 => ?_
            exact q1 h1 v6 G6 H6 ((((s2.trans s3).trans s4).trans s5).trans s6) r6
abbrev s_kept_places : Stmt := topS 20
theorem sc_kept_places : FnScope ["places", "kept", "place"] ["places"] (defScope s_kept_places) := ⟨rfl, rfl, rfl, by decide +kernel, rfl, by decide +kernel, by decide +kernel⟩
def placesOk (ps : List Pl) : Prop := (1 ≤ ps.length ∧ ps.length ≤ 60) ∧ namesOk (ps.map (·.1))
def spKeptPs (C : Addr) : Sp := fun vs H Q E => ∃ (v : V) (b : Bool) (ps : List Pl) (G : Hp), vs = [v] ∧ Rp G v (sq b (ps.map plD)) ∧ Ex G H ∧ ps.length ≤ 1000 ∧ (∀ p ∈ ps, p.1.length ≤ 1000) ∧ (∀ p ∈ ps, plOk p) ∧
  (placesOk ps → ∀ v G2 H2, Stp G H G2 H2 → Rp G2 v (.tuple (ps.map plD)) → Q v H2) ∧ (¬ placesOk ps → ∀ G2 H2, Stp G H G2 H2 → E (.ref C) none H2)
theorem ok_kept_places {f C f1 f2 : Addr} {fd fd1 fd2 : FuncData} (F : Fun K "_kept_places" "_kept_places" s_kept_places f fd) (Z : Zs mg) (M : Me mg t4 t5 t6) (x_InvalidBook : Xc K mg "InvalidBook" C) (G_check_names : Df P w K mg base (L2.CX P w) 2 "_check_names" f1 fd1 ["names"] (spChk C))
    (G_kept_place : Df P w K mg base (L2.CX P w) 2 "_kept_place" f2 fd2 ["place"] (spKeptP C)) : FnOk P w K mg base (L2.CX P w) 3 f fd ["places"] (spKeptPs C) := by
  refine F.okX sc_kept_places (fun vs H Q E h => ?_) (fun cdv A outer s H vs Q E hr h => ?_)
  · obtain ⟨v, b, ps, G, rfl, _⟩ := h
    rfl
  · obtain ⟨v, b, ps, G, rfl, hv, e, hn, hz, ho, q1, q2⟩ := h
    refine ⟨_, (pss_cons (ps_set (i := 1) sc_kept_places.nd rfl (Or.inl rfl) (pe_callTy (k_tup K rfl) (by rfl) Z.tuple bt_tuple (pa_cons (pe_lc (own := [("place", 2)]) (g := (gName 2)) (tt := tYes) rfl sc_kept_places.nd (k_piS K rfl (pv 0)) (blkOk_by (N := ["places", "kept", "place"]) (sc := defScope s_kept_places) (own := [("place", 2)]) (by decide +kernel)) (fun _ _ _ _ _ => (pg_name (i := 2) sc_kept_places.nd rfl (Or.inl rfl))) (fun _ _ _ _ _ => pts_nil) (fun _ _ _ _ _ => (pe_call G_kept_place.ok (hr.mono (by decide)) (by rfl) G_kept_place.g G_kept_place.k G_kept_place.b .nil passL (pa_cons (pv 2) pa_nil)))) pa_nil)))
      (pss_cons (ps_if (pt_not (pt_chain op_le op_le pe_int (pe_callB (k_len K rfl) (by rfl) Z.len bt_len (pa_cons (pv 1) pa_nil)) (pe_gint rfl M.MOST_PLACES))) (pss_one (ps_raise rfl (takes_of rfl rfl rfl rfl) (pmk_own PySem.F.excBase_ValueError x_InvalidBook.ex x_InvalidBook.g x_InvalidBook.kp (raises_own x_InvalidBook.sub x_InvalidBook.ty) (by rfl)))) pss_nil)
      (pss_cons (ps_expr (pe_call G_check_names.ok (hr.mono (by decide)) (by rfl) G_check_names.g G_check_names.k G_check_names.b .nil (passes_call (takes_of rfl rfl rfl rfl) (fun _ _ _ _ h => h)) (pa_cons (pe_lc (own := [("place", 2)]) (g := (gName 2)) (tt := tYes) rfl sc_kept_places.nd (k_piT K rfl (pv 1)) (blkOk_by (N := ["places", "kept", "place"]) (sc := defScope s_kept_places) (own := [("place", 2)]) (by decide +kernel)) (fun _ _ _ _ _ => (pg_name (i := 2) sc_kept_places.nd rfl (Or.inl rfl))) (fun _ _ _ _ _ => pts_nil) (fun _ _ _ _ _ => (pe_ix (k_ix K rfl) (pv 2) pe_int (fun _ _ => rfl)))) pa_nil)))
      (pss_one (ps_ret (pv 1)))))), ?_⟩
    refine w_set (ev_at e (ed_cb (es_cons ((ed_lcS1 (as := ps) (f := plD) (y := plD) (c := fun _ => true) (ed_var rfl hv) (by omega) (fun _ => rfl) (fun _ _ _ _ _ _ => et_yes) (fun p hp _ u G' _ hu => ?_)).is (lc_all (xs := ps.map plD) rfl)) es_nil) rd_tupl)) fun v1 G1 H1 s1 r1 => ?_
    · refine ed_call0 (es_cons (ed_var rfl hu) es_nil) fun G0 H0 vs e0 hvs Q' q' => ?_
      cases hvs with
      | cons h1 h2 =>
        cases h2
        exact ⟨_, _, G0, rfl, h1, e0, .inr ⟨p, rfl, fun _ v G2 H2 s r => q' v G2 H2 s r, fun no => absurd (ho p hp) no⟩⟩
    · refine w_when (ec_at s1.gh (et_not (et_cmp (ed_chain (ed_c (.int 1)) (ed_cb (es_cons (ed_var rfl r1) es_nil) rd_lent) (ed_c (.int 60)) r2_B0 r2_B0)))) (fun hb G2 H2 s2 => ?_) (fun hb G2 H2 s2 => ?_)
      · have h1 := two_false (not_true hb)
        rw [List.length_map] at h1
        refine q2 (fun ok => h1 ?_) G2 H2 (s1.trans s2)
        have := ok.1
        omega
      · have h1 := two_true (not_false' hb)
        rw [List.length_map] at h1
        have r2 := rp_mono s2.g _ _ r1
        refine w_callD (es_cons ((ed_lcT1 (as := ps) (f := plD) (y := fun p => .str p.1) (c := fun _ => true) (ed_var rfl r2) (by omega) (fun _ => rfl) (fun _ _ _ _ _ _ => et_yes) (fun p hp _ u G' _ hu => ?_)).is (lc_all (xs := (ps.map (·.1)).map PyData.str) (by rw [List.map_map]; rfl))) es_nil) s2.gh fun vs3 G3 H3 s3 r3 => ?_
        · exact ed_op (ed_var rfl hu) (ed_c (.int 0)) (r2_ixt (atI_nat (j := 0) rfl))
        · cases r3 with
          | cons h3 h4 =>
            cases h4
            refine ⟨_, true, ps.map (fun p : Pl => p.1), G3, rfl, h3, s3.gh, by rw [List.length_map]; exact hn, fun n hn' => ?_, fun ok G4 H4 s4 => ?_, fun no G4 H4 s4 => ?_⟩
            · obtain ⟨p, hp, rfl⟩ := List.mem_map.mp hn'
              exact hz p hp
            · have S := ((s1.trans s2).trans s3).trans s4
              refine w_ret (ev_at S.gh (ed_var rfl (rp_mono ((s2.trans s3).trans s4).g _ _ r1))) fun v5 G5 H5 s5 r5 => ?_
              exact q1 ⟨by omega, ok⟩ v5 G5 H5 (S.trans s5) r5
            · exact q2 (fun ok => no ok.2) G4 H4 (((s1.trans s2).trans s3).trans s4)
end
end Fw

namespace Fw
open PySem PySem.Spec PyProof.Rows L2 Evl
open TL (tl len_tl ext_tl tl_append tl_mk mk_tl)
/-! ### rules that are kept -/
section
variable {P : Program} {w : World} {K : PySem.W.Frag} {mg : Str → Option Value} {base : Heap}
/-- the place table -/
def tabK (pls : List Pl) (us : List V) : List (Key × V) := zK (pls.map fun p => p.1) us
def findP (pls : List Pl) (n : Str) : Option Pl := pls.find? fun p => decide (p.1 = n)
structure PTab (G : Hp) (a : Addr) (pls : List Pl) : Prop where
  at_ : ∃ us, G a = some (.dK (tabK pls us)) ∧ RpAll G us (pls.map plD)
theorem PTab.mono {G G' : Hp} {a : Addr} {pls : List Pl} (e : Ex G G') (h : PTab G a pls) : PTab G' a pls := let ⟨us, h1, h2⟩ := h.at_; ⟨us, e _ _ h1, ra_mono e _ _ h2⟩
theorem tab_none {G : Hp} (n : Str) : ∀ {pls : List Pl} {us : List V}, RpAll G us (pls.map plD) → findP pls n = none → valV (tabK pls us) (Sum.inr n) = none
  | [], _, h, _ => by cases h; rfl
  | p :: pls, _, h, hf => by
    cases h with
    | cons h1 h2 =>
      unfold findP at hf
      rw [List.find?_cons] at hf
      cases hd : decide (p.1 = n) with
      | true => rw [hd] at hf; cases hf
      | false =>
        rw [hd] at hf
        exact (valV_neg (fun e => of_decide_eq_false hd (Sum.inr.inj e))).trans (tab_none n h2 hf)
theorem tab_some {G : Hp} {n : Str} {q : Pl} : ∀ {pls : List Pl} {us : List V}, RpAll G us (pls.map plD) → findP pls n = some q → ∃ u, valV (tabK pls us) (Sum.inr n) = some u ∧ Rp G u (plD q)
  | [], _, h, hf => by cases hf
  | p :: pls, _, h, hf => by
    cases h with
    | cons h1 h2 =>
      unfold findP at hf
      rw [List.find?_cons] at hf
      cases hd : decide (p.1 = n) with
      | true =>
        rw [hd] at hf
        cases hf
        exact ⟨_, valV_pos (congrArg Sum.inr (of_decide_eq_true hd)), h1⟩
      | false =>
        rw [hd] at hf
        obtain ⟨u, e1, e2⟩ := tab_some h2 hf
        exact ⟨u, (valV_neg (fun e => of_decide_eq_false hd (Sum.inr.inj e))).trans e1, e2⟩
theorem tab_is {G : Hp} {pls : List Pl} {us : List V} (n : Str) (h : RpAll G us (pls.map plD)) : (valV (tabK pls us) (Sum.inr n)).isSome = (findP pls n).isSome := by
  cases hf : findP pls n with
  | none =>
    rw [tab_none n h hf]
    rfl
  | some q =>
    obtain ⟨u, e, _⟩ := tab_some h hf
    rw [e]
    rfl
abbrev s_is_source : Stmt := topS 15
theorem sc_is_source : FnScope ["source", "case", "slots"] ["source", "case", "slots"] (defScope s_is_source) := ⟨rfl, rfl, rfl, by decide +kernel, rfl, by decide +kernel, by decide +kernel⟩
def spIsSrc : Sp := fun vs H Q _ => ∃ (i c m : Int) (G : Hp), vs = [.int i, .int c, .int m] ∧ Ex G H ∧ ∀ G2 H2, Stp G H G2 H2 → Q (.bl ((decide (0 ≤ i) && decide (i ≤ m)) && (!decide (i = 0) || decide (c = 0)))) H2
theorem eqv_ints (a b : Int) : PyData.eqv (.int a) (.int b) = decide (a = b) := by
  unfold PyData.eqv
  exact Bool.beq_eq_decide_eq a b
theorem ok_is_source {f f1 : Addr} {fd fd1 : FuncData} (F : Fun K "is_source" "is_source" s_is_source f fd) (Z : Zs mg) (G_is_number : Df P w K mg base CX0 1 "_is_number" f1 fd1 ["value", "most"] spNum) : FnOk P w K mg base CX0 2 f fd ["source", "case", "slots"] spIsSrc := by
  refine F.ok sc_is_source (fun vs H Q E h => ?_) (fun cdv A outer s H vs Q E hr h => ?_)
  · obtain ⟨i, c, m, G, rfl, _⟩ := h
    rfl
  · obtain ⟨i, c, m, G, rfl, e, q⟩ := h
    refine ⟨_, (pss_one (ps_ret (pe_and (pe_call G_is_number.ok (hr.mono (by decide)) (by rfl) G_is_number.g G_is_number.k G_is_number.b .nil pass0 (pa_cons (pv 0) (pa_cons (pv 2) pa_nil))) (pe_one (pe_or (pe_cmpR (k_neD K rfl hr.units) (pv 0) pe_int (nomark _)) (pe_one (pe_cmpR (k_eqD K rfl hr.units) (pv 1) pe_int (nomark _)))))))), ?_⟩
    refine w_ret (ev_at e (ed_and (ed_is_number (ed_var rfl (.int i)) (ed_var rfl (.int m))) (fun _ => ed_or (ed_op (ed_var rfl (.int i)) (ed_c (.int 0)) (r2_ne rfl rfl)) (fun _ => ed_op (ed_var rfl (.int c)) (ed_c (.int 0)) (r2_eq rfl rfl))))) fun v G2 H2 s2 r2 => ?_
    rw [eqv_ints, eqv_ints] at r2
    obtain rfl := rp_bl r2
    exact q G2 H2 s2
theorem ed_is_source {σ : L2.St} {G : Hp} {ta tb tc : TE} {i c m : Int} (h : EvD ta σ G (.int i)) (h2 : EvD tb σ G (.int c)) (h3 : EvD tc σ G (.int m)) : EvD (tCall spIsSrc [] E0 (tCons ta (tCons tb (tCons tc tNil)))) σ G (.bool ((decide (0 ≤ i) && decide (i ≤ m)) && (!decide (i = 0) || decide (c = 0)))) :=
  ed_call0 (es_cons h (es_cons h2 (es_cons h3 es_nil))) fun G0 H0 vs e0 hvs Q' q' => by
    cases hvs with
    | cons h1 hr =>
    cases hr with
    | cons h2 hr =>
    cases hr with
    | cons h3 hr =>
    cases hr
    rw [rp_int h1, rp_int h2, rp_int h3]
    exact ⟨i, c, m, G0, rfl, e0, fun G2 H2 s => q' _ G2 H2 s (.bl _)⟩
abbrev s_check_sources : Stmt := topS 23
theorem sc_check_sources : FnScope ["sources", "case", "slots", "goal_slots", "seen", "source"] ["sources", "case", "slots", "goal_slots"] (defScope s_check_sources) := ⟨rfl, rfl, rfl, by decide +kernel, rfl, by decide +kernel, by decide +kernel⟩
def srcOk (srcs : List Int) (c s g : Int) : Prop := (srcs.length : Int) = g ∧ (∀ x ∈ srcs, (0 ≤ x ∧ x ≤ s) ∧ ¬ (x = 0 ∧ c ≠ 0)) ∧ srcs.Nodup
def spSrc (C : Addr) : Sp := fun vs H Q E => ∃ (v : V) (srcs : List Int) (c s g : Int) (G : Hp), vs = [v, .int c, .int s, .int g] ∧ Rp G v (.tuple (srcs.map PyData.int)) ∧ Ex G H ∧ srcs.length ≤ 1000 ∧
  (srcOk srcs c s g → ∀ G2 H2, Stp G H G2 H2 → Q .non H2) ∧ (¬ srcOk srcs c s g → ∀ G2 H2, Stp G H G2 H2 → E (.ref C) none H2)
theorem ok_check_sources {f C f1 : Addr} {fd fd1 : FuncData} (F : Fun K "_check_sources" "_check_sources" s_check_sources f fd) (Z : Zs mg) (x_InvalidBook : Xc K mg "InvalidBook" C) (G_is_source : Df P w K mg base CX0 2 "is_source" f1 fd1 ["source", "case", "slots"] spIsSrc) :
    FnOk P w K mg base (L2.CX P w) 3 f fd ["sources", "case", "slots", "goal_slots"] (spSrc C) := by
  refine F.okX sc_check_sources (fun vs H Q E h => ?_) (fun cdv A outer s H vs Q E hr h => ?_)
  · obtain ⟨v, srcs, c, s, g, G, rfl, _⟩ := h
    rfl
  · obtain ⟨v, srcs, c, s', g, G, rfl, hv, e, hn, q1, q2⟩ := h
    have hu := hu_of hr
    refine ⟨_, (pss_cons (ps_if (pt_cmpR (k_neD K rfl hr.units) (pe_callB (k_len K rfl) (by rfl) Z.len bt_len (pa_cons (pv 0) pa_nil)) (pv 3) (nomark _)) (pss_one (ps_raise rfl (takes_of rfl rfl rfl rfl) (pmk_own PySem.F.excBase_ValueError x_InvalidBook.ex x_InvalidBook.g x_InvalidBook.kp (raises_own x_InvalidBook.sub x_InvalidBook.ty) (by rfl)))) pss_nil)
      (pss_cons (ps_set (i := 4) sc_check_sources.nd rfl (Or.inl rfl) pe_dnewK)
      (pss_one (ps_for (passes_of rfl) rfl (k_piT K rfl (pv 0)) (pg_name (i := 5) sc_check_sources.nd rfl (Or.inl rfl)) (pss_cons (ps_if (pt_not (pt_val (pe_call G_is_source.ok (hr.mono (by decide)) (by rfl) G_is_source.g G_is_source.k G_is_source.b .nil pass0 (pa_cons (pv 5) (pa_cons (pv 1) (pa_cons (pv 2) pa_nil)))))) (pss_one (ps_raise rfl (takes_of rfl rfl rfl rfl) (pmk_own PySem.F.excBase_ValueError x_InvalidBook.ex x_InvalidBook.g x_InvalidBook.kp (raises_own x_InvalidBook.sub x_InvalidBook.ty) (by rfl)))) pss_nil)
        (pss_cons (ps_if (pt_cmp (pc_din hu (pv 5) (pv 4))) (pss_one (ps_raise rfl (takes_of rfl rfl rfl rfl) (pmk_own PySem.F.excBase_ValueError x_InvalidBook.ex x_InvalidBook.g x_InvalidBook.kp (raises_own x_InvalidBook.sub x_InvalidBook.ty) (by rfl)))) pss_nil)
        (pss_one (ps_dput hu (pv 4) (pv 5) pe_bl rfl)))))))), ?_⟩
    refine w_when (ec_at e (et_cmp (ed_op (ed_cb (es_cons (ed_var rfl hv) es_nil) rd_lent) (ed_var rfl (.int g)) (r2_ne rfl rfl)))) (fun hb G2 H2 s2 => ?_) (fun hb G2 H2 s2 => ?_)
    · rw [eqv_ints, List.length_map] at hb
      exact q2 (fun ok => of_decide_eq_false (not_true hb) ok.1) G2 H2 s2
    · rw [eqv_ints, List.length_map] at hb
      have hlen := of_decide_eq_true (not_false' hb)
      show ∀ p, H2 p = none → _
      intro p np
      have o0 := OwnD.new s2.gh np
      refine w_forT1 (as := srcs) (f := PyData.int) (ed_var rfl (rp_mono s2.g _ _ hv)) o0.s.gh (fun Gl i σ' H' => ∃ (G' : Hp) (y : Option V), σ' = [some v, some (.int c), some (.int s'), some (.int g), some (.ref p), y] ∧ OwnD G2 H2 p ((srcs.take i).map fun n => (Sum.inl n, V.bl true)) G' H' ∧ Ex Gl G' ∧ (∀ x ∈ srcs.take i, (0 ≤ x ∧ x ≤ s') ∧ ¬ (x = 0 ∧ c ≠ 0)) ∧ (srcs.take i).Nodup)
        (fun G3 H3 s3 => ⟨G3, none, rfl, o0.step s3, Ex.refl _, fun _ h => (nomatch h), List.Pairwise.nil⟩) (fun Gl i σ' H' hp => ?_) (fun Gl i x v' σ' H' eG hi hv' hp => ?_) (fun Gl σ' H' eG hp => ?_)
      · obtain ⟨G', _, _, o, x, _⟩ := hp
        exact x.trans o.s.gh
      · obtain ⟨G', y, rfl, o, xg, h1, h2⟩ := hp
        obtain rfl := rp_int hv'
        have mem : x ∈ srcs := List.mem_of_getElem? hi
        refine w_when (ec_at o.s.gh (et_not (et_val (ed_is_source (ed_var rfl (.int x)) (ed_var rfl (.int c)) (ed_var rfl (.int s')))))) (fun hb G3 H3 s3 => ?_) (fun hb G3 H3 s3 => ?_)
        · refine q2 (fun ok => ?_) G3 H3 (s2.trans ((o.step s3).s))
          obtain ⟨⟨a1, a2⟩, a3⟩ := ok.2.1 x mem
          rw [decide_eq_true a1, decide_eq_true a2] at hb
          have hb' : (decide (x = 0) && !decide (c = 0)) = true := by
            revert hb
            cases decide (x = 0) <;> cases decide (c = 0) <;> simp
          simp at hb'
          exact a3 hb'
        · have hx : (0 ≤ x ∧ x ≤ s') ∧ ¬ (x = 0 ∧ c ≠ 0) := by
            have hb2 := not_false' hb
            rw [Bool.and_eq_true] at hb2
            refine ⟨two_true hb2.1, fun ⟨z1, z2⟩ => ?_⟩
            have hb3 := hb2.2
            rw [decide_eq_true z1, decide_eq_false z2] at hb3
            cases hb3
          have o2 := o.step s3
          refine w_when (ec_dini rfl o2.at_ (ev_at o2.s.gh (ed_var rfl (.int x)))) (fun hb G4 H4 s4 => ?_) (fun hb G4 H4 s4 => ?_)
          · refine q2 (fun ok => ?_) G4 H4 (s2.trans ((o2.step s4).s))
            rw [val_ints] at hb
            have hm := of_decide_eq_true hb
            have hd : (srcs.take (i + 1)).Nodup := ok.2.2.sublist (List.take_sublist _ _)
            rw [List.take_add_one, hi] at hd
            exact (List.nodup_append.mp hd).2.2 x hm x (by simp) rfl
          · have o3 := o2.step s4
            rw [val_ints] at hb
            have hm := of_decide_eq_false hb
            refine w_dputi (dv := .bool true) rfl o3 (ev_at o3.s.gh (ed_c (.bl true))) (fun G5 H5 s5 => ev_at s5.gh (ed_var rfl (.int x))) (by rw [List.length_map, List.length_take]; omega) fun v5 G5 H5 s5 r5 o5 => ?_
            obtain rfl := rp_bl r5
            have et : srcs.take (i + 1) = srcs.take i ++ [x] := by
              rw [List.take_add_one, hi]
              rfl
            rw [putK_new _ (val_none_of (by rw [val_ints]; exact hb))] at o5 ⊢
            refine ⟨G5, _, rfl, ?_, ((xg.trans s3.g).trans s4.g).trans s5.g, ?_, ?_⟩
            · rw [et, List.map_append]
              exact o5
            · rw [et]
              intro m hm2
              rcases List.mem_append.mp hm2 with h | h
              · exact h1 m h
              · rw [List.mem_singleton.mp h]
                exact hx
            · rw [et]
              refine List.nodup_append.mpr ⟨h2, by simp, fun a ha b hb e => ?_⟩
              rw [List.mem_singleton.mp hb] at e
              exact hm (e ▸ ha)
      · obtain ⟨G', y, rfl, o, x, h1, h2⟩ := hp
        rw [List.take_length] at h1 h2
        exact q1 ⟨hlen, h1, h2⟩ G' H' (s2.trans o.s)
abbrev s_kept_rule : Stmt := topS 22
theorem sc_kept_rule : FnScope ["words", "place_table", "rule", "place", "word", "case", "goal", "moves", "sources"] ["words", "place_table", "rule"] (defScope s_kept_rule) := ⟨rfl, rfl, rfl, by decide +kernel, rfl, by decide +kernel, by decide +kernel⟩
/-- a rule's parts -/
structure Ru where
  pl : Str
  wd : Str
  cs : Int
  go : Str
  mv : List Int
def ruD (r : Ru) : PyData := .tuple [.str r.pl, .str r.wd, .int r.cs, .str r.go, .tuple (r.mv.map PyData.int)]
/-- as it is given, its moves a list or a tuple -/
def ruA (r : Bool × Ru) : PyData := .tuple [.str r.2.pl, .str r.2.wd, .int r.2.cs, .str r.2.go, sq r.1 (r.2.mv.map PyData.int)]
def ruleOk (ws : List Str) (pls : List Pl) (r : Ru) : Prop := ∃ p q, findP pls r.pl = some p ∧ r.wd ∈ ws ∧ findP pls r.go = some q ∧ (0 ≤ r.cs ∧ r.cs ≤ p.2.1) ∧ srcOk r.mv r.cs p.2.1 q.2.1
def spKeptR (C : Addr) : Sp := fun vs H Q E => ∃ (vw vr : V) (at_ : Addr) (ws : List Str) (pls : List Pl) (r : Bool × Ru) (G : Hp), vs = [vw, .ref at_, vr] ∧ Rp G vw (.tuple (ws.map PyData.str)) ∧ PTab G at_ pls ∧ Rp G vr (ruA r) ∧ Ex G H ∧ r.2.mv.length ≤ 1000 ∧
  (ruleOk ws pls r.2 → ∀ v G2 H2, Stp G H G2 H2 → Rp G2 v (ruD r.2) → Q v H2) ∧ (¬ ruleOk ws pls r.2 → ∀ G2 H2, Stp G H G2 H2 → E (.ref C) none H2)
theorem ok_kept_rule {f C f1 f2 : Addr} {fd fd1 fd2 : FuncData} (F : Fun K "_kept_rule" "_kept_rule" s_kept_rule f fd) (Z : Zs mg) (x_InvalidBook : Xc K mg "InvalidBook" C) (G_is_number : Df P w K mg base CX0 1 "_is_number" f1 fd1 ["value", "most"] spNum)
    (G_check_sources : Df P w K mg base (L2.CX P w) 3 "_check_sources" f2 fd2 ["sources", "case", "slots", "goal_slots"] (spSrc C)) :
    FnOk P w K mg base (L2.CX P w) 4 f fd ["words", "place_table", "rule"] (spKeptR C) := by
  refine F.okX sc_kept_rule (fun vs H Q E h => ?_) (fun cdv A outer s H vs Q E hr h => ?_)
  · obtain ⟨vw, vr, at_, ws, pls, r, G, rfl, _⟩ := h
    rfl
  · obtain ⟨vw, vr, at_, ws, pls, r, G, rfl, hw, ht, hv, e, hn, q1, q2⟩ := h
    obtain ⟨b, r⟩ := r
    have hu := hu_of hr
    refine ⟨_, (pss_cons (ps_if (pt_cmpR (k_neD K rfl hr.units) (pe_callB (k_len K rfl) (by rfl) Z.len bt_len (pa_cons (pv 2) pa_nil)) pe_int (nomark _)) (pss_one (ps_raise rfl (takes_of rfl rfl rfl rfl) (pmk_own PySem.F.excBase_ValueError x_InvalidBook.ex x_InvalidBook.g x_InvalidBook.kp (raises_own x_InvalidBook.sub x_InvalidBook.ty) (by rfl)))) pss_nil)
      (pss_cons (ps_asg (pv 2) (k_tgt K rfl rfl (pgs_cons (pg_name (i := 3) sc_kept_rule.nd rfl (Or.inl rfl)) (pgs_cons (pg_name (i := 4) sc_kept_rule.nd rfl (Or.inl rfl)) (pgs_cons (pg_name (i := 5) sc_kept_rule.nd rfl (Or.inl rfl)) (pgs_cons (pg_name (i := 6) sc_kept_rule.nd rfl (Or.inl rfl)) (pgs_cons (pg_name (i := 7) sc_kept_rule.nd rfl (Or.inl rfl)) pgs_nil)))))))
      (pss_cons (ps_if (PW.pt (pw_or (pt_cmp (pc_dnotin hu (pv 3) (pv 1))) (pw_or (pt_cmpR (k_notInU K rfl) (pv 4) (pv 0) (by rfl)) (pw_or1 (pt_cmp (pc_dnotin hu (pv 6) (pv 1))))))) (pss_one (ps_raise rfl (takes_of rfl rfl rfl rfl) (pmk_own PySem.F.excBase_ValueError x_InvalidBook.ex x_InvalidBook.g x_InvalidBook.kp (raises_own x_InvalidBook.sub x_InvalidBook.ty) (by rfl)))) pss_nil)
      (pss_cons (ps_if (pt_not (pt_val (pe_call G_is_number.ok (hr.mono (by decide)) (by rfl) G_is_number.g G_is_number.k G_is_number.b .nil pass0 (pa_cons (pv 5) (pa_cons (pe_ix (k_ix K rfl) (pe_dget hu (pv 1) (pv 3) (fun _ _ => rfl)) pe_int (fun _ _ => rfl)) pa_nil))))) (pss_one (ps_raise rfl (takes_of rfl rfl rfl rfl) (pmk_own PySem.F.excBase_ValueError x_InvalidBook.ex x_InvalidBook.g x_InvalidBook.kp (raises_own x_InvalidBook.sub x_InvalidBook.ty) (by rfl)))) pss_nil)
      (pss_cons (ps_set (i := 8) sc_kept_rule.nd rfl (Or.inl rfl) (pe_callTy (k_tup K rfl) (by rfl) Z.tuple bt_tuple (pa_cons (pv 7) pa_nil)))
      (pss_cons (ps_expr (pe_call G_check_sources.ok (hr.mono (by decide)) (by rfl) G_check_sources.g G_check_sources.k G_check_sources.b .nil (passes_call (takes_of rfl rfl rfl rfl) (fun _ _ _ _ h => h)) (pa_cons (pv 8) (pa_cons (pv 5) (pa_cons (pe_ix (k_ix K rfl) (pe_dget hu (pv 1) (pv 3) (fun _ _ => rfl)) pe_int (fun _ _ => rfl)) (pa_cons (pe_ix (k_ix K rfl) (pe_dget hu (pv 1) (pv 6) (fun _ _ => rfl)) pe_int (fun _ _ => rfl)) pa_nil))))))
      (pss_one (ps_ret (pe_tup (pa_cons (pv 3) (pa_cons (pv 4) (pa_cons (pv 5) (pa_cons (pv 6) (pa_cons (pv 8) pa_nil)))))))))))))), ?_⟩
    refine w_when (ec_at e (et_cmp (ed_op (ed_cb (es_cons (ed_var rfl hv) es_nil) rd_lent) (ed_c (.int 5)) (r2_ne rfl rfl)))) (fun hb G2 H2 s2 => ?_) (fun hb G2 H2 s2 => ?_)
    · cases hb
    · refine w_asg (ev_at s2.gh (ed_var rfl (rp_mono s2.g _ _ hv))) fun v3 G3 H3 s3 r3 => ?_
      refine g_five s3.gh r3 fun v1 v2 v4 v5 v6 r1 r2 r4 r5 r6 => ?_
      obtain rfl := rp_str r1
      obtain rfl := rp_str r2
      obtain rfl := rp_int r4
      obtain rfl := rp_str r5
      have S3 := s2.trans s3
      obtain ⟨us, hat, hus⟩ := (ht.mono S3.g).at_
      have hw3 := rp_mono S3.g _ _ hw
      refine w_when (ec_at s3.gh (et_or (ec_dninD rfl hat (ed_var rfl (.str r.pl))) (fun _ => et_or (et_cmp (ed_op (ed_var rfl (.str r.wd)) (ed_var rfl hw3) r2_nint)) (fun _ => ec_dninD rfl hat (ed_var rfl (.str r.go)))))) (fun hb G4 H4 s4 => ?_) (fun hb G4 H4 s4 => ?_)
      · refine q2 (fun ⟨p, q, h1, h2, h3, _⟩ => ?_) G4 H4 (S3.trans s4)
        rw [tab_is _ hus, tab_is _ hus, h1, h3] at hb
        rw [decide_eq_true h2] at hb
        cases hb
      · rw [Bool.or_eq_false_iff, Bool.or_eq_false_iff, tab_is _ hus, tab_is _ hus] at hb
        obtain ⟨hb1, hb2, hb3⟩ := hb
        have hwd := of_decide_eq_true (not_false' hb2)
        obtain ⟨p, hp⟩ := Option.isSome_iff_exists.mp (not_false' hb1)
        obtain ⟨q, hq⟩ := Option.isSome_iff_exists.mp (not_false' hb3)
        obtain ⟨up, eup, rup⟩ := tab_some hus hp
        obtain ⟨uq, euq, ruq⟩ := tab_some hus hq
        have hat4 := s4.g _ _ hat
        have dp {σ : L2.St} {G' : Hp} {te : TE} (x : Ex G4 G') (hs : σ[1]? = some (some (.ref at_))) (hk : EvD te σ G' (.str r.pl)) : EvD (tOp (rIx K) (tDGet (tVar 1) te) (tC (.int 1))) σ G' (.int p.2.1) :=
          ed_op (ed_dget hs (x _ _ hat4) hk eup (rp_mono (s4.g.trans x) _ _ rup)) (ed_c (.int 1)) (r2_ixt (atI_nat (j := 1) rfl))
        have dq {σ : L2.St} {G' : Hp} {te : TE} (x : Ex G4 G') (hs : σ[1]? = some (some (.ref at_))) (hk : EvD te σ G' (.str r.go)) : EvD (tOp (rIx K) (tDGet (tVar 1) te) (tC (.int 1))) σ G' (.int q.2.1) :=
          ed_op (ed_dget hs (x _ _ hat4) hk euq (rp_mono (s4.g.trans x) _ _ ruq)) (ed_c (.int 1)) (r2_ixt (atI_nat (j := 1) rfl))
        have S4 := S3.trans s4
        refine w_when (ec_at s4.gh (et_not (et_val (ed_is_number (ed_var rfl (.int r.cs)) (dp (Ex.refl _) rfl (ed_var rfl (.str r.pl))))))) (fun hb G5 H5 s5 => ?_) (fun hb G5 H5 s5 => ?_)
        · refine q2 (fun ⟨p', q', h1, _, _, h4, _⟩ => ?_) G5 H5 (S4.trans s5)
          rw [hp] at h1
          cases h1
          exact two_false (not_true hb) h4
        · have hcs := two_true (not_false' hb)
          refine w_set (ev_at s5.gh (ed_cb (es_cons (ed_var rfl (rp_mono (s4.trans s5).g _ _ r6)) es_nil) rd_tupq)) fun v7 G7 H7 s7 r7 => ?_
          have x7 := (s5.trans s7).g
          refine w_callD (es_cons (ed_var rfl r7) (es_cons (ed_var rfl (.int r.cs)) (es_cons (dp x7 rfl (ed_var rfl (.str r.pl))) (es_cons (dq x7 rfl (ed_var rfl (.str r.go))) es_nil)))) s7.gh fun vs8 G8 H8 s8 r8 => ?_
          cases r8 with
          | cons a1 r8 =>
            cases r8 with
            | cons a2 r8 =>
              cases r8 with
              | cons a3 r8 =>
                cases r8 with
                | cons a4 r8 =>
                  cases r8
                  obtain rfl := rp_int a2
                  obtain rfl := rp_int a3
                  obtain rfl := rp_int a4
                  have S8 := ((S4.trans s5).trans s7).trans s8
                  refine ⟨_, r.mv, r.cs, p.2.1, q.2.1, G8, rfl, a1, s8.gh, hn, fun ok G9 H9 s9 => ?_, fun no G9 H9 s9 => ?_⟩
                  · have r79 := rp_mono (s8.trans s9).g _ _ r7
                    refine w_ret (ev_at s9.gh (ed_tup (es_cons (ed_var rfl (.str r.pl)) (es_cons (ed_var rfl (.str r.wd)) (es_cons (ed_var rfl (.int r.cs)) (es_cons (ed_var rfl (.str r.go)) (es_cons (ed_var rfl r79) es_nil))))) (by simp))) fun v10 G10 H10 s10 r10 => ?_
                    exact q1 ⟨p, q, hp, hwd, hq, hcs, ok⟩ v10 G10 H10 ((S8.trans s9).trans s10) r10
                  · refine q2 (fun ⟨p', q', h1, _, h3, _, h5⟩ => no ?_) G9 H9 (S8.trans s9)
                    rw [hp] at h1
                    rw [hq] at h3
                    cases h1
                    cases h3
                    exact h5
abbrev s_told_rules : Stmt := topS 24
theorem sc_told_rules : FnScope ["words", "place_table", "rules", "table", "rule", "place", "word", "case", "goal", "sources"] ["words", "place_table", "rules"] (defScope s_told_rules) := ⟨rfl, rfl, rfl, by decide +kernel, rfl, by decide +kernel, by decide +kernel⟩
def keyR (r : Ru) : List Key := [Sum.inr r.pl, Sum.inr r.wd, Sum.inl r.cs]
def vrD (r : Ru) : PyData := .tuple [.str r.go, .tuple (r.mv.map PyData.int)]
def tabR (rs : List Ru) (us : List V) : List (List Key × V) := (rs.zip us).map fun q => (keyR q.1, q.2)
structure RTab (G : Hp) (a : Addr) (rs : List Ru) : Prop where
  at_ : ∃ us, G a = some (.dT (tabR rs us)) ∧ RpAll G us (rs.map vrD)
theorem RTab.mono {G G' : Hp} {a : Addr} {rs : List Ru} (e : Ex G G') (h : RTab G a rs) : RTab G' a rs := let ⟨us, h1, h2⟩ := h.at_; ⟨us, e _ _ h1, ra_mono e _ _ h2⟩
def findR (rs : List Ru) (k : List Key) : Option Ru := rs.find? fun r => decide (keyR r = k)
theorem rtab_none {G : Hp} (k : List Key) : ∀ {rs : List Ru} {us : List V}, RpAll G us (rs.map vrD) → findR rs k = none → valV (tabR rs us) k = none
  | [], _, h, _ => by cases h; rfl
  | r :: rs, _, h, hf => by
    cases h with
    | cons h1 h2 =>
      unfold findR at hf
      rw [List.find?_cons] at hf
      cases hd : decide (keyR r = k) with
      | true => rw [hd] at hf; cases hf
      | false =>
        rw [hd] at hf
        exact (valV_neg (fun e => of_decide_eq_false hd e)).trans (rtab_none k h2 hf)
theorem rtab_some {G : Hp} {k : List Key} {q : Ru} : ∀ {rs : List Ru} {us : List V}, RpAll G us (rs.map vrD) → findR rs k = some q → ∃ u, valV (tabR rs us) k = some u ∧ Rp G u (vrD q)
  | [], _, h, hf => by cases hf
  | r :: rs, _, h, hf => by
    cases h with
    | cons h1 h2 =>
      unfold findR at hf
      rw [List.find?_cons] at hf
      cases hd : decide (keyR r = k) with
      | true =>
        rw [hd] at hf
        cases hf
        exact ⟨_, valV_pos (of_decide_eq_true hd), h1⟩
      | false =>
        rw [hd] at hf
        obtain ⟨u, e1, e2⟩ := rtab_some h2 hf
        exact ⟨u, (valV_neg (fun e => of_decide_eq_false hd e)).trans e1, e2⟩
theorem rtab_is {G : Hp} {rs : List Ru} {us : List V} (k : List Key) (h : RpAll G us (rs.map vrD)) : (valV (tabR rs us) k).isSome = (findR rs k).isSome := by
  cases hf : findR rs k with
  | none =>
    rw [rtab_none k h hf]
    rfl
  | some q =>
    obtain ⟨u, e, _⟩ := rtab_some h hf
    rw [e]
    rfl
theorem findR_is (k : List Key) (rs : List Ru) : (findR rs k).isSome = true ↔ k ∈ rs.map keyR := by
  unfold findR
  rw [List.find?_isSome]
  constructor
  · rintro ⟨r, h1, h2⟩
    exact List.mem_map.mpr ⟨r, h1, of_decide_eq_true h2⟩
  · intro h
    obtain ⟨r, h1, h2⟩ := List.mem_map.mp h
    exact ⟨r, h1, decide_eq_true h2⟩
theorem findR_key {rs : List Ru} {k : List Key} {r : Ru} (h : findR rs k = some r) : keyR r = k ∧ r ∈ rs := by
  unfold findR at h
  have h1 := List.find?_some h
  exact ⟨of_decide_eq_true h1, List.mem_of_find?_eq_some h⟩
def toldOk (ws : List Str) (pls : List Pl) (rs : List Ru) : Prop := (∀ r ∈ rs, ruleOk ws pls r) ∧ (rs.map keyR).Nodup
def spTold (C : Addr) : Sp := fun vs H Q E => ∃ (vw vr : V) (at_ : Addr) (b : Bool) (ws : List Str) (pls : List Pl) (rs : List (Bool × Ru)) (G : Hp), vs = [vw, .ref at_, vr] ∧ Rp G vw (.tuple (ws.map PyData.str)) ∧ PTab G at_ pls ∧ Rp G vr (sq b (rs.map ruA)) ∧ Ex G H ∧
  (∀ r ∈ rs, r.2.mv.length ≤ 1000) ∧ rs.length ≤ 50000 ∧
  (toldOk ws pls (rs.map (·.2)) → ∀ a G2 H2, Stp G H G2 H2 → RTab G2 a (rs.map (·.2)) → Q (.ref a) H2) ∧ (¬ toldOk ws pls (rs.map (·.2)) → ∀ G2 H2, Stp G H G2 H2 → E (.ref C) none H2)
theorem tabR_snoc {rs : List Ru} {us : List V} {r : Ru} {u : V} (h : us.length = rs.length) : tabR (rs ++ [r]) (us ++ [u]) = tabR rs us ++ [(keyR r, u)] := by
  unfold tabR
  rw [List.zip_append h.symm, List.map_append]
  rfl
theorem ok_told_rules {f C f1 : Addr} {fd fd1 : FuncData} (F : Fun K "_told_rules" "_told_rules" s_told_rules f fd) (x_InvalidBook : Xc K mg "InvalidBook" C)
    (G_kept_rule : Df P w K mg base (L2.CX P w) 4 "_kept_rule" f1 fd1 ["words", "place_table", "rule"] (spKeptR C)) :
    FnOk P w K mg base (L2.CX P w) 5 f fd ["words", "place_table", "rules"] (spTold C) := by
  refine F.okX sc_told_rules (fun vs H Q E h => ?_) (fun cdv A outer s H vs Q E hr h => ?_)
  · obtain ⟨vw, vr, at_, b, ws, pls, rs, G, rfl, _⟩ := h
    rfl
  · obtain ⟨vw, vr, at_, b, ws, pls, rs, G, rfl, hw, ht, hv, e, hm, hn, q1, q2⟩ := h
    have hu := hu_of hr
    refine ⟨_, (pss_cons (ps_set (i := 3) sc_told_rules.nd rfl (Or.inl rfl) pe_dnewT)
      (pss_cons (ps_for (passes_of rfl) rfl (k_piS K rfl (pv 2)) (pg_name (i := 4) sc_told_rules.nd rfl (Or.inl rfl)) (pss_cons (ps_asg (pe_call G_kept_rule.ok (hr.mono (by decide)) (by rfl) G_kept_rule.g G_kept_rule.k G_kept_rule.b .nil (passes_call (takes_of rfl rfl rfl rfl) (fun _ _ _ _ h => h)) (pa_cons (pv 0) (pa_cons (pv 1) (pa_cons (pv 4) pa_nil)))) (k_tgt K rfl rfl (pgs_cons (pg_name (i := 5) sc_told_rules.nd rfl (Or.inl rfl)) (pgs_cons (pg_name (i := 6) sc_told_rules.nd rfl (Or.inl rfl)) (pgs_cons (pg_name (i := 7) sc_told_rules.nd rfl (Or.inl rfl)) (pgs_cons (pg_name (i := 8) sc_told_rules.nd rfl (Or.inl rfl)) (pgs_cons (pg_name (i := 9) sc_told_rules.nd rfl (Or.inl rfl)) pgs_nil)))))))
        (pss_cons (ps_if (pt_cmp (pc_din hu (pe_tup (pa_cons (pv 5) (pa_cons (pv 6) (pa_cons (pv 7) pa_nil)))) (pv 3))) (pss_one (ps_raise rfl (takes_of rfl rfl rfl rfl) (pmk_own PySem.F.excBase_ValueError x_InvalidBook.ex x_InvalidBook.g x_InvalidBook.kp (raises_own x_InvalidBook.sub x_InvalidBook.ty) (by rfl)))) pss_nil)
        (pss_one (ps_dput hu (pv 3) (pe_tup (pa_cons (pv 5) (pa_cons (pv 6) (pa_cons (pv 7) pa_nil)))) (pe_tup (pa_cons (pv 8) (pa_cons (pv 9) pa_nil))) rfl)))))
      (pss_one (ps_ret (pv 3))))), ?_⟩
    show ∀ p, H p = none → _
    intro p np
    have o0 := OwnT.new e np
    refine w_forS (as := rs) (f := ruA) (b := b) (ed_var rfl hv) o0.s.gh (fun Gl i σ' H' => ∃ (G' : Hp) (us : List V) (y4 y5 y6 y7 y8 y9 : Option V), σ' = [some vw, some (.ref at_), some vr, some (.ref p), y4, y5, y6, y7, y8, y9] ∧ OwnT G H p (tabR ((rs.take i).map (·.2)) us) G' H' ∧ RpAll G' us (((rs.take i).map (·.2)).map vrD) ∧ Ex Gl G' ∧ (∀ r ∈ (rs.take i).map (·.2), ruleOk ws pls r) ∧ (((rs.take i).map (·.2)).map keyR).Nodup)
      (fun G2 H2 s2 => ⟨G2, [], none, none, none, none, none, none, rfl, o0.step s2, .nil, Ex.refl _, fun _ h => (nomatch h), List.Pairwise.nil⟩) (fun Gl i σ' H' hp => ?_) (fun Gl i r v' σ' H' eG hi hv' hp => ?_) (fun Gl σ' H' eG hp => ?_)
    · obtain ⟨G', _, _, _, _, _, _, _, _, o, _, x, _⟩ := hp
      exact x.trans o.s.gh
    · obtain ⟨G', us, y4, y5, y6, y7, y8, y9, rfl, o, ru, xg, h1, h2⟩ := hp
      have mem : r ∈ rs := List.mem_of_getElem? hi
      have hw' := rp_mono (eG.trans xg) _ _ hw
      have et : (rs.take (i + 1)).map (·.2) = (rs.take i).map (·.2) ++ [r.2] := by
        rw [List.take_add_one, hi]
        simp
      refine p_callG (ep_D (ed_var rfl hw') fun G9 x9 => ep_V (v := .ref at_) (ev_v rfl) fun G8 x8 => ep_D (ed_var rfl (rp_mono ((xg.trans x9).trans x8) _ _ hv')) fun G7 _ => ep_nil) o.s.gh fun vs3 G3 H3 s3 r3 => ?_
      obtain ⟨a1, _, rfl, ra1, _, rfl, a3, _, rfl, ra3, rfl⟩ := r3
      refine ⟨a1, a3, at_, ws, pls, r, G3, rfl, ra1, ht.mono ((eG.trans xg).trans s3.g), ra3, s3.gh, hm r mem, fun ok v G4 H4 s4 r4 => ?_, fun no G4 H4 s4 => ?_⟩
      · refine g_five s4.gh r4 fun v1 v2 v3 v4 v5 r1 r2 r3 r4 r5 => ?_
        obtain rfl := rp_str r1
        obtain rfl := rp_str r2
        obtain rfl := rp_int r3
        obtain rfl := rp_str r4
        have o4 := o.step (s3.trans s4)
        have ru4 := ra_mono (s3.trans s4).g _ _ ru
        have hk (G5 : Hp) : ∀ {σ : L2.St}, σ[5]? = some (some (.str r.2.pl)) → σ[6]? = some (some (.str r.2.wd)) → σ[7]? = some (some (.int r.2.cs)) → EvK (tTup (tCons (tVar 5) (tCons (tVar 6) (tCons (tVar 7) tNil)))) σ G5 (keyR r.2) := fun e1 e2 e3 =>
          ek_tup (es_cons (ed_var e1 (.str _)) (es_cons (ed_var e2 (.str _)) (es_cons (ed_var e3 (.int _)) es_nil))) (show 3 ≤ 100000 by decide)
        refine w_when (ec_dinTO (ks := keyR r.2) rfl o4.at_ (ek_at o4.s.gh (hk G4 rfl rfl rfl))) (fun hb G5 H5 s5 => ?_) (fun hb G5 H5 s5 => ?_)
        · refine q2 (fun ok2 => ?_) G5 H5 (o4.step s5).s
          rw [rtab_is _ ru4] at hb
          have hin := (findR_is _ _).mp hb
          have hd : (((rs.take (i + 1)).map (·.2)).map keyR).Nodup := ok2.2.sublist (by
            rw [List.map_map, List.map_map]
            exact (List.take_sublist _ _).map _)
          rw [et, List.map_append] at hd
          exact (List.nodup_append.mp hd).2.2 _ hin (keyR r.2) (by simp) rfl
        · have o5 := o4.step s5
          rw [rtab_is _ ru4] at hb
          have hnin : keyR r.2 ∉ ((rs.take i).map (·.2)).map keyR := fun z => by
            rw [(findR_is _ _).mpr z] at hb
            cases hb
          have lu : us.length = ((rs.take i).map (·.2)).length := (ra_len ru).trans (List.length_map _)
          refine w_dputT (dv := vrD r.2) (ks := keyR r.2) rfl o5 (ev_at o5.s.gh (ed_tup (es_cons (ed_var rfl (.str r.2.go)) (es_cons (ed_var rfl (rp_mono s5.g _ _ r5)) es_nil)) (by simp))) (fun G6 H6 s6 => ek_at s6.gh (hk G6 rfl rfl rfl)) ?_ fun v6 G6 H6 s6 r6 o6 => ?_
          · unfold tabR
            rw [List.length_map, List.length_zip, lu, List.length_map, List.length_take]
            omega
          · rw [putK_new _ (val_none_of (by rw [rtab_is _ ru4]; exact hb)), ← tabR_snoc lu, ← et] at o6
            rw [putK_new _ (val_none_of (by rw [rtab_is _ ru4]; exact hb)), ← tabR_snoc lu, ← et]
            refine ⟨G6, us ++ [v6], _, _, _, _, _, _, rfl, o6, ?_, (((xg.trans s3.g).trans s4.g).trans s5.g).trans s6.g, ?_, ?_⟩
            · rw [et, List.map_append]
              exact ra_app (ra_mono (s5.trans s6).g _ _ ru4) (ra_one r6)
            · rw [et]
              intro m hm2
              rcases List.mem_append.mp hm2 with h | h
              · exact h1 m h
              · rw [List.mem_singleton.mp h]
                exact ok
            · rw [et, List.map_append]
              refine List.nodup_append.mpr ⟨h2, by simp, fun a ha b hb e => ?_⟩
              have hb' : b = keyR r.2 := by simpa using hb
              rw [hb'] at e
              exact hnin (e ▸ ha)
      · exact q2 (fun ok2 => no (ok2.1 r.2 (List.mem_map.mpr ⟨r, mem, rfl⟩))) G4 H4 ((o.step (s3.trans s4)).s)
    · obtain ⟨G', us, y4, y5, y6, y7, y8, y9, rfl, o, ru, xg, h1, h2⟩ := hp
      rw [List.take_length] at o ru h1 h2
      obtain ⟨s4, x4⟩ := o.done
      refine w_retV (v := .ref p) (ev_v rfl) s4.gh fun G5 H5 s5 => ?_
      exact q1 ⟨h1, h2⟩ p G5 H5 (s4.trans s5) (RTab.mono s5.g ⟨us, upd_same, ra_mono x4 _ _ ru⟩)
abbrev s_ordered_rules : Stmt := topS 25
theorem sc_ordered_rules : FnScope ["words", "places", "table", "ordered", "name", "slots", "_", "word", "case"] ["words", "places", "table"] (defScope s_ordered_rules) := ⟨rfl, rfl, rfl, by decide +kernel, rfl, by decide +kernel, by decide +kernel⟩
def keysP (w : Str) (p : Pl) (n : Nat) : List (List Key) := (List.range n).map fun c : Nat => [Sum.inr p.1, Sum.inr w, Sum.inl (c : Int)]
def keysW (p : Pl) (ws : List Str) : List (List Key) := ws.flatMap fun w => keysP w p (p.2.1 + 1).toNat
def keysOf (ws : List Str) (pls : List Pl) : List (List Key) := pls.flatMap fun p => keysW p ws
def fullOk (ws : List Str) (pls : List Pl) (rs : List Ru) : Prop := ∀ k ∈ keysOf ws pls, (findR rs k).isSome = true
def orderR (ks : List (List Key)) (rs : List Ru) : List Ru := ks.filterMap (findR rs)
def spOrd (C : Addr) : Sp := fun vs H Q E => ∃ (vw vp : V) (at_ : Addr) (ws : List Str) (pls : List Pl) (rs : List Ru) (G : Hp), vs = [vw, vp, .ref at_] ∧ Rp G vw (.tuple (ws.map PyData.str)) ∧ Rp G vp (.tuple (pls.map plD)) ∧ RTab G at_ rs ∧ Ex G H ∧ (∀ p ∈ pls, plOk p) ∧ pls.length ≤ 60 ∧ ws.length ≤ 3 ∧
  (fullOk ws pls rs → ∀ v G2 H2, Stp G H G2 H2 → Rp G2 v (.tuple ((orderR (keysOf ws pls) rs).map ruD)) → Q v H2) ∧ (¬ fullOk ws pls rs → ∀ G2 H2, Stp G H G2 H2 → E (.ref C) none H2)
theorem flat_len {α β : Type} (f : α → List β) (m : Nat) : ∀ l : List α, (∀ a ∈ l, (f a).length ≤ m) → (l.flatMap f).length ≤ l.length * m
  | [], _ => by simp
  | a :: l, h => by
    rw [List.flatMap_cons, List.length_append, List.length_cons, Nat.succ_mul]
    have h1 := h a List.mem_cons_self
    have h2 := flat_len f m l fun b hb => h b (List.mem_cons_of_mem _ hb)
    omega
theorem flat_take {α β : Type} (f : α → List β) {l : List α} {i : Nat} {a : α} (h : l[i]? = some a) : (l.take (i + 1)).flatMap f = (l.take i).flatMap f ++ f a := by
  rw [List.take_add_one, h]
  simp
theorem flat_mem {α β : Type} (f : α → List β) {l : List α} {a : α} {b : β} (h : a ∈ l) (hb : b ∈ f a) : b ∈ l.flatMap f := List.mem_flatMap.mpr ⟨a, h, hb⟩
theorem keysP_len (w : Str) (p : Pl) (n : Nat) : (keysP w p n).length = n := by
  unfold keysP
  simp
theorem order_len (ks : List (List Key)) (rs : List Ru) : ((orderR ks rs).map ruD).length ≤ ks.length := by
  rw [List.length_map]
  exact List.length_filterMap_le _ _
theorem keysW_len {p : Pl} (hp : plOk p) (l : List Str) : (l.flatMap fun w => keysP w p (p.2.1 + 1).toNat).length ≤ l.length * 7 := flat_len _ 7 l fun w _ => by
  rw [keysP_len]
  have := hp.2
  omega
theorem ok_ordered_rules {f C : Addr} {fd : FuncData} (F : Fun K "_ordered_rules" "_ordered_rules" s_ordered_rules f fd) (Z : Zs mg) (x_InvalidBook : Xc K mg "InvalidBook" C) :
    FnOk P w K mg base (L2.CX P w) 1 f fd ["words", "places", "table"] (spOrd C) := by
  refine F.okX sc_ordered_rules (fun vs H Q E h => ?_) (fun cdv A outer s H vs Q E hr h => ?_)
  · obtain ⟨vw, vp, at_, ws, pls, rs, G, rfl, _⟩ := h
    rfl
  · obtain ⟨vw, vp, at_, ws, pls, rs, G, rfl, hw, hp, ht, e, hok, hpl, hwl, q1, q2⟩ := h
    have hu := hu_of hr
    refine ⟨_, (pss_cons (ps_set (i := 3) sc_ordered_rules.nd rfl (Or.inl rfl) (pe_lst pa_nil))
      (pss_cons (ps_for (passes_of rfl) rfl (k_piT K rfl (pv 1)) (k_tgt K rfl rfl (pgs_cons (pg_name (i := 4) sc_ordered_rules.nd rfl (Or.inl rfl)) (pgs_cons (pg_name (i := 5) sc_ordered_rules.nd rfl (Or.inl rfl)) (pgs_cons (pg_name (i := 6) sc_ordered_rules.nd rfl (Or.inl rfl)) pgs_nil)))) (pss_one (ps_for (passes_of rfl) rfl (k_piT K rfl (pv 0)) (pg_name (i := 7) sc_ordered_rules.nd rfl (Or.inl rfl)) (pss_one (ps_for (passes_of rfl) rfl (pi_range1 (by rfl) Z.range (pa_cons (pe_op (k_addU K rfl) (pv 5) pe_int) pa_nil)) (pg_name (i := 8) sc_ordered_rules.nd rfl (Or.inl rfl)) (pss_cons (ps_if (pt_cmp (pc_dnotin hu (pe_tup (pa_cons (pv 4) (pa_cons (pv 7) (pa_cons (pv 8) pa_nil)))) (pv 2))) (pss_one (ps_raise rfl (takes_of rfl rfl rfl rfl) (pmk_own PySem.F.excBase_ValueError x_InvalidBook.ex x_InvalidBook.g x_InvalidBook.kp (raises_own x_InvalidBook.sub x_InvalidBook.ty) (by rfl)))) pss_nil)
            (pss_one (ps_expr (pe_bm PySem.F.plainAttrs_list PySem.F.slot_list_append PySem.F.type_list_append mt_append (pv 3) (pa_cons (pe_op (k_addU K rfl) (pe_tup (pa_cons (pv 4) (pa_cons (pv 7) (pa_cons (pv 8) pa_nil)))) (pe_dget hu (pv 2) (pe_tup (pa_cons (pv 4) (pa_cons (pv 7) (pa_cons (pv 8) pa_nil)))) (fun _ _ => rfl))) pa_nil))))))))))
      (pss_one (ps_ret (pe_callTy (k_tup K rfl) (by rfl) Z.tuple bt_tuple (pa_cons (pv 3) pa_nil)))))), ?_⟩
    refine w_new fun p np => ?_
    have o0 := Own.new e np
    -- what stands behind the first done keys
    refine w_forT (as := pls) (f := plD) (ed_var rfl hp) o0.s.gh (fun Gl i σ' H' => ∃ (G' : Hp) (y4 y5 y6 y7 y8 : Option V), σ' = [some vw, some vp, some (.ref at_), some (.ref p), y4, y5, y6, y7, y8] ∧ Own G H p ((orderR ((pls.take i).flatMap fun p => keysW p ws) rs).map ruD) G' H' ∧ Ex Gl G' ∧ (∀ k ∈ (pls.take i).flatMap fun p => keysW p ws, (findR rs k).isSome = true))
      (fun G2 H2 s2 => ⟨G2, none, none, none, none, none, rfl, o0.step s2, Ex.refl _, fun _ h => (nomatch h)⟩) (fun Gl i σ' H' hp => ?_) (fun Gl i pl v' σ' H' eG hi hv' hp => ?_) (fun Gl σ' H' eG hp => ?_)
    · obtain ⟨G', _, _, _, _, _, _, o, x, _⟩ := hp
      exact x.trans o.s.gh
    · obtain ⟨G', y4, y5, y6, y7, y8, rfl, o, xg, h1⟩ := hp
      have mem : pl ∈ pls := List.mem_of_getElem? hi
      have pok := hok pl mem
      have hil : i < pls.length := (List.getElem?_eq_some_iff.mp hi).1
      refine g_three (xg.trans o.s.gh) hv' fun v1 v2 v3 r1 r2 r3 => ?_
      obtain rfl := rp_str r1
      obtain rfl := rp_int r2
      refine w_forT1 (as := ws) (f := PyData.str) (ed_var rfl (rp_mono (eG.trans xg) _ _ hw)) o.s.gh (fun Gm j σ' H' => ∃ (G' : Hp) (y7 y8 : Option V), σ' = [some vw, some vp, some (.ref at_), some (.ref p), some (.str pl.1), some (.int pl.2.1), some v3, y7, y8] ∧
          Own G H p ((orderR (((pls.take i).flatMap fun p => keysW p ws) ++ (ws.take j).flatMap fun w => keysP w pl (pl.2.1 + 1).toNat) rs).map ruD) G' H' ∧ Ex Gm G' ∧ (∀ k ∈ ((pls.take i).flatMap fun p => keysW p ws) ++ (ws.take j).flatMap fun w => keysP w pl (pl.2.1 + 1).toNat, (findR rs k).isSome = true))
        (fun G3 H3 s3 => ⟨G3, y7, y8, rfl, by simpa using o.step s3, Ex.refl _, by simpa using h1⟩) (fun Gm j σ' H' hp => ?_) (fun Gm j wd v' σ' H' eG2 hj hv' hp => ?_) (fun Gm σ' H' eG2 hp => ?_)
      · obtain ⟨G', _, _, _, o, x, _⟩ := hp
        exact x.trans o.s.gh
      · obtain ⟨G', y7, y8, rfl, o, xg2, h1⟩ := hp
        obtain rfl := rp_str hv'
        have memw : wd ∈ ws := List.mem_of_getElem? hj
        have hjl : j < ws.length := (List.getElem?_eq_some_iff.mp hj).1
        obtain ⟨us, hat, hus⟩ := (ht.mono (((eG.trans xg).trans eG2).trans xg2)).at_
        refine w_forR1 (es_cons (ed_op (ed_var rfl (.int pl.2.1)) (ed_c (.int 1)) r2_add) es_nil) o.s.gh (by have := pok.1; have := pok.2; omega) (fun c σ' H' => ∃ (G'' : Hp) (y8 : Option V), σ' = [some vw, some vp, some (.ref at_), some (.ref p), some (.str pl.1), some (.int pl.2.1), some v3, some (.str wd), y8] ∧
            Own G H p ((orderR ((((pls.take i).flatMap fun p => keysW p ws) ++ (ws.take j).flatMap fun w => keysP w pl (pl.2.1 + 1).toNat) ++ keysP wd pl c) rs).map ruD) G'' H' ∧ Ex G' G'' ∧ (∀ k ∈ (((pls.take i).flatMap fun p => keysW p ws) ++ (ws.take j).flatMap fun w => keysP w pl (pl.2.1 + 1).toNat) ++ keysP wd pl c, (findR rs k).isSome = true))
          (fun G3 H3 s3 => ⟨G3, y8, rfl, by simpa [keysP] using o.step s3, s3.g, by simpa [keysP] using h1⟩) (fun c σ' H' hc hp => ?_) (fun σ' H' hp => ?_)
        · obtain ⟨G'', y8, rfl, o, xg3, h1⟩ := hp
          have hat3 := xg3 _ _ hat
          have hk (G5 : Hp) : ∀ {σ : L2.St}, σ[4]? = some (some (.str pl.1)) → σ[7]? = some (some (.str wd)) → σ[8]? = some (some (.int (c : Int))) → EvD (tTup (tCons (tVar 4) (tCons (tVar 7) (tCons (tVar 8) tNil)))) σ G5 (.tuple (([Sum.inr pl.1, Sum.inr wd, Sum.inl (c : Int)] : List Key).map kD)) := fun e1 e2 e3 =>
            ed_tup (es_cons (ed_var e1 (.str _)) (es_cons (ed_var e2 (.str _)) (es_cons (ed_var e3 (.int _)) es_nil))) (show 3 ≤ 100000 by decide)
          have hkk (G5 : Hp) : ∀ {σ : L2.St}, σ[4]? = some (some (.str pl.1)) → σ[7]? = some (some (.str wd)) → σ[8]? = some (some (.int (c : Int))) → EvK (tTup (tCons (tVar 4) (tCons (tVar 7) (tCons (tVar 8) tNil)))) σ G5 [Sum.inr pl.1, Sum.inr wd, Sum.inl (c : Int)] := fun e1 e2 e3 =>
            ek_tup (es_cons (ed_var e1 (.str _)) (es_cons (ed_var e2 (.str _)) (es_cons (ed_var e3 (.int _)) es_nil))) (show 3 ≤ 100000 by decide)
          have hkm : ([Sum.inr pl.1, Sum.inr wd, Sum.inl (c : Int)] : List Key) ∈ keysOf ws pls := flat_mem _ mem (flat_mem _ memw (List.mem_map.mpr ⟨c, List.mem_range.mpr (by omega), rfl⟩))
          have eks : keysP wd pl (c + 1) = keysP wd pl c ++ [[Sum.inr pl.1, Sum.inr wd, Sum.inl (c : Int)]] := by
            unfold keysP
            rw [List.range_succ, List.map_append]
            rfl
          refine w_when (ec_at o.s.gh (ec_dninT rfl hat3 (hkk G'' rfl rfl rfl))) (fun hb G4 H4 s4 => ?_) (fun hb G4 H4 s4 => ?_)
          · refine q2 (fun ok => ?_) G4 H4 (o.step s4).s
            rw [rtab_is _ hus, ok _ hkm] at hb
            cases hb
          · have o4 := o.step s4
            rw [rtab_is _ hus] at hb
            have hs := not_false' hb
            obtain ⟨r, hr2⟩ := Option.isSome_iff_exists.mp hs
            obtain ⟨u, eu, ru⟩ := rtab_some hus hr2
            obtain ⟨kr, _⟩ := findR_key hr2
            have er : PyData.tuple ((([Sum.inr pl.1, Sum.inr wd, Sum.inl (c : Int)] : List Key).map kD) ++ [.str r.go, .tuple (r.mv.map PyData.int)]) = ruD r := by
              rw [← kr]
              rfl
            have lb : (((pls.take i).flatMap fun p => keysW p ws) ++ (ws.take j).flatMap fun w => keysP w pl (pl.2.1 + 1).toNat).length ≤ 60 * (3 * 7) + 3 * 7 := by
              rw [List.length_append]
              have b1 := flat_len (fun p => keysW p ws) (3 * 7) (pls.take i) (fun q hq => Nat.le_trans (keysW_len (hok q (List.mem_of_mem_take hq)) ws) (Nat.mul_le_mul_right 7 hwl))
              have b2 := keysW_len pok (ws.take j)
              rw [List.length_take] at b1 b2
              have b3 : min i pls.length * (3 * 7) ≤ 60 * (3 * 7) := Nat.mul_le_mul_right _ (by omega)
              have b4 : min j ws.length * 7 ≤ 3 * 7 := Nat.mul_le_mul_right _ (by omega)
              omega
            refine w_appO rfl o4 (ev_at o4.s.gh ((ed_op (hk G4 rfl rfl rfl) (ed_dgetT rfl (s4.g _ _ hat3) (hkk G4 rfl rfl rfl) eu (rp_mono (xg3.trans s4.g) _ _ ru)) (r2_addt (by rw [List.length_map, sizeLine_eq]; simp))).is er)) ?_ fun G5 H5 xs s5 o5 => ?_
            · refine Nat.lt_of_le_of_lt (order_len _ _) ?_
              rw [List.length_append, keysP_len]
              have := pok.2
              omega
            · have e2 : orderR ((((pls.take i).flatMap fun p => keysW p ws) ++ (ws.take j).flatMap fun w => keysP w pl (pl.2.1 + 1).toNat) ++ keysP wd pl (c + 1)) rs = orderR ((((pls.take i).flatMap fun p => keysW p ws) ++ (ws.take j).flatMap fun w => keysP w pl (pl.2.1 + 1).toNat) ++ keysP wd pl c) rs ++ [r] := by
                rw [eks, ← List.append_assoc]
                unfold orderR
                rw [List.filterMap_append]
                refine congrArg _ ?_
                rw [List.filterMap_cons, hr2]
                rfl
              refine ⟨G5, _, rfl, ?_, (xg3.trans s4.g).trans s5.g, fun k hk2 => ?_⟩
              · rw [e2, List.map_append]
                exact o5
              · rw [eks, ← List.append_assoc] at hk2
                rcases List.mem_append.mp hk2 with h | h
                · exact h1 k h
                · rw [List.mem_singleton.mp h]
                  exact hs
        · obtain ⟨G'', y8, rfl, o, xg3, h1⟩ := hp
          refine ⟨G'', _, _, rfl, ?_, xg2.trans xg3, ?_⟩
          · rw [flat_take _ hj, ← List.append_assoc]
            exact o
          · rw [flat_take _ hj, ← List.append_assoc]
            exact h1
      · obtain ⟨G'', y7, y8, rfl, o, xg2, h1⟩ := hp
        rw [List.take_length] at o h1
        refine ⟨G'', _, _, _, _, _, rfl, ?_, (xg.trans eG2).trans xg2, ?_⟩
        · rw [flat_take _ hi]
          exact o
        · rw [flat_take _ hi]
          exact h1
    · obtain ⟨G', y4, y5, y6, y7, y8, rfl, o, xg, h1⟩ := hp
      rw [List.take_length] at o h1
      obtain ⟨G4, s4, x4, r4⟩ := o.done
      refine w_ret (ev_at s4.gh (ed_cb (es_cons (ed_var rfl r4) es_nil) rd_tupl)) fun v5 G5 H5 s5 r5 => ?_
      exact q1 h1 v5 G5 H5 (s4.trans s5) r5
end
end Fw

namespace Fw
open PySem PySem.Spec PyProof.Rows L2 Evl
open TL (tl len_tl ext_tl tl_append tl_mk mk_tl)
/-! ### a book is made -/
section
variable {P : Program} {w : World} {K : PySem.W.Frag} {mg : Str → Option Value} {base : Heap}
abbrev s_Book_init : Stmt := inClass (topS 16) 0
theorem sc_Book_init : FnScope ["self", "words", "places", "start", "rules", "place"] ["self", "words", "places", "start", "rules"] (defScope s_Book_init) := ⟨rfl, rfl, rfl, by decide +kernel, rfl, by decide +kernel, by decide +kernel⟩
structure BK where
  ws : List Str
  pls : List Pl
  st : Str
  rs : List Ru
def BK.rules (B : BK) : List Ru := orderR (keysOf B.ws B.pls) B.rs
def startOk (B : BK) : Prop := ∃ p, findP B.pls B.st = some p ∧ p.2.1 = 0
structure BookOk (B : BK) : Prop where
  w : wordsOk B.ws
  p : placesOk B.pls
  s : startOk B
  t : toldOk B.ws B.pls B.rs
  f : fullOk B.ws B.pls B.rs
/-- what the written part says of the class -/
structure CB (K : PySem.W.Frag) (C : Addr) : Prop where
  cl : Cls K C
  n1 : NoAttr K C "words"
  n2 : NoAttr K C "places"
  n3 : NoAttr K C "start"
  n4 : NoAttr K C "_place_names"
  n5 : NoAttr K C "_place_table"
  n6 : NoAttr K C "_rule_table"
  n7 : NoAttr K C "_rules"
/-- a book, as it stands -/
structure IsBook (G : Hp) (C a : Addr) (B : BK) : Prop where
  at_ : ∃ (dx : Addr) (v1 v2 v4 v7 : V) (t5 t6 : Addr), G a = some (.ins C dx [("words", v1), ("places", v2), ("start", .str B.st), ("_place_names", v4), ("_place_table", .ref t5), ("_rule_table", .ref t6), ("_rules", v7)]) ∧
    Rp G v1 (.tuple (B.ws.map PyData.str)) ∧ Rp G v2 (.tuple (B.pls.map plD)) ∧ Rp G v4 (.tuple ((B.pls.map fun p => p.1).map PyData.str)) ∧ PTab G t5 B.pls ∧ RTab G t6 B.rs ∧ Rp G v7 (.tuple (B.rules.map ruD))
theorem IsBook.mono {G G' : Hp} {C a : Addr} {B : BK} (e : Ex G G') (h : IsBook G C a B) : IsBook G' C a B := by
  obtain ⟨dx, v1, v2, v4, v7, t5, t6, h0, h1, h2, h4, h5, h6, h7⟩ := h.at_
  exact ⟨dx, v1, v2, v4, v7, t5, t6, e _ _ h0, rp_mono e _ _ h1, rp_mono e _ _ h2, rp_mono e _ _ h4, h5.mono e, h6.mono e, rp_mono e _ _ h7⟩
theorem ptab_hid {a : Addr} {G : Hp} {C dx : Addr} {fs : List (Str × V)} {t : Addr} {pls : List Pl} (ha : G a = some (.ins C dx fs)) (h : PTab G t pls) : PTab (hid a G) t pls := by
  obtain ⟨us, h1, h2⟩ := h.at_
  exact ⟨us, (hid_ne fun e => by rw [e, ha] at h1; cases h1).trans h1, ra_hid ha rfl _ _ h2⟩
theorem rtab_hid {a : Addr} {G : Hp} {C dx : Addr} {fs : List (Str × V)} {t : Addr} {rs : List Ru} (ha : G a = some (.ins C dx fs)) (h : RTab G t rs) : RTab (hid a G) t rs := by
  obtain ⟨us, h1, h2⟩ := h.at_
  exact ⟨us, (hid_ne fun e => by rw [e, ha] at h1; cases h1).trans h1, ra_hid ha rfl _ _ h2⟩
def spInit (C CX : Addr) : Sp := fun vs H Q E => ∃ (a dx : Addr) (vw vp vr : V) (b1 b2 b3 : Bool) (B : BK) (rs : List (Bool × Ru)) (G H0 : Hp), vs = [.ref a, vw, vp, .str B.st, vr] ∧ OwnI G H0 a C dx [] G H ∧ Rp G vw (sq b1 (B.ws.map PyData.str)) ∧ Rp G vp (sq b2 (B.pls.map plD)) ∧ Rp G vr (sq b3 (rs.map ruA)) ∧
  B.rs = rs.map (fun r => r.2) ∧ B.ws.length ≤ 1000 ∧ B.pls.length ≤ 1000 ∧ rs.length ≤ 50000 ∧ (∀ n ∈ B.ws, n.length ≤ 1000) ∧ (∀ p ∈ B.pls, p.1.length ≤ 1000) ∧ (∀ p ∈ B.pls, plOk p) ∧ (∀ r ∈ rs, r.2.mv.length ≤ 1000) ∧
  (BookOk B → ∀ G2 H2, Stp G H0 G2 H2 → IsBook G2 C a B → Q .non H2) ∧ (¬ BookOk B → ∀ G2 H2, Stp G H0 G2 H2 → E (.ref CX) none H2)
theorem ok_Book_init {f C CX f1 f2 f3 f4 : Addr} {fd fd1 fd2 fd3 fd4 : FuncData} (F : Fun K "__init__" "Book.__init__" s_Book_init f fd) (Z : Zs mg) (c : CB K C) (x_InvalidBook : Xc K mg "InvalidBook" CX)
    (G_kept_words : Df P w K mg base (L2.CX P w) 3 "_kept_words" f1 fd1 ["words"] (spKeptW CX)) (G_kept_places : Df P w K mg base (L2.CX P w) 3 "_kept_places" f2 fd2 ["places"] (spKeptPs CX))
    (G_told_rules : Df P w K mg base (L2.CX P w) 5 "_told_rules" f3 fd3 ["words", "place_table", "rules"] (spTold CX)) (G_ordered_rules : Df P w K mg base (L2.CX P w) 1 "_ordered_rules" f4 fd4 ["words", "places", "table"] (spOrd CX)) :
    FnOk P w K mg base (L2.CX P w) 6 f fd ["self", "words", "places", "start", "rules"] (spInit C CX) := by
  refine F.okX sc_Book_init (fun vs H Q E h => ?_) (fun cdv A outer s H vs Q E hr h => ?_)
  · obtain ⟨a, dx, vw, vp, vr, _, _, _, _, _, _, _, rfl, _⟩ := h
    rfl
  · obtain ⟨a, dx, vw, vp, vr, b1, b2, b3, B, rs, G, H0, rfl, o, rw_, rp_, rr_, eB, l1, l2, l3, m1, m2, m3, m4, q1, q2⟩ := h
    have hu := hu_of hr
    refine ⟨_, (pss_cons (ps_fld (pv 0) (pe_call G_kept_words.ok (hr.mono (by decide)) (by rfl) G_kept_words.g G_kept_words.k G_kept_words.b .nil (passes_call (takes_of rfl rfl rfl rfl) (fun _ _ _ _ h => h)) (pa_cons (pv 1) pa_nil)) rfl)
      (pss_cons (ps_fld (pv 0) (pe_call G_kept_places.ok (hr.mono (by decide)) (by rfl) G_kept_places.g G_kept_places.k G_kept_places.b .nil (passes_call (takes_of rfl rfl rfl rfl) (fun _ _ _ _ h => h)) (pa_cons (pv 2) pa_nil)) rfl)
      (pss_cons (ps_fld (pv 0) (pv 3) rfl)
      (pss_cons (ps_fld (pv 0) (pe_callTy (k_tup K rfl) (by rfl) Z.tuple bt_tuple (pa_cons (pe_lc (own := [("place", 5)]) (g := (gName 5)) (tt := tYes) rfl sc_Book_init.nd (k_piT K rfl (k_fld K rfl (pv 0) rfl)) (blkOk_by (N := ["self", "words", "places", "start", "rules", "place"]) (sc := defScope s_Book_init) (own := [("place", 5)]) (by decide +kernel)) (fun _ _ _ _ _ => (pg_name (i := 5) sc_Book_init.nd rfl (Or.inl rfl))) (fun _ _ _ _ _ => pts_nil) (fun _ _ _ _ _ => (pe_ix (k_ix K rfl) (pv 5) pe_int (fun _ _ => rfl)))) pa_nil)) rfl)
      (pss_cons (ps_fld (pv 0) (pe_dc (own := [("place", 5)]) (g := (gName 5)) (tt := tYes) rfl sc_Book_init.nd (k_piT K rfl (k_fld K rfl (pv 0) rfl)) (blkOk_by (N := ["self", "words", "places", "start", "rules", "place"]) (sc := defScope s_Book_init) (own := [("place", 5)]) (by decide +kernel)) (fun _ _ _ _ _ => (pg_name (i := 5) sc_Book_init.nd rfl (Or.inl rfl))) (fun _ _ _ _ _ => pts_nil) (fun _ _ _ _ _ => (pe_ix (k_ix K rfl) (pv 5) pe_int (fun _ _ => rfl))) (fun _ _ _ _ _ => (pv 5))) rfl)
      (pss_cons (ps_if (PW.pt (pw_or (pt_cmp (pc_dnotin hu (pv 3) (k_fld K rfl (pv 0) rfl))) (pw_or1 (pt_cmpR (k_neD K rfl hr.units) (pe_ix (k_ix K rfl) (pe_dget hu (k_fld K rfl (pv 0) rfl) (pv 3) (fun _ _ => rfl)) pe_int (fun _ _ => rfl)) pe_int (nomark _))))) (pss_one (ps_raise rfl (takes_of rfl rfl rfl rfl) (pmk_own PySem.F.excBase_ValueError x_InvalidBook.ex x_InvalidBook.g x_InvalidBook.kp (raises_own x_InvalidBook.sub x_InvalidBook.ty) (by rfl)))) pss_nil)
      (pss_cons (ps_fld (pv 0) (pe_call G_told_rules.ok (hr.mono (by decide)) (by rfl) G_told_rules.g G_told_rules.k G_told_rules.b .nil (passes_call (takes_of rfl rfl rfl rfl) (fun _ _ _ _ h => h)) (pa_cons (k_fld K rfl (pv 0) rfl) (pa_cons (k_fld K rfl (pv 0) rfl) (pa_cons (pv 4) pa_nil)))) rfl)
      (pss_one (ps_fld (pv 0) (pe_call G_ordered_rules.ok (hr.mono (by decide)) (by rfl) G_ordered_rules.g G_ordered_rules.k G_ordered_rules.b .nil (passes_call (takes_of rfl rfl rfl rfl) (fun _ _ _ _ h => h)) (pa_cons (k_fld K rfl (pv 0) rfl) (pa_cons (k_fld K rfl (pv 0) rfl) (pa_cons (k_fld K rfl (pv 0) rfl) pa_nil)))) rfl))))))))), ?_⟩
    -- self.words
    obtain ⟨x1, y1⟩ := o.ex
    refine p_call (ep_D (ed_var rfl (rp_mono x1 _ _ rw_)) fun _ _ => ep_nil) y1 fun vs1 G1 H1 s1 r1 => ?_
    obtain ⟨a1, _, rfl, ra1, rfl⟩ := r1
    refine ⟨a1, b1, B.ws, G1, rfl, ra1, s1.gh, l1, m1, fun okw v G2 H2 s2 r2 => ?_, fun no G2 H2 s2 => ?_⟩
    case refine_2 =>
      obtain ⟨G3, S⟩ := o.fail (s1.trans s2)
      exact q2 (fun ok => no ok.w) G3 H2 S
    obtain ⟨h2, g2, o2, z2⟩ := o.put (s1.trans s2) [("words", v)]
    refine fld_put (fs2 := [("words", v)]) rfl h2 c.cl c.n1 (by simp) rfl ?_
    have rv1 := rp_hid g2 rfl _ _ r2
    have vp2 := rp_mono z2 _ _ rp_
    have vr2 := rp_mono z2 _ _ rr_
    clear o s1 s2 ra1 r2 h2 g2 x1 y1 rw_ rp_ rr_ z2
    generalize hid a G2 = G2' at *
    generalize upd H2 a (.ins C dx [("words", v)]) = H2' at *
    -- self.places
    obtain ⟨x1, y1⟩ := o2.ex
    refine p_call (ep_D (ed_var rfl (rp_mono x1 _ _ vp2)) fun _ _ => ep_nil) y1 fun vs1 G1 H1 s1 r1 => ?_
    obtain ⟨a1, _, rfl, ra1, rfl⟩ := r1
    refine ⟨a1, b2, B.pls, G1, rfl, ra1, s1.gh, l2, m2, m3, fun okp v2 G3 H3 s3 r3 => ?_, fun no G3 H3 s3 => ?_⟩
    case refine_2 =>
      obtain ⟨G4, S⟩ := o2.fail (s1.trans s3)
      exact q2 (fun ok => no ok.p) G4 H3 S
    obtain ⟨h3, g3, o3, z3⟩ := o2.put (s1.trans s3) [("words", v), ("places", v2)]
    refine fld_put (fs2 := [("words", v), ("places", v2)]) rfl h3 c.cl c.n2 (by simp) rfl ?_
    have rv2 := rp_hid g3 rfl _ _ r3
    have rv1 := rp_mono z3 _ _ rv1
    have vr3 := rp_mono z3 _ _ vr2
    clear o2 s1 s3 ra1 r3 h3 g3 x1 y1 vp2 vr2 z3
    generalize hid a G3 = G3' at *
    generalize upd H3 a (.ins C dx [("words", v), ("places", v2)]) = H3' at *
    -- self.start
    refine ⟨.str B.st, rfl, fld_put (fs2 := [("words", v), ("places", v2), ("start", .str B.st)]) rfl o3.at_ c.cl c.n3 (by simp) rfl ?_⟩
    have o4 := o3.set [("words", v), ("places", v2), ("start", .str B.st)]
    clear o3
    generalize upd H3' a (.ins C dx [("words", v), ("places", v2), ("start", .str B.st)]) = H4' at *
    -- self._place_names
    obtain ⟨x1, y1⟩ := o4.ex
    have nd : (B.pls.map fun p => p.1).Nodup := okp.2.2
    have l60 : B.pls.length ≤ 60 := okp.1.2
    show tSeq _ _ _ _ _
    have pn : EvD (tCB (rTupU K) (tCons (tLc (iTup K (tFld K (tVar 0) "places")) (gName 5) tYes (tOp (rIx K) (tVar 5) (tC (.int 0))) [5]) tNil)) [some (.ref a), some vw, some vp, some (.str B.st), some vr, none] (upd G3' a (.ins C dx [("words", v), ("places", v2), ("start", .str B.st)])) (.tuple ((B.pls.map fun p => p.1).map PyData.str)) := by
      refine ed_cb (es_cons (ed_is (lc_all (xs := (B.pls.map fun p => p.1).map PyData.str) ?_) (ed_lcT1 (as := B.pls) (f := plD) (y := fun p => .str p.1) (c := fun _ => true) (ed_fld rfl upd_same c.cl c.n2 rfl (rp_mono x1 _ _ rv2)) (by omega) (fun _ => rfl) (fun _ _ _ _ _ _ => et_yes) (fun p hp _ u G' _ hu => ?_))) es_nil) rd_tupl
      · rw [List.map_map]
        rfl
      · exact ed_op (ed_var rfl hu) (ed_c (.int 0)) (r2_ixt (atI_nat (j := 0) rfl))
    refine w_fldS (C := C) (dx := dx) (fs := [("words", v), ("places", v2), ("start", .str B.st)]) (ev_at y1 pn) rfl c.cl c.n4 (by simp) fun v4 G5 H5 s5 r5 => ?_
    obtain ⟨h5, g5, o5, z5⟩ := o4.put s5 [("words", v), ("places", v2), ("start", .str B.st), ("_place_names", v4)]
    refine ⟨[("words", v), ("places", v2), ("start", .str B.st), ("_place_names", v4)], h5, rfl, ?_⟩
    have rv4 := rp_hid g5 rfl _ _ r5
    have rv1 := rp_mono z5 _ _ rv1
    have rv2 := rp_mono z5 _ _ rv2
    have vr5 := rp_mono z5 _ _ vr3
    clear o4 s5 r5 h5 g5 x1 y1 vr3 z5
    generalize hid a G5 = G5' at *
    generalize upd H5 a (.ins C dx [("words", v), ("places", v2), ("start", .str B.st), ("_place_names", v4)]) = H5' at *
    -- self._place_table
    obtain ⟨x1, y1⟩ := o5.ex
    show tSeq _ _ _ _ _
    refine w_fldV ?_
    refine w_dcT (as := B.pls) (fd := plD) (y := plD) (key := fun p => p.1) (ed_fld rfl upd_same c.cl c.n2 rfl (rp_mono x1 _ _ rv2)) y1 (by omega) (fun _ => rfl) nd (fun p hp u G' _ hu => ?_) (fun p hp u G' _ hu => ed_var rfl hu) fun t5 us G6 H6 s6 ht5 hus => ?_
    · exact ed_op (ed_var rfl hu) (ed_c (.int 0)) (r2_ixt (atI_nat (j := 0) rfl))
    obtain ⟨h6, g6, o6, z6⟩ := o5.put s6 [("words", v), ("places", v2), ("start", .str B.st), ("_place_names", v4), ("_place_table", .ref t5)]
    refine fld_put (fs2 := [("words", v), ("places", v2), ("start", .str B.st), ("_place_names", v4), ("_place_table", .ref t5)]) rfl h6 c.cl c.n5 (by simp) rfl ?_
    have rt5 : PTab (hid a G6) t5 B.pls := ptab_hid g6 ⟨us, ht5, hus⟩
    have rv1 := rp_mono z6 _ _ rv1
    have rv2 := rp_mono z6 _ _ rv2
    have rv4 := rp_mono z6 _ _ rv4
    have vr6 := rp_mono z6 _ _ vr5
    clear o5 s6 ht5 hus h6 g6 x1 y1 vr5 z6
    generalize hid a G6 = G6' at *
    generalize upd H6 a (.ins C dx [("words", v), ("places", v2), ("start", .str B.st), ("_place_names", v4), ("_place_table", .ref t5)]) = H6' at *
    -- the start
    obtain ⟨x1, y1⟩ := o6.ex
    obtain ⟨us, hat, hus⟩ := (rt5.mono x1).at_
    have fl (G' : Hp) (x : Ex (upd G6' a (.ins C dx [("words", v), ("places", v2), ("start", .str B.st), ("_place_names", v4), ("_place_table", .ref t5)])) G') {σ : L2.St} (hs : σ[0]? = some (some (.ref a))) : EvV (tFld K (tVar 0) "_place_table") σ G' (.ref t5) := ev_fld hs (x _ _ upd_same) c.cl c.n5 rfl
    have tst : ∃ b : Bool, EvC (tOr (tB (tDNotIn (tVar 3) (tFld K (tVar 0) "_place_table"))) (tTest (tOp (rNeD K) (tOp (rIx K) (tDGet (tFld K (tVar 0) "_place_table") (tVar 3)) (tC (.int 1))) (tC (.int 0))))) [some (.ref a), some vw, some vp, some (.str B.st), some vr, none] (upd G6' a (.ins C dx [("words", v), ("places", v2), ("start", .str B.st), ("_place_names", v4), ("_place_table", .ref t5)])) b ∧ (b = true ↔ ¬ startOk B) := by
      cases hf : findP B.pls B.st with
      | none =>
        refine ⟨true, (et_or (b := true) (c := true) ((ec_dninV (ed_var rfl (.str B.st)) (fun G' x => fl G' x rfl) hat).is ?_) (fun z => nomatch z)).is rfl, fun _ => ?_, fun _ => rfl⟩
        · rw [tab_is _ hus, hf]
          rfl
        · rintro ⟨p, hp, _⟩
          rw [hf] at hp
          cases hp
      | some p =>
        obtain ⟨u, eu, ru⟩ := tab_some hus hf
        refine ⟨_, et_or ((ec_dninV (ed_var rfl (.str B.st)) (fun G' x => fl G' x rfl) hat).is (c := false) ?_) (fun _ => et_cmp (ed_op (ed_op (ed_dgetV (fl _ (Ex.refl _) rfl) hat (fun _ _ => ed_var rfl (.str B.st)) eu ru) (ed_c (.int 1)) (r2_ixt (atI_nat (j := 1) rfl))) (ed_c (.int 0)) (r2_ne rfl rfl))), ?_⟩
        · rw [tab_is _ hus, hf]
          rfl
        · rw [eqv_ints, Bool.false_or]
          constructor
          · rintro hb ⟨p', hp', h0⟩
            rw [hf] at hp'
            cases hp'
            exact of_decide_eq_false (not_true hb) h0
          · intro hn
            cases hd : decide (p.2.1 = 0) with
            | true => exact absurd ⟨p, hf, of_decide_eq_true hd⟩ hn
            | false => rfl
    obtain ⟨b, htst, hbb⟩ := tst
    show tSeq _ _ _ _ _
    refine w_when (ec_at y1 htst) (fun hb G7 H7 s7 => ?_) (fun hb G7 H7 s7 => ?_)
    · obtain ⟨G8, S⟩ := o6.fail s7
      exact q2 (fun ok => hbb.mp hb ok.s) G8 H7 S
    have oks : startOk B := Classical.byContradiction fun z => by
      rw [hbb.mpr z] at hb
      cases hb
    obtain ⟨o7, z7⟩ := o6.step s7
    have rt5 := rt5.mono z7
    have rv1 := rp_mono z7 _ _ rv1
    have rv2 := rp_mono z7 _ _ rv2
    have rv4 := rp_mono z7 _ _ rv4
    have vr7 := rp_mono z7 _ _ vr6
    clear o6 s7 x1 y1 vr6 z7 fl htst hat hus
    generalize hid a G7 = G7' at *
    -- self._rule_table
    obtain ⟨x1, y1⟩ := o7.ex
    refine p_call (ep_D (ed_fld rfl upd_same c.cl c.n1 rfl (rp_mono x1 _ _ rv1)) fun G9 x9 => ep_V (v := .ref t5) (ev_fld rfl (x9 _ _ upd_same) c.cl c.n5 rfl) fun G8 x8 => ep_D (ed_var rfl (rp_mono ((x1.trans x9).trans x8) _ _ vr7)) fun _ _ => ep_nil) y1 fun vs1 G1 H1 s1 r1 => ?_
    obtain ⟨a1, _, rfl, ra1, _, rfl, a3, _, rfl, ra3, rfl⟩ := r1
    refine ⟨a1, a3, t5, b3, B.ws, B.pls, rs, G1, rfl, ra1, rt5.mono (x1.trans s1.g), ra3, s1.gh, m4, l3, fun okt t6 G8 H8 s8 r8 => ?_, fun no G8 H8 s8 => ?_⟩
    case refine_2 =>
      obtain ⟨G9, S⟩ := o7.fail (s1.trans s8)
      exact q2 (fun ok => no (eB ▸ ok.t)) G9 H8 S
    obtain ⟨h8, g8, o8, z8⟩ := o7.put (s1.trans s8) [("words", v), ("places", v2), ("start", .str B.st), ("_place_names", v4), ("_place_table", .ref t5), ("_rule_table", .ref t6)]
    refine fld_put (fs2 := [("words", v), ("places", v2), ("start", .str B.st), ("_place_names", v4), ("_place_table", .ref t5), ("_rule_table", .ref t6)]) rfl h8 c.cl c.n6 (by simp) rfl ?_
    have rt6 : RTab (hid a G8) t6 B.rs := eB ▸ rtab_hid g8 r8
    have rt5 := rt5.mono z8
    have rv1 := rp_mono z8 _ _ rv1
    have rv2 := rp_mono z8 _ _ rv2
    have rv4 := rp_mono z8 _ _ rv4
    clear o7 s1 s8 x1 y1 vr7 z8 h8 g8 r8 ra1 ra3
    generalize hid a G8 = G8' at *
    generalize upd H8 a (.ins C dx [("words", v), ("places", v2), ("start", .str B.st), ("_place_names", v4), ("_place_table", .ref t5), ("_rule_table", .ref t6)]) = H8' at *
    -- self._rules
    obtain ⟨x1, y1⟩ := o8.ex
    refine p_call (ep_D (ed_fld rfl upd_same c.cl c.n1 rfl (rp_mono x1 _ _ rv1)) fun G9 x9 => ep_D (ed_fld rfl (x9 _ _ upd_same) c.cl c.n2 rfl (rp_mono (x1.trans x9) _ _ rv2)) fun G8 x8 => ep_V (v := .ref t6) (ev_fld rfl (x8 _ _ (x9 _ _ upd_same)) c.cl c.n6 rfl) fun _ _ => ep_nil) y1 fun vs1 G1 H1 s1 r1 => ?_
    obtain ⟨a1, _, rfl, ra1, a2, _, rfl, ra2, _, rfl, rfl⟩ := r1
    refine ⟨a1, a2, t6, B.ws, B.pls, B.rs, G1, rfl, ra1, ra2, rt6.mono (x1.trans s1.g), s1.gh, m3, l60, okw.1.2, fun okf v7 G9 H9 s9 r9 => ?_, fun no G9 H9 s9 => ?_⟩
    case refine_2 =>
      obtain ⟨G10, S⟩ := o8.fail (s1.trans s9)
      exact q2 (fun ok => no ok.f) G10 H9 S
    obtain ⟨h9, g9, o9, z9⟩ := o8.put (s1.trans s9) [("words", v), ("places", v2), ("start", .str B.st), ("_place_names", v4), ("_place_table", .ref t5), ("_rule_table", .ref t6), ("_rules", v7)]
    refine fld_put (fs2 := [("words", v), ("places", v2), ("start", .str B.st), ("_place_names", v4), ("_place_table", .ref t5), ("_rule_table", .ref t6), ("_rules", v7)]) rfl h9 c.cl c.n7 (by simp) rfl ?_
    obtain ⟨S, x⟩ := o9.done
    have z := z9.trans x
    exact q1 ⟨okw, okp, oks, eB ▸ okt, okf⟩ _ _ S ⟨dx, v, v2, v4, v7, t5, t6, upd_same, rp_mono z _ _ rv1, rp_mono z _ _ rv2, rp_mono z _ _ rv4, rt5.mono z, rt6.mono z, rp_mono x _ _ (rp_hid g9 rfl _ _ r9)⟩
end
end Fw

namespace Fw
open PySem PySem.Spec PyProof.Rows L2 Evl
open TL (tl len_tl ext_tl tl_append tl_mk mk_tl)
/-! ### what a law draws -/
section
variable {P : Program} {w : World} {K : PySem.W.Frag} {mg : Str → Option Value} {base : Heap}
abbrev s_law_next : Stmt := topS 41
theorem sc_law_next : FnScope ["draw", "many"] ["draw", "many"] (defScope s_law_next) := ⟨rfl, rfl, rfl, by decide +kernel, rfl, by decide +kernel, by decide +kernel⟩
def spNext : Sp := fun vs H Q _ => ∃ (p : Addr) (vn : V) (ns : List Int) (m : Int) (G : Hp), vs = [.ref p, .int m] ∧ Dr G H p vn ns ∧ 1 ≤ m ∧ ∀ (r : Int) G2 H2, 0 ≤ r → r < m → Stp G (hid p H) G2 H2 → Dr G2 H2 p vn ns → Q (.int r) H2
theorem ok_law_next {f : Addr} {fd : FuncData} (F : Fun K "_law_next" "_law_next" s_law_next f fd) (Z : Zs mg) : FnOk P w K mg base CX0 1 f fd ["draw", "many"] spNext := by
  refine F.ok sc_law_next (fun vs H Q E h => ?_) (fun cdv A outer s H vs Q E hr h => ?_)
  · obtain ⟨p, vn, ns, m, G, rfl, _⟩ := h
    rfl
  · obtain ⟨p, vn, ns, m, G, rfl, dr, hm, q⟩ := h
    refine ⟨_, (pss_cons (ps_asg (pe_op (k_addU K rfl) (pe_ix (k_ix K rfl) (pv 0) pe_int (fun _ _ => rfl)) pe_int) (pg_sub (pv 0) pe_int set_list))
      (pss_one (ps_ret (pe_op op_mod (pe_callTy c_int (by rfl) Z.int bt_int (pa_cons (pe_op (k_addU K rfl) (pe_ix (k_ix K rfl) (pe_ix (k_ix K rfl) (pv 0) pe_int (fun _ _ => rfl)) (pe_op op_mod (pe_ix (k_ix K rfl) (pv 0) pe_int (fun _ _ => rfl)) (pe_callB (k_len K rfl) (by rfl) Z.len bt_len (pa_cons (pe_ix (k_ix K rfl) (pv 0) pe_int (fun _ _ => rfl)) pa_nil))) (fun _ _ => rfl)) (pe_op op_mul pe_int (pe_op op_fdiv (pe_ix (k_ix K rfl) (pv 0) pe_int (fun _ _ => rfl)) (pe_callB (k_len K rfl) (by rfl) Z.len bt_len (pa_cons (pe_ix (k_ix K rfl) (pv 0) pe_int (fun _ _ => rfl)) pa_nil))))) pa_nil)) (pv 1))))), ?_⟩
    obtain ⟨k, k0, hk⟩ := dr.k
    have rd {G H : Hp} {k : Int} (e : Ex G H) (g : G p = none) (hk : H p = some (.lst [vn, .int k])) (hn : Rp G vn (.list (ns.map PyData.int))) : ∃ G', Ex G G' ∧ Ex G' H ∧ Rp G' (.ref p) (.list [.list (ns.map PyData.int), .int k]) :=
      ⟨_, frz e hk g (.cons hn (.cons (.int k) .nil))⟩
    obtain ⟨G1, e1, e2, r1⟩ := rd dr.ex dr.g hk dr.n
    have one {k : Int} {G : Hp} {σ : L2.St} (hs : σ[0]? = some (some (.ref p))) (r : Rp G (.ref p) (.list [.list (ns.map PyData.int), .int k])) : EvD (tOp (rIx K) (tVar 0) (tC (.int 1))) σ G (.int k) := ed_op (ed_var hs r) (ed_c (.int 1)) (r2_ixl (atI_nat (j := 1) rfl))
    have zer {k : Int} {G : Hp} {σ : L2.St} (hs : σ[0]? = some (some (.ref p))) (r : Rp G (.ref p) (.list [.list (ns.map PyData.int), .int k])) : EvD (tOp (rIx K) (tVar 0) (tC (.int 0))) σ G (.list (ns.map PyData.int)) := ed_op (ed_var hs r) (ed_c (.int 0)) (r2_ixl (atI_nat (j := 0) rfl))
    refine w_putI (xs := [vn, .int k]) (i := 1) (n := 1) rfl (EvH.down (d := .int (k + 1)) e1 e2 rfl (ev_at e2 (ed_op (one rfl r1) (ed_c (.int 1)) r2_add))) hk (fun G2 H2 s2 => ev_at s2.gh (ed_c (.int 1))) rfl fun v G2 H2 s2 r2 => ?_
    obtain rfl := rp_int r2
    have hk2 := s2.h _ _ hk
    have g2 := s2.none hk dr.g
    rw [show upd H2 p (HO.lst ([vn, V.int k].set 1 (V.int (k + 1)))) = upd H2 p (.lst [vn, .int (k + 1)]) from rfl]
    have e3 : Ex G2 (upd H2 p (.lst [vn, .int (k + 1)])) := Ex.mut s2.gh g2
    have n2 := rp_mono s2.g _ _ dr.n
    obtain ⟨G4, e4, e5, r4⟩ := rd e3 g2 upd_same n2
    have ln : ((ns.map PyData.int).length : Int) = ns.length := by rw [List.length_map]
    have l1 : EvD (tCB (rLenU K) (tCons (tOp (rIx K) (tVar 0) (tC (.int 0))) tNil)) [some (.ref p), some (.int m)] G4 (.int ns.length) := ed_is (by rw [ln]) (ed_cb (es_cons (zer rfl r4) es_nil) rd_lenl)
    have b1 := Int.emod_nonneg (k + 1) (show (ns.length : Int) ≠ 0 by have := dr.l; omega)
    have b2 := Int.emod_lt_of_pos (k + 1) (show (0 : Int) < ns.length by have := dr.l; omega)
    refine w_ret (d := .int ((ns.getD ((k + 1) % (ns.length : Int)).toNat 0 + 7 * ((k + 1) / (ns.length : Int))) % m)) (EvH.down e4 e5 rfl (ev_at e5 (ed_mod (ed_int1 (ed_op (ed_num (zer rfl r4) (ed_mod (one rfl r4) l1 (by have := dr.l; omega)) b1 (by omega)) (ed_op (ed_c (.int 7)) (ed_div (one rfl r4) l1 (by have := dr.l; omega)) (r2_I (.inl (by decide)))) r2_add)) (ed_var rfl (.int m)) (by omega)))) fun v G5 H5 s5 r5 => ?_
    obtain rfl := rp_int r5
    have S : Stp G (hid p H) G5 H5 := ((Stp.wk s2).mutP g2).trans s5
    have d5 : Dr G2 (upd H2 p (.lst [vn, .int (k + 1)])) p vn ns := ⟨e3, g2, n2, dr.l, k + 1, by omega, upd_same⟩
    exact q _ G5 H5 (Int.emod_nonneg _ (by omega)) (Int.emod_lt_of_pos _ (by omega)) S (d5.step s5)
abbrev s_law_mixed : Stmt := topS 43
theorem sc_law_mixed : FnScope ["draw", "rows", "left", "found", "k"] ["draw", "rows"] (defScope s_law_mixed) := ⟨rfl, rfl, rfl, by decide +kernel, rfl, by decide +kernel, by decide +kernel⟩
def spMixed : Sp := fun vs H Q _ => ∃ (p : Addr) (vn vr : V) (ns : List Int) (ds : List PyData) (G : Hp), vs = [.ref p, vr] ∧ Dr G H p vn ns ∧ Rp G vr (.list ds) ∧ ds.length ≤ 10000 ∧ ∀ (es : List PyData) v G2 H2, es.Perm ds → Stp G (hid p H) G2 H2 → Dr G2 H2 p vn ns → Rp G2 v (.list es) → Q v H2
theorem ok_law_mixed {f f1 : Addr} {fd fd1 : FuncData} (F : Fun K "_law_mixed" "_law_mixed" s_law_mixed f fd) (Z : Zs mg) (G_law_next : Df P w K mg base CX0 1 "_law_next" f1 fd1 ["draw", "many"] spNext) : FnOk P w K mg base CX0 2 f fd ["draw", "rows"] spMixed := by
  refine F.ok sc_law_mixed (fun vs H Q E h => ?_) (fun cdv A outer s H vs Q E hr h => ?_)
  · obtain ⟨p, vn, vr, ns, ds, G, rfl, _⟩ := h
    rfl
  · obtain ⟨p, vn, vr, ns, ds, G, rfl, dr, hv, hl, q⟩ := h
    refine ⟨_, (pss_cons (ps_set (i := 2) sc_law_mixed.nd rfl (Or.inl rfl) (pe_callTy (k_list K rfl) (by rfl) Z.list bt_list (pa_cons (pv 1) pa_nil)))
      (pss_cons (ps_set (i := 3) sc_law_mixed.nd rfl (Or.inl rfl) (pe_lst pa_nil))
      (pss_cons (ps_for PassesOwn.never rfl (pi_range1 (by rfl) Z.range (pa_cons (pe_callB (k_len K rfl) (by rfl) Z.len bt_len (pa_cons (pv 1) pa_nil)) pa_nil)) (pg_name (i := 4) sc_law_mixed.nd rfl (Or.inl rfl)) (pss_one (ps_expr (pe_bm PySem.F.plainAttrs_list PySem.F.slot_list_append PySem.F.type_list_append mt_append (pv 3) (pa_cons (pe_bm PySem.F.plainAttrs_list PySem.F.slot_list_pop PySem.F.type_list_pop mt_popAt (pv 2) (pa_cons (pe_call G_law_next.ok (hr.mono (by decide)) (by rfl) G_law_next.g G_law_next.k G_law_next.b .nil pass0 (pa_cons (pv 0) (pa_cons (pe_callB (k_len K rfl) (by rfl) Z.len bt_len (pa_cons (pv 2) pa_nil)) pa_nil))) pa_nil)) pa_nil)))))
      (pss_one (ps_ret (pv 3)))))), ?_⟩
    refine w_listO (ed_var rfl hv) dr.ex fun l G1 H1 xs s1 nl r1 => ?_
    have d1 := dr.step s1
    have ol := (Own.with s1.gh nl r1).wk (p := p)
    have lp := d1.ne nl
    have d2 := d1.mut (o := .lst xs) ol.g lp
    have e2 : Ex G1 (upd H1 l (.lst xs)) := ol.s.gh
    refine w_new fun f nf => ?_
    have fl : f ≠ l := ne_some nf upd_same
    have fp := d2.ne nf
    have nf1 : H1 f = none := by rw [upd_ne fl] at nf; exact nf
    have gf := fresh_back e2 nf
    have ol2 : Own G1 (hid p H1) l ds G1 (upd (upd H1 l (.lst xs)) f (.lst [])) := ol.other (hid_fresh nf1) gf fl
    have of2 : Own G1 (hid p H1) f [] G1 (upd (upd H1 l (.lst xs)) f (.lst [])) := ⟨⟨Ex.refl _, Ex.mut e2 gf, fun a u z => (upd_ne (ne_of_none z (hid_fresh nf1))).trans (ol.s.h a u z), fun _ _ _ => rfl⟩, hid_fresh nf1, gf, [], upd_same, .nil⟩
    have d3 := d2.mut (o := .lst []) gf fp
    have lf : l ≠ f := fun e => fl e.symm
    refine w_forR (ed_is (by rfl) (ed_cb (es_cons (ed_var rfl (rp_mono s1.g _ _ hv)) es_nil) rd_lenl) |> fun z => es_cons z es_nil) d3.ex (by omega) (fun i σ' H' => ∃ (G' : Hp) (Ld Fd : List PyData) (y : Option V), σ' = [some (.ref p), some vr, some (.ref l), some (.ref f), y] ∧ Own G1 (hid p H1) l Ld G' H' ∧ Own G1 (hid p H1) f Fd G' H' ∧ Dr G' H' p vn ns ∧ Ld.length + i = ds.length ∧ Fd.length = i ∧ (Fd ++ Ld).Perm ds)
      (fun G3 H3 s3 => ⟨G3, ds, [], none, rfl, ol2.step s3, of2.step s3, d3.step s3, rfl, rfl, .refl _⟩) (fun i σ' H' hi hp => ?_) (fun σ' H' hp => ?_)
    · obtain ⟨G', Ld, Fd, y, rfl, ol, of, d, h1, h2, h3⟩ := hp
      obtain ⟨lx, hlx, rlx⟩ := ol.at_
      obtain ⟨fx, hfx, rfx⟩ := of.at_
      have ll : lx.length = Ld.length := ra_len rlx
      refine ⟨.ref f, rfl, .inl ⟨rfl, _, sq_of hfx⟩, ?_⟩
      refine ⟨.ref l, rfl, .inl ⟨rfl, _, sq_of hlx⟩, ?_⟩
      refine ⟨.ref p, rfl, .ref l, rfl, .ref l, lx.length, rfl, .inl ⟨lx, sq_of hlx, rfl⟩, ?_⟩
      refine ⟨p, vn, ns, lx.length, G', rfl, d, by omega, fun r G4 H4 r0 r1 s4 d4 => ?_⟩
      obtain ⟨r, rfl⟩ := Int.eq_ofNat_of_zero_le r0
      have hr : r < lx.length := by omega
      have ol4 := ol.stepP s4 lp
      have of4 := of.stepP s4 fp
      have hl4 : H4 l = some (.lst lx) := s4.h _ _ ((hid_ne lp).trans hlx)
      have hf4 : H4 f = some (.lst fx) := s4.h _ _ ((hid_ne fp).trans hfx)
      have rl4 := ra_mono s4.g _ _ rlx
      obtain ⟨z, hz⟩ : ∃ z, lx[r]? = some z := ⟨_, List.getElem?_eq_getElem hr⟩
      obtain ⟨dz, hdz, rz⟩ := ra_get' rl4 hz
      refine ⟨l, lx, r, r, z, rfl, rfl, hl4, by omega, (by have : lx.length ≤ 10000 := (by omega); omega), ?_, hz, ?_⟩
      · exact seqIndex_of (Int.natCast_nonneg r) (by omega)
      have ol5 : Own G1 (hid p H1) l (Ld.eraseIdx r) G4 (upd H4 l (.lst (lx.eraseIdx r))) := ol4.put (ra_erase r rl4)
      have of5 : Own G1 (hid p H1) f Fd G4 (upd H4 l (.lst (lx.eraseIdx r))) := of4.other ol4.n ol4.g lf
      have d5 := d4.mut (o := .lst (lx.eraseIdx r)) ol4.g lp
      have hf5 : upd H4 l (.lst (lx.eraseIdx r)) f = some (.lst fx) := (upd_ne fl).trans hf4
      refine ⟨f, fx, z, rfl, rfl, hf5, sz_lt (by rw [ra_len rfx]; omega), ?_⟩
      refine ⟨G4, Ld.eraseIdx r, Fd ++ [dz], some (.int i), rfl, ol5.other of5.n of5.g fl, of5.put (ra_app (ra_mono s4.g _ _ rfx) (ra_one rz)), d5.mut of5.g fp, ?_, ?_, ?_⟩
      · rw [List.length_eraseIdx_of_lt (by omega)]
        omega
      · rw [List.length_append, h2]
        rfl
      · rw [List.append_assoc]
        exact (List.Perm.append_left Fd (perm_erase hdz)).trans h3
    · obtain ⟨G', Ld, Fd, y, rfl, ol, of, d, h1, h2, h3⟩ := hp
      have hL : Ld = [] := List.length_eq_zero_iff.mp (by omega)
      subst hL
      rw [List.append_nil] at h3
      obtain ⟨xs', hx, S, e4, r4⟩ := of.fin
      have d4 := d.up e4 S.gh ((upd_ne fp.symm).trans d.g)
      refine w_ret (ev_at S.gh (ed_var rfl r4)) fun v G5 H5 s5 r5 => ?_
      exact q Fd v G5 H5 h3 (((Stp.wk s1).transP S).trans s5) (d4.step s5) r5
end
end Fw

namespace Fw
open PySem PySem.Spec PyProof.Rows L2 Evl
open TL (tl len_tl ext_tl tl_append tl_mk mk_tl)
/-! ### names that a law makes -/
section
variable {P : Program} {w : World} {K : PySem.W.Frag} {mg : Str → Option Value} {base : Heap}
abbrev s_law_names : Stmt := topS 42
theorem sc_law_names : FnScope ["numbers", "at", "many", "chars", "prefix", "k", "place", "shift", "names", "tail"] ["numbers", "at", "many"] (defScope s_law_names) := ⟨rfl, rfl, rfl, by decide +kernel, rfl, by decide +kernel, by decide +kernel⟩
def nmOf (x : Str) (pl sh : Int) (k : Nat) : Str := cutS x none (some pl) ++ (⟨#[(tl SIG).getD ((sh + 5 * (k : Int)) % 36).toNat 0]⟩ : Str) ++ ("" : Str) ++ cutS x (some pl) none
def pfx (x : Str) : Prop := ∃ c r, tl x = c :: r ∧ c ∈ tl LET ∧ ∀ d ∈ r, d ∈ tl SIG
theorem sig36 : (tl SIG).length = 36 := by decide +kernel
theorem sig_at (i : Int) (h0 : 0 ≤ i) (h : i < 36) : (tl SIG).getD i.toNat 0 ∈ tl SIG := by
  rw [List.getD_eq_getElem?_getD, List.getElem?_eq_getElem (by rw [sig36]; omega)]
  exact List.getElem_mem _
theorem let_at (i : Int) (h0 : 0 ≤ i) (h : i < 26) : (tl SIG).getD i.toNat 0 ∈ tl LET := by
  have h1 : (List.range 26).all (fun n => decide ((tl SIG).getD n 0 ∈ tl LET)) = true := by decide +kernel
  exact of_decide_eq_true (List.all_eq_true.mp h1 i.toNat (List.mem_range.mpr (by omega)))
theorem sig_inj {i j : Nat} (hi : i < 36) (hj : j < 36) (h : (tl SIG).getD i 0 = (tl SIG).getD j 0) : i = j := by
  have h1 : (List.range 36).all (fun i => (List.range 36).all fun j => decide ((tl SIG).getD i 0 = (tl SIG).getD j 0 → i = j)) = true := by decide +kernel
  exact of_decide_eq_true (List.all_eq_true.mp (List.all_eq_true.mp h1 i (List.mem_range.mpr hi)) j (List.mem_range.mpr hj)) h
theorem let_sig {c : Nat} (h : c ∈ tl LET) : c ∈ tl SIG := by
  have h1 : (tl LET).all (fun c => decide (c ∈ tl SIG)) = true := by decide +kernel
  exact of_decide_eq_true (List.all_eq_true.mp h1 c h)
theorem sig_128 {c : Nat} (h : c ∈ tl SIG) : c < 128 := by
  have h1 : (tl SIG).all (fun c => decide (c < 128)) = true := by decide +kernel
  exact of_decide_eq_true (List.all_eq_true.mp h1 c h)
theorem tl_nm {x : Str} {pl : Nat} (sh : Int) (k : Nat) (h : pl ≤ (tl x).length) : tl (nmOf x (pl : Int) sh k) = (tl x).take pl ++ [(tl SIG).getD ((sh + 5 * (k : Int)) % 36).toNat 0] ++ (tl x).drop pl := by
  have e1 : HT.sIx (tl x).length 0 (some (pl : Int)) = pl := (HT.sIx_nat _ _ pl).trans (Nat.min_eq_left h)
  have e2 : HT.sIx (tl x).length (tl x).length (some (pl : Int)) = pl := (HT.sIx_nat _ _ pl).trans (Nat.min_eq_left h)
  have e3 : tl (⟨#[(tl SIG).getD ((sh + 5 * (k : Int)) % 36).toNat 0]⟩ : Str) = [(tl SIG).getD ((sh + 5 * (k : Int)) % 36).toNat 0] := rfl
  have e4 : tl ("" : Str) = [] := by decide +kernel
  unfold nmOf
  rw [tl_append, tl_append, tl_append, tl_cut, tl_cut, HT.sIx_none, HT.sIx_none, e1, e2, e3, e4, List.drop_zero, List.append_nil, Nat.sub_zero, List.take_of_length_le (i := (tl x).length - pl) (by rw [List.length_drop]; exact Nat.le_refl _)]
theorem nm_len {x : Str} {pl : Nat} (sh : Int) (k : Nat) (h : pl ≤ (tl x).length) : (nmOf x (pl : Int) sh k).length = (tl x).length + 1 := by
  rw [len_tl, tl_nm sh k h, List.length_append, List.length_append, List.length_take, List.length_drop]
  simp
  omega
theorem nm_inj {x : Str} {pl : Nat} {sh : Int} {k j : Nat} (h : pl ≤ (tl x).length) (hk : k < 36) (hj : j < 36) (e : nmOf x (pl : Int) sh k = nmOf x (pl : Int) sh j) : k = j := by
  have e1 : tl (nmOf x (pl : Int) sh k) = tl (nmOf x (pl : Int) sh j) := congrArg tl e
  rw [tl_nm sh k h, tl_nm sh j h] at e1
  have e2 := List.append_cancel_left (List.append_cancel_right e1)
  injection e2 with e3 _
  have e4 := sig_inj (by omega) (by omega) e3
  omega
theorem nm_sig {x : Str} {pl : Nat} (sh : Int) (k : Nat) (h : pl ≤ (tl x).length) (hx : pfx x) : ∀ c ∈ tl (nmOf x (pl : Int) sh k), c ∈ tl SIG := fun c hc => by
  obtain ⟨d, r, e, h1, h2⟩ := hx
  have ha : ∀ c ∈ tl x, c ∈ tl SIG := fun c hc => by
    rw [e] at hc
    rcases List.mem_cons.mp hc with z | z
    · rw [z]; exact let_sig h1
    · exact h2 c z
  rw [tl_nm sh k h] at hc
  rcases List.mem_append.mp hc with z | z
  · rcases List.mem_append.mp z with z | z
    · exact ha c (List.mem_of_mem_take z)
    · rw [List.mem_singleton.mp z]
      exact sig_at _ (Int.emod_nonneg _ (by decide)) (Int.emod_lt_of_pos _ (by decide))
  · exact ha c (List.mem_of_mem_drop z)
theorem nm_ok {x : Str} {pl : Nat} (sh : Int) (k : Nat) (h : pl ≤ (tl x).length) (h1 : 1 ≤ pl) (hx : pfx x) (hl : (tl x).length ≤ 11) : isNm (tl (nmOf x (pl : Int) sh k)) = true := by
  have hs := nm_sig sh k h hx
  have hn := nm_len sh k h
  rw [len_tl] at hn
  obtain ⟨c, r, e, hc, _⟩ := hx
  obtain ⟨q, hq⟩ : ∃ q, tl (nmOf x (pl : Int) sh k) = c :: q := by
    rw [tl_nm sh k h, e]
    obtain ⟨m, rfl⟩ : ∃ m, pl = m + 1 := ⟨pl - 1, by omega⟩
    exact ⟨_, rfl⟩
  rw [hq] at hs hn ⊢
  have h2 : ((c :: q).all fun c => decide (c ∈ tl SIG)) = true := List.all_eq_true.mpr fun c hc => decide_eq_true (hs c hc)
  unfold isNm
  rw [h2, decide_eq_true (by omega : 1 ≤ (c :: q).length), decide_eq_true (by omega : (c :: q).length ≤ 12)]
  show ((true && true) && decide (c ∈ tl LET)) && true = true
  rw [decide_eq_true hc]
  rfl
/-- names that a law draws -/
def namesN (ns : List Str) : Prop := namesOk ns ∧ ∀ n ∈ ns, n.length ≤ 12 ∧ ∀ c ∈ tl n, c < 128
theorem names_of_nm {x : Str} {pl : Nat} (sh : Int) (m : Nat) (hm : m ≤ 36) (h : pl ≤ (tl x).length) (h1 : 1 ≤ pl) (hx : pfx x) (hl : (tl x).length ≤ 11) : namesN ((List.range m).map (nmOf x (pl : Int) sh)) := by
  refine ⟨⟨fun n hn => ?_, ?_⟩, fun n hn => ?_⟩
  · obtain ⟨k, _, rfl⟩ := List.mem_map.mp hn
    exact nm_ok sh k h h1 hx hl
  · refine List.pairwise_map.mpr (List.Pairwise.imp_of_mem (fun {a b} ha hb hab e => hab (nm_inj h ?_ ?_ e)) List.nodup_range)
    · have := List.mem_range.mp ha
      omega
    · have := List.mem_range.mp hb
      omega
  · obtain ⟨k, _, rfl⟩ := List.mem_map.mp hn
    refine ⟨by rw [nm_len sh k h]; omega, fun c hc => sig_128 (nm_sig sh k h hx c hc)⟩
def spLNames : Sp := fun vs H Q _ => ∃ (vn : V) (nums : List Int) (at_ m : Nat) (G : Hp), vs = [vn, .int at_, .int m] ∧ Rp G vn (.list (nums.map PyData.int)) ∧ Sm nums ∧ 40 ≤ nums.length ∧ at_ ≤ 20 ∧ m ≤ 36 ∧ Ex G H ∧ ∀ (ns : List Str) v G2 H2, ns.length = m → namesN ns → Stp G H G2 H2 → Rp G2 v (.list (ns.map PyData.str)) → Q v H2
theorem ok_law_names {f : Addr} {fd : FuncData} (F : Fun K "_law_names" "_law_names" s_law_names f fd) (Z : Zs mg) : FnOk P w K mg base CX0 1 f fd ["numbers", "at", "many"] spLNames := by
  refine F.ok sc_law_names (fun vs H Q E h => ?_) (fun cdv A outer s H vs Q E hr h => ?_)
  · obtain ⟨vn, nums, at_, m, G, rfl, _⟩ := h
    rfl
  · obtain ⟨vn, nums, at_, m, G, rfl, hv, sm, hn, ha, hm, e, q⟩ := h
    refine ⟨_, (pss_cons (ps_if (pt_cmpR (k_eqD K rfl hr.units) (pe_op op_mod (pe_callTy c_int (by rfl) Z.int bt_int (pa_cons (pe_ix (k_ix K rfl) (pv 0) pe_int (fun _ _ => rfl)) pa_nil)) pe_int) pe_int (nomark _)) (pss_one (ps_set (i := 1) sc_law_names.nd rfl (Or.inl rfl) pe_int)) pss_nil)
      (pss_cons (ps_set (i := 3) sc_law_names.nd rfl (Or.inl rfl) pe_str)
      (pss_cons (ps_set (i := 4) sc_law_names.nd rfl (Or.inl rfl) (pe_ix (k_ix K rfl) (pv 3) (pe_op op_mod (pe_callTy c_int (by rfl) Z.int bt_int (pa_cons (pe_ix (k_ix K rfl) (pv 0) (pv 1) (fun _ _ => rfl)) pa_nil)) pe_int) (fun _ _ => rfl)))
      (pss_cons (ps_for PassesOwn.never rfl (pi_range1 (by rfl) Z.range (pa_cons (pe_op op_mod (pe_callTy c_int (by rfl) Z.int bt_int (pa_cons (pe_ix (k_ix K rfl) (pv 0) (pe_op (k_addU K rfl) (pv 1) pe_int) (fun _ _ => rfl)) pa_nil)) pe_int) pa_nil)) (pg_name (i := 5) sc_law_names.nd rfl (Or.inl rfl)) (pss_one (ps_set (i := 4) sc_law_names.nd rfl (Or.inl rfl) (pe_op (k_addU K rfl) (pv 4) (pe_ix (k_ix K rfl) (pv 3) (pe_op op_mod (pe_callTy c_int (by rfl) Z.int bt_int (pa_cons (pe_op (k_addU K rfl) (pe_ix (k_ix K rfl) (pv 0) (pe_op (k_addU K rfl) (pv 1) pe_int) (fun _ _ => rfl)) (pe_op op_mul (pv 5) (pe_ix (k_ix K rfl) (pv 0) (pe_op (k_addU K rfl) (pv 1) pe_int) (fun _ _ => rfl)))) pa_nil)) pe_int) (fun _ _ => rfl))))))
      (pss_cons (ps_set (i := 6) sc_law_names.nd rfl (Or.inl rfl) (pe_op (k_addU K rfl) pe_int (pe_op op_mod (pe_callTy c_int (by rfl) Z.int bt_int (pa_cons (pe_ix (k_ix K rfl) (pv 0) (pe_op (k_addU K rfl) (pv 1) pe_int) (fun _ _ => rfl)) pa_nil)) (pe_callB (k_len K rfl) (by rfl) Z.len bt_len (pa_cons (pv 4) pa_nil)))))
      (pss_cons (ps_set (i := 7) sc_law_names.nd rfl (Or.inl rfl) (pe_callTy c_int (by rfl) Z.int bt_int (pa_cons (pe_ix (k_ix K rfl) (pv 0) (pe_op (k_addU K rfl) (pv 1) pe_int) (fun _ _ => rfl)) pa_nil)))
      (pss_cons (ps_set (i := 8) sc_law_names.nd rfl (Or.inl rfl) (pe_lst pa_nil))
      (pss_cons (ps_for PassesOwn.never rfl (pi_range1 (by rfl) Z.range (pa_cons (pv 2) pa_nil)) (pg_name (i := 5) sc_law_names.nd rfl (Or.inl rfl)) (pss_cons (ps_set (i := 9) sc_law_names.nd rfl (Or.inl rfl) (pe_ix (k_ix K rfl) (pe_lst (pa_cons pe_str (pa_cons pe_str pa_nil))) (pe_callTy c_int (by rfl) Z.int bt_int (pa_cons (pe_cmpR op_ge (pv 5) pe_int (nomark _)) pa_nil)) (fun _ _ => rfl)))
        (pss_one (ps_expr (pe_bm PySem.F.plainAttrs_list PySem.F.slot_list_append PySem.F.type_list_append mt_append (pv 8) (pa_cons (pe_op (k_addU K rfl) (pe_op (k_addU K rfl) (pe_op (k_addU K rfl) (pe_slice (k_sl K rfl) (pv 4) po_none (po_some (pv 6))) (pe_ix (k_ix K rfl) (pv 3) (pe_op op_mod (pe_callTy c_int (by rfl) Z.int bt_int (pa_cons (pe_op (k_addU K rfl) (pv 7) (pe_op op_mul pe_int (pv 5))) pa_nil)) pe_int) (fun _ _ => rfl))) (pv 9)) (pe_slice (k_sl K rfl) (pv 4) (po_some (pv 6)) po_none)) pa_nil))))))
      (pss_one (ps_ret (pv 8))))))))))), ?_⟩
    have num {σ : L2.St} {G' : Hp} {te : TE} {i : Int} (x : Ex G G') (hs : σ[0]? = some (some vn)) (hi : EvD te σ G' (.int i)) (h0 : 0 ≤ i) (h1 : i < 40) : EvD (tOp (rIx K) (tVar 0) te) σ G' (.int (nums.getD i.toNat 0)) := ed_num (ed_var hs (rp_mono x _ _ hv)) hi h0 (by omega)
    refine w_whenK (fun σ' H' => ∃ (G' : Hp) (at_ : Nat), σ' = [some vn, some (.int at_), some (.int m), none, none, none, none, none, none, none] ∧ Stp G H G' H' ∧ at_ ≤ 20)
      (ec_at e (et_cmp (ed_op (ed_mod (ed_int1 (num (Ex.refl _) rfl (ed_c (.int 1)) (by decide) (by decide))) (ed_c (.int 5)) (by decide)) (ed_c (.int 1)) (r2_eq rfl rfl)))) (fun hb G2 H2 s2 k => ?_) (fun hb G2 H2 s2 => ⟨G2, at_, rfl, s2, ha⟩) (fun σ' H' hp => ?_)
    · refine w_set1 (ev_at s2.gh (ed_c (.int 2))) fun v3 G3 H3 s3 r3 => ?_
      obtain rfl := rp_int r3
      exact k _ _ ⟨G3, 2, rfl, s2.trans s3, by decide⟩
    · clear ha
      obtain ⟨G2, at_, rfl, S2, ha⟩ := hp
      refine w_set (ev_at S2.gh (ed_c (.str SIG))) fun v3 G3 H3 s3 r3 => ?_
      obtain rfl := rp_str r3
      have S3 := S2.trans s3
      have chr {σ : L2.St} {G' : Hp} {te : TE} {i m : Int} (hs : σ[3]? = some (some (.str SIG))) (hi : EvD te σ G' (.int i)) (h0 : 0 < m) (h1 : m ≤ 36) : EvD (tOp (rIx K) (tVar 3) (tOp (rI (fun _ j => 0 < j) fun i j => .int (i % j)) te (tC (.int m)))) σ G' (.str ⟨#[(tl SIG).getD (i % m).toNat 0]⟩) :=
        ed_chr (ed_var hs (.str SIG)) (ed_mod hi (ed_c (.int m)) h0) (by decide +kernel) (Int.emod_nonneg _ (by omega)) (by have := Int.emod_lt_of_pos i h0; rw [sig36]; omega)
      refine w_set (ev_at S3.gh (chr (m := 26) rfl (ed_int1 (num S3.g rfl (ed_var rfl (.int (at_ : Int))) (by omega) (by omega))) (by decide) (by decide))) fun v4 G4 H4 s4 r4 => ?_
      obtain rfl := rp_str r4
      have S4 := S3.trans s4
      have p0 : pfx ⟨#[(tl SIG).getD (nums.getD ((at_ : Int)).toNat 0 % 26).toNat 0]⟩ := ⟨_, [], rfl, let_at _ (Int.emod_nonneg _ (by decide)) (Int.emod_lt_of_pos _ (by decide)), fun _ h => (nomatch h)⟩
      have m10 := Int.emod_nonneg (nums.getD ((at_ : Int) + 1).toNat 0) (show (10 : Int) ≠ 0 by decide)
      have m10' := Int.emod_lt_of_pos (nums.getD ((at_ : Int) + 1).toNat 0) (show (0 : Int) < 10 by decide)
      refine w_forR (es_cons (ed_mod (ed_int1 (num S4.g rfl (ed_op (ed_var rfl (.int (at_ : Int))) (ed_c (.int 1)) r2_add) (by omega) (by omega))) (ed_c (.int 10)) (by decide)) es_nil) S4.gh (by omega) (fun i σ' H' => ∃ (G' : Hp) (x : Str) (y : Option V), σ' = [some vn, some (.int at_), some (.int m), some (.str SIG), some (.str x), y, none, none, none, none] ∧ Stp G H G' H' ∧ (tl x).length = i + 1 ∧ pfx x)
        (fun G5 H5 s5 => ⟨G5, _, none, rfl, S4.trans s5, rfl, p0⟩) (fun i σ' H' hi hp => ?_) (fun σ' H' hp => ?_)
      · obtain ⟨G', x, y, rfl, S, hl, hx⟩ := hp
        refine w_set1 (ev_at S.gh (ed_op (ed_var rfl (.str x)) (chr (m := 36) rfl (ed_int1 (ed_op (num S.g rfl (ed_op (ed_var rfl (.int (at_ : Int))) (ed_c (.int 2)) r2_add) (by omega) (by omega)) (ed_op (ed_var rfl (.int (i : Int))) (num S.g rfl (ed_op (ed_var rfl (.int (at_ : Int))) (ed_c (.int 3)) r2_add) (by omega) (by omega)) (r2_I (.inl (by omega)))) r2_add)) (by decide) (by decide)) (r2_adds (by rw [len_tl, hl, chr_len, sizeLine_eq]; omega)))) fun v5 G5 H5 s5 r5 => ?_
        obtain rfl := rp_str r5
        refine ⟨G5, _, _, rfl, S.trans s5, ?_, ?_⟩
        · rw [tl_append, List.length_append, hl]
          rfl
        · obtain ⟨c, r, e1, h1, h2⟩ := hx
          refine ⟨c, _, by rw [tl_append, e1]; rfl, h1, fun d hd => ?_⟩
          rcases List.mem_append.mp hd with z | z
          · exact h2 d z
          · rw [show d = _ from List.mem_singleton.mp z]
            exact sig_at _ (Int.emod_nonneg _ (by decide)) (Int.emod_lt_of_pos _ (by decide))
      · obtain ⟨G', x, y, rfl, S, hl, hx⟩ := hp
        have hl' : (tl x).length ≤ 10 ∧ 1 ≤ (tl x).length := by omega
        have xl : x.length = (tl x).length := len_tl x
        clear hl
        have pm := Int.emod_nonneg (nums.getD ((at_ : Int) + 4).toNat 0) (show (x.length : Int) ≠ 0 by omega)
        have pm' := Int.emod_lt_of_pos (nums.getD ((at_ : Int) + 4).toNat 0) (show (0 : Int) < x.length by omega)
        refine w_set (ev_at S.gh (ed_op (ed_c (.int 1)) (ed_mod (ed_int1 (num S.g rfl (ed_op (ed_var rfl (.int (at_ : Int))) (ed_c (.int 4)) r2_add) (by omega) (by omega))) (ed_cb (es_cons (ed_var rfl (.str x)) es_nil) (rd_lens (by rw [sizeLine_eq]; omega))) (by omega)) r2_add)) fun v5 G5 H5 s5 r5 => ?_
        obtain rfl := rp_int r5
        obtain ⟨pl, hpl⟩ : ∃ pl : Nat, 1 + nums.getD ((at_ : Int) + 4).toNat 0 % (x.length : Int) = (pl : Int) := ⟨_, (Int.toNat_of_nonneg (by omega)).symm⟩
        rw [hpl]
        have hp1 : 1 ≤ pl ∧ pl ≤ (tl x).length := by omega
        clear hpl pm pm'
        have S5 := S.trans s5
        refine w_set (ev_at S5.gh (ed_int1 (num S5.g rfl (ed_op (ed_var rfl (.int (at_ : Int))) (ed_c (.int 5)) r2_add) (by omega) (by omega)))) fun v6 G6 H6 s6 r6 => ?_
        obtain rfl := rp_int r6
        generalize nums.getD ((at_ : Int) + 5).toNat 0 = sh
        have S6 := S5.trans s6
        refine w_new fun p np => ?_
        have o0 := Own.new S6.gh np
        refine w_forR (es_cons (ed_var rfl (.int (m : Int))) es_nil) o0.s.gh (by omega) (fun i σ' H' => ∃ (G' : Hp) (y z : Option V), σ' = [some vn, some (.int at_), some (.int m), some (.str SIG), some (.str x), y, some (.int pl), some (.int sh), some (.ref p), z] ∧ Own G6 H6 p (((List.range i).map (nmOf x (pl : Int) sh)).map PyData.str) G' H')
          (fun G7 H7 s7 => ⟨G7, _, none, rfl, o0.step s7⟩) (fun i σ' H' hi hp => ?_) (fun σ' H' hp => ?_)
        · obtain ⟨G', y, z, rfl, o⟩ := hp
          have hi' : i < 36 := by omega
          have tz : atI [PyData.str "", PyData.str "q"] (if decide ((36 : Int) ≤ (i : Int)) = true then 1 else 0) = some (.str "") := by
            rw [decide_eq_false (show ¬ (36 : Int) ≤ (i : Int) by omega)]
            rfl
          refine w_set (ev_at o.s.gh (ed_op (ed_lst (es_cons (ed_c (.str "")) (es_cons (ed_c (.str "q")) es_nil)) (by simp)) (ed_cb (es_cons (ed_op (ed_var rfl (.int (i : Int))) (ed_c (.int 36)) r2_B0) es_nil) rd_intb) (r2_ixl tz))) fun v7 G7 H7 s7 r7 => ?_
          obtain rfl := rp_str r7
          have o7 := o.step s7
          have c1 : (cutS x none (some (pl : Int))).length ≤ x.length := cutS_length x _ _
          have c2 : (cutS x (some (pl : Int)) none).length ≤ x.length := cutS_length x _ _
          have sx : x.length ≤ sizeLine := by rw [sizeLine_eq]; omega
          refine w_appO (d := .str (nmOf x (pl : Int) sh i)) rfl o7 (ev_at o7.s.gh (ed_op (ed_op (ed_op (ed_sls (ed_var rfl (.str x)) eb_none (eb_some (ed_var rfl (.int (pl : Int)))) sx) (chr (m := 36) rfl (ed_int1 (ed_op (ed_var rfl (.int sh)) (ed_op (ed_c (.int 5)) (ed_var rfl (.int (i : Int))) (r2_I (.inl (by decide)))) r2_add)) (by decide) (by decide)) (r2_adds ?_)) (ed_var rfl (.str "")) (r2_adds ?_)) (ed_sls (ed_var rfl (.str x)) (eb_some (ed_var rfl (.int (pl : Int)))) eb_none sx) (r2_adds ?_))) ?_ fun G8 H8 xs s8 o8 => ?_
          · rw [chr_len, sizeLine_eq]
            omega
          · rw [strLen_append, chr_len, sizeLine_eq, show ("" : Str).length = 0 by decide +kernel]
            omega
          · rw [strLen_append, strLen_append, chr_len, sizeLine_eq, show ("" : Str).length = 0 by decide +kernel]
            omega
          · rw [List.length_map, List.length_map, List.length_range]
            omega
          · refine ⟨G8, _, _, rfl, ?_⟩
            rw [List.range_succ, List.map_append, List.map_append]
            exact o8
        · obtain ⟨G', y, z, rfl, o⟩ := hp
          obtain ⟨G7, s7, _, r7⟩ := o.done
          rw [Int.toNat_natCast] at r7
          refine w_ret (ev_at s7.gh (ed_var rfl r7)) fun v8 G8 H8 s8 r8 => ?_
          exact q _ v8 G8 H8 (by rw [List.length_map, List.length_range]) (names_of_nm sh m hm hp1.2 hp1.1 hx (by omega)) ((S6.trans s7).trans s8) r8
end
end Fw

namespace Fw
open PySem PySem.Spec PyProof.Rows L2 Evl
open TL (tl len_tl ext_tl tl_append tl_mk mk_tl)
/-! ### a rule that is drawn -/
section
variable {P : Program} {w : World} {K : PySem.W.Frag} {mg : Str → Option Value} {base : Heap}
theorem cut_to {α : Type} (f : α → PyData) (l : List α) (n : Nat) : cutD (l.map f) none (some (n : Int)) = (l.take n).map f := by
  unfold cutD
  rw [HT.sIx_none, HT.sIx_nat, List.drop_zero, Nat.sub_zero, List.length_map, ← List.map_take]
  congr 1
  by_cases h : n ≤ l.length
  · rw [Nat.min_eq_left h]
  · rw [Nat.min_eq_right (by omega), List.take_length, List.take_of_length_le (by omega)]
abbrev s_law_rule : Stmt := topS 44
theorem sc_law_rule : FnScope ["draw", "places", "place", "word", "case", "name", "slots", "yes", "sources", "k", "goals", "goal"] ["draw", "places", "place", "word", "case"] (defScope s_law_rule) := ⟨rfl, rfl, rfl, by decide +kernel, rfl, by decide +kernel, by decide +kernel⟩
structure RuleIs (pls : List Pl) (pl : Pl) (wd : Str) (c : Int) (r : Ru) : Prop where
  epl : r.pl = pl.1
  ewd : r.wd = wd
  ecs : r.cs = c
  go : ∃ g ∈ pls, r.go = g.1 ∧ (r.mv.length : Int) = g.2.1
  nd : r.mv.Nodup
  mv : ∀ x ∈ r.mv, (if 0 < c then 1 else 0) ≤ x ∧ x ≤ pl.2.1
def srcs (lo n : Int) : List Int := (List.range (n - lo).toNat).map fun i : Nat => lo + (i : Int)
theorem srcs_nd (lo n : Int) : (srcs lo n).Nodup := List.pairwise_map.mpr (List.nodup_range.imp fun h e => h (by omega))
theorem srcs_len (lo n : Int) : (srcs lo n).length = (n - lo).toNat := by
  unfold srcs
  rw [List.length_map, List.length_range]
theorem srcs_mem {lo n x : Int} (h : x ∈ srcs lo n) : lo ≤ x ∧ x < n := by
  obtain ⟨i, hi, rfl⟩ := List.mem_map.mp h
  have := List.mem_range.mp hi
  omega
def spRule : Sp := fun vs H Q _ => ∃ (p : Addr) (vn vps vpl : V) (nums : List Int) (pls : List Pl) (pl : Pl) (wd : Str) (c : Int) (G : Hp), vs = [.ref p, vps, vpl, .str wd, .int c] ∧ Dr G H p vn nums ∧ Rp G vps (.list (pls.map plD)) ∧ Rp G vpl (plD pl) ∧ pls.length ≤ 100 ∧ (∀ q ∈ pls, plOk q) ∧ plOk pl ∧ (∃ g ∈ pls, g.2.1 = 0) ∧
  ∀ (r : Ru) v G2 H2, RuleIs pls pl wd c r → Stp G (hid p H) G2 H2 → Dr G2 H2 p vn nums → Rp G2 v (ruA (true, r)) → Q v H2
theorem ok_law_rule {f f1 f2 : Addr} {fd fd1 fd2 : FuncData} (F : Fun K "_law_rule" "_law_rule" s_law_rule f fd) (Z : Zs mg) (G_law_next : Df P w K mg base CX0 1 "_law_next" f1 fd1 ["draw", "many"] spNext) (G_law_mixed : Df P w K mg base CX0 2 "_law_mixed" f2 fd2 ["draw", "rows"] spMixed) :
    FnOk P w K mg base CX0 3 f fd ["draw", "places", "place", "word", "case"] spRule := by
  refine F.ok sc_law_rule (fun vs H Q E h => ?_) (fun cdv A outer s H vs Q E hr h => ?_)
  · obtain ⟨p, vn, vps, vpl, nums, pls, pl, wd, c, G, rfl, _⟩ := h
    rfl
  · obtain ⟨p, vn, vps, vpl, nums, pls, pl, wd, c, G, rfl, dr, hps, hpl, l100, hok, pok, hz, q⟩ := h
    refine ⟨_, (pss_cons (ps_asg (pv 2) (k_tgt K rfl rfl (pgs_cons (pg_name (i := 5) sc_law_rule.nd rfl (Or.inl rfl)) (pgs_cons (pg_name (i := 6) sc_law_rule.nd rfl (Or.inl rfl)) (pgs_cons (pg_name (i := 7) sc_law_rule.nd rfl (Or.inl rfl)) pgs_nil)))))
      (pss_cons (ps_set (i := 8) sc_law_rule.nd rfl (Or.inr rfl) (pe_lc (own := [("k", 9)]) (g := (gName 9)) (tt := tYes) rfl sc_law_rule.nd (pi_range2 (by rfl) Z.range (pa_cons (pe_callTy c_int (by rfl) Z.int bt_int (pa_cons (pe_cmpR op_gt (pv 4) pe_int (nomark _)) pa_nil)) (pa_cons (pe_op (k_addU K rfl) (pv 6) pe_int) pa_nil))) (blkOk_by (N := ["draw", "places", "place", "word", "case", "name", "slots", "yes", "sources", "k", "goals", "goal"]) (sc := defScope s_law_rule) (own := [("k", 9)]) (by decide +kernel)) (fun _ _ _ _ _ => (pg_name (i := 9) sc_law_rule.nd rfl (Or.inl rfl))) (fun _ _ _ _ _ => pts_nil) (fun _ _ _ _ _ => (pv 9))))
      (pss_cons (ps_setLc (i := 10) (own := [("goal", 11)]) (g := (gName 11)) rfl sc_law_rule.nd rfl rfl (sw_true rfl rfl rfl (by decide +kernel)) (k_piL K rfl (pv 1)) (blkOk_by (N := ["draw", "places", "place", "word", "case", "name", "slots", "yes", "sources", "k", "goals", "goal"]) (sc := defScope s_law_rule) (own := [("goal", 11)]) (by decide +kernel)) (fun _ _ _ _ _ => (pg_name (i := 11) sc_law_rule.nd rfl (Or.inl rfl))) (fun _ _ _ _ _ => (pts_one (pt_cmpR op_le (pe_ix (k_ix K rfl) (pv 11) pe_int (fun _ _ => rfl)) (pe_callB (k_len K rfl) (by rfl) Z.len bt_len (pa_cons (pv 8) pa_nil)) (nomark _)))) (fun _ _ _ _ _ => (pv 11)))
      (pss_cons (ps_set (i := 11) sc_law_rule.nd rfl (Or.inl rfl) (pe_ix (k_ix K rfl) (pv 10) (pe_call G_law_next.ok (hr.mono (by decide)) (by rfl) G_law_next.g G_law_next.k G_law_next.b .nil pass0 (pa_cons (pv 0) (pa_cons (pe_callB (k_len K rfl) (by rfl) Z.len bt_len (pa_cons (pv 10) pa_nil)) pa_nil))) (fun _ _ => rfl)))
      (pss_one (ps_ret (pe_tup (pa_cons (pv 5) (pa_cons (pv 3) (pa_cons (pv 4) (pa_cons (pe_ix (k_ix K rfl) (pv 11) pe_int (fun _ _ => rfl)) (pa_cons (pe_slice (k_sl K rfl) (pe_call G_law_mixed.ok (hr.mono (by decide)) (by rfl) G_law_mixed.g G_law_mixed.k G_law_mixed.b .nil pass0 (pa_cons (pv 0) (pa_cons (pv 8) pa_nil))) po_none (po_some (pe_ix (k_ix K rfl) (pv 11) pe_int (fun _ _ => rfl)))) pa_nil)))))))))))), ?_⟩
    refine w_asg (ev_at dr.ex (ed_var rfl hpl)) fun v1 G1 H1 s1 r1 => ?_
    refine g_three s1.gh r1 fun va vb vc ra rb rc => ?_
    obtain rfl := rp_str ra
    obtain rfl := rp_int rb
    -- sources
    have lo0 : (0 : Int) ≤ (if decide (c > 0) = true then 1 else 0) ∧ (if decide (c > 0) = true then (1 : Int) else 0) ≤ 1 := by split <;> decide
    refine w_set (d := .list ((srcs (if decide (c > 0) = true then 1 else 0) (pl.2.1 + 1)).map PyData.int)) (ev_at s1.gh (ed_is ?_ (ed_lcR (lo := if decide (c > 0) = true then 1 else 0) (n := pl.2.1 + 1) (c := fun _ => true) (y := fun i => .int ((if decide (c > 0) = true then 1 else 0) + (i : Int)))
      (es_cons (ed_cb (es_cons (ed_op (ed_var rfl (.int c)) (ed_c (.int 0)) r2_B0) es_nil) rd_intb) (es_cons (ed_op (ed_var rfl (.int pl.2.1)) (ed_c (.int 1)) r2_add) es_nil)) (by omega) (by have := pok.1; have := pok.2; omega) (by have := pok.2; omega) (fun _ => rfl) (fun _ _ _ _ => et_yes) (fun i hi _ G' x => ed_var rfl (.int _))))) fun v2 G2 H2 s2 r2 => ?_
    · unfold srcs
      rw [List.filter_eq_self.mpr (fun _ _ => rfl), List.map_map]
      rfl
    have hlo : (if decide (c > 0) = true then (1 : Int) else 0) = (if 0 < c then 1 else 0) := by
      by_cases h : 0 < c
      · rw [if_pos h, decide_eq_true h]
        rfl
      · rw [if_neg h, decide_eq_false h]
        rfl
    rw [hlo] at r2 lo0
    generalize hS : srcs (if 0 < c then 1 else 0) (pl.2.1 + 1) = sc at r2
    have hsc : (sc.length : Int) = pl.2.1 + 1 - (if 0 < c then 1 else 0) := by
      rw [← hS, srcs_len]
      have := pok.1
      omega
    have S2 := s1.trans s2
    have p6 := pok.2
    have p0 := pok.1
    -- goals
    refine w_set (ev_at S2.gh (ed_lcL1 (as := pls) (f := plD) (y := plD) (c := fun g => decide (g.2.1 ≤ (sc.length : Int))) (ed_var rfl (rp_mono S2.g _ _ hps)) (by omega) (fun _ => rfl) (fun g hg u G' x hu => ?_) (fun g hg _ u G' x hu => ed_var rfl hu))) fun v3 G3 H3 s3 r3 => ?_
    · exact et_cmp (ed_op (ed_op (ed_var rfl hu) (ed_c (.int 1)) (r2_ixt (atI_nat (j := 1) rfl))) (ed_is (by rw [List.length_map]) (ed_cb (es_cons (ed_var rfl (rp_mono x _ _ r2)) es_nil) rd_lenl)) r2_B0)
    have S3 := S2.trans s3
    have hgl : (pls.filter fun g => decide (g.2.1 ≤ (sc.length : Int))).length ≤ 100 := Nat.le_trans (List.length_filter_le _ _) l100
    have hg1 : 1 ≤ (pls.filter fun g => decide (g.2.1 ≤ (sc.length : Int))).length := by
      obtain ⟨g, hg, h0⟩ := hz
      exact List.length_pos_of_mem (List.mem_filter.mpr ⟨hg, decide_eq_true (by omega)⟩)
    have hgm : ∀ g ∈ (pls.filter fun g => decide (g.2.1 ≤ (sc.length : Int))), g ∈ pls ∧ g.2.1 ≤ (sc.length : Int) := fun g hg => ⟨(List.mem_filter.mp hg).1, of_decide_eq_true (List.mem_filter.mp hg).2⟩
    generalize (pls.filter fun g => decide (g.2.1 ≤ (sc.length : Int))) = gs at r3 hgl hg1 hgm
    have d3 := dr.step S3
    -- goal = goals[next]
    refine ⟨v3, rfl, .ref p, rfl, ?_⟩
    refine h_run (d := .int gs.length) (ev_at S3.gh (ed_is (by rw [List.length_map]) (ed_cb (es_cons (ed_var rfl r3) es_nil) rd_lenl))) fun vl G4 H4 s4 r4 => ?_
    obtain rfl := rp_int r4
    refine ⟨p, vn, nums, gs.length, G4, rfl, d3.step s4, by omega, fun r G5 H5 r0 r1 s5 d5 => ?_⟩
    obtain ⟨r, rfl⟩ := Int.eq_ofNat_of_zero_le r0
    have hr : r < gs.length := by omega
    obtain ⟨g, hg⟩ : ∃ g, gs[r]? = some g := ⟨_, List.getElem?_eq_getElem hr⟩
    have hgp := hgm g (List.mem_of_getElem? hg)
    have gok := hok g hgp.1
    have S5 : Stp G (hid p H) G5 H5 := (Stp.wk (S3.trans s4)).transP s5
    have x35 : Ex G3 G5 := s4.g.trans s5.g
    refine r2_ixl (d := plD g) (atI_nat (j := r) (by rw [List.getElem?_map, hg]; rfl)) G5 H5 _ _ d5.ex (rp_mono x35 _ _ r3) (.int _) _ fun v6 G6 H6 s6 r6 => ?_
    have d6 := d5.step s6
    have S6 := S5.trans s6
    refine ⟨.str pl.1, rfl, .str wd, rfl, .int c, rfl, ?_⟩
    refine h_run (d := .str g.1) (ev_at d6.ex (ed_op (ed_var rfl r6) (ed_c (.int 0)) (r2_ixt (atI_nat (j := 0) rfl)))) fun v7 G7 H7 s7 r7 => ?_
    have d7 := d6.step s7
    have x27 : Ex G2 G7 := ((s3.g.trans x35).trans s6.g).trans s7.g
    refine ⟨.ref p, rfl, v2, rfl, p, vn, v2, nums, _, G7, rfl, d7, rp_mono x27 _ _ r2, by rw [List.length_map]; omega, fun es v8 G8 H8 pe s8 d8 r8 => ?_⟩
    obtain ⟨mv, rfl, pm⟩ := perm_inv pe sc rfl
    refine h_run (te := tSl (rSlU K) (tC v8) tNoPart (tPart (tOp (rIx K) (tVar 11) (tC (.int 1))))) (d := .list ((mv.take g.2.1.toNat).map PyData.int)) (ev_at d8.ex (ed_is ?_ (ed_sll (ed_c r8) eb_none (eb_some (ed_op (ed_var rfl (rp_mono (s7.g.trans s8.g) _ _ r6)) (ed_c (.int 1)) (r2_ixt (atI_nat (j := 1) rfl))))))) fun v9 G9 H9 s9 r9 => ?_
    · rw [show g.2.1 = ((g.2.1.toNat : Nat) : Int) from (Int.toNat_of_nonneg gok.1).symm, cut_to]
      rfl
    have d9 := d8.step s9
    have S9 : Stp G (hid p H) G9 H9 := ((S6.trans s7).transP s8).trans s9
    refine ⟨sz_of (show 5 ≤ 100000 by decide), fun t ht => ?_⟩
    have nt : G9 t = none := fresh_back d9.ex ht
    have s10 : Stp G9 H9 (upd G9 t (.tup [.str pl.1, .str wd, .int c, v7, v9])) (upd H9 t (.tup [.str pl.1, .str wd, .int c, v7, v9])) := Stp.new d9.ex ht
    refine q ⟨pl.1, wd, c, g.1, mv.take g.2.1.toNat⟩ _ _ _ ⟨rfl, rfl, rfl, ⟨g, hgp.1, rfl, ?_⟩, ?_, fun x hx => ?_⟩ (S9.trans s10) (d9.step s10) (.tup (.inl upd_same) ?_)
    · show ((mv.take g.2.1.toNat).length : Int) = g.2.1
      rw [List.length_take, pm.length_eq]
      have := gok.1
      omega
    · exact ((pm.nodup_iff).mpr (hS ▸ srcs_nd _ _)).sublist (List.take_sublist _ _)
    · have hx' : x ∈ sc := pm.mem_iff.mp (List.mem_of_mem_take hx)
      rw [← hS] at hx'
      have := srcs_mem hx'
      exact ⟨this.1, show x ≤ pl.2.1 by omega⟩
    · have x10 := s10.g
      exact .cons (.str _) (.cons (.str _) (.cons (.int _) (.cons (rp_mono ((s8.g.trans s9.g).trans x10) _ _ r7) (.cons (rp_mono x10 _ _ r9) .nil))))
end
end Fw

namespace Fw
open PySem PySem.Spec PyProof.Rows L2 Evl
open TL (tl len_tl ext_tl tl_append tl_mk mk_tl)
/-! ### the parts of a book, drawn -/
section
variable {P : Program} {w : World} {K : PySem.W.Frag} {mg : Str → Option Value} {base : Heap}
theorem ra_set {G : Hp} {v : V} {d : PyData} (h : Rp G v d) : ∀ {vs : List V} {ds : List PyData} (n : Nat), RpAll G vs ds → RpAll G (vs.set n v) (ds.set n d)
  | _, _, _, .nil => .nil
  | _, _, 0, .cons _ h2 => .cons h h2
  | _, _, n + 1, .cons h1 h2 => .cons h1 (ra_set h n h2)
theorem find_nd : ∀ {pls : List Pl} {p : Pl}, (pls.map fun p => p.1).Nodup → p ∈ pls → findP pls p.1 = some p
  | [], _, _, h => nomatch h
  | q :: pls, p, nd, h => by
    unfold findP
    rw [List.find?_cons]
    rw [List.map_cons, List.nodup_cons] at nd
    rcases List.mem_cons.mp h with e | e
    · subst e
      rw [decide_eq_true rfl]
    · have ne : ¬ q.1 = p.1 := fun z => nd.1 (List.mem_map.mpr ⟨p, e, z.symm⟩)
      rw [decide_eq_false ne]
      exact find_nd nd.2 e
theorem findR_nd : ∀ {rs : List Ru} {r : Ru}, (rs.map keyR).Nodup → r ∈ rs → findR rs (keyR r) = some r
  | [], _, _, h => nomatch h
  | q :: rs, r, nd, h => by
    unfold findR
    rw [List.find?_cons]
    rw [List.map_cons, List.nodup_cons] at nd
    rcases List.mem_cons.mp h with e | e
    · subst e
      rw [decide_eq_true rfl]
    · have ne : ¬ keyR q = keyR r := fun z => nd.1 (List.mem_map.mpr ⟨r, e, z.symm⟩)
      rw [decide_eq_false ne]
      exact findR_nd nd.2 e
/-- rules that are given in another order -/
theorem order_perm {rs rs' : List Ru} (nd : (rs.map keyR).Nodup) (pm : rs'.Perm rs) : orderR (rs.map keyR) rs' = rs := by
  have nd' : (rs'.map keyR).Nodup := ((pm.map keyR).nodup_iff).mpr nd
  have h : ∀ l : List Ru, (∀ r ∈ l, r ∈ rs') → (l.map keyR).filterMap (findR rs') = l := fun l hl => by
    induction l with
    | nil => rfl
    | cons r l ih =>
      rw [List.map_cons, List.filterMap_cons, findR_nd nd' (hl r List.mem_cons_self)]
      show r :: _ = r :: l
      rw [ih fun q hq => hl q (List.mem_cons_of_mem _ hq)]
  exact h rs fun r hr => pm.mem_iff.mpr hr
theorem keys_nd {ws : List Str} {pls : List Pl} (h1 : ws.Nodup) (h2 : (pls.map fun p => p.1).Nodup) : (keysOf ws pls).Nodup := by
  unfold keysOf
  refine List.pairwise_flatMap.mpr ⟨fun p _ => ?_, ?_⟩
  · unfold keysW
    refine List.pairwise_flatMap.mpr ⟨fun w _ => ?_, ?_⟩
    · unfold keysP
      refine List.pairwise_map.mpr (List.nodup_range.imp fun h e => h ?_)
      injection e with _ e
      injection e with _ e
      injection e with e _
      exact Int.ofNat.inj (Sum.inl.inj e)
    · refine h1.imp fun {a b} h x hx y hy e => h ?_
      obtain ⟨c, _, rfl⟩ := List.mem_map.mp hx
      obtain ⟨d, _, rfl⟩ := List.mem_map.mp hy
      injection e with _ e
      injection e with e _
      exact Sum.inr.inj e
  · refine (List.pairwise_map.mp h2).imp fun {a b} h x hx y hy e => h ?_
    obtain ⟨u, _, hx⟩ := List.mem_flatMap.mp hx
    obtain ⟨v, _, hy⟩ := List.mem_flatMap.mp hy
    obtain ⟨c, _, rfl⟩ := List.mem_map.mp hx
    obtain ⟨d, _, rfl⟩ := List.mem_map.mp hy
    injection e with e _
    exact Sum.inr.inj e
/-- a drawn rule of the book -/
def GoodR (ws : List Str) (pls : List Pl) (r : Ru) : Prop := ∃ pl ∈ pls, ∃ wd ∈ ws, ∃ c : Int, RuleIs pls pl wd c r ∧ 0 ≤ c ∧ c ≤ pl.2.1
theorem good_ok {ws : List Str} {pls : List Pl} {r : Ru} (nd : (pls.map fun p => p.1).Nodup) (h : GoodR ws pls r) : ruleOk ws pls r := by
  obtain ⟨pl, hpl, wd, hwd, c, R, c0, c1⟩ := h
  obtain ⟨g, hg, e1, e2⟩ := R.go
  refine ⟨pl, g, R.epl ▸ find_nd nd hpl, R.ewd ▸ hwd, e1 ▸ find_nd nd hg, by rw [R.ecs]; exact ⟨c0, c1⟩, e2, fun x hx => ?_, R.nd⟩
  have := R.mv x hx
  rw [R.ecs]
  by_cases h0 : 0 < c
  · rw [if_pos h0] at this
    exact ⟨⟨by omega, this.2⟩, fun z => by omega⟩
  · rw [if_neg h0] at this
    exact ⟨⟨by omega, this.2⟩, fun z => by omega⟩
structure PartsOk (B : BK) : Prop where
  w : namesN B.ws
  wl : 1 ≤ B.ws.length ∧ B.ws.length ≤ 3
  p : namesN (B.pls.map fun p => p.1)
  pl : 1 ≤ B.pls.length
  ok : ∀ p ∈ B.pls, plOk p
  st : ∃ p ∈ B.pls, p.1 = B.st ∧ p.2.1 = 0
  keys : B.rs.map keyR = keysOf B.ws B.pls
  good : ∀ r ∈ B.rs, GoodR B.ws B.pls r
theorem PartsOk.nd {B : BK} (h : PartsOk B) : (B.rs.map keyR).Nodup := by
  rw [h.keys]
  exact keys_nd h.w.1.2 h.p.1.2
/-- what is asked of a book, whatever the order of its rules -/
theorem PartsOk.book {B : BK} (h : PartsOk B) (h60 : B.pls.length ≤ 60) {rs : List Ru} (pm : rs.Perm B.rs) : BookOk ⟨B.ws, B.pls, B.st, rs⟩ ∧ (BK.mk B.ws B.pls B.st rs).rules = B.rs := by
  have nd' : (rs.map keyR).Nodup := ((pm.map keyR).nodup_iff).mpr h.nd
  refine ⟨⟨⟨h.wl, h.w.1⟩, ⟨⟨h.pl, h60⟩, h.p.1⟩, ?_, ⟨fun r hr => good_ok h.p.1.2 (h.good r (pm.mem_iff.mp hr)), nd'⟩, fun k hk => ?_⟩, ?_⟩
  · obtain ⟨p, hp, e, h0⟩ := h.st
    exact ⟨p, e ▸ find_nd h.p.1.2 hp, h0⟩
  · rw [findR_is, (pm.map keyR).mem_iff, h.keys]
    exact hk
  · show orderR (keysOf B.ws B.pls) rs = B.rs
    rw [← h.keys]
    exact order_perm h.nd pm
def partsD (B : BK) : PyData := .list [.list (B.ws.map PyData.str), .list (B.pls.map plD), .str B.st, .list (B.rs.map fun r => ruA (true, r))]
abbrev s_law_parts : Stmt := topS 45
theorem sc_law_parts : FnScope ["numbers", "most", "draw", "words", "names", "places", "name", "slots", "at", "rules", "place", "word", "case"] ["numbers", "most"] (defScope s_law_parts) := ⟨rfl, rfl, rfl, by decide +kernel, rfl, by decide +kernel, by decide +kernel⟩
def spParts : Sp := fun vs H Q _ => ∃ (vn : V) (nums : List Int) (m : Nat) (G : Hp), vs = [vn, .int m] ∧ Rp G vn (.list (nums.map PyData.int)) ∧ Sm nums ∧ (40 ≤ nums.length ∧ nums.length ≤ 1000) ∧ (1 ≤ m ∧ m ≤ 36) ∧ Ex G H ∧
  ∀ (B : BK) v G2 H2, PartsOk B → B.pls.length ≤ m → Stp G H G2 H2 → Rp G2 v (partsD B) → Q v H2
theorem ok_law_parts {f f1 f2 f3 : Addr} {fd fd1 fd2 fd3 : FuncData} (F : Fun K "_law_parts" "_law_parts" s_law_parts f fd) (Z : Zs mg) (G_law_next : Df P w K mg base CX0 1 "_law_next" f1 fd1 ["draw", "many"] spNext) (G_law_names : Df P w K mg base CX0 1 "_law_names" f2 fd2 ["numbers", "at", "many"] spLNames)
    (G_law_rule : Df P w K mg base CX0 3 "_law_rule" f3 fd3 ["draw", "places", "place", "word", "case"] spRule) : FnOk P w K mg base CX0 4 f fd ["numbers", "most"] spParts := by
  refine F.ok sc_law_parts (fun vs H Q E h => ?_) (fun cdv A outer s H vs Q E hr h => ?_)
  · obtain ⟨vn, nums, m, G, rfl, _⟩ := h
    rfl
  · obtain ⟨vn, nums, m, G, rfl, hv, sm, hl, hm, e, q⟩ := h
    refine ⟨_, (pss_cons (ps_set (i := 2) sc_law_parts.nd rfl (Or.inl rfl) (pe_lst (pa_cons (pv 0) (pa_cons pe_int pa_nil))))
      (pss_cons (ps_set (i := 3) sc_law_parts.nd rfl (Or.inl rfl) (pe_call G_law_names.ok (hr.mono (by decide)) (by rfl) G_law_names.g G_law_names.k G_law_names.b .nil pass0 (pa_cons (pv 0) (pa_cons pe_int (pa_cons (pe_op (k_addU K rfl) pe_int (pe_call G_law_next.ok (hr.mono (by decide)) (by rfl) G_law_next.g G_law_next.k G_law_next.b .nil pass0 (pa_cons (pv 2) (pa_cons pe_int pa_nil)))) pa_nil)))))
      (pss_cons (ps_set (i := 4) sc_law_parts.nd rfl (Or.inl rfl) (pe_call G_law_names.ok (hr.mono (by decide)) (by rfl) G_law_names.g G_law_names.k G_law_names.b .nil pass0 (pa_cons (pv 0) (pa_cons pe_int (pa_cons (pe_op (k_addU K rfl) pe_int (pe_call G_law_next.ok (hr.mono (by decide)) (by rfl) G_law_next.g G_law_next.k G_law_next.b .nil pass0 (pa_cons (pv 2) (pa_cons (pv 1) pa_nil)))) pa_nil)))))
      (pss_cons (ps_set (i := 5) sc_law_parts.nd rfl (Or.inl rfl) (pe_lst pa_nil))
      (pss_cons (ps_for PassesOwn.never rfl (k_piL K rfl (pv 4)) (pg_name (i := 6) sc_law_parts.nd rfl (Or.inl rfl)) (pss_cons (ps_set (i := 7) sc_law_parts.nd rfl (Or.inl rfl) (pe_ix (k_ix K rfl) (pe_lst (pa_cons pe_int (pa_cons pe_int (pa_cons pe_int (pa_cons pe_int (pa_cons pe_int (pa_cons pe_int (pa_cons pe_int pa_nil)))))))) (pe_call G_law_next.ok (hr.mono (by decide)) (by rfl) G_law_next.g G_law_next.k G_law_next.b .nil pass0 (pa_cons (pv 2) (pa_cons pe_int pa_nil))) (fun _ _ => rfl)))
        (pss_one (ps_expr (pe_bm PySem.F.plainAttrs_list PySem.F.slot_list_append PySem.F.type_list_append mt_append (pv 5) (pa_cons (pe_tup (pa_cons (pv 6) (pa_cons (pv 7) (pa_cons (pe_cmpR (k_eqD K rfl hr.units) (pe_call G_law_next.ok (hr.mono (by decide)) (by rfl) G_law_next.g G_law_next.k G_law_next.b .nil pass0 (pa_cons (pv 2) (pa_cons pe_int pa_nil))) pe_int (nomark _)) pa_nil)))) pa_nil))))))
      (pss_cons (ps_set (i := 8) sc_law_parts.nd rfl (Or.inl rfl) (pe_call G_law_next.ok (hr.mono (by decide)) (by rfl) G_law_next.g G_law_next.k G_law_next.b .nil pass0 (pa_cons (pv 2) (pa_cons (pe_callB (k_len K rfl) (by rfl) Z.len bt_len (pa_cons (pv 4) pa_nil)) pa_nil))))
      (pss_cons (ps_asg (pe_tup (pa_cons (pe_ix (k_ix K rfl) (pv 4) (pv 8) (fun _ _ => rfl)) (pa_cons pe_int (pa_cons (pe_ix (k_ix K rfl) (pe_ix (k_ix K rfl) (pv 5) (pv 8) (fun _ _ => rfl)) pe_int (fun _ _ => rfl)) pa_nil)))) (pg_sub (pv 5) (pv 8) set_list))
      (pss_cons (ps_set (i := 9) sc_law_parts.nd rfl (Or.inl rfl) (pe_lst pa_nil))
      (pss_cons (ps_for PassesOwn.never rfl (k_piL K rfl (pv 5)) (pg_name (i := 10) sc_law_parts.nd rfl (Or.inl rfl)) (pss_one (ps_for PassesOwn.never rfl (k_piL K rfl (pv 3)) (pg_name (i := 11) sc_law_parts.nd rfl (Or.inl rfl)) (pss_one (ps_for PassesOwn.never rfl (pi_range1 (by rfl) Z.range (pa_cons (pe_op (k_addU K rfl) (pe_ix (k_ix K rfl) (pv 10) pe_int (fun _ _ => rfl)) pe_int) pa_nil)) (pg_name (i := 12) sc_law_parts.nd rfl (Or.inl rfl)) (pss_one (ps_expr (pe_bm PySem.F.plainAttrs_list PySem.F.slot_list_append PySem.F.type_list_append mt_append (pv 9) (pa_cons (pe_call G_law_rule.ok (hr.mono (by decide)) (by rfl) G_law_rule.g G_law_rule.k G_law_rule.b .nil pass0 (pa_cons (pv 2) (pa_cons (pv 5) (pa_cons (pv 10) (pa_cons (pv 11) (pa_cons (pv 12) pa_nil)))))) pa_nil)))))))))
      (pss_one (ps_ret (pe_lst (pa_cons (pv 3) (pa_cons (pv 5) (pa_cons (pe_ix (k_ix K rfl) (pv 4) (pv 8) (fun _ _ => rfl)) (pa_cons (pv 9) pa_nil)))))))))))))))), ?_⟩
    -- draw
    refine ⟨vn, rfl, sz_of (show 2 ≤ 100000 by decide), fun p hp => ?_⟩
    have g0 := fresh_back e hp
    have S0 : Stp G (hid p H) G (upd H p (.lst [vn, .int 40])) := (Stp.idP e).mutP g0
    have d0 : Dr G (upd H p (.lst [vn, .int 40])) p vn nums := ⟨S0.gh, g0, hv, by omega, 40, by decide, upd_same⟩
    generalize upd H p (.lst [vn, .int 40]) = H0 at S0 d0
    -- words
    refine ⟨vn, rfl, .ref p, rfl, p, vn, nums, 3, G, rfl, d0, by decide, fun r G1 H1 r0 r1 s1 d1 => ?_⟩
    obtain ⟨r, rfl⟩ := Int.eq_ofNat_of_zero_le r0
    refine .inl ⟨1, r, rfl, rfl, ?_⟩
    refine ⟨vn, nums, 8, 1 + r, G1, rfl, d1.n, sm, hl.1, by decide, by omega, d1.ex, fun wsn v1 G2 H2 hwl hwn s2 rw_ => ?_⟩
    have S2 : Stp G (hid p H) G2 H2 := (S0.transP s1).trans s2
    have d2 := d1.step s2
    -- names
    refine ⟨vn, rfl, .ref p, rfl, .int m, rfl, p, vn, nums, m, G2, rfl, d2, by omega, fun r2 G3 H3 r20 r21 s3 d3 => ?_⟩
    obtain ⟨r2, rfl⟩ := Int.eq_ofNat_of_zero_le r20
    refine .inl ⟨1, r2, rfl, rfl, ?_⟩
    refine ⟨vn, nums, 14, 1 + r2, G3, rfl, d3.n, sm, hl.1, by decide, by omega, d3.ex, fun nsn v2 G4 H4 hnl hnn s4 rn_ => ?_⟩
    have S4 : Stp G (hid p H) G4 H4 := (S2.transP s3).trans s4
    have d4 := d3.step s4
    have rw4 := rp_mono (s3.g.trans s4.g) _ _ rw_
    have hw3 : 1 ≤ wsn.length ∧ wsn.length ≤ 3 := by omega
    have hn36 : 1 ≤ nsn.length ∧ nsn.length ≤ m := by omega
    clear S0 d0 s1 d1 s2 S2 d2 s3 d3 s4 rw_ hwl hnl r0 r1 r20 r21
    -- places = []
    show tSeq _ _ _ _ _
    refine w_new fun pp npp => ?_
    have ne := d4.ne npp
    have op0 : Own G4 (hid p H4) pp [] G4 (upd H4 pp (.lst [])) := (Own.new d4.ex npp).wk
    have d4' := d4.mut (o := .lst []) op0.g ne
    refine w_forL (as := nsn) (f := PyData.str) (ed_var rfl rn_) op0.s.gh (fun Gl i σ' H' => ∃ (G' : Hp) (pls : List Pl) (y6 y7 : Option V), σ' = [some vn, some (.int m), some (.ref p), some v1, some v2, some (.ref pp), y6, y7, none, none, none, none, none] ∧ Own G4 (hid p H4) pp (pls.map plD) G' H' ∧ Dr G' H' p vn nums ∧ Ex Gl G' ∧ (pls.map fun p => p.1) = nsn.take i ∧ ∀ p ∈ pls, plOk p)
      (fun G5 H5 s5 => ⟨G5, [], none, none, rfl, op0.step s5, d4'.step s5, Ex.refl _, rfl, fun _ h => (nomatch h)⟩) (fun Gl i σ' H' hp => ?_) (fun Gl i n vv σ' H' eG hi hvv hp => ?_) (fun Gl σ' H' eG hp => ?_)
    · obtain ⟨G', _, _, _, _, o, _, x, _⟩ := hp
      exact x.trans o.s.gh
    · obtain ⟨G', pls, y6, y7, rfl, o, d, x, h1, h2⟩ := hp
      obtain rfl := rp_str hvv
      have hil : i < nsn.length := (List.getElem?_eq_some_iff.mp hi).1
      have hpl : pls.length = i := by
        have := congrArg List.length h1
        rw [List.length_map, List.length_take] at this
        omega
      -- slots = [..][next]
      show tSeq _ _ _ _ _
      refine w_opL (d := .list ([0, 1, 1, 2, 2, 3, 6].map PyData.int)) (ev_at d.ex (ed_lst (es_cons (ed_c (.int 0)) (es_cons (ed_c (.int 1)) (es_cons (ed_c (.int 1)) (es_cons (ed_c (.int 2)) (es_cons (ed_c (.int 2)) (es_cons (ed_c (.int 3)) (es_cons (ed_c (.int 6)) es_nil))))))) (by simp))) fun v5 G5 H5 s5 r5 => ?_
      have d5 := d.step s5
      have o5 := o.step s5
      refine ⟨.ref p, rfl, p, vn, nums, 7, G5, rfl, d5, by decide, fun k G6 H6 k0 k1 s6 d6 => ?_⟩
      obtain ⟨k, rfl⟩ := Int.eq_ofNat_of_zero_le k0
      obtain ⟨sl, hsl⟩ : ∃ sl, ([0, 1, 1, 2, 2, 3, 6] : List Int)[k]? = some sl := ⟨_, List.getElem?_eq_getElem (show k < 7 by omega)⟩
      have hsl6 : 0 ≤ sl ∧ sl ≤ 6 := by
        have := List.mem_of_getElem? hsl
        simp at this
        omega
      have o6 := o5.stepP s6 ne
      refine r2_ixl (d := .int sl) (atI_nat (j := k) (by rw [List.getElem?_map, hsl]; rfl)) G6 H6 _ _ d6.ex (rp_mono s6.g _ _ r5) (.int _) _ fun v7 G7 H7 s7 r7 => ?_
      obtain rfl := rp_int r7
      have d7 := d6.step s7
      have o7 := o6.step s7
      obtain ⟨xs, hx, rx⟩ := o7.at_
      refine ⟨.ref pp, rfl, .inl ⟨rfl, _, sq_of hx⟩, .str n, rfl, .int sl, rfl, .ref p, rfl, p, vn, nums, 2, G7, rfl, d7, by decide, fun k2 G8 H8 k20 k21 s8 d8 => ?_⟩
      have o8 := o7.stepP s8 ne
      have hx8 : H8 pp = some (.lst xs) := s8.h _ _ ((hid_ne ne).trans hx)
      refine h_run (te := tC (.int 1)) (d := .int 1) (ev_at d8.ex (ed_c (.int 1))) fun vc Gc Hc sc rc => ?_
      obtain rfl := rp_int rc
      refine r2_eq (K := K) (d := .int k2) (e := .int 1) rfl rfl Gc Hc _ _ sc.gh (.int _) (.int _) _ fun v9 G9 H9 s9 r9 => ?_
      replace s9 := sc.trans s9
      obtain rfl := rp_bl r9
      generalize PyData.eqv (.int k2) (.int 1) = an
      have d9 := d8.step s9
      have o9 := o8.step s9
      have hx9 := s9.h _ _ hx8
      refine ⟨sz_of (show 3 ≤ 100000 by decide), fun t ht => ?_⟩
      have s10 := Stp.new (o := .tup [.str n, .int sl, .bl an]) d9.ex ht
      have d10 := d9.step s10
      have o10 := o9.step s10
      have rx10 := ra_mono ((s8.g.trans s9.g).trans s10.g) _ _ rx
      refine ⟨pp, xs, .ref t, rfl, rfl, s10.h _ _ hx9, sz_lt (by rw [ra_len rx, List.length_map]; omega), ?_⟩
      refine ⟨_, pls ++ [(n, sl, an)], _, _, rfl, ?_, d10.mut o10.g ne, ((((x.trans s5.g).trans s6.g).trans s7.g).trans ((s8.g.trans s9.g).trans s10.g)), ?_, fun p hp => ?_⟩
      · rw [List.map_append]
        exact o10.put (ra_app rx10 (ra_one (.tup (.inl upd_same) (.cons (.str _) (.cons (.int _) (.cons (.bl _) .nil))))))
      · rw [List.map_append, h1, List.take_add_one, hi]
        rfl
      · rcases List.mem_append.mp hp with h | h
        · exact h2 p h
        · rw [List.mem_singleton.mp h]
          exact hsl6
    · obtain ⟨G5, pls, y6, y7, rfl, o5, d5, x5, h1, h2⟩ := hp
      rw [List.take_length] at h1
      have hpl : pls.length = nsn.length := by rw [← h1, List.length_map]
      have rn5 := rp_mono (eG.trans x5) _ _ rn_
      have rw5 := rp_mono (eG.trans x5) _ _ rw4
      have S5 : Stp G (hid p H) G5 _ := S4.transP o5.s
      -- at = next
      refine ⟨.ref p, rfl, ?_⟩
      refine h_run (d := .int nsn.length) (ev_at d5.ex (ed_is (by rw [List.length_map]) (ed_cb (es_cons (ed_var rfl rn5) es_nil) rd_lenl))) fun v6 G6 H6 s6 r6 => ?_
      obtain rfl := rp_int r6
      refine ⟨p, vn, nums, nsn.length, G6, rfl, d5.step s6, by omega, fun a G7 H7 a0 a1 s7 d7 => ?_⟩
      obtain ⟨a, rfl⟩ := Int.eq_ofNat_of_zero_le a0
      have ha : a < nsn.length := by omega
      have o7 := (o5.step s6).stepP s7 ne
      have x7 : Ex G5 G7 := s6.g.trans s7.g
      have rn7 := rp_mono x7 _ _ rn5
      obtain ⟨na, hna⟩ : ∃ na, nsn[a]? = some na := ⟨_, List.getElem?_eq_getElem ha⟩
      obtain ⟨pa, hpa⟩ : ∃ pa, pls[a]? = some pa := ⟨_, List.getElem?_eq_getElem (by omega)⟩
      have na1 : pa.1 = na := by
        have : (pls.map fun p => p.1)[a]? = some na := by rw [h1]; exact hna
        rw [List.getElem?_map, hpa] at this
        exact Option.some.inj this
      -- places[at] = (names[at], 0, places[at][2])
      show tSeq _ _ _ _ _
      refine h_run (te := tOp (rIx K) (tVar 4) (tVar 8)) (d := .str na) (ev_at d7.ex (ed_op (ed_var rfl rn7) (ed_var rfl (.int (a : Int))) (r2_ixl (atI_nat (j := a) (by rw [List.getElem?_map, hna]; rfl))))) fun v8 G8 H8 s8 r8 => ?_
      obtain rfl := rp_str r8
      have o8 := o7.step s8
      obtain ⟨Gr, e1, e2, rr⟩ := o8.read
      refine EvH.down (te := tOp (rIx K) (tOp (rIx K) (tVar 5) (tVar 8)) (tC (.int 2))) (d := .bool pa.2.2) e1 e2 rfl (ev_at e2 (ed_op (ed_op (ed_var rfl rr) (ed_var rfl (.int (a : Int))) (r2_ixl (atI_nat (j := a) (by rw [List.getElem?_map, hpa]; rfl)))) (ed_c (.int 2)) (r2_ixt (atI_nat (j := 2) rfl)))) _ fun v9 G9 H9 s9 r9 => ?_
      obtain rfl := rp_bl r9
      have o9 := o8.step s9
      have d9 := (d7.step s8).step s9
      refine ⟨sz_of (show 3 ≤ 100000 by decide), fun t ht => ?_⟩
      have s10 := Stp.new (o := .tup [.str na, .int 0, .bl pa.2.2]) d9.ex ht
      have o10 := o9.step s10
      have d10 := d9.step s10
      have rt : Rp (upd G9 t (.tup [.str na, .int 0, .bl pa.2.2])) (.ref t) (plD (na, 0, pa.2.2)) := .tup (.inl upd_same) (.cons (.str _) (.cons (.int _) (.cons (.bl _) .nil)))
      have x10 : Ex G7 (upd G9 t (.tup [.str na, .int 0, .bl pa.2.2])) := (s8.g.trans s9.g).trans s10.g
      generalize upd G9 t (.tup [.str na, .int 0, .bl pa.2.2]) = G10 at s10 o10 d10 rt x10
      generalize upd H9 t (.tup [.str na, .int 0, .bl pa.2.2]) = H10 at s10 o10 d10
      obtain ⟨xs, hx, rx⟩ := o10.at_
      have lx : xs.length = pls.length := (ra_len rx).trans (List.length_map _)
      refine ⟨.ref pp, rfl, .int a, rfl, pp, xs, a, a, rfl, rfl, hx, ?_, ?_⟩
      · unfold ixN
        rw [if_pos (by omega)]
        rw [if_pos (by omega)]
        rfl
      have o11 : Own G4 (hid p H4) pp ((pls.set a (na, 0, pa.2.2)).map plD) G10 (upd H10 pp (.lst (xs.set a (.ref t)))) := o10.put (by rw [List.map_set]; exact ra_set rt a rx)
      have d11 := d10.mut (o := .lst (xs.set a (.ref t))) o10.g ne
      have hp2 : ((pls.set a (na, 0, pa.2.2)).map fun p => p.1) = nsn := by
        rw [List.map_set, h1]
        apply List.ext_getElem?
        intro i
        rw [List.getElem?_set]
        by_cases hia : a = i
        · subst hia
          rw [if_pos rfl, if_pos ha, hna]
        · rw [if_neg hia]
      have hok2 : ∀ p ∈ pls.set a (na, 0, pa.2.2), plOk p := fun p hp => by
        rcases List.mem_or_eq_of_mem_set hp with h | h
        · exact h2 p h
        · rw [h]
          exact ⟨Int.le_refl _, (show (0 : Int) ≤ 6 by decide)⟩
      have hst : (na, (0 : Int), pa.2.2) ∈ pls.set a (na, 0, pa.2.2) := List.mem_of_getElem? (by rw [List.getElem?_set_self (by omega)])
      have hl2 : (pls.set a (na, 0, pa.2.2)).length = nsn.length := by rw [List.length_set, hpl]
      generalize pls.set a (na, 0, pa.2.2) = pl2 at o11 hp2 hok2 hst hl2
      generalize upd H10 pp (.lst (xs.set a (.ref t))) = H11 at o11 d11
      clear o10 o9 o8 o7 hx rx lx hpa h1 h2 hpl na1
      obtain ⟨xs2, hx2, S12, e12, rp12⟩ := o11.fin
      have d12 := d11.up e12 S12.gh ((upd_ne ne.symm).trans d11.g)
      have x12 : Ex G7 (upd G10 pp (.lst xs2)) := x10.trans e12
      generalize upd G10 pp (.lst xs2) = G12 at S12 e12 rp12 d12 x12
      have rn12 := rp_mono x12 _ _ rn7
      have rw12 := rp_mono (x7.trans x12) _ _ rw5
      have S12' : Stp G (hid p H) G12 H11 := S4.transP S12
      clear o11 d11 d10 d9 d7 d5 o5 s10 s9 s8 s7 s6 S5 rn5 rn7 rw5 x5 x7 x10 e12 x12 e1 e2 rr
      -- rules = []
      show tSeq _ _ _ _ _
      refine w_new fun pr npr => ?_
      have ner := d12.ne npr
      have or0 : Own G12 (hid p H11) pr [] G12 (upd H11 pr (.lst [])) := (Own.new d12.ex npr).wk
      have d12' := d12.mut (o := .lst []) or0.g ner
      have lp36 : pl2.length ≤ 36 := by omega
      -- how the rules' list grows
      have bound : ∀ ks : List (List Key), ∀ rs : List Ru, rs.map keyR = ks → ((rs.map fun r => ruA (true, r)).length) = ks.length := fun ks rs h => by rw [List.length_map, ← h, List.length_map]
      have bP : ∀ i, ((pl2.take i).flatMap fun p => keysW p wsn).length ≤ 36 * 21 := fun i => by
        refine Nat.le_trans (flat_len _ 21 _ fun p hp => ?_) ?_
        · refine Nat.le_trans (keysW_len (hok2 p (List.mem_of_mem_take hp)) wsn) ?_
          omega
        · rw [List.length_take]
          exact Nat.mul_le_mul_right 21 (by omega)
      refine w_forL (as := pl2) (f := plD) (ed_var rfl rp12) or0.s.gh (fun Gl i σ' H' => ∃ (G' : Hp) (rs : List Ru) (y10 y11 y12 : Option V), σ' = [some vn, some (.int m), some (.ref p), some v1, some v2, some (.ref pp), y6, y7, some (.int a), some (.ref pr), y10, y11, y12] ∧ Own G12 (hid p H11) pr (rs.map fun r => ruA (true, r)) G' H' ∧ Dr G' H' p vn nums ∧ Ex Gl G' ∧ rs.map keyR = (pl2.take i).flatMap (fun p => keysW p wsn) ∧ ∀ r ∈ rs, GoodR wsn pl2 r)
        (fun G13 H13 s13 => ⟨G13, [], none, none, none, rfl, or0.step s13, d12'.step s13, Ex.refl _, rfl, fun _ h => (nomatch h)⟩) (fun Gl i σ' H' hp => ?_) (fun Gl i pl vv σ' H' eG hi hvv hp => ?_) (fun Gl σ' H' eG hp => ?_)
      · obtain ⟨G', _, _, _, _, _, o, _, x, _⟩ := hp
        exact x.trans o.s.gh
      · obtain ⟨G', rs, y10, y11, y12, rfl, o, d, xg, h3, h4⟩ := hp
        have hplm : pl ∈ pl2 := List.mem_of_getElem? hi
        have pok := hok2 pl hplm
        show tFor _ _ _ _ _ _
        refine w_forL1 (as := wsn) (f := PyData.str) (ed_var rfl (rp_mono (eG.trans xg) _ _ rw12)) d.ex (fun Gm j σ' H' => ∃ (G' : Hp) (rs : List Ru) (y11 y12 : Option V), σ' = [some vn, some (.int m), some (.ref p), some v1, some v2, some (.ref pp), y6, y7, some (.int a), some (.ref pr), some vv, y11, y12] ∧ Own G12 (hid p H11) pr (rs.map fun r => ruA (true, r)) G' H' ∧ Dr G' H' p vn nums ∧ Ex Gm G' ∧ Ex Gl G' ∧ rs.map keyR = (pl2.take i).flatMap (fun p => keysW p wsn) ++ (wsn.take j).flatMap (fun w => keysP w pl (pl.2.1 + 1).toNat) ∧ ∀ r ∈ rs, GoodR wsn pl2 r)
          (fun G13 H13 s13 => ⟨G13, rs, y11, y12, rfl, o.step s13, d.step s13, Ex.refl _, xg.trans s13.g, by rw [h3, List.take_zero]; simp, h4⟩) (fun Gm j σ' H' hp => ?_) (fun Gm j wd vw σ' H' eG2 hj hvw hp => ?_) (fun Gm σ' H' eG2 hp => ?_)
        · obtain ⟨G', _, _, _, _, o, _, x, _⟩ := hp
          exact x.trans o.s.gh
        · obtain ⟨G', rs, y11, y12, rfl, o, d, xm, xl, h5, h6⟩ := hp
          obtain rfl := rp_str hvw
          have hwm : wd ∈ wsn := List.mem_of_getElem? hj
          have hjl : j < wsn.length := (List.getElem?_eq_some_iff.mp hj).1
          have bW : ((wsn.take j).flatMap fun w => keysP w pl (pl.2.1 + 1).toNat).length ≤ 21 := by
            refine Nat.le_trans (keysW_len pok (wsn.take j)) ?_
            rw [List.length_take]
            omega
          have rpl : Rp G' vv (plD pl) := rp_mono xl _ _ hvv
          show tFor _ _ _ _ _ _
          refine w_forR1 (n := pl.2.1 + 1) (es_cons (ed_op (ed_op (ed_var rfl rpl) (ed_c (.int 1)) (r2_ixt (atI_nat (j := 1) rfl))) (ed_c (.int 1)) r2_add) es_nil) d.ex (by have := pok.1; have := pok.2; omega) (fun c σ' H' => ∃ (G' : Hp) (rs : List Ru) (y12 : Option V), σ' = [some vn, some (.int m), some (.ref p), some v1, some v2, some (.ref pp), y6, y7, some (.int a), some (.ref pr), some vv, some (.str wd), y12] ∧ Own G12 (hid p H11) pr (rs.map fun r => ruA (true, r)) G' H' ∧ Dr G' H' p vn nums ∧ Ex Gm G' ∧ Ex Gl G' ∧ rs.map keyR = ((pl2.take i).flatMap (fun p => keysW p wsn) ++ (wsn.take j).flatMap (fun w => keysP w pl (pl.2.1 + 1).toNat)) ++ keysP wd pl c ∧ ∀ r ∈ rs, GoodR wsn pl2 r)
            (fun G13 H13 s13 => ⟨G13, rs, y12, rfl, o.step s13, d.step s13, xm.trans s13.g, xl.trans s13.g, by rw [h5]; simp [keysP], h6⟩) (fun c σ' H' hc hp => ?_) (fun σ' H' hp => ?_)
          · clear o d xm xl h5 h6 rpl
            obtain ⟨G', rs, y12, rfl, o, d, xm, xl, h5, h6⟩ := hp
            obtain ⟨xs, hx, rx⟩ := o.at_
            have rpl : Rp G' vv (plD pl) := rp_mono xl _ _ hvv
            have rps : Rp G' (.ref pp) (.list (pl2.map plD)) := rp_mono (eG.trans xl) _ _ rp12
            refine ⟨.ref pr, rfl, .inl ⟨rfl, _, sq_of hx⟩, .ref p, rfl, .ref pp, rfl, vv, rfl, .str wd, rfl, .int c, rfl, p, vn, .ref pp, vv, nums, pl2, pl, wd, c, G', rfl, d, rps, rpl, by omega, hok2, pok, ⟨_, hst, rfl⟩, fun r v13 G13 H13 R s13 d13 r13 => ?_⟩
            have o13 := o.stepP s13 ner
            have hx13 : H13 pr = some (.lst xs) := s13.h _ _ ((hid_ne ner).trans hx)
            have lk := bound _ rs h5
            have c6 : (c : Int) ≤ pl.2.1 := by omega
            refine ⟨pr, xs, v13, rfl, rfl, hx13, sz_lt ?_, ?_⟩
            · rw [ra_len rx, lk, List.length_append, List.length_append, keysP_len]
              have := bP i
              have := pok.2
              omega
            · refine ⟨G13, rs ++ [r], _, rfl, ?_, d13.mut o13.g ner, xm.trans s13.g, xl.trans s13.g, ?_, fun q hq => ?_⟩
              · rw [List.map_append]
                exact o13.put (ra_app (ra_mono s13.g _ _ rx) (ra_one r13))
              · have ek : keysP wd pl (c + 1) = keysP wd pl c ++ [keyR r] := by
                  unfold keysP keyR
                  rw [List.range_succ, List.map_append, R.epl, R.ewd, R.ecs]
                  rfl
                rw [List.map_append, h5, ek, ← List.append_assoc]
                rfl
              · rcases List.mem_append.mp hq with z | z
                · exact h6 q z
                · rw [List.mem_singleton.mp z]
                  exact ⟨pl, hplm, wd, hwm, c, R, Int.natCast_nonneg c, c6⟩
          · clear o d xm xl h5 h6 rpl
            obtain ⟨G', rs, y12, rfl, o, d, xm, xl, h5, h6⟩ := hp
            refine ⟨G', rs, _, _, rfl, o, d, xm, xl, ?_, h6⟩
            rw [h5, flat_take _ hj, List.append_assoc]
        · clear o d xg h3 h4
          obtain ⟨G', rs, y11, y12, rfl, o, d, xm, xl, h5, h6⟩ := hp
          refine ⟨G', rs, _, _, _, rfl, o, d, xl, ?_, h6⟩
          rw [h5, List.take_length, flat_take _ hi]
          rfl
      · obtain ⟨G13, rs, y10, y11, y12, rfl, o, d, xg, h3, h4⟩ := hp
        rw [List.take_length] at h3
        obtain ⟨xs3, hx3, S14, e14, r14⟩ := o.fin
        have x14 := (eG.trans xg).trans e14
        have S : Stp G H _ _ := (hid_none hp ▸ S12'.transP S14 : Stp G H _ _)
        refine w_ret (d := .list [.list (wsn.map PyData.str), .list (pl2.map plD), .str na, .list (rs.map fun r => ruA (true, r))]) (ev_at S14.gh (ed_lst (es_cons (ed_var rfl (rp_mono x14 _ _ rw12)) (es_cons (ed_var rfl (rp_mono x14 _ _ rp12)) (es_cons (ed_op (ed_var rfl (rp_mono x14 _ _ rn12)) (ed_var rfl (.int (a : Int))) (r2_ixl (atI_nat (j := a) (by rw [List.getElem?_map, hna]; rfl)))) (es_cons (ed_var rfl r14) es_nil)))) (by simp))) fun v15 G15 H15 s15 r15 => ?_
        exact q ⟨wsn, pl2, na, rs⟩ v15 G15 H15 ⟨hwn, hw3, hp2 ▸ hnn, by show 1 ≤ pl2.length; omega, hok2, ⟨_, hst, rfl, rfl⟩, h3, h4⟩ (by show pl2.length ≤ m; omega) (S.trans s15) r15
end
end Fw

namespace Fw
open PySem PySem.Spec PyProof.Rows L2 Evl
open TL (tl len_tl ext_tl tl_append tl_mk mk_tl)
/-! ### books that a law makes, and what they are held against -/
section
variable {P : Program} {w : World} {K : PySem.W.Frag} {mg : Str → Option Value} {base : Heap}
def partsA (ws : List Str) (pls : List Pl) (st : Str) (rs : List (Bool × Ru)) : PyData := .list [.list (ws.map PyData.str), .list (pls.map plD), .str st, .list (rs.map ruA)]
def frozD (ws : List Str) (pls : List Pl) (st : Str) (rs : List Ru) : PyData := .tuple [.tuple (ws.map PyData.str), .tuple (pls.map plD), .str st, .tuple (rs.map ruD)]
theorem parts_A (B : BK) : partsD B = partsA B.ws B.pls B.st (B.rs.map fun r => (true, r)) := by
  unfold partsD partsA
  rw [List.map_map]
  rfl
abbrev s_law_made : Stmt := topS 46
theorem sc_law_made : FnScope ["parts"] ["parts"] (defScope s_law_made) := ⟨rfl, rfl, rfl, by decide +kernel, rfl, by decide +kernel, by decide +kernel⟩
def spMade (C CX : Addr) : Sp := fun vs H Q E => ∃ (vp : V) (B : BK) (rs : List (Bool × Ru)) (G : Hp), vs = [vp] ∧ Rp G vp (partsA B.ws B.pls B.st rs) ∧ Ex G H ∧ B.rs = rs.map (fun r => r.2) ∧ B.ws.length ≤ 1000 ∧ B.pls.length ≤ 1000 ∧ rs.length ≤ 50000 ∧ (∀ n ∈ B.ws, n.length ≤ 1000) ∧ (∀ p ∈ B.pls, p.1.length ≤ 1000) ∧ (∀ p ∈ B.pls, plOk p) ∧ (∀ r ∈ rs, r.2.mv.length ≤ 1000) ∧
  (BookOk B → ∀ a G2 H2, Stp G H G2 H2 → IsBook G2 C a B → Q (.ref a) H2) ∧ (¬ BookOk B → ∀ G2 H2, Stp G H G2 H2 → E (.ref CX) none H2)
theorem ok_law_made {f C CX f1 : Addr} {fd fd1 : FuncData} (F : Fun K "_law_made" "_law_made" s_law_made f fd) (Z : Zs mg) (c : CB K C) (Mk_Book : Mk K C f1) (g_Book : mg "Book" = some (.ref C))
    (G_Book_init : FnOk P w K mg base (L2.CX P w) 6 f1 fd1 ["self", "words", "places", "start", "rules"] (spInit C CX)) (KB_Book : KBn K fd1 ["self", "words", "places", "start", "rules"] 1 ["words", "places", "start", "rules"] (fun us ws => us ++ ws) (fun vs zs => vs ++ zs)) :
    FnOk P w K mg base (L2.CX P w) 8 f fd ["parts"] (spMade C CX) := by
  refine F.okX sc_law_made (fun vs H Q E h => ?_) (fun cdv A outer s H vs Q E hr h => ?_)
  · obtain ⟨vp, B, rs, G, rfl, _⟩ := h
    rfl
  · obtain ⟨vp, B, rs, G, rfl, hv, e, eB, l1, l2, l3, m1, m2, m3, m4, q1, q2⟩ := h
    refine ⟨_, (pss_one (ps_ret (pe_makeK0 Mk_Book G_Book_init (hr.mono (by decide)) (by rfl) g_Book KB_Book (passes_call (takes_of rfl rfl rfl rfl) (fun _ _ _ _ h => h)) (pk_cons (pe_callTy (k_list K rfl) (by rfl) Z.list bt_list (pa_cons (pe_ix (k_ix K rfl) (pv 0) pe_int (fun _ _ => rfl)) pa_nil)) (pk_cons (pe_callTy (k_list K rfl) (by rfl) Z.list bt_list (pa_cons (pe_ix (k_ix K rfl) (pv 0) pe_int (fun _ _ => rfl)) pa_nil)) (pk_cons (pe_ix (k_ix K rfl) (pv 0) pe_int (fun _ _ => rfl)) (pk_cons (pe_callTy (k_list K rfl) (by rfl) Z.list bt_list (pa_cons (pe_ix (k_ix K rfl) (pv 0) pe_int (fun _ _ => rfl)) pa_nil)) pk_nil))))))), ?_⟩
    have it {σ : L2.St} {d : PyData} (j : Nat) (hs : σ[0]? = some (some vp)) (hd : [PyData.list (B.ws.map PyData.str), .list (B.pls.map plD), .str B.st, .list (rs.map ruA)][j]? = some d) : EvD (tOp (rIx K) (tVar 0) (tC (.int (j : Int)))) σ G d := ed_op (ed_var hs hv) (ed_c (.int _)) (r2_ixl (atI_nat hd))
    have hA : EvS (tCons (tCB (rListU K) (tCons (tOp (rIx K) (tVar 0) (tC (.int 0))) tNil)) (tCons (tCB (rListU K) (tCons (tOp (rIx K) (tVar 0) (tC (.int 1))) tNil)) (tCons (tOp (rIx K) (tVar 0) (tC (.int 2))) (tCons (tCB (rListU K) (tCons (tOp (rIx K) (tVar 0) (tC (.int 3))) tNil)) tNil))))
        [some vp] G [.list (B.ws.map PyData.str), .list (B.pls.map plD), .str B.st, .list (rs.map ruA)] :=
      es_cons (ed_cb (es_cons (it 0 rfl rfl) es_nil) rd_listl) (es_cons (ed_cb (es_cons (it 1 rfl rfl) es_nil) rd_listl) (es_cons (it 2 rfl rfl) (es_cons (ed_cb (es_cons (it 3 rfl rfl) es_nil) rd_listl) es_nil)))
    refine d_make hA e rfl fun vs a dx G2 H2 s p o => ?_
    obtain ⟨v1, v2, v3, v4, rfl, r1, r2, r3, r4⟩ := ra_four p
    obtain rfl := rp_str r3
    exact ⟨a, dx, v1, v2, v4, true, true, true, B, rs, G2, H2, rfl, o, r1, r2, r4, eB, l1, l2, l3, m1, m2, m3, m4, fun ok G3 H3 s3 bk => ⟨rfl, q1 ok a G3 H3 (s.trans s3) bk⟩, fun no G3 H3 s3 => q2 no G3 H3 (s.trans s3)⟩
abbrev s_law_frozen : Stmt := topS 47
theorem sc_law_frozen : FnScope ["parts", "rules", "rule", "place"] ["parts"] (defScope s_law_frozen) := ⟨rfl, rfl, rfl, by decide +kernel, rfl, by decide +kernel, by decide +kernel⟩
def spFrozen : Sp := fun vs H Q _ => ∃ (vp : V) (ws : List Str) (pls : List Pl) (st : Str) (rs : List (Bool × Ru)) (G : Hp), vs = [vp] ∧ Rp G vp (partsA ws pls st rs) ∧ Ex G H ∧ pls.length ≤ 1000 ∧ rs.length ≤ 50000 ∧ ∀ v G2 H2, Stp G H G2 H2 → Rp G2 v (frozD ws pls st (rs.map fun r => r.2)) → Q v H2
theorem ok_law_frozen {f : Addr} {fd : FuncData} (F : Fun K "_law_frozen" "_law_frozen" s_law_frozen f fd) (Z : Zs mg) : FnOk P w K mg base CX0 1 f fd ["parts"] spFrozen := by
  refine F.ok sc_law_frozen (fun vs H Q E h => ?_) (fun cdv A outer s H vs Q E hr h => ?_)
  · obtain ⟨vp, ws, pls, st, rs, G, rfl, _⟩ := h
    rfl
  · obtain ⟨vp, ws, pls, st, rs, G, rfl, hv, e, l1, l2, q⟩ := h
    refine ⟨_, (pss_cons (ps_setLc (i := 1) (own := [("rule", 2)]) (g := (gName 2)) (tt := tYes) rfl sc_law_frozen.nd rfl rfl (sw_true rfl rfl rfl (by decide +kernel)) (k_piL K rfl (pe_ix (k_ix K rfl) (pv 0) pe_int (fun _ _ => rfl))) (blkOk_by (N := ["parts", "rules", "rule", "place"]) (sc := defScope s_law_frozen) (own := [("rule", 2)]) (by decide +kernel)) (fun _ _ _ _ _ => (pg_name (i := 2) sc_law_frozen.nd rfl (Or.inl rfl))) (fun _ _ _ _ _ => pts_nil) (fun _ _ _ _ _ => (pe_tup (pa_cons (pe_ix (k_ix K rfl) (pv 2) pe_int (fun _ _ => rfl)) (pa_cons (pe_ix (k_ix K rfl) (pv 2) pe_int (fun _ _ => rfl)) (pa_cons (pe_ix (k_ix K rfl) (pv 2) pe_int (fun _ _ => rfl)) (pa_cons (pe_ix (k_ix K rfl) (pv 2) pe_int (fun _ _ => rfl)) (pa_cons (pe_callTy (k_tup K rfl) (by rfl) Z.tuple bt_tuple (pa_cons (pe_ix (k_ix K rfl) (pv 2) pe_int (fun _ _ => rfl)) pa_nil)) pa_nil))))))))
      (pss_one (ps_ret (pe_tup (pa_cons (pe_callTy (k_tup K rfl) (by rfl) Z.tuple bt_tuple (pa_cons (pe_ix (k_ix K rfl) (pv 0) pe_int (fun _ _ => rfl)) pa_nil)) (pa_cons (pe_callTy (k_tup K rfl) (by rfl) Z.tuple bt_tuple (pa_cons (pe_lc (own := [("place", 3)]) (g := (gName 3)) (tt := tYes) rfl sc_law_frozen.nd (k_piL K rfl (pe_ix (k_ix K rfl) (pv 0) pe_int (fun _ _ => rfl))) (blkOk_by (N := ["parts", "rules", "rule", "place"]) (sc := defScope s_law_frozen) (own := [("place", 3)]) (by decide +kernel)) (fun _ _ _ _ _ => (pg_name (i := 3) sc_law_frozen.nd rfl (Or.inl rfl))) (fun _ _ _ _ _ => pts_nil) (fun _ _ _ _ _ => (pe_callTy (k_tup K rfl) (by rfl) Z.tuple bt_tuple (pa_cons (pv 3) pa_nil)))) pa_nil)) (pa_cons (pe_ix (k_ix K rfl) (pv 0) pe_int (fun _ _ => rfl)) (pa_cons (pe_callTy (k_tup K rfl) (by rfl) Z.tuple bt_tuple (pa_cons (pv 1) pa_nil)) pa_nil)))))))), ?_⟩
    have it {σ : L2.St} {G' : Hp} {d : PyData} (x : Ex G G') (j : Nat) (hs : σ[0]? = some (some vp)) (hd : [PyData.list (ws.map PyData.str), .list (pls.map plD), .str st, .list (rs.map ruA)][j]? = some d) : EvD (tOp (rIx K) (tVar 0) (tC (.int (j : Int)))) σ G' d := ed_op (ed_var hs (rp_mono x _ _ hv)) (ed_c (.int _)) (r2_ixl (atI_nat hd))
    refine w_set (d := .list ((rs.map fun r => r.2).map ruD)) (ev_at e (ed_is (lc_all (by rw [List.map_map]; rfl)) (ed_lcL1 (as := rs) (f := ruA) (y := fun r => ruD r.2) (c := fun _ => true) (it (Ex.refl _) 3 rfl rfl) (by omega) (fun _ => rfl) (fun _ _ _ _ _ _ => et_yes) (fun r hr _ u G' x hu => ?_)))) fun v1 G1 H1 s1 r1 => ?_
    · have ix {j : Nat} {d : PyData} (hd : [PyData.str r.2.pl, .str r.2.wd, .int r.2.cs, .str r.2.go, sq r.1 (r.2.mv.map PyData.int)][j]? = some d) {σ : L2.St} (hs : σ[2]? = some (some u)) : EvD (tOp (rIx K) (tVar 2) (tC (.int (j : Int)))) σ G' d := ed_op (ed_var hs hu) (ed_c (.int _)) (r2_ixt (atI_nat hd))
      exact ed_tup (es_cons (ix (j := 0) rfl rfl) (es_cons (ix (j := 1) rfl rfl) (es_cons (ix (j := 2) rfl rfl) (es_cons (ix (j := 3) rfl rfl) (es_cons (ed_cb (es_cons (ix (j := 4) rfl rfl) es_nil) rd_tupq) es_nil))))) (by simp)
    · have p0 : EvD (tCB (rTupU K) (tCons (tLc (iList K (tOp (rIx K) (tVar 0) (tC (.int 1)))) (gName 3) tYes (tCB (rTupU K) (tCons (tVar 3) tNil)) [3]) tNil)) [some vp, some v1, none, none] G1 (.tuple (pls.map plD)) :=
        ed_cb (es_cons (ed_is (lc_all rfl) (ed_lcL1 (as := pls) (f := plD) (y := plD) (c := fun _ => true) (it s1.g 1 rfl rfl) (by omega) (fun _ => rfl) (fun _ _ _ _ _ _ => et_yes) (fun p hp _ u G' x hu => ed_cb (es_cons (ed_var rfl hu) es_nil) rd_tupt))) es_nil) rd_tupl
      refine w_ret (d := frozD ws pls st (rs.map fun r => r.2)) (ev_at s1.gh (ed_tup (es_cons (ed_cb (es_cons (it s1.g 0 rfl rfl) es_nil) rd_tupl) (es_cons p0 (es_cons (it s1.g 2 rfl rfl) (es_cons (ed_cb (es_cons (ed_var rfl r1) es_nil) rd_tupl) es_nil)))) (by simp))) fun v2 G2 H2 s2 r2 => ?_
      exact q v2 G2 H2 (s1.trans s2) r2
abbrev s_law_same : Stmt := topS 48
theorem sc_law_same : FnScope ["book", "due"] ["book", "due"] (defScope s_law_same) := ⟨rfl, rfl, rfl, by decide +kernel, rfl, by decide +kernel, by decide +kernel⟩
def bookD (B : BK) : PyData := frozD B.ws B.pls B.st B.rules
def spSame (C : Addr) : Sp := fun vs H Q _ => ∃ (a : Addr) (vd : V) (B : BK) (d : PyData) (G : Hp), vs = [.ref a, vd] ∧ IsBook G C a B ∧ Rp G vd d ∧ Ex G H ∧ okD 4 (bookD B) ∧ okD 4 d ∧ ∀ G2 H2, Stp G H G2 H2 → Q (.bl (PyData.eqv (bookD B) d)) H2
theorem ok_law_same {f C pn gn : Addr} {fd fdg : FuncData} (F : Fun K "_law_same" "_law_same" s_law_same f fd) (c : CB K C)
    (pr_rules : PropOf K C "rules" pn gn) (G_get_rules : FnOk P w K mg base CX0 1 gn fdg ["self"] (getSp C "_rules")) (bg_rules : Binds K fdg ["self"] []) : FnOk P w K mg base CX0 3 f fd ["book", "due"] (spSame C) := by
  refine F.ok sc_law_same (fun vs H Q E h => ?_) (fun cdv A outer s H vs Q E hr h => ?_)
  · obtain ⟨a, vd, B, d, G, rfl, _⟩ := h
    rfl
  · obtain ⟨a, vd, B, d, G, rfl, bk, hd, e, o1, o2, q⟩ := h
    refine ⟨_, (pss_one (ps_ret (pe_cmpR (k_eqD K rfl hr.units) (pe_tup (pa_cons (k_fld K rfl (pv 0) rfl) (pa_cons (k_fld K rfl (pv 0) rfl) (pa_cons (k_fld K rfl (pv 0) rfl) (pa_cons (pe_prop (pv 0) c.cl pr_rules G_get_rules (hr.mono (by decide)) bg_rules .nil pass0 rfl) pa_nil))))) (pv 1) (nomark _)))), ?_⟩
    obtain ⟨dx, w1, w2, w4, w7, t5, t6, h0, rw1, rw2, rw4, _, _, rw7⟩ := bk.at_
    refine w_ret (d := .bool (PyData.eqv (bookD B) d)) (ev_at e (ed_op (d := bookD B) (ed_tup (es_cons (ed_fld rfl h0 c.cl c.n1 rfl rw1) (es_cons (ed_fld rfl h0 c.cl c.n2 rfl rw2) (es_cons (ed_fld rfl h0 c.cl c.n3 rfl (.str B.st)) (es_cons (ed_prop rfl h0 rfl rw7) es_nil)))) (by simp)) (ed_var rfl hd) (r2_eq (o1.shaped (by decide)) (o2.shaped (by decide))))) fun v2 G2 H2 s2 r2 => ?_
    obtain rfl := rp_bl r2
    exact q G2 H2 s2
theorem okS_lt {x : Str} (h : ∀ c ∈ tl x, c < 128) : okS x := fun c hc => Nat.lt_trans (h c hc) (by decide)
theorem okD_strs {n : Nat} {ns : List Str} (h : ∀ x ∈ ns, okS x) : okD (n + 1) (.tuple (ns.map PyData.str)) := fun d hd => by
  obtain ⟨x, hx, rfl⟩ := List.mem_map.mp hd
  cases n <;> exact h x hx
theorem parts_okD {B : BK} (h : PartsOk B) : okD 4 (frozD B.ws B.pls B.st B.rs) := by
  have hw : ∀ x ∈ B.ws, okS x := fun x hx => okS_lt (h.w.2 x hx).2
  have hp : ∀ p ∈ B.pls, okS p.1 := fun p hp => okS_lt (h.p.2 p.1 (List.mem_map.mpr ⟨p, hp, rfl⟩)).2
  have hs : okS B.st := by
    obtain ⟨p, hp', e, _⟩ := h.st
    exact e ▸ hp p hp'
  intro d hd
  have hd : d = .tuple (B.ws.map PyData.str) ∨ d = .tuple (B.pls.map plD) ∨ d = .str B.st ∨ d = .tuple (B.rs.map ruD) := by simpa [frozD] using hd
  rcases hd with rfl | rfl | rfl | rfl
  · exact okD_strs hw
  · intro d hd
    obtain ⟨p, hp', rfl⟩ := List.mem_map.mp hd
    intro d hd
    have hd : d = .str p.1 ∨ d = .int p.2.1 ∨ d = .bool p.2.2 := by simpa [plD] using hd
    rcases hd with rfl | rfl | rfl
    · exact hp p hp'
    · trivial
    · trivial
  · exact hs
  · intro d hd
    obtain ⟨r, hr, rfl⟩ := List.mem_map.mp hd
    obtain ⟨pl, hpl, wd, hwd, cc, R, _⟩ := h.good r hr
    obtain ⟨g, hg, e1, _⟩ := R.go
    intro d hd
    have hd : d = .str r.pl ∨ d = .str r.wd ∨ d = .int r.cs ∨ d = .str r.go ∨ d = .tuple (r.mv.map PyData.int) := by simpa [ruD] using hd
    rcases hd with rfl | rfl | rfl | rfl | rfl
    · show okS r.pl
      rw [R.epl]
      exact hp pl hpl
    · show okS r.wd
      rw [R.ewd]
      exact hw wd hwd
    · trivial
    · show okS r.go
      rw [e1]
      exact hp g hg
    · intro d hd
      obtain ⟨i, _, rfl⟩ := List.mem_map.mp hd
      trivial
/-- what is asked ahead of a book from drawn parts -/
theorem PartsOk.sizes {B : BK} (h : PartsOk B) (h60 : B.pls.length ≤ 60) : B.ws.length ≤ 1000 ∧ B.pls.length ≤ 1000 ∧ B.rs.length ≤ 10000 ∧ (∀ n ∈ B.ws, n.length ≤ 1000) ∧ (∀ p ∈ B.pls, p.1.length ≤ 1000) ∧ (∀ r ∈ B.rs, r.mv.length ≤ 1000) := by
  refine ⟨by have := h.wl; omega, by omega, ?_, fun n hn => by have := (h.w.2 n hn).1; omega, fun p hp => by have := (h.p.2 p.1 (List.mem_map.mpr ⟨p, hp, rfl⟩)).1; omega, fun r hr => ?_⟩
  · have e : B.rs.length = (keysOf B.ws B.pls).length := by rw [← h.keys, List.length_map]
    have b : (keysOf B.ws B.pls).length ≤ B.pls.length * 21 := flat_len _ 21 _ fun p hp => by
      refine Nat.le_trans (keysW_len (h.ok p hp) B.ws) ?_
      have := h.wl
      omega
    omega
  · obtain ⟨pl, hpl, wd, hwd, cc, R, _⟩ := h.good r hr
    obtain ⟨g, hg, _, e2⟩ := R.go
    have := (h.ok g hg).2
    omega
end
end Fw

namespace Fw
open PySem PySem.Spec PyProof.Rows L2 Evl
open TL (tl len_tl ext_tl tl_append tl_mk mk_tl)
/-! ### the written form -/
section
variable {P : Program} {w : World} {K : PySem.W.Frag} {mg : Str → Option Value} {base : Heap}
theorem emp_app (x : Str) : Str.empty ++ x = x := ext_tl (by rw [tl_append]; rfl)
def yn (b : Bool) : Str := if b = true then "yes" else "no"
def plLine (p : Pl) : Str := ("place " : Str) ++ p.1 ++ (" " : Str) ++ (toString p.2.1 : Str) ++ (" " : Str) ++ yn p.2.2
def ruWords (r : Ru) : List Str := [("rule" : Str), r.pl, r.wd, (toString r.cs : Str), r.go] ++ r.mv.map fun i => (toString i : Str)
def ruLine (r : Ru) : Str := Txt.join " " (ruWords r)
def linesOf (ws : List Str) (pls : List Pl) (st : Str) (rs : List Ru) : List Str := ([Txt.join " " ([("words" : Str)] ++ ws), ("start " : Str) ++ st] ++ pls.map plLine) ++ rs.map ruLine
def textOf (ws : List Str) (pls : List Pl) (st : Str) (rs : List Ru) : Str := Txt.join "\n" (linesOf ws pls st rs)
def nmS (x : Str) : Prop := x.length ≤ 12 ∧ ∀ c ∈ tl x, c < 128
structure SizeOk (ws : List Str) (pls : List Pl) (st : Str) (rs : List Ru) : Prop where
  w : ws.length ≤ 3 ∧ ∀ x ∈ ws, nmS x
  p : pls.length ≤ 60 ∧ ∀ p ∈ pls, nmS p.1 ∧ plOk p
  s : nmS st
  rl : rs.length ≤ 2000
  r : ∀ r ∈ rs, nmS r.pl ∧ nmS r.wd ∧ nmS r.go ∧ (0 ≤ r.cs ∧ r.cs ≤ 6) ∧ r.mv.length ≤ 6 ∧ ∀ x ∈ r.mv, 0 ≤ x ∧ x ≤ 6
theorem joinL_len (S : List Nat) (m : Nat) : ∀ l : List (List Nat), (∀ p ∈ l, p.length ≤ m) → (TL.joinL S l).length ≤ l.length * (m + S.length)
  | [], _ => Nat.zero_le _
  | [p], h => by
    have := h p List.mem_cons_self
    show p.length ≤ 1 * (m + S.length)
    omega
  | p :: q :: r, h => by
    have h1 := h p List.mem_cons_self
    have h2 := joinL_len S m (q :: r) fun z hz => h z (List.mem_cons_of_mem _ hz)
    show (p ++ (S ++ TL.joinL S (q :: r))).length ≤ (q :: r).length.succ * (m + S.length)
    rw [List.length_append, List.length_append, Nat.succ_mul]
    omega
theorem joinL_mem {S : List Nat} {c : Nat} : ∀ {l : List (List Nat)}, c ∈ TL.joinL S l → c ∈ S ∨ ∃ p ∈ l, c ∈ p
  | [], h => nomatch h
  | [p], h => .inr ⟨p, List.mem_cons_self, h⟩
  | p :: q :: r, h => by
    have h : c ∈ p ++ (S ++ TL.joinL S (q :: r)) := h
    rcases List.mem_append.mp h with h | h
    · exact .inr ⟨p, List.mem_cons_self, h⟩
    · rcases List.mem_append.mp h with h | h
      · exact .inl h
      · rcases joinL_mem h with h | ⟨z, hz, h⟩
        · exact .inl h
        · exact .inr ⟨z, List.mem_cons_of_mem _ hz, h⟩
theorem join_len {a : Str} {m n : Nat} {ys : List Str} (h : ∀ y ∈ ys, y.length ≤ m) (hn : ys.length ≤ n) : (Txt.join a ys).length ≤ n * (m + a.length) := by
  rw [len_tl, TL.join_eq, TL.tl_join]
  refine Nat.le_trans (joinL_len (tl a) m (ys.map tl) fun p hp => ?_) ?_
  · obtain ⟨y, hy, rfl⟩ := List.mem_map.mp hp
    rw [← len_tl]
    exact h y hy
  · rw [List.length_map, ← len_tl]
    exact Nat.mul_le_mul_right _ hn
theorem join_ok {a : Str} {ys : List Str} (ha : ∀ c ∈ tl a, c < 128) (h : ∀ y ∈ ys, ∀ c ∈ tl y, c < 128) : ∀ c ∈ tl (Txt.join a ys), c < 128 := fun c hc => by
  rw [TL.join_eq, TL.tl_join] at hc
  rcases joinL_mem hc with z | ⟨p, hp, z⟩
  · exact ha c z
  · obtain ⟨y, hy, rfl⟩ := List.mem_map.mp hp
    exact h y hy c z
theorem app_128 {x y : Str} (h : ∀ c ∈ tl x, c < 128) (k : ∀ c ∈ tl y, c < 128) : ∀ c ∈ tl (x ++ y), c < 128 := fun c hc => by
  rw [tl_append] at hc
  exact (List.mem_append.mp hc).elim (h c) (k c)
theorem lit_128 {x : Str} (h : (tl x).all (fun c => decide (c < 128)) = true) : ∀ c ∈ tl x, c < 128 := fun c hc => of_decide_eq_true (List.all_eq_true.mp h c hc)
theorem yn_ok (b : Bool) : (yn b).length ≤ 3 ∧ ∀ c ∈ tl (yn b), c < 128 := by
  cases b
  · exact ⟨by decide +kernel, lit_128 (by decide +kernel)⟩
  · exact ⟨by decide +kernel, lit_128 (by decide +kernel)⟩
section
variable {ws : List Str} {pls : List Pl} {st : Str} {rs : List Ru}
theorem plLine_ok {p : Pl} (h : nmS p.1 ∧ plOk p) : (plLine p).length ≤ 30 ∧ ∀ c ∈ tl (plLine p), c < 128 := by
  obtain ⟨⟨h1, h2⟩, h3, h4⟩ := h
  obtain ⟨d1, d2⟩ := str6 h3 h4
  obtain ⟨y1, y2⟩ := yn_ok p.2.2
  unfold plLine
  refine ⟨?_, app_128 (app_128 (app_128 (app_128 (app_128 (lit_128 (by decide +kernel)) h2) (lit_128 (by decide +kernel))) fun c hc => (d2 c hc).1) (lit_128 (by decide +kernel))) y2⟩
  rw [strLen_append, strLen_append, strLen_append, strLen_append, strLen_append, d1, show ("place " : Str).length = 6 by decide +kernel, show (" " : Str).length = 1 by decide +kernel]
  omega
theorem ruWords_ok {r : Ru} (h : nmS r.pl ∧ nmS r.wd ∧ nmS r.go ∧ (0 ≤ r.cs ∧ r.cs ≤ 6) ∧ r.mv.length ≤ 6 ∧ ∀ x ∈ r.mv, 0 ≤ x ∧ x ≤ 6) : (ruWords r).length ≤ 11 ∧ ∀ y ∈ ruWords r, y.length ≤ 12 ∧ ∀ c ∈ tl y, c < 128 := by
  obtain ⟨h1, h2, h3, h4, h5, h6⟩ := h
  refine ⟨by unfold ruWords; rw [List.length_append, List.length_map]; show 5 + _ ≤ 11; omega, fun y hy => ?_⟩
  unfold ruWords at hy
  rcases List.mem_append.mp hy with z | z
  · have z : y = ("rule" : Str) ∨ y = r.pl ∨ y = r.wd ∨ y = (toString r.cs : Str) ∨ y = r.go := by simpa using z
    rcases z with rfl | rfl | rfl | rfl | rfl
    · exact ⟨by decide +kernel, lit_128 (by decide +kernel)⟩
    · exact h1
    · exact h2
    · obtain ⟨d1, d2⟩ := str6 h4.1 h4.2
      exact ⟨by omega, fun c hc => (d2 c hc).1⟩
    · exact h3
  · obtain ⟨i, hi, rfl⟩ := List.mem_map.mp z
    obtain ⟨d1, d2⟩ := str6 (h6 i hi).1 (h6 i hi).2
    exact ⟨by omega, fun c hc => (d2 c hc).1⟩
theorem words_ok (h : SizeOk ws pls st rs) : ∀ y ∈ [("words" : Str)] ++ ws, y.length ≤ 12 ∧ ∀ c ∈ tl y, c < 128 := fun y hy => by
  rcases List.mem_append.mp hy with z | z
  · rw [List.mem_singleton.mp z]
    exact ⟨by decide +kernel, lit_128 (by decide +kernel)⟩
  · exact h.w.2 y z
theorem lines_ok (h : SizeOk ws pls st rs) : ∀ y ∈ linesOf ws pls st rs, y.length ≤ 1000 ∧ ∀ c ∈ tl y, c < 128 := fun y hy => by
  have b1 : (" " : Str).length = 1 := by decide +kernel
  unfold linesOf at hy
  rcases List.mem_append.mp hy with z | z
  · rcases List.mem_append.mp z with z | z
    · have z : y = Txt.join " " ([("words" : Str)] ++ ws) ∨ y = ("start " : Str) ++ st := by simpa using z
      rcases z with rfl | rfl
      · have l := join_len (a := " ") (m := 12) (n := 4) (fun y hy => (words_ok h y hy).1) (by rw [List.length_append]; have := h.w.1; show 1 + _ ≤ 4; omega)
        exact ⟨by rw [b1] at l; omega, join_ok (lit_128 (by decide +kernel)) fun y hy => (words_ok h y hy).2⟩
      · refine ⟨?_, app_128 (lit_128 (by decide +kernel)) h.s.2⟩
        rw [strLen_append, show ("start " : Str).length = 6 by decide +kernel]
        have := h.s.1
        omega
    · obtain ⟨p, hp, rfl⟩ := List.mem_map.mp z
      have := plLine_ok (h.p.2 p hp)
      exact ⟨by omega, this.2⟩
  · obtain ⟨r, hr, rfl⟩ := List.mem_map.mp z
    obtain ⟨e1, e2⟩ := ruWords_ok (h.r r hr)
    have l := join_len (a := " ") (m := 12) (n := 11) (fun y hy => (e2 y hy).1) e1
    refine ⟨by unfold ruLine; rw [b1] at l; omega, join_ok (lit_128 (by decide +kernel)) fun y hy => (e2 y hy).2⟩
theorem lines_len (h : SizeOk ws pls st rs) : (linesOf ws pls st rs).length ≤ 3000 := by
  unfold linesOf
  rw [List.length_append, List.length_append, List.length_map, List.length_map]
  have := h.p.1
  have := h.rl
  show 2 + _ + _ ≤ 3000
  omega
theorem text_ok (h : SizeOk ws pls st rs) : okS (textOf ws pls st rs) := okS_lt (join_ok (lit_128 (by decide +kernel)) fun y hy => (lines_ok h y hy).2)
end
theorem PartsOk.size {B : BK} (h : PartsOk B) (h60 : B.pls.length ≤ 60) : SizeOk B.ws B.pls B.st B.rs := by
  have hp : ∀ p ∈ B.pls, nmS p.1 := fun p hp => h.p.2 p.1 (List.mem_map.mpr ⟨p, hp, rfl⟩)
  refine ⟨⟨h.wl.2, h.w.2⟩, ⟨h60, fun p hp' => ⟨hp p hp', h.ok p hp'⟩⟩, ?_, ?_, fun r hr => ?_⟩
  · obtain ⟨p, hp', e, _⟩ := h.st
    exact e ▸ hp p hp'
  · have e : B.rs.length = (keysOf B.ws B.pls).length := by rw [← h.keys, List.length_map]
    have b : (keysOf B.ws B.pls).length ≤ B.pls.length * 21 := flat_len _ 21 _ fun p hp => by
      refine Nat.le_trans (keysW_len (h.ok p hp) B.ws) ?_
      have := h.wl
      omega
    omega
  · obtain ⟨pl, hpl, wd, hwd, cc, R, c0, c1⟩ := h.good r hr
    obtain ⟨g, hg, e1, e2⟩ := R.go
    have o1 := (h.ok pl hpl).2
    have o2 := (h.ok g hg).2
    refine ⟨R.epl ▸ hp pl hpl, R.ewd ▸ h.w.2 wd hwd, e1 ▸ hp g hg, by rw [R.ecs]; omega, by omega, fun x hx => ?_⟩
    have := R.mv x hx
    split at this <;> omega
theorem foldl_pl (p : Pl) : [("place " : Str), p.1, (" " : Str), (toString p.2.1 : Str), (" " : Str), yn p.2.2].foldl (fun a b => a ++ b) Str.empty = plLine p := by
  show Str.empty ++ _ ++ _ ++ _ ++ _ ++ _ ++ _ = _
  rw [emp_app]
  rfl
abbrev s_format_book : Stmt := topS 29
theorem sc_format_book : FnScope ["book", "lines", "name", "slots", "yes", "answer", "place", "word", "case", "goal", "moves", "sources", "source"] ["book"] (defScope s_format_book) := ⟨rfl, rfl, rfl, by decide +kernel, rfl, by decide +kernel, by decide +kernel⟩
def spFormat (C : Addr) : Sp := fun vs H Q _ => ∃ (a : Addr) (B : BK) (G : Hp), vs = [.ref a] ∧ IsBook G C a B ∧ Ex G H ∧ SizeOk B.ws B.pls B.st B.rules ∧ ∀ G2 H2, Stp G H G2 H2 → Q (.str (textOf B.ws B.pls B.st B.rules)) H2
theorem ok_format_book {f C pn gn : Addr} {fd fdg : FuncData} (F : Fun K "format_book" "format_book" s_format_book f fd) (Z : Zs mg) (c : CB K C)
    (pr_rules : PropOf K C "rules" pn gn) (G_get_rules : FnOk P w K mg base CX0 1 gn fdg ["self"] (getSp C "_rules")) (bg_rules : Binds K fdg ["self"] []) : FnOk P w K mg base CX0 3 f fd ["book"] (spFormat C) := by
  refine F.ok sc_format_book (fun vs H Q E h => ?_) (fun cdv A outer s H vs Q E hr h => ?_)
  · obtain ⟨a, B, G, rfl, _⟩ := h
    rfl
  · obtain ⟨a, B, G, rfl, bk, e, sz, q⟩ := h
    refine ⟨_, (pss_cons (ps_set (i := 1) sc_format_book.nd rfl (Or.inl rfl) (pe_lst (pa_cons (k_join K rfl pe_str (pe_op (k_addU K rfl) (pe_lst (pa_cons pe_str pa_nil)) (pe_callTy (k_list K rfl) (by rfl) Z.list bt_list (pa_cons (k_fld K rfl (pv 0) rfl) pa_nil)))) (pa_cons (pe_joined (PJ.cons pe_str (PJ.cons (pe_fmt (k_fld K rfl (pv 0) rfl)) PJ.nil))) pa_nil))))
      (pss_cons (ps_for PassesOwn.never rfl (k_piT K rfl (k_fld K rfl (pv 0) rfl)) (k_tgt K rfl rfl (pgs_cons (pg_name (i := 2) sc_format_book.nd rfl (Or.inl rfl)) (pgs_cons (pg_name (i := 3) sc_format_book.nd rfl (Or.inl rfl)) (pgs_cons (pg_name (i := 4) sc_format_book.nd rfl (Or.inl rfl)) pgs_nil)))) (pss_cons (ps_set (i := 5) sc_format_book.nd rfl (Or.inl rfl) (pe_ifExp (pt_val (pv 4)) pe_str pe_str))
        (pss_one (ps_expr (pe_bm PySem.F.plainAttrs_list PySem.F.slot_list_append PySem.F.type_list_append mt_append (pv 1) (pa_cons (pe_joined (PJ.cons pe_str (PJ.cons (pe_fmt (pv 2)) (PJ.cons pe_str (PJ.cons (pe_fmt (pv 3)) (PJ.cons pe_str (PJ.cons (pe_fmt (pv 5)) PJ.nil))))))) pa_nil))))))
      (pss_cons (ps_for PassesOwn.never rfl (k_piT K rfl (pe_prop (pv 0) c.cl pr_rules G_get_rules (hr.mono (by decide)) bg_rules .nil pass0 rfl)) (k_tgt K rfl rfl (pgs_cons (pg_name (i := 6) sc_format_book.nd rfl (Or.inl rfl)) (pgs_cons (pg_name (i := 7) sc_format_book.nd rfl (Or.inl rfl)) (pgs_cons (pg_name (i := 8) sc_format_book.nd rfl (Or.inl rfl)) (pgs_cons (pg_name (i := 9) sc_format_book.nd rfl (Or.inl rfl)) (pgs_cons (pg_name (i := 10) sc_format_book.nd rfl (Or.inl rfl)) pgs_nil)))))) (pss_cons (ps_setLc (i := 11) (own := [("source", 12)]) (g := (gName 12)) (tt := tYes) rfl sc_format_book.nd rfl rfl (sw_true rfl rfl rfl (by decide +kernel)) (k_piT K rfl (pv 10)) (blkOk_by (N := ["book", "lines", "name", "slots", "yes", "answer", "place", "word", "case", "goal", "moves", "sources", "source"]) (sc := defScope s_format_book) (own := [("source", 12)]) (by decide +kernel)) (fun _ _ _ _ _ => (pg_name (i := 12) sc_format_book.nd rfl (Or.inl rfl))) (fun _ _ _ _ _ => pts_nil) (fun _ _ _ _ _ => (pe_callTy c_str (by rfl) Z.str bt_str (pa_cons (pv 12) pa_nil))))
        (pss_one (ps_expr (pe_bm PySem.F.plainAttrs_list PySem.F.slot_list_append PySem.F.type_list_append mt_append (pv 1) (pa_cons (k_join K rfl pe_str (pe_op (k_addU K rfl) (pe_lst (pa_cons pe_str (pa_cons (pv 6) (pa_cons (pv 7) (pa_cons (pe_callTy c_str (by rfl) Z.str bt_str (pa_cons (pv 8) pa_nil)) (pa_cons (pv 9) pa_nil)))))) (pv 11))) pa_nil))))))
      (pss_one (ps_ret (k_join K rfl pe_str (pv 1))))))), ?_⟩
    obtain ⟨dx, w1, w2, w4, w7, t5, t6, h0, rw1, rw2, rw4, _, _, rw7⟩ := bk.at_
    have wl := sz.w.1
    have b1 : (" " : Str).length = 1 := by decide +kernel
    have sl := sz.s.1
    refine w_lstO (ds := [.str (Txt.join " " ([("words" : Str)] ++ B.ws)), .str (("start " : Str) ++ B.st)]) (es_cons (ed_join (b := true) (ys := [("words" : Str)] ++ B.ws) (m := 12) (n := 4) (ed_c (.str _)) (ed_op (ed_lst (es_cons (ed_c (.str _)) es_nil) (by simp)) (ed_cb (es_cons (ed_fld rfl h0 c.cl c.n1 rfl rw1) es_nil) rd_listt) (r2_addl ?_)) (fun y hy => (words_ok sz y hy).1) ?_ ?_)
      (es_cons (ed_is ?_ (ed_fs (.cons (ed_c (.str _)) (.cons (ed_fmtS (ed_fld rfl h0 c.cl c.n3 rfl (.str B.st)) (by omega)) .nil)) ?_)) es_nil)) e (by simp) fun l G1 H1 xs s1 nl r1 => ?_
    · rw [List.length_map, sizeLine_eq]
      show 1 + _ ≤ _
      omega
    · rw [List.length_append]
      show 1 + _ ≤ 4
      omega
    · rw [b1]
      decide
    · show PyData.str (Str.empty ++ _ ++ _) = _
      rw [emp_app]
    · simp only [List.map_cons, List.map_nil, List.sum_cons, List.sum_nil]
      rw [show (Str.ofString "start ").length = 6 by decide +kernel]
      omega
    have o1 := Own.with s1.gh nl r1
    refine w_forT (as := B.pls) (f := plD) (ed_fld rfl (s1.g _ _ h0) c.cl c.n2 rfl (rp_mono s1.g _ _ rw2)) o1.s.gh (fun Gl i σ' H' => ∃ (G' : Hp) (y2 y3 y4 y5 : Option V), σ' = [some (.ref a), some (.ref l), y2, y3, y4, y5, none, none, none, none, none, none, none] ∧ Own G1 H1 l (([Txt.join " " ([("words" : Str)] ++ B.ws), ("start " : Str) ++ B.st] ++ (B.pls.take i).map plLine).map PyData.str) G' H' ∧ Ex Gl G')
      (fun G2 H2 s2 => ⟨G2, none, none, none, none, rfl, o1.step s2, Ex.refl _⟩) (fun Gl i σ' H' hp => ?_) (fun Gl i p v' σ' H' eG hi hv' hp => ?_) (fun Gl σ' H' eG hp => ?_)
    · obtain ⟨G', _, _, _, _, _, o, x⟩ := hp
      exact x.trans o.s.gh
    · obtain ⟨G', y2, y3, y4, y5, rfl, o, x⟩ := hp
      have mem : p ∈ B.pls := List.mem_of_getElem? hi
      obtain ⟨pn, pok⟩ := sz.p.2 p mem
      have hil : i < B.pls.length := (List.getElem?_eq_some_iff.mp hi).1
      have h60 := sz.p.1
      refine g_three (x.trans o.s.gh) hv' fun va vb vc ra rb rc => ?_
      obtain rfl := rp_str ra
      obtain rfl := rp_int rb
      obtain rfl := rp_bl rc
      show tSeq _ _ _ _ _
      refine w_set (d := .str (yn p.2.2)) (ev_at o.s.gh (ed_if (et_val (ed_var rfl (.bl p.2.2))) (fun hb => ed_is (by rw [hb]; rfl) (ed_c (.str _))) (fun hb => ed_is (by rw [hb]; rfl) (ed_c (.str _))))) fun v2 G2 H2 s2 r2 => ?_
      obtain rfl := rp_str r2
      have o2 := o.step s2
      obtain ⟨d1, d2⟩ := str6 pok.1 pok.2
      obtain ⟨u1, u2⟩ := yn_ok p.2.2
      have n1 := pn.1
      refine w_appO (d := .str (plLine p)) rfl o2 (ev_at o2.s.gh (ed_is (congrArg PyData.str (foldl_pl p)) (ed_fs (.cons (ed_c (.str _)) (.cons (ed_fmtS (ed_var rfl (.str p.1)) (by omega)) (.cons (ed_c (.str _)) (.cons (ed_fmtI (ed_var rfl (.int p.2.1)) (log6 pok.1 pok.2)) (.cons (ed_c (.str _)) (.cons (ed_fmtS (ed_var rfl (.str (yn p.2.2))) (by omega)) .nil)))))) ?_))) ?_ fun G3 H3 xs s3 o3 => ?_
      · simp only [List.map_cons, List.map_nil, List.sum_cons, List.sum_nil]
        rw [show (Str.ofString "place ").length = 6 by decide +kernel, show (Str.ofString " ").length = 1 by decide +kernel, d1]
        omega
      · rw [List.length_map, List.length_append, List.length_map, List.length_take]
        show 2 + _ < _
        omega
      · refine ⟨G3, _, _, _, _, rfl, ?_, (x.trans s2.g).trans s3.g⟩
        rw [List.take_add_one, hi]
        simpa using o3
    · obtain ⟨G2, y2, y3, y4, y5, rfl, o2, x2⟩ := hp
      rw [List.take_length] at o2
      have x12 : Ex G1 G2 := eG.trans x2
      have hl2 : ([Txt.join " " ([("words" : Str)] ++ B.ws), ("start " : Str) ++ B.st] ++ B.pls.map plLine).length ≤ 62 := by
        rw [List.length_append, List.length_map]
        have := sz.p.1
        show 2 + _ ≤ 62
        omega
      generalize hL : [Txt.join " " ([("words" : Str)] ++ B.ws), ("start " : Str) ++ B.st] ++ B.pls.map plLine = L at o2 hl2
      refine w_forT (as := B.rules) (f := ruD) (ed_prop rfl ((s1.g.trans x12) _ _ h0) rfl (rp_mono (s1.g.trans x12) _ _ rw7)) o2.s.gh (fun Gl i σ' H' => ∃ (G' : Hp) (y6 y7 y8 y9 y10 y11 y12 : Option V), σ' = [some (.ref a), some (.ref l), y2, y3, y4, y5, y6, y7, y8, y9, y10, y11, y12] ∧ Own G1 H1 l ((L ++ (B.rules.take i).map ruLine).map PyData.str) G' H' ∧ Ex Gl G')
        (fun G3 H3 s3 => ⟨G3, none, none, none, none, none, none, none, rfl, by rw [List.take_zero, List.map_nil, List.append_nil]; exact o2.step s3, Ex.refl _⟩) (fun Gl i σ' H' hp => ?_) (fun Gl i r v' σ' H' eG hi hv' hp => ?_) (fun Gl σ' H' eG hp => ?_)
      · obtain ⟨G', _, _, _, _, _, _, _, _, o, x⟩ := hp
        exact x.trans o.s.gh
      · obtain ⟨G', y6, y7, y8, y9, y10, y11, y12, rfl, o, x⟩ := hp
        have mem : r ∈ B.rules := List.mem_of_getElem? hi
        have szr := sz.r r mem
        obtain ⟨e1, e2⟩ := ruWords_ok szr
        obtain ⟨_, _, _, hcs, hm6, hmv⟩ := szr
        have hil : i < B.rules.length := (List.getElem?_eq_some_iff.mp hi).1
        have h2000 := sz.rl
        refine g_five (x.trans o.s.gh) hv' fun va vb vc vd ve ra rb rc rd re => ?_
        obtain rfl := rp_str ra
        obtain rfl := rp_str rb
        obtain rfl := rp_int rc
        obtain rfl := rp_str rd
        show tSeq _ _ _ _ _
        refine w_set (d := .list ((r.mv.map fun i => (toString i : Str)).map PyData.str)) (ev_at o.s.gh (ed_is (lc_all (by rw [List.map_map]; rfl)) (ed_lcT1 (as := r.mv) (f := PyData.int) (y := fun i => .str (toString i)) (c := fun _ => true) (ed_var rfl (rp_mono x _ _ re)) (by omega) (fun _ => rfl) (fun _ _ _ _ _ _ => et_yes) (fun i hi _ u G' _ hu => ed_cb (es_cons (ed_var rfl hu) es_nil) (rd_str (log6 (hmv i hi).1 (hmv i hi).2)))))) fun v2 G2 H2 s2 r2 => ?_
        have o2 := o.step s2
        have hb : EvD (tOp (rAddU K) (tLst (tCons (tC (.str "rule")) (tCons (tVar 6) (tCons (tVar 7) (tCons (tCB rStrI (tCons (tVar 8) tNil)) (tCons (tVar 9) tNil)))))) (tVar 11)) (([some (V.ref a), some (V.ref l), y2, y3, y4, y5, some (V.str r.pl), some (V.str r.wd), some (V.int r.cs), some (V.str r.go), some ve, y11, y12] : L2.St).set 11 (some v2)) G2 (.list ((ruWords r).map PyData.str)) :=
          ed_is (by unfold ruWords; rw [List.map_append]; rfl) (ed_op (ed_lst (es_cons (ed_c (.str _)) (es_cons (ed_var rfl (.str r.pl)) (es_cons (ed_var rfl (.str r.wd)) (es_cons (ed_cb (es_cons (ed_var rfl (.int r.cs)) es_nil) (rd_str (log6 hcs.1 hcs.2))) (es_cons (ed_var rfl (.str r.go)) es_nil))))) (by simp)) (ed_var rfl r2) (r2_addl (by rw [List.length_map, List.length_map, sizeLine_eq]; show 5 + _ ≤ _; omega)))
        refine w_appO (d := .str (ruLine r)) rfl o2 (ev_at o2.s.gh (ed_join (b := true) (ys := ruWords r) (m := 12) (n := 11) (ed_c (.str _)) hb (fun y hy => (e2 y hy).1) e1 (by rw [b1]; decide))) ?_ fun G3 H3 xs s3 o3 => ?_
        · rw [List.length_map, List.length_append, List.length_map, List.length_take]
          omega
        · refine ⟨G3, _, _, _, _, _, _, _, rfl, ?_, (x.trans s2.g).trans s3.g⟩
          rw [List.take_add_one, hi]
          simpa using o3
      · obtain ⟨G3, y6, y7, y8, y9, y10, y11, y12, rfl, o, x⟩ := hp
        rw [List.take_length] at o
        obtain ⟨G4, s4, x4, r4⟩ := o.done
        have eL : L ++ B.rules.map ruLine = linesOf B.ws B.pls B.st B.rules := by rw [← hL]; rfl
        rw [eL] at r4
        refine w_ret (d := .str (textOf B.ws B.pls B.st B.rules)) (ev_at s4.gh (ed_join (b := true) (ys := linesOf B.ws B.pls B.st B.rules) (m := 1000) (n := 3000) (ed_c (.str _)) (ed_var rfl r4) (fun y hy => (lines_ok sz y hy).1) (lines_len sz) (by decide +kernel))) fun v5 G5 H5 s5 r5 => ?_
        obtain rfl := rp_str r5
        exact q G5 H5 ((s1.trans s4).trans s5)
end
end Fw

namespace Fw
open PySem PySem.Spec PyProof.Rows L2 Evl
open TL (tl len_tl ext_tl tl_append tl_mk mk_tl)
/-! ### the lines that a law tells -/
section
variable {P : Program} {w : World} {K : PySem.W.Frag} {mg : Str → Option Value} {base : Heap}
abbrev s_law_lines : Stmt := topS 49
theorem sc_law_lines : FnScope ["parts", "lines", "name", "slots", "yes", "word", "case", "goal", "moves", "source"] ["parts"] (defScope s_law_lines) := ⟨rfl, rfl, rfl, by decide +kernel, rfl, by decide +kernel, by decide +kernel⟩
def spLines : Sp := fun vs H Q _ => ∃ (vp : V) (ws : List Str) (pls : List Pl) (st : Str) (rs : List (Bool × Ru)) (G : Hp), vs = [vp] ∧ Rp G vp (partsA ws pls st rs) ∧ Ex G H ∧ SizeOk ws pls st (rs.map fun r => r.2) ∧ ∀ v G2 H2, Stp G H G2 H2 → Rp G2 v (.list ((linesOf ws pls st (rs.map fun r => r.2)).map PyData.str)) → Q v H2
theorem ok_law_lines {f : Addr} {fd : FuncData} (F : Fun K "_law_lines" "_law_lines" s_law_lines f fd) (Z : Zs mg) : FnOk P w K mg base CX0 3 f fd ["parts"] spLines := by
  refine F.ok sc_law_lines (fun vs H Q E h => ?_) (fun cdv A outer s H vs Q E hr h => ?_)
  · obtain ⟨vp, ws, pls, st, rs, G, rfl, _⟩ := h
    rfl
  · obtain ⟨vp, ws, pls, st, rs, G, rfl, hv, e, sz, q⟩ := h
    refine ⟨_, (pss_cons (ps_set (i := 1) sc_law_lines.nd rfl (Or.inl rfl) (pe_lst (pa_cons (k_join K rfl pe_str (pe_op (k_addU K rfl) (pe_lst (pa_cons pe_str pa_nil)) (pe_callTy (k_list K rfl) (by rfl) Z.list bt_list (pa_cons (pe_ix (k_ix K rfl) (pv 0) pe_int (fun _ _ => rfl)) pa_nil)))) (pa_cons (pe_op (k_addU K rfl) pe_str (pe_ix (k_ix K rfl) (pv 0) pe_int (fun _ _ => rfl))) pa_nil))))
      (pss_cons (ps_for PassesOwn.never rfl (k_piL K rfl (pe_ix (k_ix K rfl) (pv 0) pe_int (fun _ _ => rfl))) (k_tgt K rfl rfl (pgs_cons (pg_name (i := 2) sc_law_lines.nd rfl (Or.inl rfl)) (pgs_cons (pg_name (i := 3) sc_law_lines.nd rfl (Or.inl rfl)) (pgs_cons (pg_name (i := 4) sc_law_lines.nd rfl (Or.inl rfl)) pgs_nil)))) (pss_one (ps_expr (pe_bm PySem.F.plainAttrs_list PySem.F.slot_list_append PySem.F.type_list_append mt_append (pv 1) (pa_cons (pe_op (k_addU K rfl) (pe_op (k_addU K rfl) (pe_op (k_addU K rfl) (pe_op (k_addU K rfl) (pe_op (k_addU K rfl) pe_str (pv 2)) pe_str) (pe_callTy c_str (by rfl) Z.str bt_str (pa_cons (pv 3) pa_nil))) pe_str) (pe_ix (k_ix K rfl) (pe_lst (pa_cons pe_str (pa_cons pe_str pa_nil))) (pe_callTy c_int (by rfl) Z.int bt_int (pa_cons (pv 4) pa_nil)) (fun _ _ => rfl))) pa_nil)))))
      (pss_cons (ps_for PassesOwn.never rfl (k_piL K rfl (pe_ix (k_ix K rfl) (pv 0) pe_int (fun _ _ => rfl))) (k_tgt K rfl rfl (pgs_cons (pg_name (i := 2) sc_law_lines.nd rfl (Or.inl rfl)) (pgs_cons (pg_name (i := 5) sc_law_lines.nd rfl (Or.inl rfl)) (pgs_cons (pg_name (i := 6) sc_law_lines.nd rfl (Or.inl rfl)) (pgs_cons (pg_name (i := 7) sc_law_lines.nd rfl (Or.inl rfl)) (pgs_cons (pg_name (i := 8) sc_law_lines.nd rfl (Or.inl rfl)) pgs_nil)))))) (pss_one (ps_expr (pe_bm PySem.F.plainAttrs_list PySem.F.slot_list_append PySem.F.type_list_append mt_append (pv 1) (pa_cons (k_join K rfl pe_str (pe_op (k_addU K rfl) (pe_lst (pa_cons pe_str (pa_cons (pv 2) (pa_cons (pv 5) (pa_cons (pe_callTy c_str (by rfl) Z.str bt_str (pa_cons (pv 6) pa_nil)) (pa_cons (pv 7) pa_nil)))))) (pe_lc (own := [("source", 9)]) (g := (gName 9)) (tt := tYes) rfl sc_law_lines.nd (k_piS K rfl (pv 8)) (blkOk_by (N := ["parts", "lines", "name", "slots", "yes", "word", "case", "goal", "moves", "source"]) (sc := defScope s_law_lines) (own := [("source", 9)]) (by decide +kernel)) (fun _ _ _ _ _ => (pg_name (i := 9) sc_law_lines.nd rfl (Or.inl rfl))) (fun _ _ _ _ _ => pts_nil) (fun _ _ _ _ _ => (pe_callTy c_str (by rfl) Z.str bt_str (pa_cons (pv 9) pa_nil)))))) pa_nil)))))
      (pss_one (ps_ret (pv 1)))))), ?_⟩
    have it {σ : L2.St} {G' : Hp} {d : PyData} (x : Ex G G') (j : Nat) (hs : σ[0]? = some (some vp)) (hd : [PyData.list (ws.map PyData.str), .list (pls.map plD), .str st, .list (rs.map ruA)][j]? = some d) : EvD (tOp (rIx K) (tVar 0) (tC (.int (j : Int)))) σ G' d := ed_op (ed_var hs (rp_mono x _ _ hv)) (ed_c (.int _)) (r2_ixl (atI_nat hd))
    have wl := sz.w.1
    have b1 : (" " : Str).length = 1 := by decide +kernel
    have sl := sz.s.1
    have z1 : EvD (tOp (rIx K) (tVar 0) (tC (.int 2))) [some vp, none, none, none, none, none, none, none, none, none] G (.str st) := it (Ex.refl _) 2 rfl rfl
    refine w_lstO (ds := [.str (Txt.join " " ([("words" : Str)] ++ ws)), .str (("start " : Str) ++ st)]) (es_cons (ed_join (b := true) (ys := [("words" : Str)] ++ ws) (m := 12) (n := 4) (ed_c (.str _)) (ed_op (ed_lst (es_cons (ed_c (.str _)) es_nil) (by simp)) (ed_cb (es_cons (it (Ex.refl _) 0 rfl rfl) es_nil) rd_listl) (r2_addl ?_)) (fun y hy => (words_ok sz y hy).1) ?_ ?_)
      (es_cons (ed_op (ed_c (.str _)) z1 (r2_adds ?_)) es_nil)) e (by simp) fun l G1 H1 xs s1 nl r1 => ?_
    · rw [List.length_map, sizeLine_eq]
      show 1 + _ ≤ _
      omega
    · rw [List.length_append]
      show 1 + _ ≤ 4
      omega
    · rw [b1]
      decide
    · rw [show (Str.ofString "start ").length = 6 by decide +kernel, sizeLine_eq]
      omega
    have o1 := Own.with s1.gh nl r1
    refine w_forL (as := pls) (f := plD) (it s1.g 1 rfl rfl) o1.s.gh (fun Gl i σ' H' => ∃ (G' : Hp) (y2 y3 y4 : Option V), σ' = [some vp, some (.ref l), y2, y3, y4, none, none, none, none, none] ∧ Own G1 H1 l (([Txt.join " " ([("words" : Str)] ++ ws), ("start " : Str) ++ st] ++ (pls.take i).map plLine).map PyData.str) G' H' ∧ Ex Gl G')
      (fun G2 H2 s2 => ⟨G2, none, none, none, rfl, o1.step s2, Ex.refl _⟩) (fun Gl i σ' H' hp => ?_) (fun Gl i p v' σ' H' eG hi hv' hp => ?_) (fun Gl σ' H' eG hp => ?_)
    · obtain ⟨G', _, _, _, _, o, x⟩ := hp
      exact x.trans o.s.gh
    · obtain ⟨G', y2, y3, y4, rfl, o, x⟩ := hp
      have mem : p ∈ pls := List.mem_of_getElem? hi
      obtain ⟨pn, pok⟩ := sz.p.2 p mem
      have hil : i < pls.length := (List.getElem?_eq_some_iff.mp hi).1
      have h60 := sz.p.1
      refine g_three (x.trans o.s.gh) hv' fun va vb vc ra rb rc => ?_
      obtain rfl := rp_str ra
      obtain rfl := rp_int rb
      obtain rfl := rp_bl rc
      obtain ⟨d1, d2⟩ := str6 pok.1 pok.2
      obtain ⟨u1, u2⟩ := yn_ok p.2.2
      have n1 := pn.1
      have tz : atI [PyData.str "no", PyData.str "yes"] (if p.2.2 = true then 1 else 0) = some (.str (yn p.2.2)) := by
        cases p.2.2 <;> rfl
      have p1 : (Str.ofString "place ").length = 6 := by decide +kernel
      have p2 : (Str.ofString " ").length = 1 := by decide +kernel
      refine w_appO (d := .str (plLine p)) rfl o (ev_at o.s.gh (ed_op (ed_op (ed_op (ed_op (ed_op (ed_c (.str _)) (ed_var rfl (.str p.1)) (r2_adds ?_)) (ed_c (.str _)) (r2_adds ?_)) (ed_cb (es_cons (ed_var rfl (.int p.2.1)) es_nil) (rd_str (log6 pok.1 pok.2))) (r2_adds ?_)) (ed_c (.str _)) (r2_adds ?_)) (ed_op (ed_lst (es_cons (ed_c (.str _)) (es_cons (ed_c (.str _)) es_nil)) (by simp)) (ed_cb (es_cons (ed_var rfl (.bl p.2.2)) es_nil) rd_intb) (r2_ixl tz)) (r2_adds ?_))) ?_ fun G3 H3 xs s3 o3 => ?_
      · rw [p1, sizeLine_eq]
        omega
      · rw [strLen_append, p1, p2, sizeLine_eq]
        omega
      · rw [strLen_append, strLen_append, p1, p2, sizeLine_eq, d1]
        omega
      · rw [strLen_append, strLen_append, strLen_append, p1, p2, sizeLine_eq, d1]
        omega
      · rw [strLen_append, strLen_append, strLen_append, strLen_append, p1, p2, sizeLine_eq, d1]
        omega
      · rw [List.length_map, List.length_append, List.length_map, List.length_take]
        show 2 + _ < _
        omega
      · refine ⟨G3, _, _, _, rfl, ?_, x.trans s3.g⟩
        rw [List.take_add_one, hi]
        simpa using o3
    · obtain ⟨G2, y2, y3, y4, rfl, o2, x2⟩ := hp
      rw [List.take_length] at o2
      have x12 : Ex G1 G2 := eG.trans x2
      have hl2 : ([Txt.join " " ([("words" : Str)] ++ ws), ("start " : Str) ++ st] ++ pls.map plLine).length ≤ 62 := by
        rw [List.length_append, List.length_map]
        have := sz.p.1
        show 2 + _ ≤ 62
        omega
      generalize hL : [Txt.join " " ([("words" : Str)] ++ ws), ("start " : Str) ++ st] ++ pls.map plLine = L at o2 hl2
      have hrl : rs.length ≤ 2000 := by
        have := sz.rl
        rw [List.length_map] at this
        exact this
      refine w_forL (as := rs) (f := ruA) (it (s1.g.trans x12) 3 rfl rfl) o2.s.gh (fun Gl i σ' H' => ∃ (G' : Hp) (y2 y5 y6 y7 y8 y9 : Option V), σ' = [some vp, some (.ref l), y2, y3, y4, y5, y6, y7, y8, y9] ∧ Own G1 H1 l ((L ++ (rs.take i).map fun r => ruLine r.2).map PyData.str) G' H' ∧ Ex Gl G')
        (fun G3 H3 s3 => ⟨G3, y2, none, none, none, none, none, rfl, by rw [List.take_zero, List.map_nil, List.append_nil]; exact o2.step s3, Ex.refl _⟩) (fun Gl i σ' H' hp => ?_) (fun Gl i r v' σ' H' eG hi hv' hp => ?_) (fun Gl σ' H' eG hp => ?_)
      · obtain ⟨G', _, _, _, _, _, _, _, o, x⟩ := hp
        exact x.trans o.s.gh
      · clear y2
        obtain ⟨G', y2, y5, y6, y7, y8, y9, rfl, o, x⟩ := hp
        have mem : r ∈ rs := List.mem_of_getElem? hi
        have szr := sz.r r.2 (List.mem_map.mpr ⟨r, mem, rfl⟩)
        obtain ⟨e1, e2⟩ := ruWords_ok szr
        obtain ⟨_, _, _, hcs, hm6, hmv⟩ := szr
        have hil : i < rs.length := (List.getElem?_eq_some_iff.mp hi).1
        refine g_five (x.trans o.s.gh) hv' fun va vb vc vd ve ra rb rc rd re => ?_
        obtain rfl := rp_str ra
        obtain rfl := rp_str rb
        obtain rfl := rp_int rc
        obtain rfl := rp_str rd
        have hm : EvD (tLc (iSeq K (tVar 8)) (gName 9) tYes (tCB rStrI (tCons (tVar 9) tNil)) [9]) [some vp, some (.ref l), some (.str r.2.pl), y3, y4, some (.str r.2.wd), some (.int r.2.cs), some (.str r.2.go), some ve, y9] G' (.list ((r.2.mv.map fun i => (toString i : Str)).map PyData.str)) :=
          ed_is (lc_all (by rw [List.map_map]; rfl)) (ed_lcS1 (as := r.2.mv) (f := PyData.int) (y := fun i => .str (toString i)) (c := fun _ => true) (ed_var rfl (rp_mono x _ _ re)) (by omega) (fun _ => rfl) (fun _ _ _ _ _ _ => et_yes) (fun i hi _ u G' _ hu => ed_cb (es_cons (ed_var rfl hu) es_nil) (rd_str (log6 (hmv i hi).1 (hmv i hi).2))))
        have hb : EvD (tOp (rAddU K) (tLst (tCons (tC (.str "rule")) (tCons (tVar 2) (tCons (tVar 5) (tCons (tCB rStrI (tCons (tVar 6) tNil)) (tCons (tVar 7) tNil)))))) (tLc (iSeq K (tVar 8)) (gName 9) tYes (tCB rStrI (tCons (tVar 9) tNil)) [9])) [some vp, some (.ref l), some (.str r.2.pl), y3, y4, some (.str r.2.wd), some (.int r.2.cs), some (.str r.2.go), some ve, y9] G' (.list ((ruWords r.2).map PyData.str)) :=
          ed_is (by unfold ruWords; rw [List.map_append]; rfl) (ed_op (ed_lst (es_cons (ed_c (.str _)) (es_cons (ed_var rfl (.str r.2.pl)) (es_cons (ed_var rfl (.str r.2.wd)) (es_cons (ed_cb (es_cons (ed_var rfl (.int r.2.cs)) es_nil) (rd_str (log6 hcs.1 hcs.2))) (es_cons (ed_var rfl (.str r.2.go)) es_nil))))) (by simp)) hm (r2_addl (by rw [List.length_map, List.length_map, sizeLine_eq]; show 5 + _ ≤ _; omega)))
        refine w_appO (d := .str (ruLine r.2)) rfl o (ev_at o.s.gh (ed_join (b := true) (ys := ruWords r.2) (m := 12) (n := 11) (ed_c (.str _)) hb (fun y hy => (e2 y hy).1) e1 (by rw [b1]; decide))) ?_ fun G3 H3 xs s3 o3 => ?_
        · rw [List.length_map, List.length_append, List.length_map, List.length_take]
          omega
        · refine ⟨G3, _, _, _, _, _, _, rfl, ?_, x.trans s3.g⟩
          rw [List.take_add_one, hi]
          simpa using o3
      · obtain ⟨G3, y2', y5, y6, y7, y8, y9, rfl, o, x⟩ := hp
        rw [List.take_length] at o
        obtain ⟨G4, s4, x4, r4⟩ := o.done
        have eL : L ++ (rs.map fun r => ruLine r.2) = linesOf ws pls st (rs.map fun r => r.2) := by
          rw [← hL]
          unfold linesOf
          rw [List.map_map]
          rfl
        rw [eL] at r4
        refine w_ret (ev_at s4.gh (ed_var rfl r4)) fun v5 G5 H5 s5 r5 => ?_
        exact q v5 G5 H5 ((s1.trans s4).trans s5) r5
theorem ed_law_lines {σ : L2.St} {G : Hp} {te : TE} {ws : List Str} {pls : List Pl} {st : Str} {rs : List (Bool × Ru)} (h : EvD te σ G (partsA ws pls st rs)) (sz : SizeOk ws pls st (rs.map fun r => r.2)) : EvD (tCall spLines [] E0 (tCons te tNil)) σ G (.list ((linesOf ws pls st (rs.map fun r => r.2)).map PyData.str)) :=
  ed_call0 (es_cons h es_nil) fun G0 H0 vs e0 hvs Q' q' => by
    cases hvs with
    | cons h1 h2 =>
      cases h2
      exact ⟨_, ws, pls, st, rs, G0, rfl, h1, e0, sz, q'⟩
theorem ed_format {C : Addr} {σ : L2.St} {G : Hp} {te : TE} {a : Addr} {B : BK} (hb : EvV te σ G (.ref a)) (bk : IsBook G C a B) (sz : SizeOk B.ws B.pls B.st B.rules) : EvD (tCall (spFormat C) [] E0 (tCons te tNil)) σ G (.str (textOf B.ws B.pls B.st B.rules)) := fun H e Q q =>
  p_call (ep_V hb fun G' x => ep_nil) e fun vs G2 H2 s p => by
    obtain ⟨_, rfl, rfl⟩ := p
    exact ⟨a, B, G2, rfl, bk.mono s.g, s.gh, sz, fun G3 H3 s3 => q _ G3 H3 (s.trans s3) (.str _)⟩
end
end Fw

namespace Fw
open PySem PySem.Spec PyProof.Rows L2 Evl
open TL (tl len_tl ext_tl tl_append tl_mk mk_tl)
/-! ### a text that is read -/
section
variable {P : Program} {w : World} {K : PySem.W.Frag} {mg : Str → Option Value} {base : Heap} {t7 t8 : Tok}
abbrev DIG : Str := "0123456789"
structure Mn (mg : Str → Option Value) (t7 t8 : Tok) : Prop where
  DIGITS : mg "DIGITS" = some (.str DIG t7)
  MOST_DIGITS : mg "MOST_DIGITS" = some (.int 6 t8)
structure Ze (mg : Str → Option Value) : Prop where
  enumerate : mg "enumerate" = none
theorem dig6 {i : Int} (h0 : 0 ≤ i) (h : i ≤ 6) : ∃ c, (toString i : Str) = ⟨#[c]⟩ ∧ decide (c ∈ tl DIG) = true := by
  have : i = 0 ∨ i = 1 ∨ i = 2 ∨ i = 3 ∨ i = 4 ∨ i = 5 ∨ i = 6 := by omega
  rcases this with rfl | rfl | rfl | rfl | rfl | rfl | rfl
  · exact ⟨48, by decide +kernel, by decide +kernel⟩
  · exact ⟨49, by decide +kernel, by decide +kernel⟩
  · exact ⟨50, by decide +kernel, by decide +kernel⟩
  · exact ⟨51, by decide +kernel, by decide +kernel⟩
  · exact ⟨52, by decide +kernel, by decide +kernel⟩
  · exact ⟨53, by decide +kernel, by decide +kernel⟩
  · exact ⟨54, by decide +kernel, by decide +kernel⟩
theorem ok_of128 {x : Str} (h : ∀ c ∈ tl x, c < 128) : okD 0 (.str x) := okS_lt h
abbrev s_is_integer : Stmt := topS 31
theorem sc_is_integer : FnScope ["word", "sign"] ["word"] (defScope s_is_integer) := ⟨rfl, rfl, rfl, by decide +kernel, rfl, by decide +kernel, by decide +kernel⟩
def spInteger : Sp := fun vs H Q _ => ∃ (i : Int) (G : Hp), vs = [.str (toString i : Str)] ∧ 0 ≤ i ∧ i ≤ 6 ∧ Ex G H ∧ ∀ G2 H2, Stp G H G2 H2 → Q (.bl true) H2
theorem ok_is_integer {f : Addr} {fd : FuncData} (F : Fun K "is_integer" "is_integer" s_is_integer f fd) (Z : Zs mg) (M : Mn mg t7 t8) : FnOk P w K mg base CX0 1 f fd ["word"] spInteger := by
  refine F.ok sc_is_integer (fun vs H Q E h => ?_) (fun cdv A outer s H vs Q E hr h => ?_)
  · obtain ⟨i, G, rfl, _⟩ := h
    rfl
  · obtain ⟨i, G, rfl, h0, h6, e, q⟩ := h
    refine ⟨_, (pss_cons (ps_if (pt_not (pt_chain op_le op_le pe_int (pe_callB (k_len K rfl) (by rfl) Z.len bt_len (pa_cons (pv 0) pa_nil)) (pe_gint rfl M.MOST_DIGITS))) (pss_one (ps_ret pe_bl)) pss_nil)
      (pss_one (ps_ret (pe_and (pe_callB (k_all K rfl rfl) (by rfl) Z.all bt_all (pa_cons (pe_lc (own := [("sign", 1)]) (g := (gName 1)) (tt := tYes) rfl sc_is_integer.nd (pi_str (pv 0)) (blkOk_by (N := ["word", "sign"]) (sc := defScope s_is_integer) (own := [("sign", 1)]) (by decide +kernel)) (fun _ _ _ _ _ => (pg_name (i := 1) sc_is_integer.nd rfl (Or.inl rfl))) (fun _ _ _ _ _ => pts_nil) (fun _ _ _ _ _ => (pe_cmpR (k_inU K rfl) (pv 1) (pe_gstr rfl M.DIGITS) (by rfl)))) pa_nil)) (pe_one (pe_or (pe_cmpR (k_eqD K rfl hr.units) (pv 0) pe_str (nomark _)) (pe_one (pe_cmpR (k_neD K rfl hr.units) (pe_ix (k_ix K rfl) (pv 0) pe_int (fun _ _ => rfl)) pe_str (nomark _))))))))), ?_⟩
    obtain ⟨c, hx, hc⟩ := dig6 h0 h6
    rw [hx]
    have hok : okD 0 (.str ⟨#[c]⟩) := hx ▸ ok_of128 fun c hc => ((str6 h0 h6).2 c hc).1
    have hok0 : okD 0 (.str "0") := ok_of128 (lit_128 (by decide +kernel))
    have sl : (⟨#[c]⟩ : Str).length ≤ sizeLine := by rw [chr_len, sizeLine_eq]; omega
    refine w_when (b := false) (ec_at e (ec_is ?_ (et_not (et_cmp (ed_chain (ed_c (.int 1)) (ed_cb (es_cons (ed_var rfl (.str ⟨#[c]⟩)) es_nil) (rd_lens sl)) (ed_c (.int 6)) r2_B0 r2_B0))))) (fun hb => nomatch hb) (fun _ G2 H2 s2 => ?_)
    · rw [chr_len]
      rfl
    refine w_ret (d := .bool true) (ev_at s2.gh (ed_is ?_ (ed_and (ed_cb (es_cons (ed_is (lc_all (xs := ((tl (⟨#[c]⟩ : Str)).map fun c => decide (c ∈ tl DIG)).map PyData.bool) (by rw [List.map_map]; rfl)) (ed_lcC (y := fun c => .bool (decide (c ∈ tl DIG))) (c := fun _ => true) (ed_var rfl (.str ⟨#[c]⟩)) (show 1 < 100000 by decide) (fun _ => rfl) (fun _ _ _ _ => et_yes) (fun a _ _ G' x => ed_op (ed_var rfl (.str ⟨#[a]⟩)) (ed_c (.str DIG)) r2_sign))) es_nil) rd_all)
      (fun _ => ed_or (ed_op (ed_var rfl (.str ⟨#[c]⟩)) (ed_c (.str "0")) (r2_eq (hok.shaped (by decide)) (hok0.shaped (by decide)))) (fun _ => ed_op (d := .str ⟨#[c]⟩) (ed_chr (i := 0) (ed_var rfl (.str ⟨#[c]⟩)) (ed_c (.int 0)) (show 1 ≤ 100000 by decide) (by decide) (show (0 : Int) < 1 by decide)) (ed_c (.str "0")) (r2_ne (hok.shaped (by decide)) (hok0.shaped (by decide)))))))) fun v3 G3 H3 s3 r3 => ?_
    · have e1 : ((tl (⟨#[c]⟩ : Str)).map fun c => decide (c ∈ tl DIG)).all id = true := by
        show (decide (c ∈ tl DIG) && true) = true
        rw [hc]
        rfl
      rw [e1]
      cases PyData.eqv (.str ⟨#[c]⟩) (.str "0") <;> rfl
    obtain rfl := rp_bl r3
    exact q G3 H3 (s2.trans s3)
theorem ed_is_integer {σ : L2.St} {G : Hp} {te : TE} {i : Int} (h : EvD te σ G (.str (toString i : Str))) (h0 : 0 ≤ i) (h6 : i ≤ 6) : EvD (tCall spInteger [] E0 (tCons te tNil)) σ G (.bool true) :=
  ed_call0 (es_cons h es_nil) fun G0 H0 vs e0 hvs Q' q' => by
    rw [ra_str (ns := [(toString i : Str)]) hvs]
    exact ⟨i, G0, rfl, h0, h6, e0, fun G2 H2 s => q' _ G2 H2 s (.bl _)⟩
def plWords (p : Pl) : List Str := [("place" : Str), p.1, (toString p.2.1 : Str), yn p.2.2]
/-- the words of a line, by their numbers -/
theorem ed_wd {σ : L2.St} {G : Hp} {te : TE} {ys : List Str} {x : Str} (j : Nat) (h : EvD te σ G (.list (ys.map PyData.str))) (hj : ys[j]? = some x) : EvD (tOp (rIx K) te (tC (.int (j : Int)))) σ G (.str x) :=
  ed_op h (ed_c (.int _)) (r2_ixl (atI_nat (by rw [List.getElem?_map, hj]; rfl)))
theorem nm_len12 {x : Str} (h : isNm (tl x) = true) : x.length ≤ 1000 := by
  unfold isNm at h
  rw [Bool.and_eq_true, Bool.and_eq_true, Bool.and_eq_true] at h
  have := of_decide_eq_true h.1.1.2
  rw [len_tl]
  omega
theorem yn_in (b : Bool) : decide (yn b ∈ [("yes" : Str), ("no" : Str)]) = true := by cases b <;> decide +kernel
abbrev s_is_place : Stmt := topS 36
theorem sc_is_place : FnScope ["line"] ["line"] (defScope s_is_place) := ⟨rfl, rfl, rfl, by decide +kernel, rfl, by decide +kernel, by decide +kernel⟩
def spIsPlace : Sp := fun vs H Q _ => ∃ (v : V) (p : Pl) (G : Hp), vs = [v] ∧ Rp G v (.list ((plWords p).map PyData.str)) ∧ isNm (tl p.1) = true ∧ plOk p ∧ Ex G H ∧ ∀ G2 H2, Stp G H G2 H2 → Q (.bl true) H2
theorem ok_is_place {f f1 f2 : Addr} {fd fd1 fd2 : FuncData} (F : Fun K "_is_place" "_is_place" s_is_place f fd) (Z : Zs mg) (G_is_name : Df P w K mg base CX0 1 "is_name" f1 fd1 ["text"] spIsName) (G_is_integer : Df P w K mg base CX0 1 "is_integer" f2 fd2 ["word"] spInteger) : FnOk P w K mg base CX0 2 f fd ["line"] spIsPlace := by
  refine F.ok sc_is_place (fun vs H Q E h => ?_) (fun cdv A outer s H vs Q E hr h => ?_)
  · obtain ⟨v, p, G, rfl, _⟩ := h
    rfl
  · obtain ⟨v, p, G, rfl, hv, hn, ho, e, q⟩ := h
    refine ⟨_, (pss_one (ps_ret (pe_and (pe_cmpR (k_eqD K rfl hr.units) (pe_callB (k_len K rfl) (by rfl) Z.len bt_len (pa_cons (pv 0) pa_nil)) pe_int (nomark _)) (pe_and (pe_call G_is_name.ok (hr.mono (by decide)) (by rfl) G_is_name.g G_is_name.k G_is_name.b .nil pass0 (pa_cons (pe_ix (k_ix K rfl) (pv 0) pe_int (fun _ _ => rfl)) pa_nil)) (pe_and (pe_call G_is_integer.ok (hr.mono (by decide)) (by rfl) G_is_integer.g G_is_integer.k G_is_integer.b .nil pass0 (pa_cons (pe_ix (k_ix K rfl) (pv 0) pe_int (fun _ _ => rfl)) pa_nil)) (pe_one (pe_cmpR (k_inU K rfl) (pe_ix (k_ix K rfl) (pv 0) pe_int (fun _ _ => rfl)) (pe_tup (pa_cons pe_str (pa_cons pe_str pa_nil))) (by rfl)))))))), ?_⟩
    have l : EvD (tVar 0) [some v] G (.list ((plWords p).map PyData.str)) := ed_var rfl hv
    refine w_ret (d := .bool true) (ev_at e (ed_is ?_ (ed_and (ed_op (ed_cb (es_cons l es_nil) rd_lenl) (ed_c (.int 4)) (r2_eq rfl rfl)) (fun _ => ed_and (ed_is_name (ed_wd 1 l rfl) (nm_len12 hn)) (fun _ => ed_and (ed_is_integer (ed_wd 2 l rfl) ho.1 ho.2) (fun _ => ed_op (ed_wd 3 l rfl) (ed_tup (es_cons (ed_c (.str ("yes" : Str))) (es_cons (ed_c (.str ("no" : Str))) es_nil)) (by simp)) (r2_int (ys := [("yes" : Str), ("no" : Str)]))))))) ) fun v2 G2 H2 s2 r2 => ?_
    · rw [hn, yn_in]
      rfl
    obtain rfl := rp_bl r2
    exact q G2 H2 s2
abbrev s_is_rule : Stmt := topS 37
theorem sc_is_rule : FnScope ["line", "word"] ["line"] (defScope s_is_rule) := ⟨rfl, rfl, rfl, by decide +kernel, rfl, by decide +kernel, by decide +kernel⟩
def spIsRule : Sp := fun vs H Q _ => ∃ (v : V) (r : Ru) (G : Hp), vs = [v] ∧ Rp G v (.list ((ruWords r).map PyData.str)) ∧ (isNm (tl r.pl) = true ∧ isNm (tl r.wd) = true ∧ isNm (tl r.go) = true) ∧ ((0 ≤ r.cs ∧ r.cs ≤ 6) ∧ r.mv.length ≤ 6 ∧ ∀ x ∈ r.mv, 0 ≤ x ∧ x ≤ 6) ∧ Ex G H ∧ ∀ G2 H2, Stp G H G2 H2 → Q (.bl true) H2
theorem ok_is_rule {f f1 f2 : Addr} {fd fd1 fd2 : FuncData} (F : Fun K "_is_rule" "_is_rule" s_is_rule f fd) (Z : Zs mg) (G_is_name : Df P w K mg base CX0 1 "is_name" f1 fd1 ["text"] spIsName) (G_is_integer : Df P w K mg base CX0 1 "is_integer" f2 fd2 ["word"] spInteger) : FnOk P w K mg base CX0 2 f fd ["line"] spIsRule := by
  refine F.ok sc_is_rule (fun vs H Q E h => ?_) (fun cdv A outer s H vs Q E hr h => ?_)
  · obtain ⟨v, r, G, rfl, _⟩ := h
    rfl
  · obtain ⟨v, r, G, rfl, hv, hn, ho, e, q⟩ := h
    refine ⟨_, (pss_cons (ps_if (PW.pt (pw_or (pt_cmpR op_lt (pe_callB (k_len K rfl) (by rfl) Z.len bt_len (pa_cons (pv 0) pa_nil)) pe_int (nomark _)) (pw_or1 (pt_not (pt_val (pe_callB (k_all K rfl rfl) (by rfl) Z.all bt_all (pa_cons (pe_lc (own := [("word", 1)]) (g := (gName 1)) (tt := tYes) rfl sc_is_rule.nd (k_piL K rfl (pe_op (k_addU K rfl) (pe_slice (k_sl K rfl) (pv 0) (po_some pe_int) (po_some pe_int)) (pe_slice (k_sl K rfl) (pv 0) (po_some pe_int) po_none))) (blkOk_by (N := ["line", "word"]) (sc := defScope s_is_rule) (own := [("word", 1)]) (by decide +kernel)) (fun _ _ _ _ _ => (pg_name (i := 1) sc_is_rule.nd rfl (Or.inl rfl))) (fun _ _ _ _ _ => pts_nil) (fun _ _ _ _ _ => (pe_call G_is_integer.ok (hr.mono (by decide)) (by rfl) G_is_integer.g G_is_integer.k G_is_integer.b .nil pass0 (pa_cons (pv 1) pa_nil)))) pa_nil))))))) (pss_one (ps_ret pe_bl)) pss_nil)
      (pss_one (ps_ret (pe_and (pe_call G_is_name.ok (hr.mono (by decide)) (by rfl) G_is_name.g G_is_name.k G_is_name.b .nil pass0 (pa_cons (pe_ix (k_ix K rfl) (pv 0) pe_int (fun _ _ => rfl)) pa_nil)) (pe_and (pe_call G_is_name.ok (hr.mono (by decide)) (by rfl) G_is_name.g G_is_name.k G_is_name.b .nil pass0 (pa_cons (pe_ix (k_ix K rfl) (pv 0) pe_int (fun _ _ => rfl)) pa_nil)) (pe_one (pe_call G_is_name.ok (hr.mono (by decide)) (by rfl) G_is_name.g G_is_name.k G_is_name.b .nil pass0 (pa_cons (pe_ix (k_ix K rfl) (pv 0) pe_int (fun _ _ => rfl)) pa_nil)))))))), ?_⟩
    have l : EvD (tVar 0) [some v, none] G (.list ((ruWords r).map PyData.str)) := ed_var rfl hv
    have hl5 : 5 ≤ (ruWords r).length := by
      unfold ruWords
      rw [List.length_append]
      exact Nat.le_add_right 5 _
    have e3 : cutD ((ruWords r).map PyData.str) (some 3) (some 4) ++ cutD ((ruWords r).map PyData.str) (some 5) none = (r.cs :: r.mv).map fun i => PyData.str (toString i : Str) := by
      have h1 : cutD ((ruWords r).map PyData.str) (some 3) (some 4) = [.str (toString r.cs : Str)] := by
        have a1 : HT.sIx ((ruWords r).map PyData.str).length 0 (some 3) = 3 := (HT.sIx_nat _ _ 3).trans (Nat.min_eq_left (by rw [List.length_map]; omega))
        have a2 : HT.sIx ((ruWords r).map PyData.str).length ((ruWords r).map PyData.str).length (some 4) = 4 := (HT.sIx_nat _ _ 4).trans (Nat.min_eq_left (by rw [List.length_map]; omega))
        unfold cutD
        rw [a1, a2]
        rfl
      rw [h1, show (some 5 : Option Int) = some ((5 : Nat) : Int) from rfl, cut_from]
      unfold ruWords
      show _ :: (r.mv.map fun i => (toString i : Str)).map PyData.str = _
      rw [List.map_map]
      rfl
    have hz : 0 ≤ r.cs ∧ r.cs ≤ 6 := ho.1
    have hm : ∀ x ∈ r.cs :: r.mv, 0 ≤ x ∧ x ≤ 6 := fun x hx => by
      rcases List.mem_cons.mp hx with z | z
      · rw [z]; exact hz
      · exact ho.2.2 x z
    have hlen : (r.cs :: r.mv).length ≤ 7 := by
      rw [List.length_cons]
      have := ho.2.1
      omega
    have hlist : EvD (tOp (rAddU K) (tSl (rSlU K) (tVar 0) (tPart (tC (.int 3))) (tPart (tC (.int 4)))) (tSl (rSlU K) (tVar 0) (tPart (tC (.int 5))) tNoPart)) [some v, none] G (.list ((r.cs :: r.mv).map fun i => PyData.str (toString i : Str))) := by
      refine ed_is (congrArg PyData.list e3) (ed_op (ed_sll l (eb_some (ed_c (.int 3))) (eb_some (ed_c (.int 4)))) (ed_sll l (eb_some (ed_c (.int 5))) eb_none) (r2_addl ?_))
      have := congrArg List.length e3
      rw [List.length_append, List.length_map] at this
      rw [this, sizeLine_eq]
      omega
    refine w_when (b := false) (ec_at e (ec_is ?_ (et_or (et_cmp (ed_op (ed_cb (es_cons l es_nil) rd_lenl) (ed_c (.int 5)) r2_B0)) (fun _ => et_not (et_val (ed_cb (es_cons (ed_is (lc_all (xs := ((r.cs :: r.mv).map fun _ => true).map PyData.bool) (by rw [List.map_map]; rfl)) (ed_lcL1 (as := r.cs :: r.mv) (f := fun i => PyData.str (toString i : Str)) (y := fun _ => .bool true) (c := fun _ => true) hlist (by omega) (fun _ => rfl) (fun _ _ _ _ _ _ => et_yes) (fun i hi _ u G' x hu => ed_is_integer (ed_var rfl hu) (hm i hi).1 (hm i hi).2))) es_nil) rd_all)))))) (fun hb => nomatch hb) (fun _ G2 H2 s2 => ?_)
    · have a1 : ((r.cs :: r.mv).map fun _ => true).all id = true := List.all_eq_true.mpr fun b hb => by
        obtain ⟨_, _, rfl⟩ := List.mem_map.mp hb
        rfl
      rw [a1, List.length_map]
      have a2 : decide (((ruWords r).length : Int) < 5) = false := decide_eq_false (by omega)
      rw [a2]
      rfl
    have l2 : EvD (tVar 0) [some v, none] G2 (.list ((ruWords r).map PyData.str)) := l.mono s2.g
    refine w_ret (d := .bool true) (ev_at s2.gh (ed_is ?_ (ed_and (ed_is_name (ed_wd 1 l2 rfl) (nm_len12 hn.1)) (fun _ => ed_and (ed_is_name (ed_wd 2 l2 rfl) (nm_len12 hn.2.1)) (fun _ => ed_is_name (ed_wd 4 l2 rfl) (nm_len12 hn.2.2)))))) fun v3 G3 H3 s3 r3 => ?_
    · rw [hn.1, hn.2.1, hn.2.2]
      rfl
    obtain rfl := rp_bl r3
    exact q G3 H3 (s2.trans s3)
end
end Fw

namespace Fw
open PySem PySem.Spec PyProof.Rows L2 Evl
open TL (tl len_tl ext_tl tl_append tl_mk mk_tl)
/-! ### lines that may stand -/
section
variable {P : Program} {w : World} {K : PySem.W.Frag} {mg : Str → Option Value} {base : Heap} {t7 t8 : Tok}
structure NmOk (ws : List Str) (pls : List Pl) (st : Str) (rs : List Ru) : Prop where
  w : ∀ x ∈ ws, isNm (tl x) = true
  p : ∀ p ∈ pls, isNm (tl p.1) = true
  s : isNm (tl st) = true
  r : ∀ r ∈ rs, isNm (tl r.pl) = true ∧ isNm (tl r.wd) = true ∧ isNm (tl r.go) = true
theorem PartsOk.names {B : BK} (h : PartsOk B) {rs : List Ru} (hr : ∀ r ∈ rs, r ∈ B.rs) : NmOk B.ws B.pls B.st rs := by
  have hp : ∀ p ∈ B.pls, isNm (tl p.1) = true := fun p hp => h.p.1.1 p.1 (List.mem_map.mpr ⟨p, hp, rfl⟩)
  refine ⟨h.w.1.1, hp, ?_, fun r hr' => ?_⟩
  · obtain ⟨p, hp', e, _⟩ := h.st
    exact e ▸ hp p hp'
  · obtain ⟨pl, hpl, wd, hwd, cc, R, _⟩ := h.good r (hr r hr')
    obtain ⟨g, hg, e1, _⟩ := R.go
    exact ⟨R.epl ▸ hp pl hpl, R.ewd ▸ h.w.1.1 wd hwd, e1 ▸ hp g hg⟩
theorem SizeOk.sub {ws : List Str} {pls : List Pl} {st : Str} {rs rs' : List Ru} (h : SizeOk ws pls st rs) (hr : ∀ r ∈ rs', r ∈ rs) (hl : rs'.length ≤ 2000) : SizeOk ws pls st rs' := ⟨h.w, h.p, h.s, hl, fun r hr' => h.r r (hr r hr')⟩
def noBl (x : Str) : Prop := 32 ∉ tl x ∧ 10 ∉ tl x
theorem nm_noBl {x : Str} (h : isNm (tl x) = true) : noBl x := by
  unfold isNm at h
  rw [Bool.and_eq_true] at h
  have h2 := h.2
  have k : ∀ c ∈ tl x, c ≠ 32 ∧ c ≠ 10 := fun c hc => by
    have h3 := of_decide_eq_true (List.all_eq_true.mp h2 c hc)
    have h4 : (tl SIG).all (fun c => decide (c ≠ 32 ∧ c ≠ 10)) = true := by decide +kernel
    exact of_decide_eq_true (List.all_eq_true.mp h4 c h3)
  exact ⟨fun z => (k 32 z).1 rfl, fun z => (k 10 z).2 rfl⟩
theorem dig_noBl {i : Int} (h0 : 0 ≤ i) (h : i ≤ 6) : noBl (toString i : Str) := ⟨fun z => ((str6 h0 h).2 32 z).2.1 rfl, fun z => ((str6 h0 h).2 10 z).2.2 rfl⟩
theorem yn_noBl (b : Bool) : noBl (yn b) := by cases b <;> exact ⟨by decide +kernel, by decide +kernel⟩
/-- the words, line by line -/
def wordsOf (ws : List Str) (pls : List Pl) (st : Str) (rs : List Ru) : List (List Str) := ([("words" : Str)] ++ ws) :: [("start" : Str), st] :: (pls.map plWords ++ rs.map ruWords)
theorem lines_words (ws : List Str) (pls : List Pl) (st : Str) (rs : List Ru) : linesOf ws pls st rs = (wordsOf ws pls st rs).map (Txt.join " ") := by
  have e1 : ("start " : Str) ++ st = Txt.join " " [("start" : Str), st] := ext_tl (by
    rw [TL.join_eq, TL.tl_join, tl_append]
    show tl ("start " : Str) ++ tl st = tl ("start" : Str) ++ (tl (" " : Str) ++ tl st)
    rw [← List.append_assoc, show tl ("start" : Str) ++ tl (" " : Str) = tl ("start " : Str) by decide +kernel])
  have e2 : ∀ p : Pl, plLine p = Txt.join " " (plWords p) := fun p => ext_tl (by
    rw [TL.join_eq, TL.tl_join]
    unfold plLine plWords
    rw [tl_append, tl_append, tl_append, tl_append, tl_append]
    show tl ("place " : Str) ++ tl p.1 ++ tl (" " : Str) ++ tl (toString p.2.1 : Str) ++ tl (" " : Str) ++ tl (yn p.2.2) = tl ("place" : Str) ++ (tl (" " : Str) ++ (tl p.1 ++ (tl (" " : Str) ++ (tl (toString p.2.1 : Str) ++ (tl (" " : Str) ++ tl (yn p.2.2))))))
    rw [show tl ("place " : Str) = tl ("place" : Str) ++ tl (" " : Str) by decide +kernel]
    simp only [List.append_assoc])
  unfold linesOf wordsOf
  rw [List.map_cons, List.map_cons, List.map_append, List.map_map, List.map_map, e1, show (Txt.join " " ∘ plWords) = plLine from funext fun p => (e2 p).symm]
  rfl
theorem words_noBl {ws : List Str} {pls : List Pl} {st : Str} {rs : List Ru} (sz : SizeOk ws pls st rs) (nm : NmOk ws pls st rs) : ∀ l ∈ wordsOf ws pls st rs, l ≠ [] ∧ ∀ x ∈ l, noBl x := fun l hl => by
  unfold wordsOf at hl
  rcases List.mem_cons.mp hl with rfl | hl
  · refine ⟨List.cons_ne_nil _ _, fun x hx => ?_⟩
    rcases List.mem_append.mp hx with z | z
    · rw [List.mem_singleton.mp z]
      exact ⟨by decide +kernel, by decide +kernel⟩
    · exact nm_noBl (nm.w x z)
  · rcases List.mem_cons.mp hl with rfl | hl
    · refine ⟨List.cons_ne_nil _ _, fun x hx => ?_⟩
      have hx : x = ("start" : Str) ∨ x = st := by simpa using hx
      rcases hx with rfl | rfl
      · exact ⟨by decide +kernel, by decide +kernel⟩
      · exact nm_noBl nm.s
    · rcases List.mem_append.mp hl with hl | hl
      · obtain ⟨p, hp, rfl⟩ := List.mem_map.mp hl
        refine ⟨List.cons_ne_nil _ _, fun x hx => ?_⟩
        have hx : x = ("place" : Str) ∨ x = p.1 ∨ x = (toString p.2.1 : Str) ∨ x = yn p.2.2 := by simpa [plWords] using hx
        rcases hx with rfl | rfl | rfl | rfl
        · exact ⟨by decide +kernel, by decide +kernel⟩
        · exact nm_noBl (nm.p p hp)
        · exact dig_noBl (sz.p.2 p hp).2.1 (sz.p.2 p hp).2.2
        · exact yn_noBl _
      · obtain ⟨r, hr, rfl⟩ := List.mem_map.mp hl
        obtain ⟨_, _, _, hc, _, hm⟩ := sz.r r hr
        obtain ⟨n1, n2, n3⟩ := nm.r r hr
        refine ⟨List.cons_ne_nil _ _, fun x hx => ?_⟩
        unfold ruWords at hx
        rcases List.mem_append.mp hx with z | z
        · have z : x = ("rule" : Str) ∨ x = r.pl ∨ x = r.wd ∨ x = (toString r.cs : Str) ∨ x = r.go := by simpa using z
          rcases z with rfl | rfl | rfl | rfl | rfl
          · exact ⟨by decide +kernel, by decide +kernel⟩
          · exact nm_noBl n1
          · exact nm_noBl n2
          · exact dig_noBl hc.1 hc.2
          · exact nm_noBl n3
        · obtain ⟨i, hi, rfl⟩ := List.mem_map.mp z
          exact dig_noBl (hm i hi).1 (hm i hi).2
theorem join_noNl {a : Str} {ys : List Str} (ha : 10 ∉ tl a) (h : ∀ y ∈ ys, noBl y) : 10 ∉ tl (Txt.join a ys) := fun hc => by
  rw [TL.join_eq, TL.tl_join] at hc
  rcases joinL_mem hc with z | ⟨p, hp, z⟩
  · exact ha z
  · obtain ⟨y, hy, rfl⟩ := List.mem_map.mp hp
    exact (h y hy).2 z
def wdD (l : List Str) : PyData := .list (l.map PyData.str)
/-- what may stand at line i, rules begun or not -/
inductive Can : Nat → Bool → List Str → Prop
  | w {b : Bool} {ws : List Str} (hl : ws.length ≤ 1000) (h : ∀ x ∈ ws, isNm (tl x) = true) : Can 0 b ([("words" : Str)] ++ ws)
  | s {b : Bool} {st : Str} (h : isNm (tl st) = true) : Can 1 b [("start" : Str), st]
  | p {i : Nat} {p : Pl} (hi : 2 ≤ i) (h : isNm (tl p.1) = true) (ho : plOk p) : Can i false (plWords p)
  | r {i : Nat} {b : Bool} {r : Ru} (hi : 2 ≤ i) (h : isNm (tl r.pl) = true ∧ isNm (tl r.wd) = true ∧ isNm (tl r.go) = true) (ho : (0 ≤ r.cs ∧ r.cs ≤ 6) ∧ r.mv.length ≤ 6 ∧ ∀ x ∈ r.mv, 0 ≤ x ∧ x ≤ 6) : Can i b (ruWords r)
theorem okL (x : Str) (h : (tl x).all (fun c => decide (c < 128)) = true := by decide +kernel) : okD 0 (.str x) := ok_of128 (lit_128 h)
abbrev s_can_stand : Stmt := topS 35
theorem sc_can_stand : FnScope ["at", "line", "rules_begun", "word"] ["at", "line", "rules_begun"] (defScope s_can_stand) := ⟨rfl, rfl, rfl, by decide +kernel, rfl, by decide +kernel, by decide +kernel⟩
def spCan : Sp := fun vs H Q _ => ∃ (v : V) (i : Nat) (b : Bool) (l : List Str) (G : Hp), vs = [.int (i : Int), v, .bl b] ∧ Rp G v (wdD l) ∧ Can i b l ∧ Ex G H ∧ ∀ G2 H2, Stp G H G2 H2 → Q (.bl true) H2
theorem ok_can_stand {f f1 f2 f3 : Addr} {fd fd1 fd2 fd3 : FuncData} (F : Fun K "_can_stand" "_can_stand" s_can_stand f fd) (Z : Zs mg) (G_is_name : Df P w K mg base CX0 1 "is_name" f1 fd1 ["text"] spIsName) (G_is_place : Df P w K mg base CX0 2 "_is_place" f2 fd2 ["line"] spIsPlace) (G_is_rule : Df P w K mg base CX0 2 "_is_rule" f3 fd3 ["line"] spIsRule) :
    FnOk P w K mg base CX0 3 f fd ["at", "line", "rules_begun"] spCan := by
  refine F.ok sc_can_stand (fun vs H Q E h => ?_) (fun cdv A outer s H vs Q E hr h => ?_)
  · obtain ⟨v, i, b, l, G, rfl, _⟩ := h
    rfl
  · obtain ⟨v, i, b, l, G, rfl, hv, hc, e, q⟩ := h
    refine ⟨_, (pss_cons (ps_if (pt_cmpR (k_eqD K rfl hr.units) (pv 0) pe_int (nomark _)) (pss_one (ps_ret (pe_and (pe_cmpR (k_eqD K rfl hr.units) (pe_ix (k_ix K rfl) (pv 1) pe_int (fun _ _ => rfl)) pe_str (nomark _)) (pe_one (pe_callB (k_all K rfl rfl) (by rfl) Z.all bt_all (pa_cons (pe_lc (own := [("word", 3)]) (g := (gName 3)) (tt := tYes) rfl sc_can_stand.nd (k_piL K rfl (pe_slice (k_sl K rfl) (pv 1) (po_some pe_int) po_none)) (blkOk_by (N := ["at", "line", "rules_begun", "word"]) (sc := defScope s_can_stand) (own := [("word", 3)]) (by decide +kernel)) (fun _ _ _ _ _ => (pg_name (i := 3) sc_can_stand.nd rfl (Or.inl rfl))) (fun _ _ _ _ _ => pts_nil) (fun _ _ _ _ _ => (pe_call G_is_name.ok (hr.mono (by decide)) (by rfl) G_is_name.g G_is_name.k G_is_name.b .nil pass0 (pa_cons (pv 3) pa_nil)))) pa_nil)))))) pss_nil)
      (pss_cons (ps_if (pt_cmpR (k_eqD K rfl hr.units) (pv 0) pe_int (nomark _)) (pss_one (ps_ret (pe_and (pe_cmpR (k_eqD K rfl hr.units) (pe_ix (k_ix K rfl) (pv 1) pe_int (fun _ _ => rfl)) pe_str (nomark _)) (pe_and (pe_cmpR (k_eqD K rfl hr.units) (pe_callB (k_len K rfl) (by rfl) Z.len bt_len (pa_cons (pv 1) pa_nil)) pe_int (nomark _)) (pe_one (pe_call G_is_name.ok (hr.mono (by decide)) (by rfl) G_is_name.g G_is_name.k G_is_name.b .nil pass0 (pa_cons (pe_ix (k_ix K rfl) (pv 1) pe_int (fun _ _ => rfl)) pa_nil))))))) pss_nil)
      (pss_cons (ps_if (pt_cmpR (k_eqD K rfl hr.units) (pe_ix (k_ix K rfl) (pv 1) pe_int (fun _ _ => rfl)) pe_str (nomark _)) (pss_one (ps_ret (pe_and (pe_not (pv 2)) (pe_one (pe_call G_is_place.ok (hr.mono (by decide)) (by rfl) G_is_place.g G_is_place.k G_is_place.b .nil pass0 (pa_cons (pv 1) pa_nil)))))) pss_nil)
      (pss_one (ps_ret (pe_and (pe_cmpR (k_eqD K rfl hr.units) (pe_ix (k_ix K rfl) (pv 1) pe_int (fun _ _ => rfl)) pe_str (nomark _)) (pe_one (pe_call G_is_rule.ok (hr.mono (by decide)) (by rfl) G_is_rule.g G_is_rule.k G_is_rule.b .nil pass0 (pa_cons (pv 1) pa_nil))))))))), ?_⟩
    have lv {G' : Hp} (x : Ex G G') : EvD (tVar 1) [some (.int (i : Int)), some v, some (.bl b), none] G' (.list (l.map PyData.str)) := ed_var rfl (rp_mono x _ _ hv)
    have ivv {G' : Hp} : EvD (tVar 0) [some (.int (i : Int)), some v, some (.bl b), none] G' (.int (i : Int)) := ed_var rfl (.int _)
    -- at == 0
    refine w_when (ec_at e (et_cmp (ed_op ivv (ed_c (.int 0)) (r2_eq rfl rfl)))) (fun hb G2 H2 s2 => ?_) (fun hb G2 H2 s2 => ?_)
    · rw [eqv_ints] at hb
      have h0 := of_decide_eq_true hb
      cases hc with
      | @w _ ws hl hw =>
        have l2 := lv s2.g
        have lc : EvD (tSl (rSlU K) (tVar 1) (tPart (tC (.int 1))) tNoPart) [some (.int ((0 : Nat) : Int)), some v, some (.bl b), none] G2 (.list (ws.map PyData.str)) := ed_is (by rw [show (some 1 : Option Int) = some ((1 : Nat) : Int) from rfl, cut_from]; rfl) (ed_sll l2 (eb_some (ed_c (.int 1))) eb_none)
        refine w_ret (d := .bool true) (ev_at s2.gh (ed_is ?_ (ed_and (ed_op (ed_wd 0 l2 rfl) (ed_c (.str ("words" : Str))) (r2_eq ((okL "words").shaped (by decide)) ((okL "words").shaped (by decide)))) (fun _ => ed_cb (es_cons (ed_is (lc_all (xs := (ws.map fun x => isNm (tl x)).map PyData.bool) (by rw [List.map_map]; rfl)) (ed_lcL1 (as := ws) (f := PyData.str) (y := fun x => .bool (isNm (tl x))) (c := fun _ => true) lc (by omega) (fun _ => rfl) (fun _ _ _ _ _ _ => et_yes) (fun x hx _ u G' _ hu => ed_is_name (ed_var rfl hu) (nm_len12 (hw x hx))))) es_nil) rd_all)))) fun v3 G3 H3 s3 r3 => ?_
        · have a1 : (ws.map fun x => isNm (tl x)).all id = true := List.all_eq_true.mpr fun b hb => by
            obtain ⟨x, hx, rfl⟩ := List.mem_map.mp hb
            exact hw x hx
          rw [a1, eqv_same (okL "words")]
          rfl
        obtain rfl := rp_bl r3
        exact q G3 H3 (s2.trans s3)
      | s h => exact absurd h0 (by decide)
      | p hi _ _ => omega
      | r hi _ _ => omega
    · rw [eqv_ints] at hb
      have h0 := of_decide_eq_false hb
      -- at == 1
      refine w_when (ec_at s2.gh (et_cmp (ed_op ivv (ed_c (.int 1)) (r2_eq rfl rfl)))) (fun hb G3 H3 s3 => ?_) (fun hb G3 H3 s3 => ?_)
      · rw [eqv_ints] at hb
        have h1 := of_decide_eq_true hb
        cases hc with
        | w hl hw => exact absurd rfl h0
        | @s _ st hs =>
          have l3 := lv (s2.trans s3).g
          refine w_ret (d := .bool true) (ev_at s3.gh (ed_is ?_ (ed_and (ed_op (ed_wd 0 l3 rfl) (ed_c (.str ("start" : Str))) (r2_eq ((okL "start").shaped (by decide)) ((okL "start").shaped (by decide)))) (fun _ => ed_and (ed_op (ed_cb (es_cons l3 es_nil) rd_lenl) (ed_c (.int 2)) (r2_eq rfl rfl)) (fun _ => ed_is_name (ed_wd 1 l3 rfl) (nm_len12 hs)))))) fun v4 G4 H4 s4 r4 => ?_
          · rw [hs, eqv_same (okL "start")]
            rfl
          obtain rfl := rp_bl r4
          exact q G4 H4 ((s2.trans s3).trans s4)
        | p hi _ _ => omega
        | r hi _ _ => omega
      · rw [eqv_ints] at hb
        have h1 := of_decide_eq_false hb
        have S3 := s2.trans s3
        have l3 := lv S3.g
        cases hc with
        | w hl hw => exact absurd rfl h0
        | s hs => exact absurd rfl h1
        | @p _ p hi hn ho =>
          refine w_when (b := true) (ec_at s3.gh (ec_is ?_ (et_cmp (ed_op (ed_wd 0 l3 rfl) (ed_c (.str ("place" : Str))) (r2_eq ((okL "place").shaped (by decide)) ((okL "place").shaped (by decide))))))) (fun _ G4 H4 s4 => ?_) (fun hb => nomatch hb)
          · exact eqv_same (okL "place")
          have pc : EvD (tCall spIsPlace [] E0 (tCons (tVar 1) tNil)) [some (.int (i : Int)), some v, some (.bl false), none] G4 (.bool true) := ed_call0 (es_cons (ed_var rfl (rp_mono (S3.trans s4).g _ _ hv)) es_nil) fun G0 H0 vs e0 hvs Q' q' => by
            cases hvs with
            | cons k1 k2 =>
              cases k2
              exact ⟨_, p, G0, rfl, k1, hn, ho, e0, fun G2 H2 s => q' _ G2 H2 s (.bl _)⟩
          refine w_ret (d := .bool (!false && true)) (ev_at s4.gh (ed_and (ed_notV (ed_var rfl (.bl false))) (fun _ => pc))) fun v5 G5 H5 s5 r5 => ?_
          obtain rfl := rp_bl r5
          exact q G5 H5 ((S3.trans s4).trans s5)
        | @r _ _ r hi hn ho =>
          refine w_when (b := false) (ec_at s3.gh (ec_is ?_ (et_cmp (ed_op (ed_wd 0 l3 rfl) (ed_c (.str ("place" : Str))) (r2_eq ((okL "rule").shaped (by decide)) ((okL "place").shaped (by decide))))))) (fun hb => nomatch hb) (fun _ G4 H4 s4 => ?_)
          · show PyData.eqv (.str (Str.ofString "rule")) (.str (Str.ofString "place")) = false
            decide +kernel
          have l4 := lv (S3.trans s4).g
          have pc : EvD (tCall spIsRule [] E0 (tCons (tVar 1) tNil)) [some (.int (i : Int)), some v, some (.bl b), none] G4 (.bool true) := ed_call0 (es_cons (ed_var rfl (rp_mono (S3.trans s4).g _ _ hv)) es_nil) fun G0 H0 vs e0 hvs Q' q' => by
            cases hvs with
            | cons k1 k2 =>
              cases k2
              exact ⟨_, r, G0, rfl, k1, hn, ho, e0, fun G2 H2 s => q' _ G2 H2 s (.bl _)⟩
          refine w_ret (d := .bool true) (ev_at s4.gh (ed_is ?_ (ed_and (ed_op (ed_wd 0 l4 rfl) (ed_c (.str ("rule" : Str))) (r2_eq ((okL "rule").shaped (by decide)) ((okL "rule").shaped (by decide)))) (fun _ => pc)))) fun v5 G5 H5 s5 r5 => ?_
          · rw [eqv_same (okL "rule")]
            rfl
          obtain rfl := rp_bl r5
          exact q G5 H5 ((S3.trans s4).trans s5)
theorem ed_can_stand {σ : L2.St} {G : Hp} {ta tb tc : TE} {i : Nat} {b : Bool} {l : List Str} (h1 : EvD ta σ G (.int (i : Int))) (h2 : EvD tb σ G (wdD l)) (h3 : EvD tc σ G (.bool b)) (hc : Can i b l) : EvD (tCall spCan [] E0 (tCons ta (tCons tb (tCons tc tNil)))) σ G (.bool true) :=
  ed_call0 (es_cons h1 (es_cons h2 (es_cons h3 es_nil))) fun G0 H0 vs e0 hvs Q' q' => by
    obtain ⟨x, y, z, rfl, r1, r2, r3⟩ := ra_three hvs
    obtain rfl := rp_int r1
    obtain rfl := rp_bl r3
    exact ⟨y, i, b, l, G0, rfl, r2, hc, e0, fun G2 H2 s => q' _ G2 H2 s (.bl _)⟩
theorem can_at {ws : List Str} {pls : List Pl} {st : Str} {rs : List Ru} (sz : SizeOk ws pls st rs) (nm : NmOk ws pls st rs) {i : Nat} {l : List Str} (h : (wordsOf ws pls st rs)[i]? = some l) :
    Can i (decide (2 + pls.length < i)) l ∧ ∃ x, l[0]? = some x ∧ okD 0 (.str x) ∧ PyData.eqv (.str x) (.str ("rule" : Str)) = decide (2 + pls.length ≤ i) := by
  unfold wordsOf at h
  match i, h with
  | 0, h =>
    cases h
    exact ⟨.w (by have := sz.w.1; omega) nm.w, _, rfl, okL "words", by rw [decide_eq_false (by omega)]; decide +kernel⟩
  | 1, h =>
    cases h
    exact ⟨.s nm.s, _, rfl, okL "start", by rw [decide_eq_false (by omega)]; decide +kernel⟩
  | i + 2, h =>
    have h : (pls.map plWords ++ rs.map ruWords)[i]? = some l := h
    by_cases hi : i < pls.length
    · rw [List.getElem?_append_left (by rw [List.length_map]; exact hi), List.getElem?_map] at h
      obtain ⟨p, hp, rfl⟩ := Option.map_eq_some_iff.mp h
      have mem := List.mem_of_getElem? hp
      rw [decide_eq_false (by omega : ¬ 2 + pls.length < i + 2), decide_eq_false (by omega : ¬ 2 + pls.length ≤ i + 2)]
      exact ⟨.p (by omega) (nm.p p mem) (sz.p.2 p mem).2, _, rfl, okL "place", by decide +kernel⟩
    · rw [List.getElem?_append_right (by rw [List.length_map]; omega), List.getElem?_map] at h
      obtain ⟨r, hr, rfl⟩ := Option.map_eq_some_iff.mp h
      have mem := List.mem_of_getElem? hr
      obtain ⟨_, _, _, o1, o2, o3⟩ := sz.r r mem
      rw [decide_eq_true (by omega : 2 + pls.length ≤ i + 2)]
      exact ⟨.r (by omega) (nm.r r mem) ⟨o1, o2, o3⟩, _, rfl, okL "rule", by decide +kernel⟩
abbrev s_check_form : Stmt := topS 34
theorem sc_check_form : FnScope ["lines", "rules_begun", "at", "line"] ["lines"] (defScope s_check_form) := ⟨rfl, rfl, rfl, by decide +kernel, rfl, by decide +kernel, by decide +kernel⟩
def spForm : Sp := fun vs H Q _ => ∃ (v : V) (ws : List Str) (pls : List Pl) (st : Str) (rs : List Ru) (G : Hp), vs = [v] ∧ Rp G v (.list ((wordsOf ws pls st rs).map wdD)) ∧ SizeOk ws pls st rs ∧ NmOk ws pls st rs ∧ Ex G H ∧ ∀ G2 H2, Stp G H G2 H2 → Q .non H2
theorem ok_check_form {f f1 : Addr} {fd fd1 : FuncData} (F : Fun K "_check_form" "_check_form" s_check_form f fd) (Z : Zs mg) (Z2 : Ze mg) (G_can_stand : Df P w K mg base CX0 3 "_can_stand" f1 fd1 ["at", "line", "rules_begun"] spCan) : FnOk P w K mg base CX0 4 f fd ["lines"] spForm := by
  refine F.ok sc_check_form (fun vs H Q E h => ?_) (fun cdv A outer s H vs Q E hr h => ?_)
  · obtain ⟨v, ws, pls, st, rs, G, rfl, _⟩ := h
    rfl
  · obtain ⟨v, ws, pls, st, rs, G, rfl, hv, sz, nm, e, q⟩ := h
    refine ⟨_, (pss_cons (ps_set (i := 1) sc_check_form.nd rfl (Or.inl rfl) pe_bl)
      (pss_cons (ps_for PassesOwn.never rfl (k_enum K rfl (by rfl) Z2.enumerate (pa_cons (pv 0) pa_nil)) (k_tgt K rfl rfl (pgs_cons (pg_name (i := 2) sc_check_form.nd rfl (Or.inl rfl)) (pgs_cons (pg_name (i := 3) sc_check_form.nd rfl (Or.inl rfl)) pgs_nil))) (pss_cons (ps_if (pt_not (pt_val (pe_call G_can_stand.ok (hr.mono (by decide)) (by rfl) G_can_stand.g G_can_stand.k G_can_stand.b .nil pass0 (pa_cons (pv 2) (pa_cons (pv 3) (pa_cons (pv 1) pa_nil)))))) (pss_one ps_never) pss_nil)
        (pss_one (ps_set (i := 1) sc_check_form.nd rfl (Or.inl rfl) (pe_or (pv 1) (pe_one (pe_cmpR (k_eqD K rfl hr.units) (pe_ix (k_ix K rfl) (pv 3) pe_int (fun _ _ => rfl)) pe_str (nomark _))))))))
      (pss_one (ps_if (pt_cmpR (k_eqD K rfl hr.units) (pe_callB (k_len K rfl) (by rfl) Z.len bt_len (pa_cons (pv 0) pa_nil)) pe_int (nomark _)) (pss_one ps_never) pss_nil)))), ?_⟩
    refine w_set (ev_at e (ed_c (.bl false))) fun v1 G1 H1 s1 r1 => ?_
    obtain rfl := rp_bl r1
    refine w_forE (as := wordsOf ws pls st rs) (f := wdD) (ed_var rfl (rp_mono s1.g _ _ hv)) s1.gh (fun Gl i σ' H' => ∃ (G' : Hp) (y2 y3 : Option V), σ' = [some v, some (.bl (decide (2 + pls.length < i))), y2, y3] ∧ Stp G H G' H' ∧ Ex Gl G')
      (fun G2 H2 s2 => ⟨G2, none, none, rfl, s1.trans s2, Ex.refl _⟩) (fun Gl i σ' H' hp => ?_) (fun Gl i l v' σ' H' T eG hi hv' hp hT => ?_) (fun Gl σ' H' eG hp => ?_)
    · obtain ⟨G', _, _, _, S, x⟩ := hp
      exact x.trans S.gh
    · obtain ⟨G', y2, y3, rfl, S, x⟩ := hp
      obtain ⟨hc, x0, hx0, ok0, he0⟩ := can_at sz nm hi
      have sT := Stp.new (o := .tup [.int (i : Nat), v']) S.gh hT
      have rv := rp_mono (x.trans sT.g) _ _ hv'
      refine w_when (b := false) (ec_at sT.gh (et_not (et_val (ed_can_stand (ed_var rfl (.int (i : Int))) (ed_var rfl rv) (ed_var rfl (.bl _)) hc)))) (fun hb => nomatch hb) (fun _ G3 H3 s3 => ?_)
      refine w_set1 (ev_at s3.gh (ed_or (ed_var rfl (.bl _)) (fun _ => ed_op (ed_wd 0 (ed_var rfl (rp_mono s3.g _ _ rv)) hx0) (ed_c (.str ("rule" : Str))) (r2_eq (ok0.shaped (by decide)) ((okL "rule").shaped (by decide)))))) fun v4 G4 H4 s4 r4 => ?_
      obtain rfl := rp_bl r4
      refine ⟨G4, some (.int (i : Int)), some v', ?_, ((S.trans sT).trans s3).trans s4, ((x.trans sT.g).trans s3.g).trans s4.g⟩
      rw [he0]
      have eb : (decide (2 + pls.length < i) || decide (2 + pls.length ≤ i)) = decide (2 + pls.length < i + 1) := by
        by_cases h1 : 2 + pls.length ≤ i
        · rw [decide_eq_true h1, decide_eq_true (by omega : 2 + pls.length < i + 1), Bool.or_true]
        · rw [decide_eq_false h1, decide_eq_false (by omega : ¬ 2 + pls.length < i + 1), decide_eq_false (by omega : ¬ 2 + pls.length < i)]
          rfl
      rw [eb]
      rfl
    · obtain ⟨G', y2, y3, rfl, S, x⟩ := hp
      refine w_if1 (b := false) (ec_at S.gh (ec_is ?_ (et_cmp (ed_op (ed_cb (es_cons (ed_var rfl (rp_mono ((s1.g.trans eG).trans x) _ _ hv)) es_nil) rd_lenl) (ed_c (.int 1)) (r2_eq rfl rfl))))) (fun hb => nomatch hb) (fun _ G3 H3 s3 => q G3 H3 (S.trans s3))
      rw [eqv_ints, List.length_map]
      refine decide_eq_false ?_
      unfold wordsOf
      rw [List.length_cons, List.length_cons]
      omega
abbrev s_place_of : Stmt := topS 32
theorem sc_place_of : FnScope ["line"] ["line"] (defScope s_place_of) := ⟨rfl, rfl, rfl, by decide +kernel, rfl, by decide +kernel, by decide +kernel⟩
def spPlaceOf : Sp := fun vs H Q _ => ∃ (v : V) (p : Pl) (G : Hp), vs = [v] ∧ Rp G v (wdD (plWords p)) ∧ plOk p ∧ Ex G H ∧ ∀ v G2 H2, Stp G H G2 H2 → Rp G2 v (plD p) → Q v H2
theorem ok_place_of {f : Addr} {fd : FuncData} (F : Fun K "_place_of" "_place_of" s_place_of f fd) (Z : Zs mg) : FnOk P w K mg base CX0 1 f fd ["line"] spPlaceOf := by
  refine F.ok sc_place_of (fun vs H Q E h => ?_) (fun cdv A outer s H vs Q E hr h => ?_)
  · obtain ⟨v, p, G, rfl, _⟩ := h
    rfl
  · obtain ⟨v, p, G, rfl, hv, ho, e, q⟩ := h
    refine ⟨_, (pss_one (ps_ret (pe_tup (pa_cons (pe_ix (k_ix K rfl) (pv 0) pe_int (fun _ _ => rfl)) (pa_cons (pe_callTy c_intS (by rfl) Z.int bt_int (pa_cons (pe_ix (k_ix K rfl) (pv 0) pe_int (fun _ _ => rfl)) pa_nil)) (pa_cons (pe_cmpR (k_eqD K rfl hr.units) (pe_ix (k_ix K rfl) (pv 0) pe_int (fun _ _ => rfl)) pe_str (nomark _)) pa_nil)))))), ?_⟩
    have l : EvD (tVar 0) [some v] G (.list ((plWords p).map PyData.str)) := ed_var rfl hv
    have oy : okD 0 (.str (yn p.2.2)) := ok_of128 (yn_ok p.2.2).2
    have eb : PyData.eqv (.str (yn p.2.2)) (.str ("yes" : Str)) = p.2.2 := by cases p.2.2 <;> decide +kernel
    refine w_ret (d := plD p) (ev_at e (ed_tup (es_cons (ed_wd 1 l rfl) (es_cons (ed_intS (ed_wd 2 l rfl) (int6 ho.1 ho.2) (by have := (str6 ho.1 ho.2).1; omega)) (es_cons (ed_is (congrArg PyData.bool eb) (ed_op (ed_wd 3 l rfl) (ed_c (.str ("yes" : Str))) (r2_eq (oy.shaped (by decide)) ((okL "yes").shaped (by decide))))) es_nil))) (show 3 ≤ 100000 by decide))) fun v2 G2 H2 s2 r2 => ?_
    exact q v2 G2 H2 s2 r2
abbrev s_rule_of : Stmt := topS 33
theorem sc_rule_of : FnScope ["line", "word"] ["line"] (defScope s_rule_of) := ⟨rfl, rfl, rfl, by decide +kernel, rfl, by decide +kernel, by decide +kernel⟩
def spRuleOf : Sp := fun vs H Q _ => ∃ (v : V) (r : Ru) (G : Hp), vs = [v] ∧ Rp G v (wdD (ruWords r)) ∧ ((0 ≤ r.cs ∧ r.cs ≤ 6) ∧ r.mv.length ≤ 6 ∧ ∀ x ∈ r.mv, 0 ≤ x ∧ x ≤ 6) ∧ Ex G H ∧ ∀ v G2 H2, Stp G H G2 H2 → Rp G2 v (ruA (true, r)) → Q v H2
theorem ok_rule_of {f : Addr} {fd : FuncData} (F : Fun K "_rule_of" "_rule_of" s_rule_of f fd) (Z : Zs mg) : FnOk P w K mg base CX0 1 f fd ["line"] spRuleOf := by
  refine F.ok sc_rule_of (fun vs H Q E h => ?_) (fun cdv A outer s H vs Q E hr h => ?_)
  · obtain ⟨v, r, G, rfl, _⟩ := h
    rfl
  · obtain ⟨v, r, G, rfl, hv, ⟨hc, hm6, hm⟩, e, q⟩ := h
    refine ⟨_, (pss_one (ps_ret (pe_tup (pa_cons (pe_ix (k_ix K rfl) (pv 0) pe_int (fun _ _ => rfl)) (pa_cons (pe_ix (k_ix K rfl) (pv 0) pe_int (fun _ _ => rfl)) (pa_cons (pe_callTy c_intS (by rfl) Z.int bt_int (pa_cons (pe_ix (k_ix K rfl) (pv 0) pe_int (fun _ _ => rfl)) pa_nil)) (pa_cons (pe_ix (k_ix K rfl) (pv 0) pe_int (fun _ _ => rfl)) (pa_cons (pe_lc (own := [("word", 1)]) (g := (gName 1)) (tt := tYes) rfl sc_rule_of.nd (k_piL K rfl (pe_slice (k_sl K rfl) (pv 0) (po_some pe_int) po_none)) (blkOk_by (N := ["line", "word"]) (sc := defScope s_rule_of) (own := [("word", 1)]) (by decide +kernel)) (fun _ _ _ _ _ => (pg_name (i := 1) sc_rule_of.nd rfl (Or.inl rfl))) (fun _ _ _ _ _ => pts_nil) (fun _ _ _ _ _ => (pe_callTy c_intS (by rfl) Z.int bt_int (pa_cons (pv 1) pa_nil)))) pa_nil)))))))), ?_⟩
    have l : EvD (tVar 0) [some v, none] G (.list ((ruWords r).map PyData.str)) := ed_var rfl hv
    have lc : EvD (tSl (rSlU K) (tVar 0) (tPart (tC (.int 5))) tNoPart) [some v, none] G (.list (r.mv.map fun i => PyData.str (toString i : Str))) := ed_is (by
      rw [show (some 5 : Option Int) = some ((5 : Nat) : Int) from rfl, cut_from]
      unfold ruWords
      show PyData.list ((r.mv.map fun i => (toString i : Str)).map PyData.str) = _
      rw [List.map_map]
      rfl) (ed_sll l (eb_some (ed_c (.int 5))) eb_none)
    refine w_ret (d := ruA (true, r)) (ev_at e (ed_tup (es_cons (ed_wd 1 l rfl) (es_cons (ed_wd 2 l rfl) (es_cons (ed_intS (ed_wd 3 l rfl) (int6 hc.1 hc.2) (by have := (str6 hc.1 hc.2).1; omega)) (es_cons (ed_wd 4 l rfl) (es_cons (ed_is (lc_all rfl) (ed_lcL1 (as := r.mv) (f := fun i => PyData.str (toString i : Str)) (y := PyData.int) (c := fun _ => true) lc (by omega) (fun _ => rfl) (fun _ _ _ _ _ _ => et_yes) (fun i hi _ u G' _ hu => ed_intS (ed_var rfl hu) (int6 (hm i hi).1 (hm i hi).2) (by have := (str6 (hm i hi).1 (hm i hi).2).1; omega)))) es_nil))))) (show 5 ≤ 100000 by decide))) fun v2 G2 H2 s2 r2 => ?_
    exact q v2 G2 H2 s2 r2
end
end Fw

namespace Fw
open PySem PySem.Spec PyProof.Rows L2 Evl
open TL (tl len_tl ext_tl tl_append tl_mk mk_tl)
/-! ### a book that is read from a text -/
section
variable {P : Program} {w : World} {K : PySem.W.Frag} {mg : Str → Option Value} {base : Heap}
theorem sum_left {α β : Type} (l : List α) (m : List β) : (l.map Sum.inl ++ m.map Sum.inr : List (α ⊕ β)).filter Sum.isLeft = l.map Sum.inl := by
  have h1 : (l.map Sum.inl : List (α ⊕ β)).filter Sum.isLeft = l.map Sum.inl := List.filter_eq_self.mpr fun a ha => by
    obtain ⟨x, _, rfl⟩ := List.mem_map.mp ha
    rfl
  have h2 : (m.map Sum.inr : List (α ⊕ β)).filter Sum.isLeft = [] := List.filter_eq_nil_iff.mpr fun a ha => by
    obtain ⟨x, _, rfl⟩ := List.mem_map.mp ha
    exact Bool.false_ne_true
  rw [List.filter_append, h1, h2, List.append_nil]
theorem sum_right {α β : Type} (l : List α) (m : List β) : (l.map Sum.inl ++ m.map Sum.inr : List (α ⊕ β)).filter Sum.isRight = m.map Sum.inr := by
  have h1 : (l.map Sum.inl : List (α ⊕ β)).filter Sum.isRight = [] := List.filter_eq_nil_iff.mpr fun a ha => by
    obtain ⟨x, _, rfl⟩ := List.mem_map.mp ha
    exact Bool.false_ne_true
  have h2 : (m.map Sum.inr : List (α ⊕ β)).filter Sum.isRight = m.map Sum.inr := List.filter_eq_self.mpr fun a ha => by
    obtain ⟨x, _, rfl⟩ := List.mem_map.mp ha
    rfl
  rw [List.filter_append, h1, h2, List.nil_append]
abbrev s_parse_book : Stmt := topS 30
theorem sc_parse_book : FnScope ["text", "lines", "line", "places", "rules"] ["text"] (defScope s_parse_book) := ⟨rfl, rfl, rfl, by decide +kernel, rfl, by decide +kernel, by decide +kernel⟩
def spParse (C CX : Addr) : Sp := fun vs H Q E => ∃ (ws : List Str) (pls : List Pl) (st : Str) (rs : List Ru) (G : Hp), vs = [.str (textOf ws pls st rs)] ∧ SizeOk ws pls st rs ∧ NmOk ws pls st rs ∧ Ex G H ∧
  (BookOk ⟨ws, pls, st, rs⟩ → ∀ a G2 H2, Stp G H G2 H2 → IsBook G2 C a ⟨ws, pls, st, rs⟩ → Q (.ref a) H2) ∧ (¬ BookOk ⟨ws, pls, st, rs⟩ → ∀ G2 H2, Stp G H G2 H2 → E (.ref CX) none H2)
theorem ok_parse_book {f C CX f1 f2 f3 f4 : Addr} {fd fd1 fd2 fd3 fd4 : FuncData} (F : Fun K "parse_book" "parse_book" s_parse_book f fd) (Z : Zs mg) (c : CB K C) (Mk_Book : Mk K C f1) (g_Book : mg "Book" = some (.ref C))
    (G_Book_init : FnOk P w K mg base (L2.CX P w) 6 f1 fd1 ["self", "words", "places", "start", "rules"] (spInit C CX)) (KB_Book : KBn K fd1 ["self", "words", "places", "start", "rules"] 1 ["words", "places", "start", "rules"] (fun us ws => us ++ ws) (fun vs zs => vs ++ zs))
    (G_check_form : Df P w K mg base CX0 4 "_check_form" f2 fd2 ["lines"] spForm) (G_place_of : Df P w K mg base CX0 1 "_place_of" f3 fd3 ["line"] spPlaceOf) (G_rule_of : Df P w K mg base CX0 1 "_rule_of" f4 fd4 ["line"] spRuleOf) :
    FnOk P w K mg base (L2.CX P w) 8 f fd ["text"] (spParse C CX) := by
  refine F.okX sc_parse_book (fun vs H Q E h => ?_) (fun cdv A outer s H vs Q E hr h => ?_)
  · obtain ⟨ws, pls, st, rs, G, rfl, _⟩ := h
    rfl
  · obtain ⟨ws, pls, st, rs, G, rfl, sz, nm, e, q1, q2⟩ := h
    refine ⟨_, (pss_cons (ps_setLc (i := 1) (own := [("line", 2)]) (g := (gName 2)) (tt := tYes) rfl sc_parse_book.nd rfl rfl (sw_true rfl rfl rfl (by decide +kernel)) (k_piL K rfl (k_split (pv 0) pe_str)) (blkOk_by (N := ["text", "lines", "line", "places", "rules"]) (sc := defScope s_parse_book) (own := [("line", 2)]) (by decide +kernel)) (fun _ _ _ _ _ => (pg_name (i := 2) sc_parse_book.nd rfl (Or.inl rfl))) (fun _ _ _ _ _ => pts_nil) (fun _ _ _ _ _ => (k_split (pv 2) pe_str)))
      (pss_cons (ps_expr (pe_call G_check_form.ok (hr.mono (by decide)) (by rfl) G_check_form.g G_check_form.k G_check_form.b .nil pass0 (pa_cons (pv 1) pa_nil)))
      (pss_cons (ps_setLc (i := 3) (own := [("line", 2)]) (g := (gName 2)) rfl sc_parse_book.nd rfl rfl (sw_true rfl rfl rfl (by decide +kernel)) (k_piL K rfl (pe_slice (k_sl K rfl) (pv 1) (po_some pe_int) po_none)) (blkOk_by (N := ["text", "lines", "line", "places", "rules"]) (sc := defScope s_parse_book) (own := [("line", 2)]) (by decide +kernel)) (fun _ _ _ _ _ => (pg_name (i := 2) sc_parse_book.nd rfl (Or.inl rfl))) (fun _ _ _ _ _ => (pts_one (pt_cmpR (k_eqD K rfl hr.units) (pe_ix (k_ix K rfl) (pv 2) pe_int (fun _ _ => rfl)) pe_str (nomark _)))) (fun _ _ _ _ _ => (pe_call G_place_of.ok (hr.mono (by decide)) (by rfl) G_place_of.g G_place_of.k G_place_of.b .nil pass0 (pa_cons (pv 2) pa_nil))))
      (pss_cons (ps_setLc (i := 4) (own := [("line", 2)]) (g := (gName 2)) rfl sc_parse_book.nd rfl rfl (sw_true rfl rfl rfl (by decide +kernel)) (k_piL K rfl (pe_slice (k_sl K rfl) (pv 1) (po_some pe_int) po_none)) (blkOk_by (N := ["text", "lines", "line", "places", "rules"]) (sc := defScope s_parse_book) (own := [("line", 2)]) (by decide +kernel)) (fun _ _ _ _ _ => (pg_name (i := 2) sc_parse_book.nd rfl (Or.inl rfl))) (fun _ _ _ _ _ => (pts_one (pt_cmpR (k_eqD K rfl hr.units) (pe_ix (k_ix K rfl) (pv 2) pe_int (fun _ _ => rfl)) pe_str (nomark _)))) (fun _ _ _ _ _ => (pe_call G_rule_of.ok (hr.mono (by decide)) (by rfl) G_rule_of.g G_rule_of.k G_rule_of.b .nil pass0 (pa_cons (pv 2) pa_nil))))
      (pss_one (ps_ret (pe_makeK0 Mk_Book G_Book_init (hr.mono (by decide)) (by rfl) g_Book KB_Book (passes_call (takes_of rfl rfl rfl rfl) (fun _ _ _ _ h => h)) (pk_cons (pe_slice (k_sl K rfl) (pe_ix (k_ix K rfl) (pv 1) pe_int (fun _ _ => rfl)) (po_some pe_int) po_none) (pk_cons (pv 3) (pk_cons (pe_ix (k_ix K rfl) (pe_ix (k_ix K rfl) (pv 1) pe_int (fun _ _ => rfl)) pe_int (fun _ _ => rfl)) (pk_cons (pv 4) pk_nil))))))))))), ?_⟩
    have nb := words_noBl sz nm
    have wl : (wordsOf ws pls st rs).length ≤ 3000 := by
      have := lines_len sz
      rw [lines_words, List.length_map] at this
      exact this
    have l1000 : ∀ l ∈ wordsOf ws pls st rs, (Txt.join " " l).length ≤ 1000 := fun l hl => (lines_ok sz _ (by rw [lines_words]; exact List.mem_map.mpr ⟨l, hl, rfl⟩)).1
    have tt : textOf ws pls st rs = Txt.join "\n" ((wordsOf ws pls st rs).map (Txt.join " ")) := by
      unfold textOf
      rw [lines_words]
    have hs : EvD (tM1 rSplit (tVar 0) (tC (.str ("\n" : Str)))) [some (.str (textOf ws pls st rs)), none, none, none, none] G (.list ((wordsOf ws pls st rs).map fun l => PyData.str (Txt.join " " l))) := by
      refine ed_is ?_ (ed_split (y := ("\n" : Str)) (s := 10) (parts := (wordsOf ws pls st rs).map (Txt.join " ")) (ed_is (congrArg PyData.str tt) (ed_var rfl (.str _))) (ed_c (.str _)) (by decide +kernel) (by decide +kernel) (by unfold wordsOf; exact List.cons_ne_nil _ _) (fun p hp => ?_) ?_)
      · rw [List.map_map]
        rfl
      · obtain ⟨l, hl, rfl⟩ := List.mem_map.mp hp
        exact join_noNl (by decide +kernel) (nb l hl).2
      · rw [← tt]
        have := join_len (a := ("\n" : Str)) (m := 1000) (n := 3000) (fun y hy => (lines_ok sz y hy).1) (lines_len sz)
        rw [show ("\n" : Str).length = 1 by decide +kernel] at this
        unfold textOf
        omega
    refine w_set (d := .list ((wordsOf ws pls st rs).map wdD)) (ev_at e (ed_is (lc_all rfl) (ed_lcL1 (as := wordsOf ws pls st rs) (f := fun l => PyData.str (Txt.join " " l)) (y := wdD) (c := fun _ => true) hs (by omega) (fun _ => rfl) (fun _ _ _ _ _ _ => et_yes) (fun l hl _ u G' x hu => ed_split (y := (" " : Str)) (s := 32) (parts := l) (ed_var rfl hu) (ed_c (.str _)) (by decide +kernel) (by decide +kernel) (nb l hl).1 (fun p hp => ((nb l hl).2 p hp).1) (by have := l1000 l hl; omega))))) fun v1 G1 H1 s1 r1 => ?_
    refine w_callD (es_cons (ed_var rfl r1) es_nil) s1.gh fun vs2 G2 H2 s2 r2 => ?_
    cases r2 with
    | cons r2 r2' =>
    cases r2'
    refine ⟨_, ws, pls, st, rs, G2, rfl, r2, sz, nm, s2.gh, fun G3 H3 s3 => ?_⟩
    have S3 := (s1.trans s2).trans s3
    have rl := rp_mono (s2.trans s3).g _ _ r1
    -- the lines behind the first two
    have as0 : ((wordsOf ws pls st rs).drop 2).map wdD = (pls.map Sum.inl ++ rs.map Sum.inr : List (Pl ⊕ Ru)).map (Sum.elim (fun p => wdD (plWords p)) fun r => wdD (ruWords r)) := by
      unfold wordsOf
      rw [List.drop_succ_cons, List.drop_succ_cons, List.drop_zero, List.map_append, List.map_append, List.map_map, List.map_map, List.map_map, List.map_map]
      rfl
    have lcs {σ : L2.St} {G' : Hp} (x : Ex G3 G') (hs : σ[1]? = some (some v1)) : EvD (tSl (rSlU K) (tVar 1) (tPart (tC (.int 2))) tNoPart) σ G' (.list ((pls.map Sum.inl ++ rs.map Sum.inr : List (Pl ⊕ Ru)).map (Sum.elim (fun p => wdD (plWords p)) fun r => wdD (ruWords r)))) :=
      ed_is (by rw [show (some 2 : Option Int) = some ((2 : Nat) : Int) from rfl, cut_from, as0]) (ed_sll (ed_var hs (rp_mono x _ _ rl)) (eb_some (ed_c (.int 2))) eb_none)
    have lz : (pls.map Sum.inl ++ rs.map Sum.inr : List (Pl ⊕ Ru)).length < 100000 := by
      rw [List.length_append, List.length_map, List.length_map]
      have := sz.p.1
      have := sz.rl
      omega
    have mem_l : ∀ a ∈ (pls.map Sum.inl ++ rs.map Sum.inr : List (Pl ⊕ Ru)), (∃ p ∈ pls, a = .inl p) ∨ ∃ r ∈ rs, a = .inr r := fun a ha => by
      rcases List.mem_append.mp ha with z | z
      · obtain ⟨p, hp, rfl⟩ := List.mem_map.mp z
        exact .inl ⟨p, hp, rfl⟩
      · obtain ⟨r, hr, rfl⟩ := List.mem_map.mp z
        exact .inr ⟨r, hr, rfl⟩
    have npr : PyData.eqv (.str ("rule" : Str)) (.str ("place" : Str)) = false := by decide +kernel
    have nrp : PyData.eqv (.str ("place" : Str)) (.str ("rule" : Str)) = false := by decide +kernel
    -- places
    refine w_set (d := .list (pls.map plD)) (ev_at s3.gh (ed_is ?_ (ed_lcL1 (as := (pls.map Sum.inl ++ rs.map Sum.inr : List (Pl ⊕ Ru))) (f := Sum.elim (fun p => wdD (plWords p)) fun r => wdD (ruWords r)) (y := Sum.elim plD fun _ => PyData.none) (c := Sum.isLeft) (lcs (Ex.refl _) rfl) lz (fun _ => rfl) (fun a ha u G' x hu => ?_) (fun a ha hca u G' x hu => ?_)))) fun v4 G4 H4 s4 r4 => ?_
    · rw [sum_left, List.map_map]
      rfl
    · rcases mem_l a ha with ⟨p, hp, rfl⟩ | ⟨r, hr, rfl⟩
      · exact ec_is (eqv_same (okL "place")) (et_cmp (ed_op (ed_wd 0 (ed_var rfl hu) rfl) (ed_c (.str ("place" : Str))) (r2_eq ((okL "place").shaped (by decide)) ((okL "place").shaped (by decide)))))
      · exact ec_is npr (et_cmp (ed_op (ed_wd 0 (ed_var rfl hu) rfl) (ed_c (.str ("place" : Str))) (r2_eq ((okL "rule").shaped (by decide)) ((okL "place").shaped (by decide)))))
    · rcases mem_l a ha with ⟨p, hp, rfl⟩ | ⟨r, hr, rfl⟩
      · refine ed_call0 (es_cons (ed_var rfl hu) es_nil) fun G0 H0 vs e0 hvs Q' q' => ?_
        cases hvs with
        | cons k1 k2 =>
          cases k2
          exact ⟨_, p, G0, rfl, k1, (sz.p.2 p hp).2, e0, q'⟩
      · cases hca
    -- rules
    refine w_set (d := .list ((rs.map fun r => (true, r)).map ruA)) (ev_at s4.gh (ed_is ?_ (ed_lcL1 (as := (pls.map Sum.inl ++ rs.map Sum.inr : List (Pl ⊕ Ru))) (f := Sum.elim (fun p => wdD (plWords p)) fun r => wdD (ruWords r)) (y := Sum.elim (fun _ => PyData.none) fun r => ruA (true, r)) (c := Sum.isRight) (lcs s4.g rfl) lz (fun _ => rfl) (fun a ha u G' x hu => ?_) (fun a ha hca u G' x hu => ?_)))) fun v5 G5 H5 s5 r5 => ?_
    · rw [sum_right, List.map_map, List.map_map]
      rfl
    · rcases mem_l a ha with ⟨p, hp, rfl⟩ | ⟨r, hr, rfl⟩
      · exact ec_is nrp (et_cmp (ed_op (ed_wd 0 (ed_var rfl hu) rfl) (ed_c (.str ("rule" : Str))) (r2_eq ((okL "place").shaped (by decide)) ((okL "rule").shaped (by decide)))))
      · exact ec_is (eqv_same (okL "rule")) (et_cmp (ed_op (ed_wd 0 (ed_var rfl hu) rfl) (ed_c (.str ("rule" : Str))) (r2_eq ((okL "rule").shaped (by decide)) ((okL "rule").shaped (by decide)))))
    · rcases mem_l a ha with ⟨p, hp, rfl⟩ | ⟨r, hr, rfl⟩
      · cases hca
      · obtain ⟨_, _, _, o1, o2, o3⟩ := sz.r r hr
        refine ed_call0 (es_cons (ed_var rfl hu) es_nil) fun G0 H0 vs e0 hvs Q' q' => ?_
        cases hvs with
        | cons k1 k2 =>
          cases k2
          exact ⟨_, r, G0, rfl, k1, ⟨o1, o2, o3⟩, e0, q'⟩
    -- Book
    have rl5 := rp_mono (s4.trans s5).g _ _ rl
    have w0 : EvD (tOp (rIx K) (tVar 1) (tC (.int 0))) [some (.str (textOf ws pls st rs)), some v1, none, some v4, some v5] G5 (wdD ([("words" : Str)] ++ ws)) := ed_op (ed_var rfl rl5) (ed_c (.int 0)) (r2_ixl (atI_nat (j := 0) rfl))
    have w1 : EvD (tOp (rIx K) (tVar 1) (tC (.int 1))) [some (.str (textOf ws pls st rs)), some v1, none, some v4, some v5] G5 (wdD [("start" : Str), st]) := ed_op (ed_var rfl rl5) (ed_c (.int 1)) (r2_ixl (atI_nat (j := 1) rfl))
    have hA : EvS (tCons (tSl (rSlU K) (tOp (rIx K) (tVar 1) (tC (.int 0))) (tPart (tC (.int 1))) tNoPart) (tCons (tVar 3) (tCons (tOp (rIx K) (tOp (rIx K) (tVar 1) (tC (.int 1))) (tC (.int 1))) (tCons (tVar 4) tNil)))) [some (.str (textOf ws pls st rs)), some v1, none, some v4, some v5] G5
        [.list (ws.map PyData.str), .list (pls.map plD), .str st, .list ((rs.map fun r => (true, r)).map ruA)] :=
      es_cons (ed_is (by rw [show (some 1 : Option Int) = some ((1 : Nat) : Int) from rfl, cut_from]; rfl) (ed_sll w0 (eb_some (ed_c (.int 1))) eb_none)) (es_cons (ed_var rfl (rp_mono s5.g _ _ r4)) (es_cons (ed_wd 1 w1 rfl) (es_cons (ed_var rfl r5) es_nil)))
    refine d_make hA s5.gh rfl fun vs6 a dx G6 H6 s6 p6 o6 => ?_
    obtain ⟨y1, y2, y3, y4, rfl, u1, u2, u3, u4⟩ := ra_four p6
    obtain rfl := rp_str u3
    have S6 := ((S3.trans s4).trans s5).trans s6
    refine ⟨a, dx, y1, y2, y4, true, true, true, ⟨ws, pls, st, rs⟩, rs.map fun r => (true, r), G6, H6, rfl, o6, u1, u2, u4, by rw [List.map_map]; exact (List.map_id _).symm, by have := sz.w.1; show ws.length ≤ 1000; omega, by have := sz.p.1; show pls.length ≤ 1000; omega, by rw [List.length_map]; have := sz.rl; omega,
      fun n hn => by have := (sz.w.2 n hn).1; omega, fun p hp => by have := (sz.p.2 p hp).1.1; omega, fun p hp => (sz.p.2 p hp).2, fun r hr => ?_, fun ok G7 H7 s7 bk => ⟨rfl, q1 ok a G7 H7 (S6.trans s7) bk⟩, fun no G7 H7 s7 => q2 no G7 H7 (S6.trans s7)⟩
    obtain ⟨r', hr', rfl⟩ := List.mem_map.mp hr
    have := (sz.r r' hr').2.2.2.2.1
    show r'.mv.length ≤ 1000
    omega
end
/-! ### what a book is asked -/
section
variable {P : Program} {w : World} {K : PySem.W.Frag} {mg : Str → Option Value} {base : Heap}
abbrev s_Book_place : Stmt := inClass (topS 16) 4
theorem sc_Book_place : FnScope ["self", "name"] ["self", "name"] (defScope s_Book_place) := ⟨rfl, rfl, rfl, by decide +kernel, rfl, by decide +kernel, by decide +kernel⟩
def spPlaceM (C : Addr) : Sp := fun vs H Q _ => ∃ (a : Addr) (n : Str) (p : Pl) (B : BK) (G : Hp), vs = [.ref a, .str n] ∧ IsBook G C a B ∧ findP B.pls n = some p ∧ Ex G H ∧ ∀ v G2 H2, Stp G H G2 H2 → Rp G2 v (plD p) → Q v H2
theorem ok_Book_place {f C : Addr} {fd : FuncData} (F : Fun K "place" "Book.place" s_Book_place f fd) (c : CB K C) : FnOk P w K mg base CX0 2 f fd ["self", "name"] (spPlaceM C) := by
  refine F.ok sc_Book_place (fun vs H Q E h => ?_) (fun cdv A outer s H vs Q E hr h => ?_)
  · obtain ⟨a, n, p, B, G, rfl, _⟩ := h
    rfl
  · obtain ⟨a, n, p, B, G, rfl, bk, hp, e, q⟩ := h
    have hu := hu_of hr
    refine ⟨_, (pss_cons (ps_if (pt_cmp (pc_dnotin hu (pv 1) (k_fld K rfl (pv 0) rfl))) (pss_one ps_never) pss_nil)
      (pss_one (ps_ret (pe_dget hu (k_fld K rfl (pv 0) rfl) (pv 1) (fun _ _ => rfl))))), ?_⟩
    obtain ⟨dx, w1, w2, w4, w7, t5, t6, h0, rw1, rw2, rw4, ⟨us, hat, hus⟩, _, rw7⟩ := bk.at_
    obtain ⟨u, eu, ru⟩ := tab_some hus hp
    have fl {G' : Hp} (x : Ex G G') : EvV (tFld K (tVar 0) "_place_table") [some (.ref a), some (.str n)] G' (.ref t5) := ev_fld rfl (x _ _ h0) c.cl c.n5 rfl
    refine w_when (b := false) (ec_at e (ec_is ?_ (ec_dninV (ed_var rfl (.str n)) (fun G' x => fl x) hat))) (fun hb => nomatch hb) (fun _ G2 H2 s2 => ?_)
    · rw [eu]
      rfl
    refine w_ret (ev_at s2.gh (ed_dgetV (fl s2.g) (s2.g _ _ hat) (fun _ _ => ed_var rfl (.str n)) eu (rp_mono s2.g _ _ ru))) fun v3 G3 H3 s3 r3 => ?_
    exact q v3 G3 H3 (s2.trans s3) r3
abbrev s_Book_check_word : Stmt := inClass (topS 16) 3
theorem sc_Book_check_word : FnScope ["self", "word"] ["self", "word"] (defScope s_Book_check_word) := ⟨rfl, rfl, rfl, by decide +kernel, rfl, by decide +kernel, by decide +kernel⟩
def spCheckW (C : Addr) : Sp := fun vs H Q _ => ∃ (a : Addr) (n : Str) (B : BK) (G : Hp), vs = [.ref a, .str n] ∧ IsBook G C a B ∧ n ∈ B.ws ∧ Ex G H ∧ ∀ G2 H2, Stp G H G2 H2 → Q .non H2
theorem ok_Book_check_word {f C : Addr} {fd : FuncData} (F : Fun K "check_word" "Book.check_word" s_Book_check_word f fd) (c : CB K C) : FnOk P w K mg base CX0 2 f fd ["self", "word"] (spCheckW C) := by
  refine F.ok sc_Book_check_word (fun vs H Q E h => ?_) (fun cdv A outer s H vs Q E hr h => ?_)
  · obtain ⟨a, n, B, G, rfl, _⟩ := h
    rfl
  · obtain ⟨a, n, B, G, rfl, bk, hn, e, q⟩ := h
    refine ⟨_, (pss_one (ps_if (pt_cmpR (k_notInU K rfl) (pv 1) (k_fld K rfl (pv 0) rfl) (by rfl)) (pss_one ps_never) pss_nil)), ?_⟩
    obtain ⟨dx, w1, w2, w4, w7, t5, t6, h0, rw1, _⟩ := bk.at_
    refine w_if1 (b := false) (ec_at e (ec_is ?_ (et_cmp (ed_op (ed_var rfl (.str n)) (ed_fld rfl h0 c.cl c.n1 rfl rw1) r2_nint)))) (fun hb => nomatch hb) (fun _ G2 H2 s2 => q G2 H2 s2)
    rw [decide_eq_true hn]
    rfl
theorem ed_mplace {C : Addr} {σ : L2.St} {G : Hp} {to ta : TE} {a : Addr} {n : Str} {p : Pl} {B : BK} (ho : EvV to σ G (.ref a)) (bk : IsBook G C a B) (h : EvD ta σ G (.str n)) (hp : findP B.pls n = some p) : EvD (tMeth C "place" (spPlaceM C) [] E0 to (tCons ta tNil)) σ G (plD p) := fun H e Q q =>
  ho H e _ fun G2 H2 s2 => by
    obtain ⟨dx, w1, w2, w4, w7, t5, t6, h0, _⟩ := (bk.mono s2.g).at_
    exact ⟨a, dx, _, rfl, s2.gh _ _ h0, rfl, (h.mono s2.g) H2 s2.gh _ fun v G3 H3 s3 r3 => ⟨a, n, p, B, G3, by rw [rp_str r3]; rfl, (bk.mono s2.g).mono s3.g, hp, s3.gh, fun v G4 H4 s4 r4 => q v G4 H4 ((s2.trans s3).trans s4) r4⟩⟩
abbrev s_Book_rule : Stmt := inClass (topS 16) 7
theorem sc_Book_rule : FnScope ["self", "name", "word", "case"] ["self", "name", "word", "case"] (defScope s_Book_rule) := ⟨rfl, rfl, rfl, by decide +kernel, rfl, by decide +kernel, by decide +kernel⟩
def spRuleM (C : Addr) : Sp := fun vs H Q _ => ∃ (a : Addr) (n wd : Str) (i : Int) (p : Pl) (r : Ru) (B : BK) (G : Hp), vs = [.ref a, .str n, .str wd, .int i] ∧ IsBook G C a B ∧ findP B.pls n = some p ∧ wd ∈ B.ws ∧ findR B.rs [Sum.inr n, Sum.inr wd, Sum.inl i] = some r ∧ Ex G H ∧ ∀ v G2 H2, Stp G H G2 H2 → Rp G2 v (vrD r) → Q v H2
theorem ok_Book_rule {f C f1 f2 : Addr} {fd fd1 fd2 : FuncData} (F : Fun K "rule" "Book.rule" s_Book_rule f fd) (c : CB K C) (me_place : Meth K C "place" f1) (G_Book_place : FnOk P w K mg base CX0 2 f1 fd1 ["self", "name"] (spPlaceM C)) (bg_place : Binds K fd1 ["self", "name"] [])
    (me_check_word : Meth K C "check_word" f2) (G_Book_check_word : FnOk P w K mg base CX0 2 f2 fd2 ["self", "word"] (spCheckW C)) (bg_check_word : Binds K fd2 ["self", "word"] []) : FnOk P w K mg base CX0 3 f fd ["self", "name", "word", "case"] (spRuleM C) := by
  refine F.ok sc_Book_rule (fun vs H Q E h => ?_) (fun cdv A outer s H vs Q E hr h => ?_)
  · obtain ⟨a, n, wd, i, p, r, B, G, rfl, _⟩ := h
    rfl
  · obtain ⟨a, n, wd, i, p, r, B, G, rfl, bk, hp, hw, hR, e, q⟩ := h
    have hu := hu_of hr
    refine ⟨_, (pss_cons (ps_expr (pe_meth (pv 0) c.cl me_place G_Book_place (hr.mono (by decide)) bg_place .nil pass0 (pa_cons (pv 1) pa_nil)))
      (pss_cons (ps_expr (pe_meth (pv 0) c.cl me_check_word G_Book_check_word (hr.mono (by decide)) bg_check_word .nil pass0 (pa_cons (pv 2) pa_nil)))
      (pss_cons (ps_if (pt_cmp (pc_dnotin hu (pe_tup (pa_cons (pv 1) (pa_cons (pv 2) (pa_cons (pv 3) pa_nil)))) (k_fld K rfl (pv 0) rfl))) (pss_one ps_never) pss_nil)
      (pss_one (ps_ret (pe_dget hu (k_fld K rfl (pv 0) rfl) (pe_tup (pa_cons (pv 1) (pa_cons (pv 2) (pa_cons (pv 3) pa_nil)))) (fun _ _ => rfl))))))), ?_⟩
    refine w_drop (d := plD p) (ev_at e (ed_mplace (ev_v rfl) bk (ed_var rfl (.str n)) hp)) fun v1 G1 H1 s1 r1 => ?_
    have bk1 := bk.mono s1.g
    have key {G' : Hp} : EvK (tTup (tCons (tVar 1) (tCons (tVar 2) (tCons (tVar 3) tNil)))) [some (.ref a), some (.str n), some (.str wd), some (.int i)] G' [Sum.inr n, Sum.inr wd, Sum.inl i] := ek_tup (es_cons (ed_var rfl (.str n)) (es_cons (ed_var rfl (.str wd)) (es_cons (ed_var rfl (.int i)) es_nil))) (show 3 ≤ 100000 by decide)
    obtain ⟨dx, w1, w2, w4, w7, t5, t6, h0, rw1, rw2, rw4, _, ⟨ut, hat, hut⟩, rw7⟩ := bk1.at_
    refine ⟨.ref a, rfl, a, dx, _, rfl, s1.gh _ _ h0, rfl, .str wd, rfl, a, wd, B, G1, rfl, bk1, hw, s1.gh, fun G2 H2 s2 => ?_⟩
    obtain ⟨u, eu, ru⟩ := rtab_some hut hR
    have fl {G' : Hp} (x : Ex G1 G') : EvV (tFld K (tVar 0) "_rule_table") [some (.ref a), some (.str n), some (.str wd), some (.int i)] G' (.ref t6) := ev_fld rfl (x _ _ h0) c.cl c.n6 rfl
    refine w_when (b := false) (ec_at s2.gh (ec_is ?_ (ec_dninTV key (fun G' x => fl (s2.g.trans x)) (s2.g _ _ hat)))) (fun hb => nomatch hb) (fun _ G3 H3 s3 => ?_)
    · rw [eu]
      rfl
    have x3 := (s2.trans s3).g
    refine w_ret (ev_at s3.gh (ed_dgetTV (fl x3) (x3 _ _ hat) (fun _ _ => key) eu (rp_mono x3 _ _ ru))) fun v4 G4 H4 s4 r4 => ?_
    exact q v4 G4 H4 (((s1.trans s2).trans s3).trans s4) r4
theorem ed_mrule {C : Addr} {σ : L2.St} {G : Hp} {to ta tb tc : TE} {a : Addr} {n wd : Str} {i : Int} {p : Pl} {r : Ru} {B : BK} (ho : EvV to σ G (.ref a)) (bk : IsBook G C a B) (h1 : EvD ta σ G (.str n)) (h2 : EvD tb σ G (.str wd)) (h3 : EvD tc σ G (.int i)) (hp : findP B.pls n = some p) (hw : wd ∈ B.ws) (hR : findR B.rs [Sum.inr n, Sum.inr wd, Sum.inl i] = some r) :
    EvD (tMeth C "rule" (spRuleM C) [] E0 to (tCons ta (tCons tb (tCons tc tNil)))) σ G (vrD r) := fun H e Q q =>
  ho H e _ fun G2 H2 s2 => by
    obtain ⟨dx, w1, w2, w4, w7, t5, t6, h0, _⟩ := (bk.mono s2.g).at_
    refine ⟨a, dx, _, rfl, s2.gh _ _ h0, rfl, (es_cons (h1.mono s2.g) (es_cons (h2.mono s2.g) (es_cons (h3.mono s2.g) es_nil))) H2 s2.gh _ fun vs G3 H3 s3 r3 => ?_⟩
    obtain ⟨x, y, z, rfl, u1, u2, u3⟩ := ra_three r3
    obtain rfl := rp_str u1
    obtain rfl := rp_str u2
    obtain rfl := rp_int u3
    exact ⟨a, n, wd, i, p, r, B, G3, rfl, (bk.mono s2.g).mono s3.g, hp, hw, hR, s3.gh, fun v G4 H4 s4 r4 => q v G4 H4 ((s2.trans s3).trans s4) r4⟩
end
end Fw

namespace Fw
open PySem PySem.Spec PyProof.Rows L2 Evl
open TL (tl len_tl ext_tl tl_append tl_mk mk_tl)
/-! ### held against what is due -/
section
variable {P : Program} {w : World} {K : PySem.W.Frag} {mg : Str → Option Value} {base : Heap}
theorem ed_same {C : Addr} {σ : L2.St} {G : Hp} {ta tb : TE} {a : Addr} {B : BK} {d : PyData} (hb : EvV ta σ G (.ref a)) (bk : IsBook G C a B) (hd : ∀ G', Ex G G' → EvD tb σ G' d) (o1 : okD 4 (bookD B)) (o2 : okD 4 d) : EvD (tCall (spSame C) [] E0 (tCons ta (tCons tb tNil))) σ G (.bool (PyData.eqv (bookD B) d)) := fun H e Q q =>
  p_call (ep_V hb fun G' x => ep_D (hd G' x) fun _ _ => ep_nil) e fun vs G2 H2 s p => by
    obtain ⟨_, rfl, v, _, rfl, r, rfl⟩ := p
    exact ⟨a, v, B, d, G2, rfl, bk.mono s.g, r, s.gh, o1, o2, fun G3 H3 s3 => q _ G3 H3 (s.trans s3) (.bl _)⟩
theorem same_self {B : BK} {d : PyData} (h : bookD B = d) (o : okD 4 d) : PyData.eqv (bookD B) d = true := by
  rw [h]
  exact eqv_same o
theorem okD_s {x : Str} (h : okS x) : okD 0 (.str x) := h
theorem PartsOk.rules {B : BK} (h : PartsOk B) (h60 : B.pls.length ≤ 60) : B.rules = B.rs := (h.book h60 (List.Perm.refl B.rs)).2
def spLaw (K : PySem.W.Frag) : Sp := fun vs H Q _ => ∃ (a : Addr) (ns : List Int), vs = [.ref a] ∧ SqL K H a (ns.map V.int) ∧ ns.length ≤ 63 ∧ ∀ H', Q (.bl true) H'
end
end Fw

namespace Fw
open PySem PySem.Spec PyProof.Rows L2 Evl
open TL (tl len_tl ext_tl tl_append tl_mk mk_tl)
/-! ### the law -/
section
variable {P : Program} {w : World} {K : PySem.W.Frag} {mg : Str → Option Value} {base : Heap}
def smallB : BK := ⟨["w"], [("a", 0, true)], "a", [⟨"a", "w", 0, "a", []⟩]⟩
theorem small_text : textOf smallB.ws smallB.pls smallB.st smallB.rs = ("words w\nstart a\nplace a 0 yes\nrule a w 0 a" : Str) := by decide +kernel
theorem small_w : namesN [("w" : Str)] := ⟨⟨fun n hn => by rw [List.mem_singleton.mp hn]; decide +kernel, by simp⟩, fun n hn => by rw [List.mem_singleton.mp hn]; exact ⟨by decide +kernel, lit_128 (by decide +kernel)⟩⟩
theorem small_a : namesN [("a" : Str)] := ⟨⟨fun n hn => by rw [List.mem_singleton.mp hn]; decide +kernel, by simp⟩, fun n hn => by rw [List.mem_singleton.mp hn]; exact ⟨by decide +kernel, lit_128 (by decide +kernel)⟩⟩
theorem small_ok : PartsOk smallB := by
  refine ⟨small_w, ⟨Nat.le_refl _, by decide⟩, small_a, Nat.le_refl _, fun p hp => ?_, ⟨("a", 0, true), List.mem_singleton.mpr rfl, rfl, rfl⟩, rfl, fun r hr => ?_⟩
  · rw [show p = (("a", 0, true) : Pl) from List.mem_singleton.mp hp]
    exact ⟨Int.le_refl _, (show (0 : Int) ≤ 6 by decide)⟩
  · rw [show r = ⟨"a", "w", 0, "a", []⟩ from List.mem_singleton.mp hr]
    exact ⟨("a", 0, true), List.mem_singleton.mpr rfl, "w", List.mem_singleton.mpr rfl, 0, ⟨rfl, rfl, rfl, ⟨("a", 0, true), List.mem_singleton.mpr rfl, rfl, rfl⟩, List.Pairwise.nil, fun _ h => (nomatch h)⟩, Int.le_refl _, Int.le_refl _⟩
theorem froz_pl {ws : List Str} {pls : List Pl} {st : Str} {rs : List Ru} (h : okD 4 (frozD ws pls st rs)) {p : Pl} (hp : p ∈ pls) : okD 2 (plD p) := (show okD 3 (.tuple (pls.map plD)) from h _ (by simp [frozD])) _ (List.mem_map.mpr ⟨p, hp, rfl⟩)
theorem froz_vr {ws : List Str} {pls : List Pl} {st : Str} {rs : List Ru} (h : okD 4 (frozD ws pls st rs)) {r : Ru} (hr : r ∈ rs) : okD 2 (vrD r) := fun d hd => by
  have h2 : okD 2 (ruD r) := (show okD 3 (.tuple (rs.map ruD)) from h _ (by simp [frozD])) _ (List.mem_map.mpr ⟨r, hr, rfl⟩)
  have hd : d = .str r.go ∨ d = .tuple (r.mv.map PyData.int) := by simpa [vrD] using hd
  rcases hd with rfl | rfl
  · exact h2 _ (by simp [ruD])
  · exact h2 _ (by simp [ruD])
abbrev s_law : Stmt := topS 50
theorem sc_law : FnScope ["script", "numbers", "parts", "due", "book", "lines", "first", "text", "read", "mixed", "small", "place", "name", "word", "case", "goal", "moves"] ["script"] (defScope s_law) := ⟨rfl, rfl, rfl, by decide +kernel, rfl, by decide +kernel, by decide +kernel⟩
theorem ok_law {f C CX f2 f3 f4 f5 f6 f7 f8 f9 f10 f11 f12 pn gn : Addr} {fd fd2 fd3 fd4 fd5 fd6 fd7 fd8 fd9 fd10 fd11 fd12 fdg : FuncData} (F : Fun K "law" "law" s_law f fd) (Z : Zs mg) (c : CB K C)
    (G_law_numbers : Df P w K mg base CX0 2 "_law_numbers" f2 fd2 ["script", "many"] (spNumbers K)) (G_law_parts : Df P w K mg base CX0 4 "_law_parts" f3 fd3 ["numbers", "most"] spParts) (G_law_frozen : Df P w K mg base CX0 1 "_law_frozen" f4 fd4 ["parts"] spFrozen)
    (G_law_made : Df P w K mg base (L2.CX P w) 8 "_law_made" f5 fd5 ["parts"] (spMade C CX)) (G_law_mixed : Df P w K mg base CX0 2 "_law_mixed" f6 fd6 ["draw", "rows"] spMixed) (G_law_same : Df P w K mg base CX0 3 "_law_same" f7 fd7 ["book", "due"] (spSame C))
    (G_law_lines : Df P w K mg base CX0 3 "_law_lines" f8 fd8 ["parts"] spLines) (G_format_book : Df P w K mg base CX0 3 "format_book" f9 fd9 ["book"] (spFormat C)) (G_parse_book : Df P w K mg base (L2.CX P w) 8 "parse_book" f10 fd10 ["text"] (spParse C CX))
    (me_place : Meth K C "place" f11) (G_Book_place : FnOk P w K mg base CX0 2 f11 fd11 ["self", "name"] (spPlaceM C)) (bg_place : Binds K fd11 ["self", "name"] [])
    (me_rule : Meth K C "rule" f12) (G_Book_rule : FnOk P w K mg base CX0 3 f12 fd12 ["self", "name", "word", "case"] (spRuleM C)) (bg_rule : Binds K fd12 ["self", "name", "word", "case"] [])
    (pr_rules : PropOf K C "rules" pn gn) (G_get_rules : FnOk P w K mg base CX0 1 gn fdg ["self"] (getSp C "_rules")) (bg_rules : Binds K fdg ["self"] []) : FnOk P w K mg base CX0 9 f fd ["script"] (spLaw K) := by
  refine F.ok sc_law (fun vs H Q E h => ?_) (fun cdv A outer s H vs Q E hr h => ?_)
  · obtain ⟨a, ns, rfl, _⟩ := h
    rfl
  · obtain ⟨a, ns, rfl, hS, hn, q⟩ := h
    refine ⟨_, (pss_cons (ps_set (i := 1) sc_law.nd rfl (Or.inl rfl) (pe_call G_law_numbers.ok (hr.mono (by decide)) (by rfl) G_law_numbers.g G_law_numbers.k G_law_numbers.b .nil pass0 (pa_cons (pv 0) (pa_cons pe_int pa_nil))))
      (pss_cons (ps_set (i := 2) sc_law.nd rfl (Or.inl rfl) (pe_call G_law_parts.ok (hr.mono (by decide)) (by rfl) G_law_parts.g G_law_parts.k G_law_parts.b .nil pass0 (pa_cons (pv 1) (pa_cons pe_int pa_nil))))
      (pss_cons (ps_set (i := 3) sc_law.nd rfl (Or.inl rfl) (pe_call G_law_frozen.ok (hr.mono (by decide)) (by rfl) G_law_frozen.g G_law_frozen.k G_law_frozen.b .nil pass0 (pa_cons (pv 2) pa_nil)))
      (pss_cons (ps_set (i := 4) sc_law.nd rfl (Or.inl rfl) (pe_call G_law_made.ok (hr.mono (by decide)) (by rfl) G_law_made.g G_law_made.k G_law_made.b .nil passL (pa_cons (pv 2) pa_nil)))
      (pss_cons (ps_set (i := 5) sc_law.nd rfl (Or.inl rfl) (pe_call G_law_lines.ok (hr.mono (by decide)) (by rfl) G_law_lines.g G_law_lines.k G_law_lines.b .nil pass0 (pa_cons (pv 2) pa_nil)))
      (pss_cons (ps_set (i := 6) sc_law.nd rfl (Or.inl rfl) (pe_op (k_addU K rfl) pe_int (pe_callB (k_len K rfl) (by rfl) Z.len bt_len (pa_cons (pe_ix (k_ix K rfl) (pv 2) pe_int (fun _ _ => rfl)) pa_nil))))
      (pss_cons (ps_set (i := 7) sc_law.nd rfl (Or.inl rfl) (k_join K rfl pe_str (pv 5)))
      (pss_cons (ps_set (i := 8) sc_law.nd rfl (Or.inl rfl) (pe_call G_parse_book.ok (hr.mono (by decide)) (by rfl) G_parse_book.g G_parse_book.k G_parse_book.b .nil passL (pa_cons (pv 7) pa_nil)))
      (pss_cons (ps_set (i := 9) sc_law.nd rfl (Or.inl rfl) (pe_call G_parse_book.ok (hr.mono (by decide)) (by rfl) G_parse_book.g G_parse_book.k G_parse_book.b .nil passL (pa_cons (k_join K rfl pe_str (pe_op (k_addU K rfl) (pe_slice (k_sl K rfl) (pv 5) po_none (po_some (pv 6))) (pe_call G_law_mixed.ok (hr.mono (by decide)) (by rfl) G_law_mixed.g G_law_mixed.k G_law_mixed.b .nil pass0 (pa_cons (pe_lst (pa_cons (pv 1) (pa_cons pe_int pa_nil))) (pa_cons (pe_slice (k_sl K rfl) (pv 5) (po_some (pv 6)) po_none) pa_nil))))) pa_nil)))
      (pss_cons (ps_set (i := 10) sc_law.nd rfl (Or.inl rfl) (pe_call G_parse_book.ok (hr.mono (by decide)) (by rfl) G_parse_book.g G_parse_book.k G_parse_book.b .nil passL (pa_cons pe_str pa_nil)))
      (pss_cons (ps_if (PW.pt (pw_or (pt_not (pt_val (pe_call G_law_same.ok (hr.mono (by decide)) (by rfl) G_law_same.g G_law_same.k G_law_same.b .nil pass0 (pa_cons (pv 8) (pa_cons (pv 3) pa_nil))))) (pw_or (pt_not (pt_val (pe_call G_law_same.ok (hr.mono (by decide)) (by rfl) G_law_same.g G_law_same.k G_law_same.b .nil pass0 (pa_cons (pv 9) (pa_cons (pv 3) pa_nil))))) (pw_or1 (pt_cmpR (k_neD K rfl hr.units) (pe_prop (pv 10) c.cl pr_rules G_get_rules (hr.mono (by decide)) bg_rules .nil pass0 rfl) (pe_tup (pa_cons (pe_tup (pa_cons pe_str (pa_cons pe_str (pa_cons pe_int (pa_cons pe_str (pa_cons (pe_tup pa_nil) pa_nil)))))) pa_nil)) (nomark _)))))) (pss_one (ps_ret pe_bl)) pss_nil)
      (pss_cons (ps_for PassesOwn.never rfl (k_piT K rfl (pe_ix (k_ix K rfl) (pv 3) pe_int (fun _ _ => rfl))) (pg_name (i := 11) sc_law.nd rfl (Or.inl rfl)) (pss_one (ps_if (pt_cmpR (k_neD K rfl hr.units) (pe_meth (pv 8) c.cl me_place G_Book_place (hr.mono (by decide)) bg_place .nil pass0 (pa_cons (pe_ix (k_ix K rfl) (pv 11) pe_int (fun _ _ => rfl)) pa_nil)) (pv 11) (nomark _)) (pss_one (ps_ret pe_bl)) pss_nil)))
      (pss_cons (ps_for PassesOwn.never rfl (k_piT K rfl (pe_ix (k_ix K rfl) (pv 3) pe_int (fun _ _ => rfl))) (k_tgt K rfl rfl (pgs_cons (pg_name (i := 12) sc_law.nd rfl (Or.inl rfl)) (pgs_cons (pg_name (i := 13) sc_law.nd rfl (Or.inl rfl)) (pgs_cons (pg_name (i := 14) sc_law.nd rfl (Or.inl rfl)) (pgs_cons (pg_name (i := 15) sc_law.nd rfl (Or.inl rfl)) (pgs_cons (pg_name (i := 16) sc_law.nd rfl (Or.inl rfl)) pgs_nil)))))) (pss_one (ps_if (pt_cmpR (k_neD K rfl hr.units) (pe_meth (pv 9) c.cl me_rule G_Book_rule (hr.mono (by decide)) bg_rule .nil pass0 (pa_cons (pv 12) (pa_cons (pv 13) (pa_cons (pv 14) pa_nil)))) (pe_tup (pa_cons (pv 15) (pa_cons (pv 16) pa_nil))) (nomark _)) (pss_one (ps_ret pe_bl)) pss_nil)))
      (pss_one (ps_ret (pe_and (pe_cmpR (k_eqD K rfl hr.units) (pe_call G_format_book.ok (hr.mono (by decide)) (by rfl) G_format_book.g G_format_book.k G_format_book.b .nil pass0 (pa_cons (pv 8) pa_nil)) (pv 7) (nomark _)) (pe_and (pe_cmpR (k_eqD K rfl hr.units) (pe_call G_format_book.ok (hr.mono (by decide)) (by rfl) G_format_book.g G_format_book.k G_format_book.b .nil pass0 (pa_cons (pv 9) pa_nil)) (pv 7) (nomark _)) (pe_one (pe_call G_law_same.ok (hr.mono (by decide)) (by rfl) G_law_same.g G_law_same.k G_law_same.b .nil pass0 (pa_cons (pv 4) (pa_cons (pv 3) pa_nil))))))))))))))))))))), ?_⟩
    -- numbers
    refine p_callS (G := fun _ => none) (P := fun _ vs => vs = [.ref a, .int 240]) (fun H0 e0 Q' q' => ⟨.ref a, rfl, q' _ _ _ (Stp.refl e0) rfl⟩) (fun _ _ h => (nomatch h)) fun vs1 G1 H1 s1 p1 => ?_
    subst p1
    have hS1 : SqL K H1 a (ns.map V.int) := ex_l s1.h hS
    refine ⟨a, ns, 240, fun _ => none, rfl, hS1, hn, by decide, (fun _ _ h => (nomatch h)), fun v1 G2 H2 s2 r2 => ?_⟩
    have ln := numsOf_len ns 240
    have sm := numsOf_sm ns 240
    generalize numsOf ns 240 = nm at r2 ln sm
    -- parts
    refine w_callS (es_cons (ed_var rfl r2) (es_cons (ed_c (.int 6)) es_nil)) s2.gh fun vs3 G3 H3 s3 p3 => ?_
    obtain ⟨w1, w2, rfl, pa, pb⟩ := ra_two p3
    obtain rfl := rp_int pb
    refine ⟨w1, nm, 6, G3, rfl, pa, sm, by omega, by decide, s3.gh, fun B v2 G4 H4 hB hB6 s4 r4 => ?_⟩
    have hB60 : B.pls.length ≤ 60 := by omega
    obtain ⟨z1, z2, z3, z4, z5, z6⟩ := hB.sizes hB60
    have oB := parts_okD hB
    have sz := hB.size hB60
    have nmB := hB.names (rs := B.rs) fun _ h => h
    have rA : Rp G4 v2 (partsA B.ws B.pls B.st (B.rs.map fun r => (true, r))) := parts_A B ▸ r4
    have eR : ∀ l : List Ru, (l.map fun r => (true, r)).map (fun r => r.2) = l := fun l => by
      rw [List.map_map]
      exact List.map_id _
    -- due
    show tSeq _ _ _ _ _
    refine w_callS (es_cons (ed_var rfl rA) es_nil) s4.gh fun vs5 G5 H5 s5 p5 => ?_
    cases p5 with
    | cons p5 p6 =>
    cases p6
    refine ⟨_, B.ws, B.pls, B.st, B.rs.map fun r => (true, r), G5, rfl, p5, s5.gh, z2, by rw [List.length_map]; omega, fun v3 G6 H6 s6 r6 => ?_⟩
    rw [eR] at r6
    have S6 := s5.trans s6
    -- book
    show tSeq _ _ _ _ _
    refine w_callS (es_cons (ed_var rfl (rp_mono S6.g _ _ rA)) es_nil) s6.gh fun vs7 G7 H7 s7 p7 => ?_
    cases p7 with
    | cons p7 p8 =>
    cases p8
    obtain ⟨bok, brs⟩ := hB.book hB60 (List.Perm.refl B.rs)
    refine ⟨_, B, B.rs.map fun r => (true, r), G7, rfl, p7, s7.gh, (eR _).symm, z1, z2, by rw [List.length_map]; omega, z4, z5, hB.ok, fun r hr => ?_, fun _ ab G8 H8 s8 bk8 => ?_, fun no => absurd bok no⟩
    · obtain ⟨r', hr', rfl⟩ := List.mem_map.mp hr
      exact z6 r' hr'
    have S8 := (S6.trans s7).trans s8
    have brs' : B.rules = B.rs := brs
    have rA8 := rp_mono S8.g _ _ rA
    have itA {σ : L2.St} {G' : Hp} {d : PyData} (x : Ex G8 G') (j : Nat) (hs : σ[2]? = some (some v2)) (hd : [PyData.list (B.ws.map PyData.str), .list (B.pls.map plD), .str B.st, .list ((B.rs.map fun r => (true, r)).map ruA)][j]? = some d) : EvD (tOp (rIx K) (tVar 2) (tC (.int (j : Int)))) σ G' d := ed_op (ed_var hs (rp_mono x _ _ rA8)) (ed_c (.int _)) (r2_ixl (atI_nat hd))
    -- lines
    have sz' : SizeOk B.ws B.pls B.st ((B.rs.map fun r => (true, r)).map fun r => r.2) := (eR B.rs).symm ▸ sz
    show tSeq _ _ _ _ _
    refine w_set (d := .list ((linesOf B.ws B.pls B.st B.rs).map PyData.str)) (ev_at s8.gh (ed_is (by rw [eR]) (ed_law_lines (ed_var rfl rA8) sz'))) fun v9 G9 H9 s9 r9 => ?_
    -- first
    refine w_set (d := .int ((2 + B.pls.length : Nat) : Int)) (ev_at s9.gh (ed_is (by rw [List.length_map]; rfl) (ed_op (ed_c (.int 2)) (ed_cb (es_cons (itA s9.g 1 rfl rfl) es_nil) rd_lenl) r2_add))) fun v10 G10 H10 s10 r10 => ?_
    obtain rfl := rp_int r10
    have r9 := rp_mono s10.g _ _ r9
    -- text
    refine w_set (d := .str (textOf B.ws B.pls B.st B.rs)) (ev_at s10.gh (ed_join (b := true) (ys := linesOf B.ws B.pls B.st B.rs) (m := 1000) (n := 3000) (ed_c (.str _)) (ed_var rfl r9) (fun y hy => (lines_ok sz y hy).1) (lines_len sz) (by decide +kernel))) fun v11 G11 H11 s11 r11 => ?_
    obtain rfl := rp_str r11
    have r9 := rp_mono s11.g _ _ r9
    have S11 := ((S8.trans s9).trans s10).trans s11
    have oT : okD 0 (.str (textOf B.ws B.pls B.st B.rs)) := okD_s (text_ok sz)
    -- read
    refine w_callS (es_cons (ed_var rfl (.str (textOf B.ws B.pls B.st B.rs))) es_nil) s11.gh fun vs12 G12 H12 s12 p12 => ?_
    obtain rfl := ra_str (ns := [textOf B.ws B.pls B.st B.rs]) p12
    refine ⟨B.ws, B.pls, B.st, B.rs, G12, rfl, sz, nmB, s12.gh, fun _ ar G13 H13 s13 bk13 => ?_, fun no => absurd bok no⟩
    have S13 := (S11.trans s12).trans s13
    have r9 := rp_mono (s12.trans s13).g _ _ r9
    -- mixed
    have hLn : linesOf B.ws B.pls B.st B.rs = ([Txt.join " " ([("words" : Str)] ++ B.ws), ("start " : Str) ++ B.st] ++ B.pls.map plLine) ++ B.rs.map ruLine := rfl
    have hl2 : ([Txt.join " " ([("words" : Str)] ++ B.ws), ("start " : Str) ++ B.st] ++ B.pls.map plLine).length = 2 + B.pls.length := by
      rw [List.length_append, List.length_map]
      rfl
    have hT : (linesOf B.ws B.pls B.st B.rs).take (2 + B.pls.length) = [Txt.join " " ([("words" : Str)] ++ B.ws), ("start " : Str) ++ B.st] ++ B.pls.map plLine := by rw [hLn, ← hl2, List.take_left]
    have hD : (linesOf B.ws B.pls B.st B.rs).drop (2 + B.pls.length) = B.rs.map ruLine := by rw [hLn, ← hl2, List.drop_left]
    obtain ⟨T, hTx⟩ : ∃ T, textOf B.ws B.pls B.st B.rs = T := ⟨_, rfl⟩
    rw [hTx] at oT
    rw [hTx]
    clear r11 p12
    show tSeq _ _ _ _ _
    refine ⟨⟨_, rfl⟩, ?_⟩
    refine h_run (te := tSl (rSlU K) (tVar 5) tNoPart (tPart (tVar 6))) (d := .list (([Txt.join " " ([("words" : Str)] ++ B.ws), ("start " : Str) ++ B.st] ++ B.pls.map plLine).map PyData.str)) (ev_at s13.gh (ed_is (by rw [cut_to, hT]) (ed_sll (ed_var rfl r9) eb_none (eb_some (ed_var rfl (.int ((2 + B.pls.length : Nat) : Int))))))) fun v14 G14 H14 s14 r14 => ?_
    refine ⟨v1, rfl, sz_of (show 2 ≤ 100000 by decide), fun p hp => ?_⟩
    have S14 := S13.trans s14
    have g14 := fresh_back s14.gh hp
    have x14 : Ex G2 G14 := (s3.g.trans s4.g).trans S14.g
    have hd0 : Dr G14 (upd H14 p (.lst [v1, .int 100])) p v1 nm := ⟨Ex.mut s14.gh g14, g14, rp_mono x14 _ _ r2, by omega, 100, by decide, upd_same⟩
    have Sp : Stp G14 (hid p H14) G14 (upd H14 p (.lst [v1, .int 100])) := (Stp.idP s14.gh).mutP g14
    refine h_run (te := tSl (rSlU K) (tVar 5) (tPart (tVar 6)) tNoPart) (d := .list ((B.rs.map ruLine).map PyData.str)) (ev_at hd0.ex (ed_is (by rw [cut_from, hD]) (ed_sll (ed_var rfl (rp_mono s14.g _ _ r9)) (eb_some (ed_var rfl (.int ((2 + B.pls.length : Nat) : Int)))) eb_none))) fun v15 G15 H15 s15 r15 => ?_
    refine ⟨p, v1, v15, nm, _, G15, rfl, hd0.step s15, r15, by rw [List.length_map, List.length_map]; omega, fun es v16 G16 H16 pe s16 d16 r16 => ?_⟩
    rw [List.map_map] at pe
    obtain ⟨rs', rfl, pm⟩ := perm_inv pe B.rs rfl
    have r16 : Rp G16 v16 (.list ((rs'.map ruLine).map PyData.str)) := by
      rw [List.map_map]
      exact r16
    have S16 : Stp G14 H14 G16 H16 := (hid_none hp ▸ (Sp.trans s15).transP s16 : Stp G14 H14 G16 H16)
    have l16 : rs'.length = B.rs.length := pm.length_eq
    have mem' : ∀ r ∈ rs', r ∈ B.rs := fun r hr => pm.mem_iff.mp hr
    have szM : SizeOk B.ws B.pls B.st rs' := sz.sub mem' (by have := sz.rl; omega)
    have nmM : NmOk B.ws B.pls B.st rs' := hB.names mem'
    have ad := r2_addl (K := K) (ds := ([Txt.join " " ([("words" : Str)] ++ B.ws), ("start " : Str) ++ B.st] ++ B.pls.map plLine).map PyData.str) (es := (rs'.map ruLine).map PyData.str) (by rw [List.length_map, hl2, List.length_map, List.length_map, sizeLine_eq]; have := sz.rl; omega)
    refine ad G16 H16 v14 v16 d16.ex (rp_mono S16.g _ _ r14) r16 _ ?_
    intro v17 G17 H17 s17 r17
    have r17 : Rp G17 v17 (.list ((linesOf B.ws B.pls B.st rs').map PyData.str)) := by
      unfold linesOf
      rw [List.map_append]
      exact r17
    obtain ⟨lj, xj, rfl, hj1, hj2⟩ := rp_lst r17
    obtain rfl := ra_str hj2
    refine ⟨("\n" : Str), lj, linesOf B.ws B.pls B.st rs', rfl, rfl, .inl (sq_of (s17.gh _ _ hj1)), ?_, ?_⟩
    · have h3 := sum_le (fun y hy => (lines_ok szM y hy).1)
      have h4 := lines_len szM
      rw [show ("\n" : Str).length = 1 by decide +kernel]
      have h5 : (linesOf B.ws B.pls B.st rs').length * 1000 ≤ 3000 * 1000 := Nat.mul_le_mul_right _ h4
      omega
    obtain ⟨bok2, brs2⟩ := hB.book hB60 pm
    have S17 := (S14.trans S16).trans s17
    refine ⟨B.ws, B.pls, B.st, rs', G17, rfl, szM, nmM, s17.gh, fun _ am G18 H18 s18 bk18 => ?_, fun no => absurd bok2 no⟩
    have S18 := S17.trans s18
    -- small
    change tSeq (tAsg (tCall (spParse C CX) [] E0 (tCons (tC (V.str _)) tNil)) (gName 10)) _ _ _ _
    have s60 : smallB.pls.length ≤ 60 := by decide
    have szS := small_ok.size s60
    have nmS := small_ok.names (rs := smallB.rs) fun _ h => h
    obtain ⟨bokS, brsS⟩ := small_ok.book s60 (List.Perm.refl smallB.rs)
    refine w_callS (es_cons (ed_is (congrArg PyData.str small_text.symm) (ed_c (.str _))) es_nil) s18.gh fun vs19 G19 H19 s19 p19 => ?_
    obtain rfl := ra_str (ns := [textOf smallB.ws smallB.pls smallB.st smallB.rs]) p19
    refine ⟨smallB.ws, smallB.pls, smallB.st, smallB.rs, G19, rfl, szS, nmS, s19.gh, fun _ as_ G20 H20 s20 bk20 => ?_, fun no => absurd bokS no⟩
    have S20 := (S18.trans s19).trans s20
    have T13 : Stp G13 H13 G20 H20 := ((((s14.trans S16).trans s17).trans s18).trans s19).trans s20
    have bkR : IsBook G20 C ar B := bk13.mono T13.g
    have bkM : IsBook G20 C am ⟨B.ws, B.pls, B.st, rs'⟩ := bk18.mono (s19.trans s20).g
    have rdue : Rp G20 v3 (frozD B.ws B.pls B.st B.rs) := rp_mono ((((((((s7.trans s8).trans s9).trans s10).trans s11).trans s12).trans s13).trans T13).g) _ _ r6
    have bkB : IsBook G20 C ab B := bk8.mono ((((((s9.trans s10).trans s11).trans s12).trans s13).trans T13).g)
    have b1 : bookD B = frozD B.ws B.pls B.st B.rs := by unfold bookD; rw [brs']
    have b2 : bookD ⟨B.ws, B.pls, B.st, rs'⟩ = frozD B.ws B.pls B.st B.rs := by unfold bookD; rw [brs2]
    have oS : okD 4 (frozD smallB.ws smallB.pls smallB.st smallB.rs) := parts_okD small_ok
    have oSr : okD 3 (.tuple (smallB.rs.map ruD)) := oS _ (by simp [frozD])
    obtain ⟨dxs, _, _, _, w7s, _, _, h0s, _, _, _, _, _, r7s⟩ := bk20.at_
    have r7s : Rp G20 w7s (.tuple (smallB.rs.map ruD)) := by
      have := r7s
      rw [show smallB.rules = smallB.rs from brsS] at this
      exact this
    clear bk13 bk18 bk8 r17 hj1 hj2 r16 d16 s16 Sp hd0 r15 r14 S17 S16 S14 s17 s15 s14 ad
    have e20 := s20.gh
    refine w_when (b := false) (ec_at e20 (ec_is ?_ (et_or (et_not (et_val (ed_same (ev_v rfl) bkR (fun G' x => ed_var rfl (rp_mono x _ _ rdue)) (b1 ▸ oB) oB))) (fun _ => et_or (et_not (et_val (ed_same (ev_v rfl) bkM (fun G' x => ed_var rfl (rp_mono x _ _ rdue)) (b2 ▸ oB) oB))) (fun _ => et_cmp (ed_op (ed_prop rfl h0s rfl r7s) (ed_tup (es_cons (ed_tup (es_cons (ed_c (.str ("a" : Str))) (es_cons (ed_c (.str ("w" : Str))) (es_cons (ed_c (.int 0)) (es_cons (ed_c (.str ("a" : Str))) (es_cons (ed_tup es_nil (by simp)) es_nil))))) (by simp)) es_nil) (by simp)) (r2_ne (oSr.shaped (by decide)) (oSr.shaped (by decide))))))))) (fun hb => nomatch hb) (fun _ G21 H21 s21 => ?_)
    · rw [same_self b1 oB, same_self b2 oB]
      show (!true || (!true || !PyData.eqv (.tuple (smallB.rs.map ruD)) (.tuple (smallB.rs.map ruD)))) = false
      rw [eqv_same oSr]
      rfl
    have bkR := bkR.mono s21.g
    have bkM := bkM.mono s21.g
    have bkB := bkB.mono s21.g
    have rdue := rp_mono s21.g _ _ rdue
    have itD {σ : L2.St} {G' : Hp} {d : PyData} (x : Ex G21 G') (j : Nat) (hs : σ[3]? = some (some v3)) (hd : [PyData.tuple (B.ws.map PyData.str), .tuple (B.pls.map plD), .str B.st, .tuple (B.rs.map ruD)][j]? = some d) : EvD (tOp (rIx K) (tVar 3) (tC (.int (j : Int)))) σ G' d := ed_op (ed_var hs (rp_mono x _ _ rdue)) (ed_c (.int _)) (r2_ixt (atI_nat hd))
    -- places
    refine w_forT (as := B.pls) (f := plD) (itD (Ex.refl _) 1 rfl rfl) s21.gh (fun Gl i σ' H' => ∃ (G' : Hp) (y11 : Option V), σ' = [some (.ref a), some v1, some v2, some v3, some (.ref ab), some v9, some (.int ((2 + B.pls.length : Nat) : Int)), some (.str T), some (.ref ar), some (.ref am), some (.ref as_), y11, none, none, none, none, none] ∧ Ex G21 G' ∧ Ex G' H' ∧ Ex Gl G')
      (fun G22 H22 s22 => ⟨G22, none, rfl, s22.g, s22.gh, Ex.refl _⟩) (fun Gl i σ' H' hp => ?_) (fun Gl i pl vv σ' H' eG hi hvv hp => ?_) (fun Gl σ' H' eG hp => ?_)
    · obtain ⟨G', _, _, _, e, x⟩ := hp
      exact x.trans e
    · obtain ⟨G', y11, rfl, x1, e, x⟩ := hp
      have mem := List.mem_of_getElem? hi
      have oP := froz_pl oB mem
      have rv := rp_mono x _ _ hvv
      refine w_if1 (b := false) (ec_at e (ec_is ?_ (et_cmp (ed_op (ed_mplace (n := pl.1) (ev_v rfl) (bkR.mono x1) (ed_op (ed_var rfl rv) (ed_c (.int 0)) (r2_ixt (atI_nat (j := 0) rfl))) (find_nd hB.p.1.2 mem)) (ed_var rfl rv) (r2_ne (oP.shaped (by decide)) (oP.shaped (by decide))))))) (fun hb => nomatch hb) (fun _ G22 H22 s22 => ?_)
      · rw [eqv_same oP]
        rfl
      exact ⟨G22, _, rfl, x1.trans s22.g, s22.gh, x.trans s22.g⟩
    obtain ⟨G22, y11, rfl, x22, e22, _⟩ := hp
    clear hp
    -- rules
    refine w_forT (as := B.rs) (f := ruD) (itD x22 3 rfl rfl) e22 (fun Gl i σ' H' => ∃ (G' : Hp) (y12 y13 y14 y15 y16 : Option V), σ' = [some (.ref a), some v1, some v2, some v3, some (.ref ab), some v9, some (.int ((2 + B.pls.length : Nat) : Int)), some (.str T), some (.ref ar), some (.ref am), some (.ref as_), y11, y12, y13, y14, y15, y16] ∧ Ex G21 G' ∧ Ex G' H' ∧ Ex Gl G')
      (fun G23 H23 s23 => ⟨G23, none, none, none, none, none, rfl, x22.trans s23.g, s23.gh, Ex.refl _⟩) (fun Gl i σ' H' hp => ?_) (fun Gl i r vv σ' H' eG hi hvv hp => ?_) (fun Gl σ' H' eG hp => ?_)
    · obtain ⟨G', _, _, _, _, _, _, _, e, x⟩ := hp
      exact x.trans e
    · obtain ⟨G', y12, y13, y14, y15, y16, rfl, x1, e, x⟩ := hp
      have mem := List.mem_of_getElem? hi
      have oV := froz_vr oB mem
      obtain ⟨pl, hpl, wd, hwd, cc, R, _⟩ := hB.good r mem
      have fP : findP B.pls r.pl = some pl := R.epl ▸ find_nd hB.p.1.2 hpl
      have fW : r.wd ∈ B.ws := R.ewd ▸ hwd
      have fR : findR rs' [Sum.inr r.pl, Sum.inr r.wd, Sum.inl r.cs] = some r := findR_nd (((pm.map keyR).nodup_iff).mpr hB.nd) (pm.mem_iff.mpr mem)
      refine g_five (x.trans e) hvv fun va vb vc vd ve ra rb rc rd re => ?_
      obtain rfl := rp_str ra
      obtain rfl := rp_str rb
      obtain rfl := rp_int rc
      obtain rfl := rp_str rd
      refine w_if1 (b := false) (ec_at e (ec_is ?_ (et_cmp (ed_op (ed_mrule (n := r.pl) (wd := r.wd) (i := r.cs) (ev_v rfl) (bkM.mono x1) (ed_var rfl (.str r.pl)) (ed_var rfl (.str r.wd)) (ed_var rfl (.int r.cs)) fP fW fR) (ed_tup (es_cons (ed_var rfl (.str r.go)) (es_cons (ed_var rfl (rp_mono x _ _ re)) es_nil)) (by simp)) (r2_ne (oV.shaped (by decide)) (oV.shaped (by decide))))))) (fun hb => nomatch hb) (fun _ G23 H23 s23 => ?_)
      · show (!PyData.eqv (vrD r) (vrD r)) = false
        rw [eqv_same oV]
        rfl
      exact ⟨G23, _, _, _, _, _, rfl, x1.trans s23.g, s23.gh, x.trans s23.g⟩
    obtain ⟨G23, y12, y13, y14, y15, y16, rfl, x23, e23, _⟩ := hp
    have szR : SizeOk B.ws B.pls B.st B.rules := brs'.symm ▸ sz
    have szM2 : SizeOk B.ws B.pls B.st (BK.mk B.ws B.pls B.st rs').rules := brs2.symm ▸ sz
    refine w_ret (d := .bool (PyData.eqv (.str T) (.str T) && (PyData.eqv (.str T) (.str T) && PyData.eqv (bookD B) (frozD B.ws B.pls B.st B.rs)))) (ev_at e23 (ed_and (ed_op (ed_is (f := .str T) (by rw [brs', hTx]) (ed_format (ev_v rfl) (bkR.mono x23) szR)) (ed_var rfl (.str T)) (r2_eq (oT.shaped (by decide)) (oT.shaped (by decide)))) (fun _ => ed_and (ed_op (ed_is (f := .str T) (by rw [brs2, hTx]) (ed_format (ev_v rfl) (bkM.mono x23) szM2)) (ed_var rfl (.str T)) (r2_eq (oT.shaped (by decide)) (oT.shaped (by decide))))
      (fun _ => ed_same (ev_v rfl) (bkB.mono x23) (fun G' x => ed_var rfl (rp_mono (x23.trans x) _ _ rdue)) (b1 ▸ oB) oB)))) fun v24 G24 H24 s24 r24 => ?_
    rw [eqv_same oT, same_self b1 oB] at r24
    obtain rfl := rp_bl r24
    exact q H24
end
end Fw

namespace Fw
open PySem PySem.Spec PyProof.Rows L2 Evl
open TL (tl len_tl ext_tl tl_append tl_mk mk_tl)
abbrev s_Book_rules : Stmt := inClass (topS 16) 1
theorem sc_Book_rules : FnScope ["self"] ["self"] (defScope s_Book_rules) := ⟨rfl, rfl, rfl, by decide +kernel, rfl, by decide +kernel, by decide +kernel⟩
theorem kb_KB_Book {K : PySem.W.Frag} (kV doc pm : Value) (an : Option Addr) (cd ct : Value) : KBn K (PySem.W.fnOf "__init__" "Book.__init__" (defArgs s_Book_init) (defBody s_Book_init) (defScope s_Book_init) .none kV doc pm an cd ct) ["self", "words", "places", "start", "rules"] 1 ["words", "places", "start", "rules"] (fun us ws => us ++ ws) (fun vs zs => vs ++ zs) :=
  ⟨fun s us ws _ h1 h2 => match us, ws, h1, h2 with | [_], [_, _, _, _], _, _ => .of_eq rfl, fun r1 r2 => r1.append r2⟩
/-! ### what the top has left; the row -/
theorem all_mk {l : PySem.W.OpenLaw} {w : World} {K : PySem.W.Frag} {h : Heap} {mg : Str → Option Value} {fa : Addr} (X : K.In h) (G : h.Ns mainGlobals mg) (hfa : mg "law" = some (.ref fa))
    {f_law_row : Addr} {od_law_row an_law_row : Option Addr} {sl_law_row : Array (Option Value)} {oc_law_row kV_law_row dc_law_row pm_law_row cd_law_row ct_law_row : Value}
    {f_law_numbers : Addr} {od_law_numbers an_law_numbers : Option Addr} {sl_law_numbers : Array (Option Value)} {oc_law_numbers kV_law_numbers dc_law_numbers pm_law_numbers cd_law_numbers ct_law_numbers : Value}
    {f_is_name : Addr} {od_is_name an_is_name : Option Addr} {sl_is_name : Array (Option Value)} {oc_is_name kV_is_name dc_is_name pm_is_name cd_is_name ct_is_name : Value}
    {f_check_names : Addr} {od_check_names an_check_names : Option Addr} {sl_check_names : Array (Option Value)} {oc_check_names kV_check_names dc_check_names pm_check_names cd_check_names ct_check_names : Value}
    {f_kept_words : Addr} {od_kept_words an_kept_words : Option Addr} {sl_kept_words : Array (Option Value)} {oc_kept_words kV_kept_words dc_kept_words pm_kept_words cd_kept_words ct_kept_words : Value}
    {f_is_number : Addr} {od_is_number an_is_number : Option Addr} {sl_is_number : Array (Option Value)} {oc_is_number kV_is_number dc_is_number pm_is_number cd_is_number ct_is_number : Value}
    {f_kept_place : Addr} {od_kept_place an_kept_place : Option Addr} {sl_kept_place : Array (Option Value)} {oc_kept_place kV_kept_place dc_kept_place pm_kept_place cd_kept_place ct_kept_place : Value}
    {f_kept_places : Addr} {od_kept_places an_kept_places : Option Addr} {sl_kept_places : Array (Option Value)} {oc_kept_places kV_kept_places dc_kept_places pm_kept_places cd_kept_places ct_kept_places : Value}
    {f_is_source : Addr} {od_is_source an_is_source : Option Addr} {sl_is_source : Array (Option Value)} {oc_is_source kV_is_source dc_is_source pm_is_source cd_is_source ct_is_source : Value}
    {f_check_sources : Addr} {od_check_sources an_check_sources : Option Addr} {sl_check_sources : Array (Option Value)} {oc_check_sources kV_check_sources dc_check_sources pm_check_sources cd_check_sources ct_check_sources : Value}
    {f_kept_rule : Addr} {od_kept_rule an_kept_rule : Option Addr} {sl_kept_rule : Array (Option Value)} {oc_kept_rule kV_kept_rule dc_kept_rule pm_kept_rule cd_kept_rule ct_kept_rule : Value}
    {f_told_rules : Addr} {od_told_rules an_told_rules : Option Addr} {sl_told_rules : Array (Option Value)} {oc_told_rules kV_told_rules dc_told_rules pm_told_rules cd_told_rules ct_told_rules : Value}
    {f_ordered_rules : Addr} {od_ordered_rules an_ordered_rules : Option Addr} {sl_ordered_rules : Array (Option Value)} {oc_ordered_rules kV_ordered_rules dc_ordered_rules pm_ordered_rules cd_ordered_rules ct_ordered_rules : Value}
    {f_law_next : Addr} {od_law_next an_law_next : Option Addr} {sl_law_next : Array (Option Value)} {oc_law_next kV_law_next dc_law_next pm_law_next cd_law_next ct_law_next : Value}
    {f_law_mixed : Addr} {od_law_mixed an_law_mixed : Option Addr} {sl_law_mixed : Array (Option Value)} {oc_law_mixed kV_law_mixed dc_law_mixed pm_law_mixed cd_law_mixed ct_law_mixed : Value}
    {f_law_names : Addr} {od_law_names an_law_names : Option Addr} {sl_law_names : Array (Option Value)} {oc_law_names kV_law_names dc_law_names pm_law_names cd_law_names ct_law_names : Value}
    {f_law_rule : Addr} {od_law_rule an_law_rule : Option Addr} {sl_law_rule : Array (Option Value)} {oc_law_rule kV_law_rule dc_law_rule pm_law_rule cd_law_rule ct_law_rule : Value}
    {f_law_parts : Addr} {od_law_parts an_law_parts : Option Addr} {sl_law_parts : Array (Option Value)} {oc_law_parts kV_law_parts dc_law_parts pm_law_parts cd_law_parts ct_law_parts : Value}
    {f_law_made : Addr} {od_law_made an_law_made : Option Addr} {sl_law_made : Array (Option Value)} {oc_law_made kV_law_made dc_law_made pm_law_made cd_law_made ct_law_made : Value}
    {f_law_frozen : Addr} {od_law_frozen an_law_frozen : Option Addr} {sl_law_frozen : Array (Option Value)} {oc_law_frozen kV_law_frozen dc_law_frozen pm_law_frozen cd_law_frozen ct_law_frozen : Value}
    {f_law_same : Addr} {od_law_same an_law_same : Option Addr} {sl_law_same : Array (Option Value)} {oc_law_same kV_law_same dc_law_same pm_law_same cd_law_same ct_law_same : Value}
    {f_law_lines : Addr} {od_law_lines an_law_lines : Option Addr} {sl_law_lines : Array (Option Value)} {oc_law_lines kV_law_lines dc_law_lines pm_law_lines cd_law_lines ct_law_lines : Value}
    {f_format_book : Addr} {od_format_book an_format_book : Option Addr} {sl_format_book : Array (Option Value)} {oc_format_book kV_format_book dc_format_book pm_format_book cd_format_book ct_format_book : Value}
    {f_is_integer : Addr} {od_is_integer an_is_integer : Option Addr} {sl_is_integer : Array (Option Value)} {oc_is_integer kV_is_integer dc_is_integer pm_is_integer cd_is_integer ct_is_integer : Value}
    {f_is_place : Addr} {od_is_place an_is_place : Option Addr} {sl_is_place : Array (Option Value)} {oc_is_place kV_is_place dc_is_place pm_is_place cd_is_place ct_is_place : Value}
    {f_is_rule : Addr} {od_is_rule an_is_rule : Option Addr} {sl_is_rule : Array (Option Value)} {oc_is_rule kV_is_rule dc_is_rule pm_is_rule cd_is_rule ct_is_rule : Value}
    {f_can_stand : Addr} {od_can_stand an_can_stand : Option Addr} {sl_can_stand : Array (Option Value)} {oc_can_stand kV_can_stand dc_can_stand pm_can_stand cd_can_stand ct_can_stand : Value}
    {f_check_form : Addr} {od_check_form an_check_form : Option Addr} {sl_check_form : Array (Option Value)} {oc_check_form kV_check_form dc_check_form pm_check_form cd_check_form ct_check_form : Value}
    {f_place_of : Addr} {od_place_of an_place_of : Option Addr} {sl_place_of : Array (Option Value)} {oc_place_of kV_place_of dc_place_of pm_place_of cd_place_of ct_place_of : Value}
    {f_rule_of : Addr} {od_rule_of an_rule_of : Option Addr} {sl_rule_of : Array (Option Value)} {oc_rule_of kV_rule_of dc_rule_of pm_rule_of cd_rule_of ct_rule_of : Value}
    {f_parse_book : Addr} {od_parse_book an_parse_book : Option Addr} {sl_parse_book : Array (Option Value)} {oc_parse_book kV_parse_book dc_parse_book pm_parse_book cd_parse_book ct_parse_book : Value}
    {f_law : Addr} {od_law an_law : Option Addr} {sl_law : Array (Option Value)} {oc_law kV_law dc_law pm_law cd_law ct_law : Value}
    {e_InvalidBook : Addr}
    {C f_Book_init : Addr} {od_Book_init an_Book_init : Option Addr} {sl_Book_init : Array (Option Value)} {oc_Book_init kV_Book_init dc_Book_init pm_Book_init cd_Book_init ct_Book_init : Value}
    {f_Book_rules : Addr} {od_Book_rules an_Book_rules : Option Addr} {sl_Book_rules : Array (Option Value)} {oc_Book_rules kV_Book_rules dc_Book_rules pm_Book_rules cd_Book_rules ct_Book_rules : Value}
    {p_Book_rules : Addr} {r_Book_rules : List Value}
    {f_Book_place : Addr} {od_Book_place an_Book_place : Option Addr} {sl_Book_place : Array (Option Value)} {oc_Book_place kV_Book_place dc_Book_place pm_Book_place cd_Book_place ct_Book_place : Value}
    {f_Book_check_word : Addr} {od_Book_check_word an_Book_check_word : Option Addr} {sl_Book_check_word : Array (Option Value)} {oc_Book_check_word kV_Book_check_word dc_Book_check_word pm_Book_check_word cd_Book_check_word ct_Book_check_word : Value}
    {f_Book_rule : Addr} {od_Book_rule an_Book_rule : Option Addr} {sl_Book_rule : Array (Option Value)} {oc_Book_rule kV_Book_rule dc_Book_rule pm_Book_rule cd_Book_rule ct_Book_rule : Value}
    {t_LETTERS : Tok}
    {t_SIGNS : Tok}
    {t_LONGEST_NAME : Tok}
    {t_MOST_WORDS : Tok}
    {t_MOST_PLACES : Tok}
    {t_MOST_SLOTS : Tok}
    {t_DIGITS : Tok}
    {t_MOST_DIGITS : Tok}
    (a_law_row : PySem.W.nsIn K mainGlobals "_law_row" = some (some (.ref f_law_row))) (l_law_row : K.lookup f_law_row = some ⟨oc_law_row, od_law_row, .func (PySem.W.fnOf "_law_row" "_law_row" (defArgs s_law_row) (defBody s_law_row) (defScope s_law_row) .none kV_law_row dc_law_row pm_law_row an_law_row cd_law_row ct_law_row), sl_law_row⟩) (c_law_row : PySem.W.codeIn K cd_law_row "_law_row" = true) (k_law_row : PySem.W.keepIn K (.ref f_law_row) = true)
    (a_law_numbers : PySem.W.nsIn K mainGlobals "_law_numbers" = some (some (.ref f_law_numbers))) (l_law_numbers : K.lookup f_law_numbers = some ⟨oc_law_numbers, od_law_numbers, .func (PySem.W.fnOf "_law_numbers" "_law_numbers" (defArgs s_law_numbers) (defBody s_law_numbers) (defScope s_law_numbers) .none kV_law_numbers dc_law_numbers pm_law_numbers an_law_numbers cd_law_numbers ct_law_numbers), sl_law_numbers⟩) (c_law_numbers : PySem.W.codeIn K cd_law_numbers "_law_numbers" = true) (k_law_numbers : PySem.W.keepIn K (.ref f_law_numbers) = true)
    (a_is_name : PySem.W.nsIn K mainGlobals "is_name" = some (some (.ref f_is_name))) (l_is_name : K.lookup f_is_name = some ⟨oc_is_name, od_is_name, .func (PySem.W.fnOf "is_name" "is_name" (defArgs s_is_name) (defBody s_is_name) (defScope s_is_name) .none kV_is_name dc_is_name pm_is_name an_is_name cd_is_name ct_is_name), sl_is_name⟩) (c_is_name : PySem.W.codeIn K cd_is_name "is_name" = true) (k_is_name : PySem.W.keepIn K (.ref f_is_name) = true)
    (a_check_names : PySem.W.nsIn K mainGlobals "_check_names" = some (some (.ref f_check_names))) (l_check_names : K.lookup f_check_names = some ⟨oc_check_names, od_check_names, .func (PySem.W.fnOf "_check_names" "_check_names" (defArgs s_check_names) (defBody s_check_names) (defScope s_check_names) .none kV_check_names dc_check_names pm_check_names an_check_names cd_check_names ct_check_names), sl_check_names⟩) (c_check_names : PySem.W.codeIn K cd_check_names "_check_names" = true) (k_check_names : PySem.W.keepIn K (.ref f_check_names) = true)
    (a_kept_words : PySem.W.nsIn K mainGlobals "_kept_words" = some (some (.ref f_kept_words))) (l_kept_words : K.lookup f_kept_words = some ⟨oc_kept_words, od_kept_words, .func (PySem.W.fnOf "_kept_words" "_kept_words" (defArgs s_kept_words) (defBody s_kept_words) (defScope s_kept_words) .none kV_kept_words dc_kept_words pm_kept_words an_kept_words cd_kept_words ct_kept_words), sl_kept_words⟩) (c_kept_words : PySem.W.codeIn K cd_kept_words "_kept_words" = true) (k_kept_words : PySem.W.keepIn K (.ref f_kept_words) = true)
    (a_is_number : PySem.W.nsIn K mainGlobals "_is_number" = some (some (.ref f_is_number))) (l_is_number : K.lookup f_is_number = some ⟨oc_is_number, od_is_number, .func (PySem.W.fnOf "_is_number" "_is_number" (defArgs s_is_number) (defBody s_is_number) (defScope s_is_number) .none kV_is_number dc_is_number pm_is_number an_is_number cd_is_number ct_is_number), sl_is_number⟩) (c_is_number : PySem.W.codeIn K cd_is_number "_is_number" = true) (k_is_number : PySem.W.keepIn K (.ref f_is_number) = true)
    (a_kept_place : PySem.W.nsIn K mainGlobals "_kept_place" = some (some (.ref f_kept_place))) (l_kept_place : K.lookup f_kept_place = some ⟨oc_kept_place, od_kept_place, .func (PySem.W.fnOf "_kept_place" "_kept_place" (defArgs s_kept_place) (defBody s_kept_place) (defScope s_kept_place) .none kV_kept_place dc_kept_place pm_kept_place an_kept_place cd_kept_place ct_kept_place), sl_kept_place⟩) (c_kept_place : PySem.W.codeIn K cd_kept_place "_kept_place" = true) (k_kept_place : PySem.W.keepIn K (.ref f_kept_place) = true)
    (a_kept_places : PySem.W.nsIn K mainGlobals "_kept_places" = some (some (.ref f_kept_places))) (l_kept_places : K.lookup f_kept_places = some ⟨oc_kept_places, od_kept_places, .func (PySem.W.fnOf "_kept_places" "_kept_places" (defArgs s_kept_places) (defBody s_kept_places) (defScope s_kept_places) .none kV_kept_places dc_kept_places pm_kept_places an_kept_places cd_kept_places ct_kept_places), sl_kept_places⟩) (c_kept_places : PySem.W.codeIn K cd_kept_places "_kept_places" = true) (k_kept_places : PySem.W.keepIn K (.ref f_kept_places) = true)
    (a_is_source : PySem.W.nsIn K mainGlobals "is_source" = some (some (.ref f_is_source))) (l_is_source : K.lookup f_is_source = some ⟨oc_is_source, od_is_source, .func (PySem.W.fnOf "is_source" "is_source" (defArgs s_is_source) (defBody s_is_source) (defScope s_is_source) .none kV_is_source dc_is_source pm_is_source an_is_source cd_is_source ct_is_source), sl_is_source⟩) (c_is_source : PySem.W.codeIn K cd_is_source "is_source" = true) (k_is_source : PySem.W.keepIn K (.ref f_is_source) = true)
    (a_check_sources : PySem.W.nsIn K mainGlobals "_check_sources" = some (some (.ref f_check_sources))) (l_check_sources : K.lookup f_check_sources = some ⟨oc_check_sources, od_check_sources, .func (PySem.W.fnOf "_check_sources" "_check_sources" (defArgs s_check_sources) (defBody s_check_sources) (defScope s_check_sources) .none kV_check_sources dc_check_sources pm_check_sources an_check_sources cd_check_sources ct_check_sources), sl_check_sources⟩) (c_check_sources : PySem.W.codeIn K cd_check_sources "_check_sources" = true) (k_check_sources : PySem.W.keepIn K (.ref f_check_sources) = true)
    (a_kept_rule : PySem.W.nsIn K mainGlobals "_kept_rule" = some (some (.ref f_kept_rule))) (l_kept_rule : K.lookup f_kept_rule = some ⟨oc_kept_rule, od_kept_rule, .func (PySem.W.fnOf "_kept_rule" "_kept_rule" (defArgs s_kept_rule) (defBody s_kept_rule) (defScope s_kept_rule) .none kV_kept_rule dc_kept_rule pm_kept_rule an_kept_rule cd_kept_rule ct_kept_rule), sl_kept_rule⟩) (c_kept_rule : PySem.W.codeIn K cd_kept_rule "_kept_rule" = true) (k_kept_rule : PySem.W.keepIn K (.ref f_kept_rule) = true)
    (a_told_rules : PySem.W.nsIn K mainGlobals "_told_rules" = some (some (.ref f_told_rules))) (l_told_rules : K.lookup f_told_rules = some ⟨oc_told_rules, od_told_rules, .func (PySem.W.fnOf "_told_rules" "_told_rules" (defArgs s_told_rules) (defBody s_told_rules) (defScope s_told_rules) .none kV_told_rules dc_told_rules pm_told_rules an_told_rules cd_told_rules ct_told_rules), sl_told_rules⟩) (c_told_rules : PySem.W.codeIn K cd_told_rules "_told_rules" = true) (k_told_rules : PySem.W.keepIn K (.ref f_told_rules) = true)
    (a_ordered_rules : PySem.W.nsIn K mainGlobals "_ordered_rules" = some (some (.ref f_ordered_rules))) (l_ordered_rules : K.lookup f_ordered_rules = some ⟨oc_ordered_rules, od_ordered_rules, .func (PySem.W.fnOf "_ordered_rules" "_ordered_rules" (defArgs s_ordered_rules) (defBody s_ordered_rules) (defScope s_ordered_rules) .none kV_ordered_rules dc_ordered_rules pm_ordered_rules an_ordered_rules cd_ordered_rules ct_ordered_rules), sl_ordered_rules⟩) (c_ordered_rules : PySem.W.codeIn K cd_ordered_rules "_ordered_rules" = true) (k_ordered_rules : PySem.W.keepIn K (.ref f_ordered_rules) = true)
    (a_law_next : PySem.W.nsIn K mainGlobals "_law_next" = some (some (.ref f_law_next))) (l_law_next : K.lookup f_law_next = some ⟨oc_law_next, od_law_next, .func (PySem.W.fnOf "_law_next" "_law_next" (defArgs s_law_next) (defBody s_law_next) (defScope s_law_next) .none kV_law_next dc_law_next pm_law_next an_law_next cd_law_next ct_law_next), sl_law_next⟩) (c_law_next : PySem.W.codeIn K cd_law_next "_law_next" = true) (k_law_next : PySem.W.keepIn K (.ref f_law_next) = true)
    (a_law_mixed : PySem.W.nsIn K mainGlobals "_law_mixed" = some (some (.ref f_law_mixed))) (l_law_mixed : K.lookup f_law_mixed = some ⟨oc_law_mixed, od_law_mixed, .func (PySem.W.fnOf "_law_mixed" "_law_mixed" (defArgs s_law_mixed) (defBody s_law_mixed) (defScope s_law_mixed) .none kV_law_mixed dc_law_mixed pm_law_mixed an_law_mixed cd_law_mixed ct_law_mixed), sl_law_mixed⟩) (c_law_mixed : PySem.W.codeIn K cd_law_mixed "_law_mixed" = true) (k_law_mixed : PySem.W.keepIn K (.ref f_law_mixed) = true)
    (a_law_names : PySem.W.nsIn K mainGlobals "_law_names" = some (some (.ref f_law_names))) (l_law_names : K.lookup f_law_names = some ⟨oc_law_names, od_law_names, .func (PySem.W.fnOf "_law_names" "_law_names" (defArgs s_law_names) (defBody s_law_names) (defScope s_law_names) .none kV_law_names dc_law_names pm_law_names an_law_names cd_law_names ct_law_names), sl_law_names⟩) (c_law_names : PySem.W.codeIn K cd_law_names "_law_names" = true) (k_law_names : PySem.W.keepIn K (.ref f_law_names) = true)
    (a_law_rule : PySem.W.nsIn K mainGlobals "_law_rule" = some (some (.ref f_law_rule))) (l_law_rule : K.lookup f_law_rule = some ⟨oc_law_rule, od_law_rule, .func (PySem.W.fnOf "_law_rule" "_law_rule" (defArgs s_law_rule) (defBody s_law_rule) (defScope s_law_rule) .none kV_law_rule dc_law_rule pm_law_rule an_law_rule cd_law_rule ct_law_rule), sl_law_rule⟩) (c_law_rule : PySem.W.codeIn K cd_law_rule "_law_rule" = true) (k_law_rule : PySem.W.keepIn K (.ref f_law_rule) = true)
    (a_law_parts : PySem.W.nsIn K mainGlobals "_law_parts" = some (some (.ref f_law_parts))) (l_law_parts : K.lookup f_law_parts = some ⟨oc_law_parts, od_law_parts, .func (PySem.W.fnOf "_law_parts" "_law_parts" (defArgs s_law_parts) (defBody s_law_parts) (defScope s_law_parts) .none kV_law_parts dc_law_parts pm_law_parts an_law_parts cd_law_parts ct_law_parts), sl_law_parts⟩) (c_law_parts : PySem.W.codeIn K cd_law_parts "_law_parts" = true) (k_law_parts : PySem.W.keepIn K (.ref f_law_parts) = true)
    (a_law_made : PySem.W.nsIn K mainGlobals "_law_made" = some (some (.ref f_law_made))) (l_law_made : K.lookup f_law_made = some ⟨oc_law_made, od_law_made, .func (PySem.W.fnOf "_law_made" "_law_made" (defArgs s_law_made) (defBody s_law_made) (defScope s_law_made) .none kV_law_made dc_law_made pm_law_made an_law_made cd_law_made ct_law_made), sl_law_made⟩) (c_law_made : PySem.W.codeIn K cd_law_made "_law_made" = true) (k_law_made : PySem.W.keepIn K (.ref f_law_made) = true)
    (a_law_frozen : PySem.W.nsIn K mainGlobals "_law_frozen" = some (some (.ref f_law_frozen))) (l_law_frozen : K.lookup f_law_frozen = some ⟨oc_law_frozen, od_law_frozen, .func (PySem.W.fnOf "_law_frozen" "_law_frozen" (defArgs s_law_frozen) (defBody s_law_frozen) (defScope s_law_frozen) .none kV_law_frozen dc_law_frozen pm_law_frozen an_law_frozen cd_law_frozen ct_law_frozen), sl_law_frozen⟩) (c_law_frozen : PySem.W.codeIn K cd_law_frozen "_law_frozen" = true) (k_law_frozen : PySem.W.keepIn K (.ref f_law_frozen) = true)
    (a_law_same : PySem.W.nsIn K mainGlobals "_law_same" = some (some (.ref f_law_same))) (l_law_same : K.lookup f_law_same = some ⟨oc_law_same, od_law_same, .func (PySem.W.fnOf "_law_same" "_law_same" (defArgs s_law_same) (defBody s_law_same) (defScope s_law_same) .none kV_law_same dc_law_same pm_law_same an_law_same cd_law_same ct_law_same), sl_law_same⟩) (c_law_same : PySem.W.codeIn K cd_law_same "_law_same" = true) (k_law_same : PySem.W.keepIn K (.ref f_law_same) = true)
    (a_law_lines : PySem.W.nsIn K mainGlobals "_law_lines" = some (some (.ref f_law_lines))) (l_law_lines : K.lookup f_law_lines = some ⟨oc_law_lines, od_law_lines, .func (PySem.W.fnOf "_law_lines" "_law_lines" (defArgs s_law_lines) (defBody s_law_lines) (defScope s_law_lines) .none kV_law_lines dc_law_lines pm_law_lines an_law_lines cd_law_lines ct_law_lines), sl_law_lines⟩) (c_law_lines : PySem.W.codeIn K cd_law_lines "_law_lines" = true) (k_law_lines : PySem.W.keepIn K (.ref f_law_lines) = true)
    (a_format_book : PySem.W.nsIn K mainGlobals "format_book" = some (some (.ref f_format_book))) (l_format_book : K.lookup f_format_book = some ⟨oc_format_book, od_format_book, .func (PySem.W.fnOf "format_book" "format_book" (defArgs s_format_book) (defBody s_format_book) (defScope s_format_book) .none kV_format_book dc_format_book pm_format_book an_format_book cd_format_book ct_format_book), sl_format_book⟩) (c_format_book : PySem.W.codeIn K cd_format_book "format_book" = true) (k_format_book : PySem.W.keepIn K (.ref f_format_book) = true)
    (a_is_integer : PySem.W.nsIn K mainGlobals "is_integer" = some (some (.ref f_is_integer))) (l_is_integer : K.lookup f_is_integer = some ⟨oc_is_integer, od_is_integer, .func (PySem.W.fnOf "is_integer" "is_integer" (defArgs s_is_integer) (defBody s_is_integer) (defScope s_is_integer) .none kV_is_integer dc_is_integer pm_is_integer an_is_integer cd_is_integer ct_is_integer), sl_is_integer⟩) (c_is_integer : PySem.W.codeIn K cd_is_integer "is_integer" = true) (k_is_integer : PySem.W.keepIn K (.ref f_is_integer) = true)
    (a_is_place : PySem.W.nsIn K mainGlobals "_is_place" = some (some (.ref f_is_place))) (l_is_place : K.lookup f_is_place = some ⟨oc_is_place, od_is_place, .func (PySem.W.fnOf "_is_place" "_is_place" (defArgs s_is_place) (defBody s_is_place) (defScope s_is_place) .none kV_is_place dc_is_place pm_is_place an_is_place cd_is_place ct_is_place), sl_is_place⟩) (c_is_place : PySem.W.codeIn K cd_is_place "_is_place" = true) (k_is_place : PySem.W.keepIn K (.ref f_is_place) = true)
    (a_is_rule : PySem.W.nsIn K mainGlobals "_is_rule" = some (some (.ref f_is_rule))) (l_is_rule : K.lookup f_is_rule = some ⟨oc_is_rule, od_is_rule, .func (PySem.W.fnOf "_is_rule" "_is_rule" (defArgs s_is_rule) (defBody s_is_rule) (defScope s_is_rule) .none kV_is_rule dc_is_rule pm_is_rule an_is_rule cd_is_rule ct_is_rule), sl_is_rule⟩) (c_is_rule : PySem.W.codeIn K cd_is_rule "_is_rule" = true) (k_is_rule : PySem.W.keepIn K (.ref f_is_rule) = true)
    (a_can_stand : PySem.W.nsIn K mainGlobals "_can_stand" = some (some (.ref f_can_stand))) (l_can_stand : K.lookup f_can_stand = some ⟨oc_can_stand, od_can_stand, .func (PySem.W.fnOf "_can_stand" "_can_stand" (defArgs s_can_stand) (defBody s_can_stand) (defScope s_can_stand) .none kV_can_stand dc_can_stand pm_can_stand an_can_stand cd_can_stand ct_can_stand), sl_can_stand⟩) (c_can_stand : PySem.W.codeIn K cd_can_stand "_can_stand" = true) (k_can_stand : PySem.W.keepIn K (.ref f_can_stand) = true)
    (a_check_form : PySem.W.nsIn K mainGlobals "_check_form" = some (some (.ref f_check_form))) (l_check_form : K.lookup f_check_form = some ⟨oc_check_form, od_check_form, .func (PySem.W.fnOf "_check_form" "_check_form" (defArgs s_check_form) (defBody s_check_form) (defScope s_check_form) .none kV_check_form dc_check_form pm_check_form an_check_form cd_check_form ct_check_form), sl_check_form⟩) (c_check_form : PySem.W.codeIn K cd_check_form "_check_form" = true) (k_check_form : PySem.W.keepIn K (.ref f_check_form) = true)
    (a_place_of : PySem.W.nsIn K mainGlobals "_place_of" = some (some (.ref f_place_of))) (l_place_of : K.lookup f_place_of = some ⟨oc_place_of, od_place_of, .func (PySem.W.fnOf "_place_of" "_place_of" (defArgs s_place_of) (defBody s_place_of) (defScope s_place_of) .none kV_place_of dc_place_of pm_place_of an_place_of cd_place_of ct_place_of), sl_place_of⟩) (c_place_of : PySem.W.codeIn K cd_place_of "_place_of" = true) (k_place_of : PySem.W.keepIn K (.ref f_place_of) = true)
    (a_rule_of : PySem.W.nsIn K mainGlobals "_rule_of" = some (some (.ref f_rule_of))) (l_rule_of : K.lookup f_rule_of = some ⟨oc_rule_of, od_rule_of, .func (PySem.W.fnOf "_rule_of" "_rule_of" (defArgs s_rule_of) (defBody s_rule_of) (defScope s_rule_of) .none kV_rule_of dc_rule_of pm_rule_of an_rule_of cd_rule_of ct_rule_of), sl_rule_of⟩) (c_rule_of : PySem.W.codeIn K cd_rule_of "_rule_of" = true) (k_rule_of : PySem.W.keepIn K (.ref f_rule_of) = true)
    (a_parse_book : PySem.W.nsIn K mainGlobals "parse_book" = some (some (.ref f_parse_book))) (l_parse_book : K.lookup f_parse_book = some ⟨oc_parse_book, od_parse_book, .func (PySem.W.fnOf "parse_book" "parse_book" (defArgs s_parse_book) (defBody s_parse_book) (defScope s_parse_book) .none kV_parse_book dc_parse_book pm_parse_book an_parse_book cd_parse_book ct_parse_book), sl_parse_book⟩) (c_parse_book : PySem.W.codeIn K cd_parse_book "parse_book" = true) (k_parse_book : PySem.W.keepIn K (.ref f_parse_book) = true)
    (a_law : PySem.W.nsIn K mainGlobals "law" = some (some (.ref f_law))) (l_law : K.lookup f_law = some ⟨oc_law, od_law, .func (PySem.W.fnOf "law" "law" (defArgs s_law) (defBody s_law) (defScope s_law) .none kV_law dc_law pm_law an_law cd_law ct_law), sl_law⟩) (c_law : PySem.W.codeIn K cd_law "law" = true) (k_law : PySem.W.keepIn K (.ref f_law) = true)
    (g_InvalidBook : PySem.W.nsIn K mainGlobals "InvalidBook" = some (some (.ref e_InvalidBook))) (x_InvalidBook : PySem.W.excIn K e_InvalidBook [.type "ValueError", .type "Exception", .type "BaseException", .type "object"] "ValueError.__new__" = true) (kp_InvalidBook : PySem.W.keepIn K (.ref e_InvalidBook) = true) (su_InvalidBook : PySem.W.subIn K (.ref e_InvalidBook) (.type "BaseException") = some true) (ty_InvalidBook : PySem.W.typeIn K (.ref e_InvalidBook) = some (.type "type")) (is_InvalidBook : PySem.W.isClsIn K e_InvalidBook = true) (se_InvalidBook : PySem.W.subIn K (.ref e_InvalidBook) (.ref e_InvalidBook) = some true)
    (aC : PySem.W.nsIn K mainGlobals "Book" = some (some (.ref C))) (pg : PySem.W.plainGet K C Str.empty = true) (hd : PySem.W.hasDictIn K C = true) (po : PySem.W.plainOver K C = true) (sa : PySem.W.findIn K (.ref C) "__setattr__" = some (some (.builtin "object.__setattr__"))) (mk : PySem.W.makesIn K C = true) (kc : PySem.W.keepIn K (.ref C) = true)
    (ai : PySem.W.findIn K (.ref C) "__init__" = some (some (.ref f_Book_init))) (ii : PySem.W.isFn K (.ref f_Book_init) = true) (li : K.lookup f_Book_init = some ⟨oc_Book_init, od_Book_init, .func (PySem.W.fnOf "__init__" "Book.__init__" (defArgs s_Book_init) (defBody s_Book_init) (defScope s_Book_init) .none kV_Book_init dc_Book_init pm_Book_init an_Book_init cd_Book_init ct_Book_init), sl_Book_init⟩) (ci : PySem.W.codeIn K cd_Book_init "Book.__init__" = true) (ki : PySem.W.keepIn K (.ref f_Book_init) = true)
    (n1 : PySem.W.findIn K (.ref C) "words" = some none)
    (n2 : PySem.W.findIn K (.ref C) "places" = some none)
    (n3 : PySem.W.findIn K (.ref C) "start" = some none)
    (n4 : PySem.W.findIn K (.ref C) "_place_names" = some none)
    (n5 : PySem.W.findIn K (.ref C) "_place_table" = some none)
    (n6 : PySem.W.findIn K (.ref C) "_rule_table" = some none)
    (n7 : PySem.W.findIn K (.ref C) "_rules" = some none)
    (pa_Book_rules : PySem.W.findIn K (.ref C) "rules" = some (some (.ref p_Book_rules))) (pb_Book_rules : PySem.W.specialIn K (.ref p_Book_rules) "__get__" = some (some (.builtin "property.__get__"))) (pc_Book_rules : PySem.W.takesIn K (.ref p_Book_rules) = some true) (pd_Book_rules : PySem.W.recIn K p_Book_rules "property" = some (.ref f_Book_rules :: r_Book_rules))
    (l_Book_rules : K.lookup f_Book_rules = some ⟨oc_Book_rules, od_Book_rules, .func (PySem.W.fnOf "rules" "Book.rules" (defArgs s_Book_rules) (defBody s_Book_rules) (defScope s_Book_rules) .none kV_Book_rules dc_Book_rules pm_Book_rules an_Book_rules cd_Book_rules ct_Book_rules), sl_Book_rules⟩) (c_Book_rules : PySem.W.codeIn K cd_Book_rules "Book.rules" = true) (k_Book_rules : PySem.W.keepIn K (.ref f_Book_rules) = true)
    (pa_Book_place : PySem.W.findIn K (.ref C) "place" = some (some (.ref f_Book_place))) (pb_Book_place : PySem.W.isFn K (.ref f_Book_place) = true)
    (l_Book_place : K.lookup f_Book_place = some ⟨oc_Book_place, od_Book_place, .func (PySem.W.fnOf "place" "Book.place" (defArgs s_Book_place) (defBody s_Book_place) (defScope s_Book_place) .none kV_Book_place dc_Book_place pm_Book_place an_Book_place cd_Book_place ct_Book_place), sl_Book_place⟩) (c_Book_place : PySem.W.codeIn K cd_Book_place "Book.place" = true) (k_Book_place : PySem.W.keepIn K (.ref f_Book_place) = true)
    (pa_Book_check_word : PySem.W.findIn K (.ref C) "check_word" = some (some (.ref f_Book_check_word))) (pb_Book_check_word : PySem.W.isFn K (.ref f_Book_check_word) = true)
    (l_Book_check_word : K.lookup f_Book_check_word = some ⟨oc_Book_check_word, od_Book_check_word, .func (PySem.W.fnOf "check_word" "Book.check_word" (defArgs s_Book_check_word) (defBody s_Book_check_word) (defScope s_Book_check_word) .none kV_Book_check_word dc_Book_check_word pm_Book_check_word an_Book_check_word cd_Book_check_word ct_Book_check_word), sl_Book_check_word⟩) (c_Book_check_word : PySem.W.codeIn K cd_Book_check_word "Book.check_word" = true) (k_Book_check_word : PySem.W.keepIn K (.ref f_Book_check_word) = true)
    (pa_Book_rule : PySem.W.findIn K (.ref C) "rule" = some (some (.ref f_Book_rule))) (pb_Book_rule : PySem.W.isFn K (.ref f_Book_rule) = true)
    (l_Book_rule : K.lookup f_Book_rule = some ⟨oc_Book_rule, od_Book_rule, .func (PySem.W.fnOf "rule" "Book.rule" (defArgs s_Book_rule) (defBody s_Book_rule) (defScope s_Book_rule) .none kV_Book_rule dc_Book_rule pm_Book_rule an_Book_rule cd_Book_rule ct_Book_rule), sl_Book_rule⟩) (c_Book_rule : PySem.W.codeIn K cd_Book_rule "Book.rule" = true) (k_Book_rule : PySem.W.keepIn K (.ref f_Book_rule) = true)
    (m_LETTERS : PySem.W.nsIn K mainGlobals "LETTERS" = some (some (.str LET t_LETTERS)))
    (m_SIGNS : PySem.W.nsIn K mainGlobals "SIGNS" = some (some (.str SIG t_SIGNS)))
    (m_LONGEST_NAME : PySem.W.nsIn K mainGlobals "LONGEST_NAME" = some (some (.int 12 t_LONGEST_NAME)))
    (m_MOST_WORDS : PySem.W.nsIn K mainGlobals "MOST_WORDS" = some (some (.int 3 t_MOST_WORDS)))
    (m_MOST_PLACES : PySem.W.nsIn K mainGlobals "MOST_PLACES" = some (some (.int 60 t_MOST_PLACES)))
    (m_MOST_SLOTS : PySem.W.nsIn K mainGlobals "MOST_SLOTS" = some (some (.int 6 t_MOST_SLOTS)))
    (m_DIGITS : PySem.W.nsIn K mainGlobals "DIGITS" = some (some (.str DIG t_DIGITS)))
    (m_MOST_DIGITS : PySem.W.nsIn K mainGlobals "MOST_DIGITS" = some (some (.int 6 t_MOST_DIGITS)))
    (z_len : PySem.W.nsIn K mainGlobals "len" = some none)
    (z_abs : PySem.W.nsIn K mainGlobals "abs" = some none)
    (z_max : PySem.W.nsIn K mainGlobals "max" = some none)
    (z_min : PySem.W.nsIn K mainGlobals "min" = some none)
    (z_all : PySem.W.nsIn K mainGlobals "all" = some none)
    (z_isinstance : PySem.W.nsIn K mainGlobals "isinstance" = some none)
    (z_sorted : PySem.W.nsIn K mainGlobals "sorted" = some none)
    (z_repr : PySem.W.nsIn K mainGlobals "repr" = some none)
    (z_int : PySem.W.nsIn K mainGlobals "int" = some none)
    (z_bool : PySem.W.nsIn K mainGlobals "bool" = some none)
    (z_str : PySem.W.nsIn K mainGlobals "str" = some none)
    (z_list : PySem.W.nsIn K mainGlobals "list" = some none)
    (z_tuple : PySem.W.nsIn K mainGlobals "tuple" = some none)
    (z_range : PySem.W.nsIn K mainGlobals "range" = some none)
    (z_ValueError : PySem.W.nsIn K mainGlobals "ValueError" = some none)
    (z_enumerate : PySem.W.nsIn K mainGlobals "enumerate" = some none) :
    ∃ fd : FuncData, (∀ (s : Shared) (v : Value), BindsTo s fd ⟨[v], []⟩ [("script", v)]) ∧ ∀ base : Heap, K.In base → base.Ns mainGlobals mg → FnOk l.prog w K mg base CX0 9 fa fd ["script"] (spLaw K) := by
  have e := hfa.symm.trans (PySem.W.mg_of X G a_law)
  cases e
  have Z : Zs mg := ⟨PySem.W.mg_none_of X G z_len, PySem.W.mg_none_of X G z_abs, PySem.W.mg_none_of X G z_max, PySem.W.mg_none_of X G z_min, PySem.W.mg_none_of X G z_all, PySem.W.mg_none_of X G z_isinstance, PySem.W.mg_none_of X G z_sorted, PySem.W.mg_none_of X G z_repr, PySem.W.mg_none_of X G z_int, PySem.W.mg_none_of X G z_bool, PySem.W.mg_none_of X G z_str, PySem.W.mg_none_of X G z_list, PySem.W.mg_none_of X G z_tuple, PySem.W.mg_none_of X G z_range, PySem.W.mg_none_of X G z_ValueError⟩
  have F_law_row := fun_mk (st := s_law_row) l_law_row c_law_row k_law_row
  have B_law_row := F_law_row.binds (ps := ["cell", "many"]) fun _ _ _ _ _ _ us hl => match us, hl with | [_, _], _ => rfl
  have F_law_numbers := fun_mk (st := s_law_numbers) l_law_numbers c_law_numbers k_law_numbers
  have B_law_numbers := F_law_numbers.binds (ps := ["script", "many"]) fun _ _ _ _ _ _ us hl => match us, hl with | [_, _], _ => rfl
  have F_is_name := fun_mk (st := s_is_name) l_is_name c_is_name k_is_name
  have B_is_name := F_is_name.binds (ps := ["text"]) fun _ _ _ _ _ _ us hl => match us, hl with | [_], _ => rfl
  have F_check_names := fun_mk (st := s_check_names) l_check_names c_check_names k_check_names
  have B_check_names := F_check_names.binds (ps := ["names"]) fun _ _ _ _ _ _ us hl => match us, hl with | [_], _ => rfl
  have F_kept_words := fun_mk (st := s_kept_words) l_kept_words c_kept_words k_kept_words
  have B_kept_words := F_kept_words.binds (ps := ["words"]) fun _ _ _ _ _ _ us hl => match us, hl with | [_], _ => rfl
  have F_is_number := fun_mk (st := s_is_number) l_is_number c_is_number k_is_number
  have B_is_number := F_is_number.binds (ps := ["value", "most"]) fun _ _ _ _ _ _ us hl => match us, hl with | [_, _], _ => rfl
  have F_kept_place := fun_mk (st := s_kept_place) l_kept_place c_kept_place k_kept_place
  have B_kept_place := F_kept_place.binds (ps := ["place"]) fun _ _ _ _ _ _ us hl => match us, hl with | [_], _ => rfl
  have F_kept_places := fun_mk (st := s_kept_places) l_kept_places c_kept_places k_kept_places
  have B_kept_places := F_kept_places.binds (ps := ["places"]) fun _ _ _ _ _ _ us hl => match us, hl with | [_], _ => rfl
  have F_is_source := fun_mk (st := s_is_source) l_is_source c_is_source k_is_source
  have B_is_source := F_is_source.binds (ps := ["source", "case", "slots"]) fun _ _ _ _ _ _ us hl => match us, hl with | [_, _, _], _ => rfl
  have F_check_sources := fun_mk (st := s_check_sources) l_check_sources c_check_sources k_check_sources
  have B_check_sources := F_check_sources.binds (ps := ["sources", "case", "slots", "goal_slots"]) fun _ _ _ _ _ _ us hl => match us, hl with | [_, _, _, _], _ => rfl
  have F_kept_rule := fun_mk (st := s_kept_rule) l_kept_rule c_kept_rule k_kept_rule
  have B_kept_rule := F_kept_rule.binds (ps := ["words", "place_table", "rule"]) fun _ _ _ _ _ _ us hl => match us, hl with | [_, _, _], _ => rfl
  have F_told_rules := fun_mk (st := s_told_rules) l_told_rules c_told_rules k_told_rules
  have B_told_rules := F_told_rules.binds (ps := ["words", "place_table", "rules"]) fun _ _ _ _ _ _ us hl => match us, hl with | [_, _, _], _ => rfl
  have F_ordered_rules := fun_mk (st := s_ordered_rules) l_ordered_rules c_ordered_rules k_ordered_rules
  have B_ordered_rules := F_ordered_rules.binds (ps := ["words", "places", "table"]) fun _ _ _ _ _ _ us hl => match us, hl with | [_, _, _], _ => rfl
  have F_law_next := fun_mk (st := s_law_next) l_law_next c_law_next k_law_next
  have B_law_next := F_law_next.binds (ps := ["draw", "many"]) fun _ _ _ _ _ _ us hl => match us, hl with | [_, _], _ => rfl
  have F_law_mixed := fun_mk (st := s_law_mixed) l_law_mixed c_law_mixed k_law_mixed
  have B_law_mixed := F_law_mixed.binds (ps := ["draw", "rows"]) fun _ _ _ _ _ _ us hl => match us, hl with | [_, _], _ => rfl
  have F_law_names := fun_mk (st := s_law_names) l_law_names c_law_names k_law_names
  have B_law_names := F_law_names.binds (ps := ["numbers", "at", "many"]) fun _ _ _ _ _ _ us hl => match us, hl with | [_, _, _], _ => rfl
  have F_law_rule := fun_mk (st := s_law_rule) l_law_rule c_law_rule k_law_rule
  have B_law_rule := F_law_rule.binds (ps := ["draw", "places", "place", "word", "case"]) fun _ _ _ _ _ _ us hl => match us, hl with | [_, _, _, _, _], _ => rfl
  have F_law_parts := fun_mk (st := s_law_parts) l_law_parts c_law_parts k_law_parts
  have B_law_parts := F_law_parts.binds (ps := ["numbers", "most"]) fun _ _ _ _ _ _ us hl => match us, hl with | [_, _], _ => rfl
  have F_law_made := fun_mk (st := s_law_made) l_law_made c_law_made k_law_made
  have B_law_made := F_law_made.binds (ps := ["parts"]) fun _ _ _ _ _ _ us hl => match us, hl with | [_], _ => rfl
  have F_law_frozen := fun_mk (st := s_law_frozen) l_law_frozen c_law_frozen k_law_frozen
  have B_law_frozen := F_law_frozen.binds (ps := ["parts"]) fun _ _ _ _ _ _ us hl => match us, hl with | [_], _ => rfl
  have F_law_same := fun_mk (st := s_law_same) l_law_same c_law_same k_law_same
  have B_law_same := F_law_same.binds (ps := ["book", "due"]) fun _ _ _ _ _ _ us hl => match us, hl with | [_, _], _ => rfl
  have F_law_lines := fun_mk (st := s_law_lines) l_law_lines c_law_lines k_law_lines
  have B_law_lines := F_law_lines.binds (ps := ["parts"]) fun _ _ _ _ _ _ us hl => match us, hl with | [_], _ => rfl
  have F_format_book := fun_mk (st := s_format_book) l_format_book c_format_book k_format_book
  have B_format_book := F_format_book.binds (ps := ["book"]) fun _ _ _ _ _ _ us hl => match us, hl with | [_], _ => rfl
  have F_is_integer := fun_mk (st := s_is_integer) l_is_integer c_is_integer k_is_integer
  have B_is_integer := F_is_integer.binds (ps := ["word"]) fun _ _ _ _ _ _ us hl => match us, hl with | [_], _ => rfl
  have F_is_place := fun_mk (st := s_is_place) l_is_place c_is_place k_is_place
  have B_is_place := F_is_place.binds (ps := ["line"]) fun _ _ _ _ _ _ us hl => match us, hl with | [_], _ => rfl
  have F_is_rule := fun_mk (st := s_is_rule) l_is_rule c_is_rule k_is_rule
  have B_is_rule := F_is_rule.binds (ps := ["line"]) fun _ _ _ _ _ _ us hl => match us, hl with | [_], _ => rfl
  have F_can_stand := fun_mk (st := s_can_stand) l_can_stand c_can_stand k_can_stand
  have B_can_stand := F_can_stand.binds (ps := ["at", "line", "rules_begun"]) fun _ _ _ _ _ _ us hl => match us, hl with | [_, _, _], _ => rfl
  have F_check_form := fun_mk (st := s_check_form) l_check_form c_check_form k_check_form
  have B_check_form := F_check_form.binds (ps := ["lines"]) fun _ _ _ _ _ _ us hl => match us, hl with | [_], _ => rfl
  have F_place_of := fun_mk (st := s_place_of) l_place_of c_place_of k_place_of
  have B_place_of := F_place_of.binds (ps := ["line"]) fun _ _ _ _ _ _ us hl => match us, hl with | [_], _ => rfl
  have F_rule_of := fun_mk (st := s_rule_of) l_rule_of c_rule_of k_rule_of
  have B_rule_of := F_rule_of.binds (ps := ["line"]) fun _ _ _ _ _ _ us hl => match us, hl with | [_], _ => rfl
  have F_parse_book := fun_mk (st := s_parse_book) l_parse_book c_parse_book k_parse_book
  have B_parse_book := F_parse_book.binds (ps := ["text"]) fun _ _ _ _ _ _ us hl => match us, hl with | [_], _ => rfl
  have F_law := fun_mk (st := s_law) l_law c_law k_law
  have B_law := F_law.binds (ps := ["script"]) fun _ _ _ _ _ _ us hl => match us, hl with | [_], _ => rfl
  have x_InvalidBook : Xc K mg "InvalidBook" e_InvalidBook := ⟨PySem.W.mg_of X G g_InvalidBook, x_InvalidBook, kp_InvalidBook, su_InvalidBook, ty_InvalidBook, is_InvalidBook, se_InvalidBook⟩
  have c : CB K C := ⟨⟨pg, hd, po, sa⟩, n1, n2, n3, n4, n5, n6, n7⟩
  have F_Book_init := fun_mk (st := s_Book_init) li ci ki
  have Mk_Book : Mk K C f_Book_init := ⟨mk, ai, ii, kc⟩
  have g_Book := PySem.W.mg_of X G aC
  have KB_Book := kb_KB_Book kV_Book_init dc_Book_init pm_Book_init an_Book_init cd_Book_init ct_Book_init (K := K)
  have F_Book_rules := fun_mk (st := s_Book_rules) l_Book_rules c_Book_rules k_Book_rules
  have B_Book_rules := F_Book_rules.binds (ps := ["self"]) fun _ _ _ _ _ _ us hl => match us, hl with | [_], _ => rfl
  have pr_rules : PropOf K C "rules" p_Book_rules f_Book_rules := ⟨pa_Book_rules, pb_Book_rules, pc_Book_rules, r_Book_rules, pd_Book_rules⟩
  have F_Book_place := fun_mk (st := s_Book_place) l_Book_place c_Book_place k_Book_place
  have B_Book_place := F_Book_place.binds (ps := ["self", "name"]) fun _ _ _ _ _ _ us hl => match us, hl with | [_, _], _ => rfl
  have me_place : Meth K C "place" f_Book_place := ⟨pa_Book_place, pb_Book_place, k_Book_place⟩
  have F_Book_check_word := fun_mk (st := s_Book_check_word) l_Book_check_word c_Book_check_word k_Book_check_word
  have B_Book_check_word := F_Book_check_word.binds (ps := ["self", "word"]) fun _ _ _ _ _ _ us hl => match us, hl with | [_, _], _ => rfl
  have me_check_word : Meth K C "check_word" f_Book_check_word := ⟨pa_Book_check_word, pb_Book_check_word, k_Book_check_word⟩
  have F_Book_rule := fun_mk (st := s_Book_rule) l_Book_rule c_Book_rule k_Book_rule
  have B_Book_rule := F_Book_rule.binds (ps := ["self", "name", "word", "case"]) fun _ _ _ _ _ _ us hl => match us, hl with | [_, _, _, _], _ => rfl
  have me_rule : Meth K C "rule" f_Book_rule := ⟨pa_Book_rule, pb_Book_rule, k_Book_rule⟩
  refine ⟨PySem.W.fnOf "law" "law" (defArgs s_law) (defBody s_law) (defScope s_law) .none kV_law dc_law pm_law an_law cd_law ct_law, fun s v => .of_eq rfl, fun base _ _ => ?_⟩
  have M3 : Mn mg t_DIGITS t_MOST_DIGITS := ⟨PySem.W.mg_of X G m_DIGITS, PySem.W.mg_of X G m_MOST_DIGITS⟩
  have Z2 : Ze mg := ⟨PySem.W.mg_none_of X G z_enumerate⟩
  have M : Md mg t_LETTERS t_SIGNS t_LONGEST_NAME := ⟨PySem.W.mg_of X G m_LETTERS, PySem.W.mg_of X G m_SIGNS, PySem.W.mg_of X G m_LONGEST_NAME⟩
  have M2 : Me mg t_MOST_WORDS t_MOST_PLACES t_MOST_SLOTS := ⟨PySem.W.mg_of X G m_MOST_WORDS, PySem.W.mg_of X G m_MOST_PLACES, PySem.W.mg_of X G m_MOST_SLOTS⟩
  have G_law_row : Df l.prog w K mg base CX0 1 "_law_row" _ _ ["cell", "many"] spRow := ⟨ok_law_row F_law_row Z, PySem.W.mg_of X G a_law_row, k_law_row, B_law_row⟩
  have G_law_numbers : Df l.prog w K mg base CX0 2 "_law_numbers" _ _ ["script", "many"] (spNumbers K) := ⟨ok_law_numbers F_law_numbers Z G_law_row, PySem.W.mg_of X G a_law_numbers, k_law_numbers, B_law_numbers⟩
  have G_is_name : Df l.prog w K mg base CX0 1 "is_name" _ _ ["text"] spIsName := ⟨ok_is_name F_is_name Z M, PySem.W.mg_of X G a_is_name, k_is_name, B_is_name⟩
  have G_check_names : Df l.prog w K mg base (L2.CX l.prog w) 2 "_check_names" _ _ ["names"] (spChk e_InvalidBook) := ⟨ok_check_names F_check_names x_InvalidBook G_is_name, PySem.W.mg_of X G a_check_names, k_check_names, B_check_names⟩
  have G_kept_words : Df l.prog w K mg base (L2.CX l.prog w) 3 "_kept_words" _ _ ["words"] (spKeptW e_InvalidBook) := ⟨ok_kept_words F_kept_words Z M2 x_InvalidBook G_check_names, PySem.W.mg_of X G a_kept_words, k_kept_words, B_kept_words⟩
  have G_is_number : Df l.prog w K mg base CX0 1 "_is_number" _ _ ["value", "most"] spNum := ⟨ok_is_number F_is_number Z, PySem.W.mg_of X G a_is_number, k_is_number, B_is_number⟩
  have G_kept_place : Df l.prog w K mg base (L2.CX l.prog w) 2 "_kept_place" _ _ ["place"] (spKeptP e_InvalidBook) := ⟨ok_kept_place F_kept_place Z M2 x_InvalidBook G_is_number, PySem.W.mg_of X G a_kept_place, k_kept_place, B_kept_place⟩
  have G_kept_places : Df l.prog w K mg base (L2.CX l.prog w) 3 "_kept_places" _ _ ["places"] (spKeptPs e_InvalidBook) := ⟨ok_kept_places F_kept_places Z M2 x_InvalidBook G_check_names G_kept_place, PySem.W.mg_of X G a_kept_places, k_kept_places, B_kept_places⟩
  have G_is_source : Df l.prog w K mg base CX0 2 "is_source" _ _ ["source", "case", "slots"] spIsSrc := ⟨ok_is_source F_is_source Z G_is_number, PySem.W.mg_of X G a_is_source, k_is_source, B_is_source⟩
  have G_check_sources : Df l.prog w K mg base (L2.CX l.prog w) 3 "_check_sources" _ _ ["sources", "case", "slots", "goal_slots"] (spSrc e_InvalidBook) := ⟨ok_check_sources F_check_sources Z x_InvalidBook G_is_source, PySem.W.mg_of X G a_check_sources, k_check_sources, B_check_sources⟩
  have G_kept_rule : Df l.prog w K mg base (L2.CX l.prog w) 4 "_kept_rule" _ _ ["words", "place_table", "rule"] (spKeptR e_InvalidBook) := ⟨ok_kept_rule F_kept_rule Z x_InvalidBook G_is_number G_check_sources, PySem.W.mg_of X G a_kept_rule, k_kept_rule, B_kept_rule⟩
  have G_told_rules : Df l.prog w K mg base (L2.CX l.prog w) 5 "_told_rules" _ _ ["words", "place_table", "rules"] (spTold e_InvalidBook) := ⟨ok_told_rules F_told_rules x_InvalidBook G_kept_rule, PySem.W.mg_of X G a_told_rules, k_told_rules, B_told_rules⟩
  have G_ordered_rules : Df l.prog w K mg base (L2.CX l.prog w) 1 "_ordered_rules" _ _ ["words", "places", "table"] (spOrd e_InvalidBook) := ⟨ok_ordered_rules F_ordered_rules Z x_InvalidBook, PySem.W.mg_of X G a_ordered_rules, k_ordered_rules, B_ordered_rules⟩
  have G_Book_init : FnOk l.prog w K mg base (L2.CX l.prog w) 6 _ _ ["self", "words", "places", "start", "rules"] (spInit C e_InvalidBook) := ok_Book_init F_Book_init Z c x_InvalidBook G_kept_words G_kept_places G_told_rules G_ordered_rules
  have G_get_rules : FnOk l.prog w K mg base CX0 1 _ _ ["self"] (getSp C "_rules") := fn_getter l_Book_rules c_Book_rules sc_Book_rules rfl rfl c.cl c.n7
  have G_law_next : Df l.prog w K mg base CX0 1 "_law_next" _ _ ["draw", "many"] spNext := ⟨ok_law_next F_law_next Z, PySem.W.mg_of X G a_law_next, k_law_next, B_law_next⟩
  have G_law_mixed : Df l.prog w K mg base CX0 2 "_law_mixed" _ _ ["draw", "rows"] spMixed := ⟨ok_law_mixed F_law_mixed Z G_law_next, PySem.W.mg_of X G a_law_mixed, k_law_mixed, B_law_mixed⟩
  have G_law_names : Df l.prog w K mg base CX0 1 "_law_names" _ _ ["numbers", "at", "many"] spLNames := ⟨ok_law_names F_law_names Z, PySem.W.mg_of X G a_law_names, k_law_names, B_law_names⟩
  have G_law_rule : Df l.prog w K mg base CX0 3 "_law_rule" _ _ ["draw", "places", "place", "word", "case"] spRule := ⟨ok_law_rule F_law_rule Z G_law_next G_law_mixed, PySem.W.mg_of X G a_law_rule, k_law_rule, B_law_rule⟩
  have G_law_parts : Df l.prog w K mg base CX0 4 "_law_parts" _ _ ["numbers", "most"] spParts := ⟨ok_law_parts F_law_parts Z G_law_next G_law_names G_law_rule, PySem.W.mg_of X G a_law_parts, k_law_parts, B_law_parts⟩
  have G_law_made : Df l.prog w K mg base (L2.CX l.prog w) 8 "_law_made" _ _ ["parts"] (spMade C e_InvalidBook) := ⟨ok_law_made F_law_made Z c Mk_Book g_Book G_Book_init KB_Book, PySem.W.mg_of X G a_law_made, k_law_made, B_law_made⟩
  have G_law_frozen : Df l.prog w K mg base CX0 1 "_law_frozen" _ _ ["parts"] spFrozen := ⟨ok_law_frozen F_law_frozen Z, PySem.W.mg_of X G a_law_frozen, k_law_frozen, B_law_frozen⟩
  have G_law_same : Df l.prog w K mg base CX0 3 "_law_same" _ _ ["book", "due"] (spSame C) := ⟨ok_law_same F_law_same c pr_rules G_get_rules B_Book_rules, PySem.W.mg_of X G a_law_same, k_law_same, B_law_same⟩
  have G_law_lines : Df l.prog w K mg base CX0 3 "_law_lines" _ _ ["parts"] spLines := ⟨ok_law_lines F_law_lines Z, PySem.W.mg_of X G a_law_lines, k_law_lines, B_law_lines⟩
  have G_format_book : Df l.prog w K mg base CX0 3 "format_book" _ _ ["book"] (spFormat C) := ⟨ok_format_book F_format_book Z c pr_rules G_get_rules B_Book_rules, PySem.W.mg_of X G a_format_book, k_format_book, B_format_book⟩
  have G_is_integer : Df l.prog w K mg base CX0 1 "is_integer" _ _ ["word"] spInteger := ⟨ok_is_integer F_is_integer Z M3, PySem.W.mg_of X G a_is_integer, k_is_integer, B_is_integer⟩
  have G_is_place : Df l.prog w K mg base CX0 2 "_is_place" _ _ ["line"] spIsPlace := ⟨ok_is_place F_is_place Z G_is_name G_is_integer, PySem.W.mg_of X G a_is_place, k_is_place, B_is_place⟩
  have G_is_rule : Df l.prog w K mg base CX0 2 "_is_rule" _ _ ["line"] spIsRule := ⟨ok_is_rule F_is_rule Z G_is_name G_is_integer, PySem.W.mg_of X G a_is_rule, k_is_rule, B_is_rule⟩
  have G_can_stand : Df l.prog w K mg base CX0 3 "_can_stand" _ _ ["at", "line", "rules_begun"] spCan := ⟨ok_can_stand F_can_stand Z G_is_name G_is_place G_is_rule, PySem.W.mg_of X G a_can_stand, k_can_stand, B_can_stand⟩
  have G_check_form : Df l.prog w K mg base CX0 4 "_check_form" _ _ ["lines"] spForm := ⟨ok_check_form F_check_form Z Z2 G_can_stand, PySem.W.mg_of X G a_check_form, k_check_form, B_check_form⟩
  have G_place_of : Df l.prog w K mg base CX0 1 "_place_of" _ _ ["line"] spPlaceOf := ⟨ok_place_of F_place_of Z, PySem.W.mg_of X G a_place_of, k_place_of, B_place_of⟩
  have G_rule_of : Df l.prog w K mg base CX0 1 "_rule_of" _ _ ["line"] spRuleOf := ⟨ok_rule_of F_rule_of Z, PySem.W.mg_of X G a_rule_of, k_rule_of, B_rule_of⟩
  have G_parse_book : Df l.prog w K mg base (L2.CX l.prog w) 8 "parse_book" _ _ ["text"] (spParse C e_InvalidBook) := ⟨ok_parse_book F_parse_book Z c Mk_Book g_Book G_Book_init KB_Book G_check_form G_place_of G_rule_of, PySem.W.mg_of X G a_parse_book, k_parse_book, B_parse_book⟩
  have G_Book_place : FnOk l.prog w K mg base CX0 2 _ _ ["self", "name"] (spPlaceM C) := ok_Book_place F_Book_place c
  have G_Book_check_word : FnOk l.prog w K mg base CX0 2 _ _ ["self", "word"] (spCheckW C) := ok_Book_check_word F_Book_check_word c
  have G_Book_rule : FnOk l.prog w K mg base CX0 3 _ _ ["self", "name", "word", "case"] (spRuleM C) := ok_Book_rule F_Book_rule c me_place G_Book_place B_Book_place me_check_word G_Book_check_word B_Book_check_word
  exact ok_law F_law Z c G_law_numbers G_law_parts G_law_frozen G_law_made G_law_mixed G_law_same G_law_lines G_format_book G_parse_book me_place G_Book_place B_Book_place me_rule G_Book_rule B_Book_rule pr_rules G_get_rules B_Book_rules
end Fw
open PySem PySem.W PyProof.Rows
set_option maxRecDepth 100000 in
set_option maxHeartbeats 0 in
theorem PySem.Challenge.cw_fewestheld_k05_whole_text_and_back_holds : PySem.Challenge.rw_fewestheld_k05_whole_text_and_back.Holds := by
  w_on; o_law; k_head; (case hw => w_witness2)
  k_fill
  refine L2.walk_of (l := PySem.Challenge.rw_fewestheld_k05_whole_text_and_back) (n := 63) (k := 9) (x := "script") (CX := fun _ => L2.CX0) (sp := fun w => Fw.spLaw _) rfl (by decide) rfl ⟨rfl, by decide, by decide⟩ (fun w h Y => PySem.W.kIn_of Y) ?F (fun _ _ a ns hl _ hS => ⟨a, ns, rfl, hS, hl, fun _ => rfl⟩) (fun _ _ _ _ _ h => h)
  case F =>
    intro w mg fa h KX G hmg
    refine' Fw.all_mk KX G hmg ?a_law_row ?l_law_row ?c_law_row ?k_law_row ?a_law_numbers ?l_law_numbers ?c_law_numbers ?k_law_numbers ?a_is_name ?l_is_name ?c_is_name ?k_is_name ?a_check_names ?l_check_names ?c_check_names ?k_check_names ?a_kept_words ?l_kept_words ?c_kept_words ?k_kept_words ?a_is_number ?l_is_number ?c_is_number ?k_is_number ?a_kept_place ?l_kept_place ?c_kept_place ?k_kept_place ?a_kept_places ?l_kept_places ?c_kept_places ?k_kept_places ?a_is_source ?l_is_source ?c_is_source ?k_is_source ?a_check_sources ?l_check_sources ?c_check_sources ?k_check_sources ?a_kept_rule ?l_kept_rule ?c_kept_rule ?k_kept_rule ?a_told_rules ?l_told_rules ?c_told_rules ?k_told_rules ?a_ordered_rules ?l_ordered_rules ?c_ordered_rules ?k_ordered_rules ?a_law_next ?l_law_next ?c_law_next ?k_law_next ?a_law_mixed ?l_law_mixed ?c_law_mixed ?k_law_mixed ?a_law_names ?l_law_names ?c_law_names ?k_law_names ?a_law_rule ?l_law_rule ?c_law_rule ?k_law_rule ?a_law_parts ?l_law_parts ?c_law_parts ?k_law_parts ?a_law_made ?l_law_made ?c_law_made ?k_law_made ?a_law_frozen ?l_law_frozen ?c_law_frozen ?k_law_frozen ?a_law_same ?l_law_same ?c_law_same ?k_law_same ?a_law_lines ?l_law_lines ?c_law_lines ?k_law_lines ?a_format_book ?l_format_book ?c_format_book ?k_format_book ?a_is_integer ?l_is_integer ?c_is_integer ?k_is_integer ?a_is_place ?l_is_place ?c_is_place ?k_is_place ?a_is_rule ?l_is_rule ?c_is_rule ?k_is_rule ?a_can_stand ?l_can_stand ?c_can_stand ?k_can_stand ?a_check_form ?l_check_form ?c_check_form ?k_check_form ?a_place_of ?l_place_of ?c_place_of ?k_place_of ?a_rule_of ?l_rule_of ?c_rule_of ?k_rule_of ?a_parse_book ?l_parse_book ?c_parse_book ?k_parse_book ?a_law ?l_law ?c_law ?k_law ?g_InvalidBook ?x_InvalidBook ?kp_InvalidBook ?su_InvalidBook ?ty_InvalidBook ?is_InvalidBook ?se_InvalidBook ?aC ?pg ?hd ?po ?sa ?mk ?kc ?ai ?ii ?li ?ci ?ki ?n1 ?n2 ?n3 ?n4 ?n5 ?n6 ?n7 ?pa_Book_rules ?pb_Book_rules ?pc_Book_rules ?pd_Book_rules ?l_Book_rules ?c_Book_rules ?k_Book_rules ?pa_Book_place ?pb_Book_place ?l_Book_place ?c_Book_place ?k_Book_place ?pa_Book_check_word ?pb_Book_check_word ?l_Book_check_word ?c_Book_check_word ?k_Book_check_word ?pa_Book_rule ?pb_Book_rule ?l_Book_rule ?c_Book_rule ?k_Book_rule ?m_LETTERS ?m_SIGNS ?m_LONGEST_NAME ?m_MOST_WORDS ?m_MOST_PLACES ?m_MOST_SLOTS ?m_DIGITS ?m_MOST_DIGITS ?z_len ?z_abs ?z_max ?z_min ?z_all ?z_isinstance ?z_sorted ?z_repr ?z_int ?z_bool ?z_str ?z_list ?z_tuple ?z_range ?z_ValueError ?z_enumerate
    (case a_law_row => k_is)
    (case l_law_row => k_is)
    (case c_law_row => k_is)
    (case k_law_row => k_is)
    (case a_law_numbers => k_is)
    (case l_law_numbers => k_is)
    (case c_law_numbers => k_is)
    (case k_law_numbers => k_is)
    (case a_is_name => k_is)
    (case l_is_name => k_is)
    (case c_is_name => k_is)
    (case k_is_name => k_is)
    (case a_check_names => k_is)
    (case l_check_names => k_is)
    (case c_check_names => k_is)
    (case k_check_names => k_is)
    (case a_kept_words => k_is)
    (case l_kept_words => k_is)
    (case c_kept_words => k_is)
    (case k_kept_words => k_is)
    (case a_is_number => k_is)
    (case l_is_number => k_is)
    (case c_is_number => k_is)
    (case k_is_number => k_is)
    (case a_kept_place => k_is)
    (case l_kept_place => k_is)
    (case c_kept_place => k_is)
    (case k_kept_place => k_is)
    (case a_kept_places => k_is)
    (case l_kept_places => k_is)
    (case c_kept_places => k_is)
    (case k_kept_places => k_is)
    (case a_is_source => k_is)
    (case l_is_source => k_is)
    (case c_is_source => k_is)
    (case k_is_source => k_is)
    (case a_check_sources => k_is)
    (case l_check_sources => k_is)
    (case c_check_sources => k_is)
    (case k_check_sources => k_is)
    (case a_kept_rule => k_is)
    (case l_kept_rule => k_is)
    (case c_kept_rule => k_is)
    (case k_kept_rule => k_is)
    (case a_told_rules => k_is)
    (case l_told_rules => k_is)
    (case c_told_rules => k_is)
    (case k_told_rules => k_is)
    (case a_ordered_rules => k_is)
    (case l_ordered_rules => k_is)
    (case c_ordered_rules => k_is)
    (case k_ordered_rules => k_is)
    (case a_law_next => k_is)
    (case l_law_next => k_is)
    (case c_law_next => k_is)
    (case k_law_next => k_is)
    (case a_law_mixed => k_is)
    (case l_law_mixed => k_is)
    (case c_law_mixed => k_is)
    (case k_law_mixed => k_is)
    (case a_law_names => k_is)
    (case l_law_names => k_is)
    (case c_law_names => k_is)
    (case k_law_names => k_is)
    (case a_law_rule => k_is)
    (case l_law_rule => k_is)
    (case c_law_rule => k_is)
    (case k_law_rule => k_is)
    (case a_law_parts => k_is)
    (case l_law_parts => k_is)
    (case c_law_parts => k_is)
    (case k_law_parts => k_is)
    (case a_law_made => k_is)
    (case l_law_made => k_is)
    (case c_law_made => k_is)
    (case k_law_made => k_is)
    (case a_law_frozen => k_is)
    (case l_law_frozen => k_is)
    (case c_law_frozen => k_is)
    (case k_law_frozen => k_is)
    (case a_law_same => k_is)
    (case l_law_same => k_is)
    (case c_law_same => k_is)
    (case k_law_same => k_is)
    (case a_law_lines => k_is)
    (case l_law_lines => k_is)
    (case c_law_lines => k_is)
    (case k_law_lines => k_is)
    (case a_format_book => k_is)
    (case l_format_book => k_is)
    (case c_format_book => k_is)
    (case k_format_book => k_is)
    (case a_is_integer => k_is)
    (case l_is_integer => k_is)
    (case c_is_integer => k_is)
    (case k_is_integer => k_is)
    (case a_is_place => k_is)
    (case l_is_place => k_is)
    (case c_is_place => k_is)
    (case k_is_place => k_is)
    (case a_is_rule => k_is)
    (case l_is_rule => k_is)
    (case c_is_rule => k_is)
    (case k_is_rule => k_is)
    (case a_can_stand => k_is)
    (case l_can_stand => k_is)
    (case c_can_stand => k_is)
    (case k_can_stand => k_is)
    (case a_check_form => k_is)
    (case l_check_form => k_is)
    (case c_check_form => k_is)
    (case k_check_form => k_is)
    (case a_place_of => k_is)
    (case l_place_of => k_is)
    (case c_place_of => k_is)
    (case k_place_of => k_is)
    (case a_rule_of => k_is)
    (case l_rule_of => k_is)
    (case c_rule_of => k_is)
    (case k_rule_of => k_is)
    (case a_parse_book => k_is)
    (case l_parse_book => k_is)
    (case c_parse_book => k_is)
    (case k_parse_book => k_is)
    (case a_law => k_is)
    (case l_law => k_is)
    (case c_law => k_is)
    (case k_law => k_is)
    (case g_InvalidBook => k_is)
    (case x_InvalidBook => first | k_exc | k_is)
    (case kp_InvalidBook => k_is)
    (case su_InvalidBook => k_is)
    (case ty_InvalidBook => k_is)
    (case is_InvalidBook => k_is)
    (case se_InvalidBook => first | rfl | k_is)
    (case aC => k_is)
    (case pg => k_is)
    (case hd => k_is)
    (case po => k_is)
    (case sa => k_is)
    (case mk => k_is)
    (case kc => k_is)
    (case ai => k_is)
    (case ii => k_is)
    (case li => k_is)
    (case ci => k_is)
    (case ki => k_is)
    (case n1 => k_is)
    (case n2 => k_is)
    (case n3 => k_is)
    (case n4 => k_is)
    (case n5 => k_is)
    (case n6 => k_is)
    (case n7 => k_is)
    (case pa_Book_rules => k_is)
    (case pb_Book_rules => k_is)
    (case pc_Book_rules => k_is)
    (case pd_Book_rules => k_is)
    (case l_Book_rules => k_is)
    (case c_Book_rules => k_is)
    (case k_Book_rules => k_is)
    (case pa_Book_place => k_is)
    (case pb_Book_place => k_is)
    (case l_Book_place => k_is)
    (case c_Book_place => k_is)
    (case k_Book_place => k_is)
    (case pa_Book_check_word => k_is)
    (case pb_Book_check_word => k_is)
    (case l_Book_check_word => k_is)
    (case c_Book_check_word => k_is)
    (case k_Book_check_word => k_is)
    (case pa_Book_rule => k_is)
    (case pb_Book_rule => k_is)
    (case l_Book_rule => k_is)
    (case c_Book_rule => k_is)
    (case k_Book_rule => k_is)
    (case m_LETTERS => k_is)
    (case m_SIGNS => k_is)
    (case m_LONGEST_NAME => k_is)
    (case m_MOST_WORDS => k_is)
    (case m_MOST_PLACES => k_is)
    (case m_MOST_SLOTS => k_is)
    (case m_DIGITS => k_is)
    (case m_MOST_DIGITS => k_is)
    (case z_len => k_is)
    (case z_abs => k_is)
    (case z_max => k_is)
    (case z_min => k_is)
    (case z_all => k_is)
    (case z_isinstance => k_is)
    (case z_sorted => k_is)
    (case z_repr => k_is)
    (case z_int => k_is)
    (case z_bool => k_is)
    (case z_str => k_is)
    (case z_list => k_is)
    (case z_tuple => k_is)
    (case z_range => k_is)
    (case z_ValueError => k_is)
    (case z_enumerate => k_is)


