import PyProof.Rows.All
import Wide.All
import OpenK.AllK
import Wide.FinOn
import HandS.ForMost
import HandS.Exc
import HandS.TryOnly
import HandS.ExcOwn
import HandS.WordsExc
import HandS.Evl
import HandS.DictTup
import HandS.DictComp
import HandS.IsInst
import HandS.MakeKwOnly
import HandS.Wide
import HandS.EndBits
import HandS.TupAny
import HandS.FStr
import HandS.Rev
import HandS.SetIn
import HandS.Deep
import HandS.RaiseMore
import HandS.Walk
import HandS.Property
import HandS.Style
import HandS.Text
import PyProof.ReprRoads
import HandS.Strs
import HandS.ReCall
import HandS.Conv
import PyProof.CallFns
import HandS.ExcIs
import HandS.DeepEq
import PySem.Challenge.RW_fewestheld_k13_renamed_rows
set_option Elab.async false
set_option linter.all false
set_option maxRecDepth 100000
set_option maxHeartbeats 4000000
namespace Fw
open PySem PySem.Spec PyProof.Rows L2 Evl

/-! ### data that stands in the heap: every list and tuple tracked -/
/-- a tuple; one that is made by a call is known to have no dict of its own -/
def TupAt (H : Hp) (a : Addr) (xs : List V) : Prop := H a = some (.tup xs) ∨ ∃ ob : Obj, ob.dict = none ∧ H a = some (.frz ob (.tup xs))
theorem xt {G H : Hp} {a : Addr} {xs : List V} (e : Ex G H) (h : TupAt G a xs) : TupAt H a xs := h.elim (fun h => .inl (e _ _ h)) fun ⟨ob, h1, h2⟩ => .inr ⟨ob, h1, e _ _ h2⟩
theorem st_t {K : PySem.W.Frag} {H : Hp} {a : Addr} {xs : List V} (h : TupAt H a xs) : SqT K H a xs := .inl (h.elim (fun h => .inl h) fun ⟨ob, _, h2⟩ => .inr ⟨ob, h2⟩)
mutual
inductive Rp (H : Hp) : V → PyData → Prop
  | non : Rp H .non .none
  | bl (b : Bool) : Rp H (.bl b) (.bool b)
  | int (i : Int) : Rp H (.int i) (.int i)
  | str (x : Str) : Rp H (.str x) (.str x)
  | lst {a : Addr} {xs : List V} {ds : List PyData} (h : H a = some (.lst xs)) (hs : RpAll H xs ds) : Rp H (.ref a) (.list ds)
  | tup {a : Addr} {xs : List V} {ds : List PyData} (h : TupAt H a xs) (hs : RpAll H xs ds) : Rp H (.ref a) (.tuple ds)
inductive RpAll (H : Hp) : List V → List PyData → Prop
  | nil : RpAll H [] []
  | cons {v : V} {vs : List V} {d : PyData} {ds : List PyData} (h : Rp H v d) (hs : RpAll H vs ds) : RpAll H (v :: vs) (d :: ds)
end
mutual
theorem rp_dp {K : PySem.W.Frag} {H : Hp} : ∀ (d : PyData) (v : V), Rp H v d → Dp K H v d
  | .none, _, h => by cases h; exact .non
  | .bool b, _, h => by cases h; exact .bl b
  | .int i, _, h => by cases h; exact .int i
  | .str x, _, h => by cases h; exact .str x
  | .list ds, _, h => by
    cases h with
    | lst hs ha => exact .lst (sq_of hs) (ra_dp ds _ ha)
  | .tuple ds, _, h => by
    cases h with
    | tup hs ha => exact .tup (st_t hs) (ra_dp ds _ ha)
  | .dict kvs, _, h => by cases h
theorem ra_dp {K : PySem.W.Frag} {H : Hp} : ∀ (ds : List PyData) (vs : List V), RpAll H vs ds → DpAll K H vs ds
  | [], _, h => by cases h; exact .nil
  | d :: ds, _, h => by
    cases h with
    | cons h1 h2 => exact .cons (rp_dp d _ h1) (ra_dp ds _ h2)
end
/-! ### data stays while the heap grows -/
mutual
theorem rp_mono {G H : Hp} (e : Ex G H) : ∀ (d : PyData) (v : V), Rp G v d → Rp H v d
  | .none, _, h => by cases h; exact .non
  | .bool b, _, h => by cases h; exact .bl b
  | .int i, _, h => by cases h; exact .int i
  | .str x, _, h => by cases h; exact .str x
  | .list ds, _, h => by
    cases h with
    | lst hs ha => exact .lst (e _ _ hs) (ra_mono e ds _ ha)
  | .tuple ds, _, h => by
    cases h with
    | tup hs ha => exact .tup (xt e hs) (ra_mono e ds _ ha)
  | .dict kvs, _, h => by cases h
theorem ra_mono {G H : Hp} (e : Ex G H) : ∀ (ds : List PyData) (vs : List V), RpAll G vs ds → RpAll H vs ds
  | [], _, h => by cases h; exact .nil
  | d :: ds, _, h => by
    cases h with
    | cons h1 h2 => exact .cons (rp_mono e d _ h1) (ra_mono e ds _ h2)
end
theorem ra_len {G : Hp} : ∀ {vs : List V} {ds : List PyData}, RpAll G vs ds → vs.length = ds.length
  | _, _, .nil => rfl
  | _, _, .cons _ h => congrArg Nat.succ (ra_len h)
theorem ra_get {G : Hp} : ∀ {vs : List V} {ds : List PyData} {i : Nat} {d : PyData}, RpAll G vs ds → ds[i]? = some d → ∃ v, vs[i]? = some v ∧ Rp G v d
  | _, _, _, _, .nil, h => by simp at h
  | _, _, 0, _, .cons h1 _, h => by
    simp at h
    exact ⟨_, rfl, h ▸ h1⟩
  | _, _, i + 1, _, .cons _ h2, h => by
    obtain ⟨v, e, r⟩ := ra_get (i := i) h2 (by simpa using h)
    exact ⟨v, by simpa using e, r⟩
theorem ra_get' {G : Hp} : ∀ {vs : List V} {ds : List PyData} {i : Nat} {v : V}, RpAll G vs ds → vs[i]? = some v → ∃ d, ds[i]? = some d ∧ Rp G v d
  | _, _, _, _, .nil, h => by simp at h
  | _, _, 0, _, .cons h1 _, h => by
    simp at h
    exact ⟨_, rfl, h ▸ h1⟩
  | _, _, i + 1, _, .cons _ h2, h => by
    obtain ⟨v, e, r⟩ := ra_get' (i := i) h2 (by simpa using h)
    exact ⟨v, by simpa using e, r⟩
theorem ra_app {G : Hp} : ∀ {vs ws : List V} {ds es : List PyData}, RpAll G vs ds → RpAll G ws es → RpAll G (vs ++ ws) (ds ++ es)
  | _, _, _, _, .nil, h => h
  | _, _, _, _, .cons h1 h2, h => .cons h1 (ra_app h2 h)
theorem ra_one {G : Hp} {v : V} {d : PyData} (h : Rp G v d) : RpAll G [v] [d] := .cons h .nil
theorem ra_take {G : Hp} : ∀ {vs : List V} {ds : List PyData} (n : Nat), RpAll G vs ds → RpAll G (vs.take n) (ds.take n)
  | _, _, 0, _ => .nil
  | _, _, _ + 1, .nil => .nil
  | _, _, n + 1, .cons h1 h2 => .cons h1 (ra_take n h2)
theorem ra_drop {G : Hp} : ∀ {vs : List V} {ds : List PyData} (n : Nat), RpAll G vs ds → RpAll G (vs.drop n) (ds.drop n)
  | _, _, 0, h => h
  | _, _, _ + 1, .nil => .nil
  | _, _, n + 1, .cons _ h2 => ra_drop n h2
theorem ra_ints {G : Hp} : ∀ (ns : List Int), RpAll G (ns.map V.int) (ns.map PyData.int)
  | [] => .nil
  | n :: ns => .cons (.int n) (ra_ints ns)
theorem ra_strs {G : Hp} : ∀ (ns : List Str), RpAll G (ns.map V.str) (ns.map PyData.str)
  | [] => .nil
  | n :: ns => .cons (.str n) (ra_strs ns)
theorem rp_int {G : Hp} {v : V} {i : Int} (h : Rp G v (.int i)) : v = .int i := by cases h; rfl
theorem rp_str {G : Hp} {v : V} {x : Str} (h : Rp G v (.str x)) : v = .str x := by cases h; rfl
theorem rp_bl {G : Hp} {v : V} {b : Bool} (h : Rp G v (.bool b)) : v = .bl b := by cases h; rfl
theorem rp_non {G : Hp} {v : V} (h : Rp G v .none) : v = .non := by cases h; rfl
theorem rp_lst {G : Hp} {v : V} {ds : List PyData} (h : Rp G v (.list ds)) : ∃ a xs, v = .ref a ∧ G a = some (.lst xs) ∧ RpAll G xs ds := by
  cases h with
  | lst h1 h2 => exact ⟨_, _, rfl, h1, h2⟩
theorem rp_tup {G : Hp} {v : V} {ds : List PyData} (h : Rp G v (.tuple ds)) : ∃ a xs, v = .ref a ∧ TupAt G a xs ∧ RpAll G xs ds := by
  cases h with
  | tup h1 h2 => exact ⟨_, _, rfl, h1, h2⟩
theorem ra_int {G : Hp} : ∀ {ns : List Int} {vs : List V}, RpAll G vs (ns.map PyData.int) → vs = ns.map V.int
  | [], _, h => by cases h; rfl
  | n :: ns, _, h => by
    cases h with
    | cons h1 h2 => rw [rp_int h1, ra_int h2]; rfl
theorem ra_str {G : Hp} : ∀ {ns : List Str} {vs : List V}, RpAll G vs (ns.map PyData.str) → vs = ns.map V.str
  | [], _, h => by cases h; rfl
  | n :: ns, _, h => by
    cases h with
    | cons h1 h2 => rw [rp_str h1, ra_str h2]; rfl

/-! ### a step: G, what stands still, and H, the heap, grow by new objects -/
structure Stp (G H G2 H2 : Hp) : Prop where
  g : Ex G G2
  gh : Ex G2 H2
  h : Ex H H2
  f : ∀ a o, H a = some o → G2 a = G a
theorem Stp.refl {G H : Hp} (e : Ex G H) : Stp G H G H := ⟨Ex.refl G, e, Ex.refl H, fun _ _ _ => rfl⟩
theorem Stp.trans {G H G2 H2 G3 H3 : Hp} (a : Stp G H G2 H2) (b : Stp G2 H2 G3 H3) : Stp G H G3 H3 :=
  ⟨a.g.trans b.g, b.gh, a.h.trans b.h, fun p o e => (b.f p o (a.h p o e)).trans (a.f p o e)⟩
/-- the same step seen from a greater still part -/
def up (G H G2 : Hp) : Hp := fun a => match H a with
  | some _ => G a
  | none => G2 a
theorem up_some {G H G2 : Hp} {a : Addr} {o : HO} (h : H a = some o) : up G H G2 a = G a := by
  unfold up
  rw [h]
theorem up_none {G H G2 : Hp} {a : Addr} (h : H a = none) : up G H G2 a = G2 a := by
  unfold up
  rw [h]
theorem Stp.up {G G' H G2 H2 : Hp} (e : Ex G G') (e2 : Ex G' H) (s : Stp G H G2 H2) : Stp G' H (up G' H G2) H2 ∧ Ex G2 (Fw.up G' H G2) := by
  refine ⟨⟨fun a o h => ?_, fun a o h => ?_, s.h, fun a o h => up_some h⟩, fun a o h => ?_⟩
  · rw [up_some (e2 a o h)]
    exact h
  · cases hh : H a with
    | none =>
      rw [up_none hh] at h
      exact s.gh a o h
    | some u =>
      rw [up_some hh] at h
      exact s.h a o (e2 a o h)
  · cases hh : H a with
    | none =>
      rw [up_none hh]
      exact h
    | some u =>
      rw [up_some hh]
      rw [s.f a u hh] at h
      exact e a o h
/-- a new object -/
theorem Stp.new {G H : Hp} {p : Addr} {o : HO} (e : Ex G H) (h : H p = none) : Stp G H (upd G p o) (upd H p o) :=
  ⟨Ex.new (fresh_back e h), fun a u q => by
    by_cases hp : a = p
    · subst hp
      rw [upd_same] at q ⊢
      exact q
    · rw [upd_ne hp] at q ⊢
      exact e a u q, Ex.new h, fun a u q => upd_ne (ne_of_none q h)⟩
theorem Stp.none {G H G2 H2 : Hp} (s : Stp G H G2 H2) {p : Addr} {o : HO} (h : H p = some o) (hg : G p = none) : G2 p = none := by
  rw [s.f p o h]
  exact hg

/-! ### what an expression is worth -/
def EvD (te : TE) (σ : L2.St) (G : Hp) (d : PyData) : Prop := ∀ H, Ex G H → ∀ Q : VK, (∀ v G2 H2, Stp G H G2 H2 → Rp G2 v d → Q v H2) → te σ H Q
def EvS (ta : TA) (σ : L2.St) (G : Hp) (ds : List PyData) : Prop := ∀ H, Ex G H → ∀ Q : List V → Hp → Prop, (∀ vs G2 H2, Stp G H G2 H2 → RpAll G2 vs ds → Q vs H2) → ta σ H Q
/-- a call, an operation on data: from G on -/
def RD (r : List V → Hp → VK → Prop) (ds : List PyData) (d : PyData) : Prop := ∀ G H vs, Ex G H → RpAll G vs ds → ∀ Q : VK, (∀ v G2 H2, Stp G H G2 H2 → Rp G2 v d → Q v H2) → r vs H Q
def R2D (r : R2) (d e f : PyData) : Prop := ∀ G H v w, Ex G H → Rp G v d → Rp G w e → ∀ Q : VK, (∀ v G2 H2, Stp G H G2 H2 → Rp G2 v f → Q v H2) → r v w H Q
section
variable {K : PySem.W.Frag} {σ : L2.St} {G G' H : Hp} {te ta tb : TE} {tr : TA} {d e f : PyData} {ds es : List PyData}
theorem EvD.mono (x : Ex G G') (h : EvD te σ G d) : EvD te σ G' d := fun H e Q q =>
  h H (x.trans e) Q fun v G2 H2 s hd => q v _ H2 (s.up x e).1 (rp_mono (s.up x e).2 d v hd)
theorem EvS.mono (x : Ex G G') (h : EvS tr σ G ds) : EvS tr σ G' ds := fun H e Q q =>
  h H (x.trans e) Q fun v G2 H2 s hd => q v _ H2 (s.up x e).1 (ra_mono (s.up x e).2 ds v hd)
theorem EvD.is (h : EvD te σ G d) (e : d = f) : EvD te σ G f := e ▸ h
theorem ed_var {i : Nat} {v : V} (h : σ[i]? = some (some v)) (hd : Rp G v d) : EvD (tVar i) σ G d := fun H e Q q => ⟨v, h, q v G H (Stp.refl e) hd⟩
theorem ed_c {v : V} (hd : Rp G v d) : EvD (tC v) σ G d := fun H e Q q => q v G H (Stp.refl e) hd
theorem ed_op {r : R2} (ha : EvD ta σ G d) (hb : EvD tb σ G e) (hr : R2D r d e f) : EvD (tOp r ta tb) σ G f := fun H x Q q =>
  ha H x _ fun v G2 H2 s1 h1 => (hb.mono s1.g) H2 s1.gh _ fun w G3 H3 s2 h2 => hr G3 H3 v w s2.gh (rp_mono s2.g d v h1) h2 Q fun z G4 H4 s3 h3 => q z G4 H4 ((s1.trans s2).trans s3) h3
theorem es_nil : EvS tNil σ G [] := fun H e Q q => q [] G H (Stp.refl e) .nil
theorem es_cons (h : EvD ta σ G d) (hr : EvS tr σ G ds) : EvS (tCons ta tr) σ G (d :: ds) := fun H x Q q =>
  h H x _ fun v G2 H2 s1 h1 => (hr.mono s1.g) H2 s1.gh _ fun vs G3 H3 s2 h2 => q _ G3 H3 (s1.trans s2) (.cons (rp_mono s2.g d v h1) h2)
theorem ed_cb {r : List V → Hp → VK → Prop} (h : EvS tr σ G ds) (hr : RD r ds d) : EvD (tCB r tr) σ G d := fun H x Q q =>
  h H x _ fun vs G2 H2 s1 h1 => hr G2 H2 vs s1.gh h1 Q fun v G3 H3 s2 h2 => q v G3 H3 (s1.trans s2) h2
theorem ed_call {sp : Sp} {dvs : List V} {E : XK} (h : EvS tr σ G ds) (hr : ∀ Q' : VK, RD (fun vs H Q => sp (vs ++ dvs) H Q E) ds d) : EvD (tCall sp dvs E tr) σ G d := fun H x Q q =>
  h H x _ fun vs G2 H2 s1 h1 => hr (fun _ _ => True) G2 H2 vs s1.gh h1 Q fun v G3 H3 s2 h2 => q v G3 H3 (s1.trans s2) h2
theorem ed_tup (h : EvS tr σ G ds) (hl : ds.length ≤ 100000) : EvD (tTup tr) σ G (.tuple ds) := fun H x Q q =>
  h H x _ fun vs G2 H2 s1 h1 => ⟨sz_of (by rw [ra_len h1]; exact hl), fun p hp => q _ _ _ (s1.trans (Stp.new s1.gh hp)) (.tup (.inl upd_same) (ra_mono (Ex.new (fresh_back s1.gh hp)) ds vs h1))⟩
theorem ed_lst (h : EvS tr σ G ds) (hl : ds.length ≤ 100000) : EvD (tLst tr) σ G (.list ds) := fun H x Q q =>
  h H x _ fun vs G2 H2 s1 h1 => ⟨sz_of (by rw [ra_len h1]; exact hl), fun p hp => q _ _ _ (s1.trans (Stp.new s1.gh hp)) (.lst upd_same (ra_mono (Ex.new (fresh_back s1.gh hp)) ds vs h1))⟩
end
end Fw

namespace Fw
open PySem PySem.Spec PyProof.Rows L2 Evl
open TL (tl len_tl ext_tl tl_append tl_mk mk_tl)

/-! ### operators of several kinds at once -/
def rAddS : R2 := fun x y H Q => ∃ i j, x = .str i ∧ y = .str j ∧ i.length + j.length ≤ sizeLine ∧ Q (.str (i ++ j)) H
def rAddU (K : PySem.W.Frag) : R2 := fun x y H Q => (rI0 fun i j => .int (i + j)) x y H Q ∨ rAddS x y H Q ∨ rCat x y H Q ∨ rCatA K x y H Q
theorem op_addU {X : Cx} : OpR X (binaryOp .Add) (rAddU X.K) := op_add.or ((show OpR X (binaryOp .Add) rAddS from op_add_str).or (op_cat.or op_catA))
def rSlU (K : PySem.W.Frag) : V → Option Int → Option Int → Hp → VK → Prop := fun x lo hi H Q => rSlL K x lo hi H Q ∨ rSlA K x lo hi H Q ∨ rSlS x lo hi H Q
theorem sl_U {X : Cx} : SlR X (rSlU X.K) := sl_list.or (sl_tupA.or sl_str)
def rSign (neg : Bool) : R2 := fun x y H Q => ∃ (c : Nat) (z : Str), x = .str ⟨#[c]⟩ ∧ y = .str z ∧ Q (.bl (if neg then !decide (c ∈ z.cps.toList) else decide (c ∈ z.cps.toList))) H
def rInU (K : PySem.W.Frag) (neg : Bool) : R2 := fun x y H Q => rIn K neg x y H Q ∨ rSign neg x y H Q
theorem op_inU {X : Cx} : OpR X (compareOp .In) (rInU X.K false) := op_in_seq.or (show OpR X (compareOp .In) (rSign false) from fun pins s σ H x y v u Q I rx ry h => op_in_sign pins s σ H x y v u Q I rx ry (by
  obtain ⟨c, z, e1, e2, q⟩ := h
  exact ⟨c, z, e1, e2, q⟩))
theorem op_notInU {X : Cx} : OpR X (compareOp .NotIn) (rInU X.K true) := op_notIn_seq.or (show OpR X (compareOp .NotIn) (rSign true) from fun pins s σ H x y v u Q I rx ry h => op_notIn_sign pins s σ H x y v u Q I rx ry (by
  obtain ⟨c, z, e1, e2, q⟩ := h
  exact ⟨c, z, e1, e2, q⟩))
def rLenU (K : PySem.W.Frag) : List V → Hp → VK → Prop := fun xs H Q => ∃ x n, xs = [x] ∧ LenV K x H n ∧ Q (.int n) H
def rAbs : List V → Hp → VK → Prop := fun xs H Q => ∃ i, xs = [.int i] ∧ Q (.int (if i < 0 then -i else i)) H
def rInt1 : List V → Hp → VK → Prop := fun xs H Q => (∃ i, xs = [.int i] ∧ Q (.int i) H) ∨ ∃ k, xs = [.bl k] ∧ Q (.int (if k then 1 else 0)) H
def rMin2 : List V → Hp → VK → Prop := fun xs H Q => ∃ i j, xs = [.int i, .int j] ∧ Q (.int (if j < i then j else i)) H
def rListU (K : PySem.W.Frag) : List V → Hp → VK → Prop := fun xs H Q => ∃ p ys, xs = [.ref p] ∧ (SqL K H p ys ∨ SqT K H p ys) ∧ ∀ l, H l = none → Q (.ref l) (upd H l (.lst ys))
def rTupU (K : PySem.W.Frag) : List V → Hp → VK → Prop := fun xs H Q => ∃ p ys, xs = [.ref p] ∧ ((SqL K H p ys ∧ ∀ l, H l = none → Q (.ref l) (upd H l (.tup ys))) ∨ (SqT K H p ys ∧ Q (.ref p) H))
def rStrI : List V → Hp → VK → Prop := fun xs H Q => ∃ i, xs = [.int i] ∧ i.natAbs.log2 < 1920 ∧ Q (.str (toString i)) H
def rAll (K : PySem.W.Frag) : List V → Hp → VK → Prop := fun vs H Q => ∃ (a : Addr) (bs : List Bool), vs = [V.ref a] ∧ SqL K H a (bs.map V.bl) ∧ Q (.bl (bs.all id)) H
section
variable {X : Cx}
theorem c_len : CallR X (.builtin "len") (rLenU X.K) := call_len
theorem c_abs : CallR X (.builtin "abs") rAbs := call_abs
theorem c_int : CallR X (.type "int") rInt1 := call_int1
theorem c_max (hc : X.calm = true) : CallR X (.builtin "max") rMax2 := call_max2 hc
theorem c_min (hc : X.calm = true) : CallR X (.builtin "min") rMin2 := call_min2 hc
theorem c_list : CallR X (.type "list") (rListU X.K) := call_list_of
theorem c_tup : CallR X (.type "tuple") (rTupU X.K) := call_tuple_of
theorem c_str : CallR X (.type "str") rStrI := call_str_int
end
section
variable {K : PySem.W.Frag} {i j : Int} {x y : Str} {ds es : List PyData}
theorem r2_add : R2D (rAddU K) (.int i) (.int j) (.int (i + j)) := fun G H v w e hv hw Q q => .inl ⟨i, j, rp_int hv, rp_int hw, q _ G H (Stp.refl e) (.int _)⟩
theorem r2_adds (h : x.length + y.length ≤ sizeLine) : R2D (rAddU K) (.str x) (.str y) (.str (x ++ y)) := fun G H v w e hv hw Q q =>
  .inr (.inl ⟨x, y, rp_str hv, rp_str hw, h, q _ G H (Stp.refl e) (.str _)⟩)
theorem r2_addl (h : ds.length + es.length ≤ sizeLine) : R2D (rAddU K) (.list ds) (.list es) (.list (ds ++ es)) := fun G H v w e hv hw Q q => by
  obtain ⟨a, xs, rfl, h1, h2⟩ := rp_lst hv
  obtain ⟨b, ys, rfl, h3, h4⟩ := rp_lst hw
  refine .inr (.inr (.inl ⟨a, b, xs, ys, rfl, rfl, e _ _ h1, e _ _ h3, ?_, fun p hp => ?_⟩))
  · rw [ra_len h2, ra_len h4]
    exact h
  · exact q _ _ _ (Stp.new e hp) (.lst upd_same (ra_app (ra_mono (Ex.new (fresh_back e hp)) _ _ h2) (ra_mono (Ex.new (fresh_back e hp)) _ _ h4)))
theorem r2_addt (h : ds.length + es.length ≤ sizeLine) : R2D (rAddU K) (.tuple ds) (.tuple es) (.tuple (ds ++ es)) := fun G H v w e hv hw Q q => by
  obtain ⟨a, xs, rfl, h1, h2⟩ := rp_tup hv
  obtain ⟨b, ys, rfl, h3, h4⟩ := rp_tup hw
  refine .inr (.inr (.inr ⟨a, b, xs, ys, rfl, rfl, st_t (xt (e) h1), st_t (xt (e) h3), ?_, fun e0 => ?_, fun _ e0 => ?_, fun _ _ p hp => ?_⟩))
  · rw [ra_len h2, ra_len h4]
    exact h
  · subst e0
    cases h2
    exact q _ G H (Stp.refl e) (.tup h3 h4)
  · subst e0
    cases h4
    rw [List.append_nil] at q
    exact q _ G H (Stp.refl e) (.tup h1 h2)
  · exact q _ _ _ (Stp.new e hp) (.tup (.inl upd_same) (ra_app (ra_mono (Ex.new (fresh_back e hp)) _ _ h2) (ra_mono (Ex.new (fresh_back e hp)) _ _ h4)))
theorem r2_I0 {g : Int → Int → Int} : R2D (rI0 fun i j => .int (g i j)) (.int i) (.int j) (.int (g i j)) := fun G H v w e hv hw Q q => ⟨i, j, rp_int hv, rp_int hw, q _ G H (Stp.refl e) (.int _)⟩
theorem r2_B0 {g : Int → Int → Bool} : R2D (rI0 fun i j => .bl (g i j)) (.int i) (.int j) (.bool (g i j)) := fun G H v w e hv hw Q q => ⟨i, j, rp_int hv, rp_int hw, q _ G H (Stp.refl e) (.bl _)⟩
theorem r2_I {C : Int → Int → Prop} {g : Int → Int → Int} (hc : C i j) : R2D (rI C fun i j => .int (g i j)) (.int i) (.int j) (.int (g i j)) := fun G H v w e hv hw Q q => ⟨i, j, rp_int hv, rp_int hw, hc, q _ G H (Stp.refl e) (.int _)⟩
theorem r2_eq {d e : PyData} (hd : SeqAt.shaped d = true) (he : SeqAt.shaped e = true) : R2D (rEqD K) d e (.bool (PyData.eqv d e)) := fun G H v w x hv hw Q q =>
  ⟨d, e, rp_dp d v (rp_mono x d v hv), rp_dp e w (rp_mono x e w hw), hd, he, q _ G H (Stp.refl x) (.bl _)⟩
theorem r2_ne {d e : PyData} (hd : SeqAt.shaped d = true) (he : SeqAt.shaped e = true) : R2D (rNeD K) d e (.bool (!PyData.eqv d e)) := fun G H v w x hv hw Q q =>
  ⟨d, e, rp_dp d v (rp_mono x d v hv), rp_dp e w (rp_mono x e w hw), hd, he, q _ G H (Stp.refl x) (.bl _)⟩
/-- xs[i], t[i], s[i] -/
theorem r2_ixl {d : PyData} (h : atI ds i = some d) : R2D (rIx K) (.list ds) (.int i) d := fun G H v w e hv hw Q q => by
  obtain ⟨a, xs, rfl, h1, h2⟩ := rp_lst hv
  obtain ⟨k, hk, hd⟩ : ∃ k, ixN ds.length i = some k ∧ ds[k]? = some d := by
    unfold atI at h
    cases e : ixN ds.length i with
    | none => rw [e] at h; cases h
    | some k => rw [e] at h; exact ⟨k, rfl, h⟩
  obtain ⟨z, hz, rz⟩ := ra_get h2 hd
  refine .inl ⟨a, xs, i, z, rfl, rp_int hw, sq_of (e _ _ h1), ?_, q _ G H (Stp.refl e) rz⟩
  unfold atI
  rw [ra_len h2, hk]
  exact hz
theorem r2_ixt {d : PyData} (h : atI ds i = some d) : R2D (rIx K) (.tuple ds) (.int i) d := fun G H v w e hv hw Q q => by
  obtain ⟨a, xs, rfl, h1, h2⟩ := rp_tup hv
  obtain ⟨k, hk, hd⟩ : ∃ k, ixN ds.length i = some k ∧ ds[k]? = some d := by
    unfold atI at h
    cases e : ixN ds.length i with
    | none => rw [e] at h; cases h
    | some k => rw [e] at h; exact ⟨k, rfl, h⟩
  obtain ⟨z, hz, rz⟩ := ra_get h2 hd
  refine .inr (.inl ⟨a, xs, i, z, rfl, rp_int hw, st_t (xt (e) h1), ?_, q _ G H (Stp.refl e) rz⟩)
  unfold atI
  rw [ra_len h2, hk]
  exact hz
theorem r2_ixs {c : Nat} (hz : x.length ≤ sizeLine) (h : atI (tl x) i = some c) : R2D (rIx K) (.str x) (.int i) (.str ⟨#[c]⟩) := fun G H v w e hv hw Q q =>
  .inr (.inr ⟨x, i, c, rp_str hv, rp_int hw, hz, h, q _ G H (Stp.refl e) (.str _)⟩)
theorem r2_sign {c : Nat} : R2D (rInU K false) (.str ⟨#[c]⟩) (.str y) (.bool (decide (c ∈ tl y))) := fun G H v w e hv hw Q q =>
  .inr ⟨c, y, rp_str hv, rp_str hw, q _ G H (Stp.refl e) (.bl _)⟩
theorem r2_nsign {c : Nat} : R2D (rInU K true) (.str ⟨#[c]⟩) (.str y) (.bool (!decide (c ∈ tl y))) := fun G H v w e hv hw Q q =>
  .inr ⟨c, y, rp_str hv, rp_str hw, q _ G H (Stp.refl e) (.bl _)⟩
theorem inV_str (x : Str) (ys : List Str) : inV (.str x) (ys.map V.str) = decide (x ∈ ys) := by
  induction ys with
  | nil => rfl
  | cons y ys ih =>
    have e : inV (.str x) ((y :: ys).map V.str) = ((y == x) || inV (.str x) (ys.map V.str)) := rfl
    rw [e, ih]
    by_cases h : y = x
    · subst h
      simp
    · have h2 : ¬ x = y := fun z => h z.symm
      rw [show (y == x) = false from beq_eq_false_iff_ne.mpr h]
      simp [h2]
theorem inV_int (x : Int) (ys : List Int) : inV (.int x) (ys.map V.int) = decide (x ∈ ys) := by
  induction ys with
  | nil => rfl
  | cons y ys ih =>
    have e : inV (.int x) ((y :: ys).map V.int) = ((y == x) || inV (.int x) (ys.map V.int)) := rfl
    rw [e, ih]
    by_cases h : y = x
    · subst h
      simp
    · have h2 : ¬ x = y := fun z => h z.symm
      rw [show (y == x) = false from beq_eq_false_iff_ne.mpr h]
      simp [h2]
theorem flat_strs (ys : List Str) : (ys.map V.str).all flatV = true := by
  rw [List.all_eq_true]
  intro v hv
  obtain ⟨y, _, rfl⟩ := List.mem_map.mp hv
  rfl
theorem flat_ints (ys : List Int) : (ys.map V.int).all flatV = true := by
  rw [List.all_eq_true]
  intro v hv
  obtain ⟨y, _, rfl⟩ := List.mem_map.mp hv
  rfl
theorem r2_inl {ys : List Str} : R2D (rInU K false) (.str x) (.list (ys.map PyData.str)) (.bool (decide (x ∈ ys))) := fun G H v w e hv hw Q q => by
  obtain ⟨a, xs, rfl, h1, h2⟩ := rp_lst hw
  have ex := ra_str h2
  subst ex
  cases hv
  refine .inl ⟨a, _, rfl, .inl (sq_of (e _ _ h1)), rfl, flat_strs ys, ?_⟩
  rw [inV_str]
  exact q _ G H (Stp.refl e) (.bl _)
theorem r2_int {ys : List Str} : R2D (rInU K false) (.str x) (.tuple (ys.map PyData.str)) (.bool (decide (x ∈ ys))) := fun G H v w e hv hw Q q => by
  obtain ⟨a, xs, rfl, h1, h2⟩ := rp_tup hw
  have ex := ra_str h2
  subst ex
  cases hv
  refine .inl ⟨a, _, rfl, .inr (st_t (xt (e) h1)), rfl, flat_strs ys, ?_⟩
  rw [inV_str]
  exact q _ G H (Stp.refl e) (.bl _)
theorem r2_nint {ys : List Str} : R2D (rInU K true) (.str x) (.tuple (ys.map PyData.str)) (.bool (!decide (x ∈ ys))) := fun G H v w e hv hw Q q => by
  obtain ⟨a, xs, rfl, h1, h2⟩ := rp_tup hw
  have ex := ra_str h2
  subst ex
  cases hv
  refine .inl ⟨a, _, rfl, .inr (st_t (xt (e) h1)), rfl, flat_strs ys, ?_⟩
  rw [inV_str]
  exact q _ G H (Stp.refl e) (.bl _)
theorem r2_ninl {ys : List Str} : R2D (rInU K true) (.str x) (.list (ys.map PyData.str)) (.bool (!decide (x ∈ ys))) := fun G H v w e hv hw Q q => by
  obtain ⟨a, xs, rfl, h1, h2⟩ := rp_lst hw
  have ex := ra_str h2
  subst ex
  cases hv
  refine .inl ⟨a, _, rfl, .inl (sq_of (e _ _ h1)), rfl, flat_strs ys, ?_⟩
  rw [inV_str]
  exact q _ G H (Stp.refl e) (.bl _)
/-! calls of built-ins -/
theorem rd_lenl : RD (rLenU K) [.list ds] (.int ds.length) := fun G H vs e hv Q q => by
  cases hv with
  | cons h1 h2 =>
    cases h2
    obtain ⟨a, xs, rfl, h3, h4⟩ := rp_lst h1
    refine ⟨_, xs.length, rfl, .inl ⟨xs, sq_of (e _ _ h3), rfl⟩, ?_⟩
    rw [ra_len h4]
    exact q _ G H (Stp.refl e) (.int _)
theorem rd_lent : RD (rLenU K) [.tuple ds] (.int ds.length) := fun G H vs e hv Q q => by
  cases hv with
  | cons h1 h2 =>
    cases h2
    obtain ⟨a, xs, rfl, h3, h4⟩ := rp_tup h1
    refine ⟨_, xs.length, rfl, .inr ⟨xs, st_t (xt (e) h3), rfl⟩, ?_⟩
    rw [ra_len h4]
    exact q _ G H (Stp.refl e) (.int _)
theorem rd_lens (h : x.length ≤ sizeLine) : RD (rLenU K) [.str x] (.int x.length) := fun G H vs e hv Q q => by
  cases hv with
  | cons h1 h2 =>
    cases h2
    cases h1
    exact ⟨_, x.length, rfl, ⟨h, rfl⟩, q _ G H (Stp.refl e) (.int _)⟩
theorem rd_abs : RD rAbs [.int i] (.int (if i < 0 then -i else i)) := fun G H vs e hv Q q => by
  cases hv with
  | cons h1 h2 =>
    cases h2
    cases h1
    exact ⟨i, rfl, q _ G H (Stp.refl e) (.int _)⟩
theorem rd_int : RD rInt1 [.int i] (.int i) := fun G H vs e hv Q q => by
  cases hv with
  | cons h1 h2 =>
    cases h2
    cases h1
    exact .inl ⟨i, rfl, q _ G H (Stp.refl e) (.int _)⟩
theorem rd_intb {b : Bool} : RD rInt1 [.bool b] (.int (if b then 1 else 0)) := fun G H vs e hv Q q => by
  cases hv with
  | cons h1 h2 =>
    cases h2
    cases h1
    exact .inr ⟨b, rfl, q _ G H (Stp.refl e) (.int _)⟩
theorem rd_max : RD rMax2 [.int i, .int j] (.int (if j > i then j else i)) := fun G H vs e hv Q q => by
  cases hv with
  | cons h1 h2 =>
    cases h2 with
    | cons h2 h3 =>
      cases h3
      cases h1
      cases h2
      exact ⟨i, j, rfl, q _ G H (Stp.refl e) (.int _)⟩
theorem rd_min : RD rMin2 [.int i, .int j] (.int (if j < i then j else i)) := fun G H vs e hv Q q => by
  cases hv with
  | cons h1 h2 =>
    cases h2 with
    | cons h2 h3 =>
      cases h3
      cases h1
      cases h2
      exact ⟨i, j, rfl, q _ G H (Stp.refl e) (.int _)⟩
theorem rd_str (h : i.natAbs.log2 < 1920) : RD rStrI [.int i] (.str (toString i)) := fun G H vs e hv Q q => by
  cases hv with
  | cons h1 h2 =>
    cases h2
    cases h1
    exact ⟨i, rfl, h, q _ G H (Stp.refl e) (.str _)⟩
theorem rd_listl : RD (rListU K) [.list ds] (.list ds) := fun G H vs e hv Q q => by
  cases hv with
  | cons h1 h2 =>
    cases h2
    obtain ⟨a, xs, rfl, h3, h4⟩ := rp_lst h1
    exact ⟨a, xs, rfl, .inl (sq_of (e _ _ h3)), fun p hp => q _ _ _ (Stp.new e hp) (.lst upd_same (ra_mono (Ex.new (fresh_back e hp)) _ _ h4))⟩
theorem rd_listt : RD (rListU K) [.tuple ds] (.list ds) := fun G H vs e hv Q q => by
  cases hv with
  | cons h1 h2 =>
    cases h2
    obtain ⟨a, xs, rfl, h3, h4⟩ := rp_tup h1
    exact ⟨a, xs, rfl, .inr (st_t (xt (e) h3)), fun p hp => q _ _ _ (Stp.new e hp) (.lst upd_same (ra_mono (Ex.new (fresh_back e hp)) _ _ h4))⟩
theorem rd_tupl : RD (rTupU K) [.list ds] (.tuple ds) := fun G H vs e hv Q q => by
  cases hv with
  | cons h1 h2 =>
    cases h2
    obtain ⟨a, xs, rfl, h3, h4⟩ := rp_lst h1
    exact ⟨a, xs, rfl, .inl ⟨sq_of (e _ _ h3), fun p hp => q _ _ _ (Stp.new e hp) (.tup (.inl upd_same) (ra_mono (Ex.new (fresh_back e hp)) _ _ h4))⟩⟩
theorem rd_tupt : RD (rTupU K) [.tuple ds] (.tuple ds) := fun G H vs e hv Q q => by
  cases hv with
  | cons h1 h2 =>
    cases h2
    obtain ⟨a, xs, rfl, h3, h4⟩ := rp_tup h1
    exact ⟨a, xs, rfl, .inr ⟨st_t (xt (e) h3), q _ G H (Stp.refl e) (.tup h3 h4)⟩⟩
theorem ra_bl {G : Hp} : ∀ {ns : List Bool} {vs : List V}, RpAll G vs (ns.map PyData.bool) → vs = ns.map V.bl
  | [], _, h => by cases h; rfl
  | n :: ns, _, h => by
    cases h with
    | cons h1 h2 => rw [rp_bl h1, ra_bl h2]; rfl
theorem rd_all {bs : List Bool} : RD (rAll K) [.list (bs.map PyData.bool)] (.bool (bs.all id)) := fun G H vs e hv Q q => by
  cases hv with
  | cons h1 h2 =>
    cases h2
    obtain ⟨a, xs, rfl, h3, h4⟩ := rp_lst h1
    have ex := ra_bl h4
    subst ex
    exact ⟨a, bs, rfl, sq_of (e _ _ h3), q _ G H (Stp.refl e) (.bl _)⟩
end
/-! ### slices -/
def cutD (ds : List PyData) (lo hi : Option Int) : List PyData := (ds.drop (HT.sIx ds.length 0 lo)).take (HT.sIx ds.length ds.length hi - HT.sIx ds.length 0 lo)
theorem ra_cut {G : Hp} {xs : List V} {ds : List PyData} (h : RpAll G xs ds) (lo hi : Option Int) : RpAll G (cutV xs lo hi) (cutD ds lo hi) := by
  unfold cutV cutD
  rw [ra_len h]
  exact ra_take _ (ra_drop _ h)
section
variable {K : PySem.W.Frag} {σ : L2.St} {G H : Hp} {te ta tb : TE} {t1 t2 : TO} {ds : List PyData} {lo hi : Option Int} {i : Int} {d : PyData} {b c : Bool} {t u : TT}
/-- a bound of a slice -/
def EvB (to : TO) (σ : L2.St) (G : Hp) (o : Option Int) : Prop := ∀ H, Ex G H → ∀ Q : Option Int → Hp → Prop, (∀ G2 H2, Stp G H G2 H2 → Q o H2) → to σ H Q
theorem EvB.mono {G' : Hp} {to : TO} {o : Option Int} (x : Ex G G') (h : EvB to σ G o) : EvB to σ G' o := fun H e Q q =>
  h H (x.trans e) Q fun G2 H2 s => q _ H2 (s.up x e).1
theorem eb_none : EvB tNoPart σ G none := fun H e Q q => q G H (Stp.refl e)
theorem eb_some (h : EvD te σ G (.int i)) : EvB (tPart te) σ G (some i) := fun H e Q q => h H e _ fun v G2 H2 s hv => ⟨i, rp_int hv, q G2 H2 s⟩
theorem ed_sll (h : EvD te σ G (.list ds)) (h1 : EvB t1 σ G lo) (h2 : EvB t2 σ G hi) : EvD (tSl (rSlU K) te t1 t2) σ G (.list (cutD ds lo hi)) := fun H e Q q =>
  h H e _ fun v G2 H2 s1 hv => (h1.mono s1.g) H2 s1.gh _ fun G3 H3 s2 => (h2.mono (s1.trans s2).g) H3 s2.gh _ fun G4 H4 s3 => by
    obtain ⟨a, xs, rfl, h3, h4⟩ := rp_lst hv
    have S := (s1.trans s2).trans s3
    have e2 : Ex G2 G4 := (s2.trans s3).g
    exact .inl ⟨a, xs, rfl, sq_of (S.gh _ _ (e2 _ _ h3)), fun p hp => q _ _ _ (S.trans (Stp.new S.gh hp)) (.lst upd_same (ra_cut (ra_mono (e2.trans (Ex.new (fresh_back S.gh hp))) _ _ h4) lo hi))⟩
theorem cut_whole {α : Type} {l : List α} {lo hi : Option Int} (h : HT.sIx l.length 0 lo = 0 ∧ HT.sIx l.length l.length hi = l.length) : (l.drop (HT.sIx l.length 0 lo)).take (HT.sIx l.length l.length hi - HT.sIx l.length 0 lo) = l := by
  rw [h.1, h.2]
  simp
theorem ed_slt (h : EvD te σ G (.tuple ds)) (h1 : EvB t1 σ G lo) (h2 : EvB t2 σ G hi) : EvD (tSl (rSlU K) te t1 t2) σ G (.tuple (cutD ds lo hi)) := fun H e Q q =>
  h H e _ fun v G2 H2 s1 hv => (h1.mono s1.g) H2 s1.gh _ fun G3 H3 s2 => (h2.mono (s1.trans s2).g) H3 s2.gh _ fun G4 H4 s3 => by
    obtain ⟨a, xs, rfl, h3, h4⟩ := rp_tup hv
    have S := (s1.trans s2).trans s3
    have e2 : Ex G2 G4 := (s2.trans s3).g
    refine .inr (.inl ⟨a, xs, rfl, st_t (xt S.gh (xt e2 h3)), fun hw => ?_, fun _ p hp => q _ _ _ (S.trans (Stp.new S.gh hp)) (.tup (.inl upd_same) (ra_cut (ra_mono (e2.trans (Ex.new (fresh_back S.gh hp))) _ _ h4) lo hi))⟩)
    rw [ra_len h4] at hw
    have ed : cutD ds lo hi = ds := cut_whole hw
    refine q _ G4 H4 S ?_
    rw [ed]
    exact .tup (xt e2 h3) (ra_mono e2 _ _ h4)
theorem ed_sls {x : Str} (h : EvD te σ G (.str x)) (h1 : EvB t1 σ G lo) (h2 : EvB t2 σ G hi) (hz : x.length ≤ sizeLine) : EvD (tSl (rSlU K) te t1 t2) σ G (.str (cutS x lo hi)) := fun H e Q q =>
  h H e _ fun v G2 H2 s1 hv => (h1.mono s1.g) H2 s1.gh _ fun G3 H3 s2 => (h2.mono (s1.trans s2).g) H3 s2.gh _ fun G4 H4 s3 =>
    .inr (.inr ⟨x, rp_str hv, hz, q _ G4 H4 ((s1.trans s2).trans s3) (.str _)⟩)
/-! ### tests, and, or, not, if else -/
def EvC (t : TT) (σ : L2.St) (G : Hp) (b : Bool) : Prop := ∀ H, Ex G H → ∀ Q : Bool → Hp → Prop, (∀ G2 H2, Stp G H G2 H2 → Q b H2) → t σ H Q
theorem EvC.mono {G' : Hp} (x : Ex G G') (h : EvC t σ G b) : EvC t σ G' b := fun H e Q q => h H (x.trans e) Q fun G2 H2 s => q _ H2 (s.up x e).1
theorem EvC.is (h : EvC t σ G b) (e : b = c) : EvC t σ G c := e ▸ h
theorem et_cmp (h : EvD te σ G (.bool b)) : EvC (tTest te) σ G b := fun H e Q q => h H e _ fun v G2 H2 s hv => ⟨b, rp_bl hv, q G2 H2 s⟩
theorem et_val (h : EvD te σ G (.bool b)) : EvC (tB te) σ G b := fun H e Q q => h H e _ fun v G2 H2 s hv => ⟨b, rp_bl hv, q G2 H2 s⟩
theorem et_not (h : EvC t σ G b) : EvC (tNot t) σ G (!b) := fun H e Q q => h H e _ fun G2 H2 s => q G2 H2 s
theorem et_and (h1 : EvC t σ G b) (h2 : b = true → EvC u σ G c) : EvC (tAnd t u) σ G (b && c) := fun H e Q q => h1 H e _ fun G2 H2 s => by
  cases b with
  | true => exact iteT (((h2 rfl).mono s.g) H2 s.gh _ fun G3 H3 s2 => q G3 H3 (s.trans s2))
  | false => exact iteF (q G2 H2 s)
theorem et_or (h1 : EvC t σ G b) (h2 : b = false → EvC u σ G c) : EvC (tOr t u) σ G (b || c) := fun H e Q q => h1 H e _ fun G2 H2 s => by
  cases b with
  | true => exact iteT (q G2 H2 s)
  | false => exact iteF (((h2 rfl).mono s.g) H2 s.gh _ fun G3 H3 s2 => q G3 H3 (s.trans s2))
theorem ed_and (h1 : EvD ta σ G (.bool b)) (h2 : b = true → EvD tb σ G (.bool c)) : EvD (tAndV ta tb) σ G (.bool (b && c)) := fun H e Q q => h1 H e _ fun v G2 H2 s hv => ⟨b, rp_bl hv, by
  cases b with
  | true => exact iteT (((h2 rfl).mono s.g) H2 s.gh _ fun v G3 H3 s2 h3 => q v G3 H3 (s.trans s2) h3)
  | false => exact iteF (q _ G2 H2 s (.bl _))⟩
theorem ed_or (h1 : EvD ta σ G (.bool b)) (h2 : b = false → EvD tb σ G (.bool c)) : EvD (tOrV ta tb) σ G (.bool (b || c)) := fun H e Q q => h1 H e _ fun v G2 H2 s hv => ⟨b, rp_bl hv, by
  cases b with
  | true => exact iteT (q _ G2 H2 s (.bl _))
  | false => exact iteF (((h2 rfl).mono s.g) H2 s.gh _ fun v G3 H3 s2 h3 => q v G3 H3 (s.trans s2) h3)⟩
theorem ed_notV (h : EvD ta σ G (.bool b)) : EvD (tNotV ta) σ G (.bool (!b)) := fun H e Q q => h H e _ fun v G2 H2 s hv => ⟨b, rp_bl hv, q _ G2 H2 s (.bl _)⟩
theorem ed_if (h : EvC t σ G b) (h1 : b = true → EvD ta σ G d) (h2 : b = false → EvD tb σ G d) : EvD (tIf t ta tb) σ G d := fun H e Q q => h H e _ fun G2 H2 s => by
  cases b with
  | true => exact iteT (((h1 rfl).mono s.g) H2 s.gh _ fun v G3 H3 s2 h3 => q v G3 H3 (s.trans s2) h3)
  | false => exact iteF (((h2 rfl).mono s.g) H2 s.gh _ fun v G3 H3 s2 h3 => q v G3 H3 (s.trans s2) h3)
theorem ed_neg (h : EvD te σ G (.int i)) : EvD (tUn (rU fun i => .int (-i)) te) σ G (.int (-i)) := fun H e Q q => h H e _ fun v G2 H2 s hv => ⟨i, rp_int hv, q _ G2 H2 s (.int _)⟩
theorem ed_chain {r r' : R2} {tc : TE} {x y z : PyData} (ha : EvD ta σ G x) (hb : EvD tb σ G y) (hc : EvD tc σ G z) (h1 : R2D r x y (.bool b)) (h2 : R2D r' y z (.bool c)) : EvD (tChain r r' ta tb tc) σ G (.bool (b && c)) := fun H e Q q =>
  ha H e _ fun v G2 H2 s1 hv => (hb.mono s1.g) H2 s1.gh _ fun w G3 H3 s2 hw => h1 G3 H3 v w s2.gh (rp_mono s2.g _ _ hv) hw _ fun k G4 H4 s3 hk => ⟨b, rp_bl hk, by
    have S := (s1.trans s2).trans s3
    cases b with
    | true => exact iteT ((hc.mono S.g) H4 S.gh _ fun u G5 H5 s4 hu => h2 G5 H5 w u s4.gh (rp_mono (s3.trans s4).g _ _ hw) hu _ fun m G6 H6 s5 hm => q m G6 H6 ((S.trans s4).trans s5) (by simpa using hm))
    | false => exact iteF (q _ G4 H4 S (.bl _))⟩
end
end Fw

namespace Fw
open PySem PySem.Spec PyProof.Rows L2 Evl
open TL (tl len_tl ext_tl tl_append tl_mk mk_tl)

/-! ### reading while lists of one's own stand open -/
def flatD : PyData → Bool
  | .none => true
  | .bool _ => true
  | .int _ => true
  | .str _ => true
  | _ => false
theorem rp_flat {G H : Hp} {v : V} {d : PyData} (hf : flatD d = true) (h : Rp G v d) : Rp H v d := by
  cases h with
  | non => exact .non
  | bl b => exact .bl b
  | int i => exact .int i
  | str x => exact .str x
  | lst => cases hf
  | tup => cases hf
def EvH (te : TE) (σ : L2.St) (G H : Hp) (d : PyData) : Prop := ∀ Q : VK, (∀ v G2 H2, Stp G H G2 H2 → Rp G2 v d → Q v H2) → te σ H Q
def EvCH (t : TT) (σ : L2.St) (G H : Hp) (b : Bool) : Prop := ∀ Q : Bool → Hp → Prop, (∀ G2 H2, Stp G H G2 H2 → Q b H2) → t σ H Q
section
variable {K : PySem.W.Frag} {σ : L2.St} {G G' H : Hp} {te ta tb : TE} {t tt : TT} {d : PyData} {b : Bool}
theorem EvD.at (h : EvD te σ G d) (e : Ex G H) : EvH te σ G H d := fun Q q => h H e Q q
theorem EvC.at (h : EvC t σ G b) (e : Ex G H) : EvCH t σ G H b := fun Q q => h H e Q q
theorem ev_at (e : Ex G H) (h : EvD te σ G d) : EvH te σ G H d := fun Q q => h H e Q q
theorem ec_at (e : Ex G H) (h : EvC t σ G b) : EvCH t σ G H b := fun Q q => h H e Q q
/-- from a greater still part down -/
theorem Stp.down {G2 H2 : Hp} (e : Ex G G') (e2 : Ex G' H) (s : Stp G' H G2 H2) : Stp G H (Fw.up G H G2) H2 := by
  have e3 : Ex G H := e.trans e2
  refine ⟨fun a o h => ?_, fun a o h => ?_, s.h, fun a o h => up_some h⟩
  · rw [up_some (e3 a o h)]
    exact h
  · cases hh : H a with
    | none =>
      rw [up_none hh] at h
      exact s.gh a o h
    | some u =>
      rw [up_some hh] at h
      exact s.h a o (e3 a o h)
theorem EvH.down (e : Ex G G') (e2 : Ex G' H) (hf : flatD d = true) (h : EvH te σ G' H d) : EvH te σ G H d := fun Q q =>
  h Q fun v G2 H2 s hv => q v _ H2 (s.down e e2) (rp_flat hf hv)
theorem EvCH.down (e : Ex G G') (e2 : Ex G' H) (h : EvCH t σ G' H b) : EvCH t σ G H b := fun Q q => h Q fun G2 H2 s => q _ H2 (s.down e e2)
/-- an own list, made still -/
theorem frz {p : Addr} {xs : List V} {ds : List PyData} (e : Ex G H) (h : H p = some (.lst xs)) (g : G p = none) (r : RpAll G xs ds) :
    Ex G (upd G p (.lst xs)) ∧ Ex (upd G p (.lst xs)) H ∧ Rp (upd G p (.lst xs)) (.ref p) (.list ds) := by
  refine ⟨Ex.new g, fun a o q => ?_, .lst upd_same (ra_mono (Ex.new g) _ _ r)⟩
  by_cases hp : a = p
  · subst hp
    rw [upd_same] at q
    rw [h]
    exact q
  · rw [upd_ne hp] at q
    exact e a o q
/-! ### statements -/
variable {D : Ends} {tu tw tz : TS} {g : TG}
theorem w_set {i : Nat} (h : EvH te σ G H d) (k : ∀ v G2 H2, Stp G H G2 H2 → Rp G2 v d → tz D (σ.set i (some v)) H2) : tSeq (tAsg te (gName i)) tz D σ H := h _ fun v G2 H2 s hv => k v G2 H2 s hv
theorem w_set1 {i : Nat} (h : EvH te σ G H d) (k : ∀ v G2 H2, Stp G H G2 H2 → Rp G2 v d → D.nx (σ.set i (some v)) H2) : tAsg te (gName i) D σ H := h _ fun v G2 H2 s hv => k v G2 H2 s hv
theorem w_ret (h : EvH te σ G H d) (k : ∀ v G2 H2, Stp G H G2 H2 → Rp G2 v d → D.rt v H2) : tRet te D σ H := h _ fun v G2 H2 s hv => k v G2 H2 s hv
theorem w_drop (h : EvH te σ G H d) (k : ∀ v G2 H2, Stp G H G2 H2 → Rp G2 v d → tz D σ H2) : tSeq (tDrop te) tz D σ H := h _ fun v G2 H2 s hv => k v G2 H2 s hv
theorem w_if (h : EvCH t σ G H b) (h1 : b = true → ∀ G2 H2, Stp G H G2 H2 → tu { D with nx := tz D } σ H2) (h2 : b = false → ∀ G2 H2, Stp G H G2 H2 → tw { D with nx := tz D } σ H2) : tSeq (tIfS t tu tw) tz D σ H := h _ fun G2 H2 s => by
  cases b with
  | true => exact iteT (h1 rfl G2 H2 s)
  | false => exact iteF (h2 rfl G2 H2 s)
theorem w_if1 (h : EvCH t σ G H b) (h1 : b = true → ∀ G2 H2, Stp G H G2 H2 → tu D σ H2) (h2 : b = false → ∀ G2 H2, Stp G H G2 H2 → tw D σ H2) : tIfS t tu tw D σ H := h _ fun G2 H2 s => by
  cases b with
  | true => exact iteT (h1 rfl G2 H2 s)
  | false => exact iteF (h2 rfl G2 H2 s)
/-- an if without else -/
theorem w_when (h : EvCH t σ G H b) (h1 : b = true → ∀ G2 H2, Stp G H G2 H2 → tu { D with nx := tz D } σ H2) (h2 : b = false → ∀ G2 H2, Stp G H G2 H2 → tz D σ H2) : tSeq (tIfS t tu tNext) tz D σ H := w_if h h1 h2
/-- a new list of one's own -/
theorem w_new {i : Nat} (k : ∀ p, H p = none → tz D (σ.set i (some (.ref p))) (upd H p (.lst []))) : tSeq (tAsg (tLst tNil) (gName i)) tz D σ H :=
  ⟨Nat.zero_le _, fun p hp => k p hp⟩
theorem ex_own {p : Addr} {o : HO} (e : Ex G H) (h : H p = none) : Ex G (upd H p o) ∧ G p = none := ⟨e.trans (Ex.new h), fresh_back e h⟩
/-- l.append(e), l a list of one's own -/
theorem w_app {j : Nat} {p : Addr} {xs : List V} (hs : σ[j]? = some (some (.ref p))) (hp : H p = some (.lst xs)) (gp : G p = none) (h : EvH te σ G H d) (hz : xs.length < 100000)
    (k : ∀ v G2 H2, Stp G H G2 H2 → Rp G2 v d → G2 p = none → Ex G2 (upd H2 p (.lst (xs ++ [v]))) → tz D σ (upd H2 p (.lst (xs ++ [v])))) :
    tSeq (tDrop (tBM K "list" rAppend (tVar j) (tCons te tNil))) tz D σ H :=
  ⟨.ref p, hs, Or.inl ⟨rfl, xs, sq_of hp⟩, h _ fun v G2 H2 s hv => ⟨p, xs, v, rfl, rfl, s.h _ _ hp, sz_lt hz, k v G2 H2 s hv (s.none hp gp) (Ex.mut s.gh (s.none hp gp))⟩⟩
theorem w_app1 {j : Nat} {p : Addr} {xs : List V} (hs : σ[j]? = some (some (.ref p))) (hp : H p = some (.lst xs)) (gp : G p = none) (h : EvH te σ G H d) (hz : xs.length < 100000)
    (k : ∀ v G2 H2, Stp G H G2 H2 → Rp G2 v d → G2 p = none → Ex G2 (upd H2 p (.lst (xs ++ [v]))) → D.nx σ (upd H2 p (.lst (xs ++ [v])))) :
    tDrop (tBM K "list" rAppend (tVar j) (tCons te tNil)) D σ H := w_app (tz := tNext) hs hp gp h hz k
/-! ### targets of several names -/
theorem ra_two {G : Hp} {vs : List V} {d e : PyData} (h : RpAll G vs [d, e]) : ∃ v w, vs = [v, w] ∧ Rp G v d ∧ Rp G w e := by
  cases h with
  | cons h1 h2 =>
    cases h2 with
    | cons h2 h3 =>
      cases h3
      exact ⟨_, _, rfl, h1, h2⟩
theorem ra_three {G : Hp} {vs : List V} {d e f : PyData} (h : RpAll G vs [d, e, f]) : ∃ v w x, vs = [v, w, x] ∧ Rp G v d ∧ Rp G w e ∧ Rp G x f := by
  cases h with
  | cons h1 h2 =>
    obtain ⟨w, x, rfl, h3, h4⟩ := ra_two h2
    exact ⟨_, w, x, rfl, h1, h3, h4⟩
theorem ra_five {G : Hp} {vs : List V} {d1 d2 d3 d4 d5 : PyData} (h : RpAll G vs [d1, d2, d3, d4, d5]) : ∃ v1 v2 v3 v4 v5, vs = [v1, v2, v3, v4, v5] ∧ Rp G v1 d1 ∧ Rp G v2 d2 ∧ Rp G v3 d3 ∧ Rp G v4 d4 ∧ Rp G v5 d5 := by
  cases h with
  | cons h1 h2 =>
    cases h2 with
    | cons h2 h3 =>
      obtain ⟨x, y, z, rfl, h4, h5, h6⟩ := ra_three h3
      exact ⟨_, _, x, y, z, rfl, h1, h2, h4, h5, h6⟩
theorem g_two {j1 j2 : Nat} {v : V} {d1 d2 : PyData} {Q : L2.St → Hp → Prop} (e : Ex G H) (h : Rp G v (.tuple [d1, d2])) (k : ∀ v1 v2, Rp G v1 d1 → Rp G v2 d2 → Q ((σ.set j1 (some v1)).set j2 (some v2)) H) : gTup K 2 (gCons (gName j1) (gCons (gName j2) gNil)) v σ H Q := by
  obtain ⟨a, xs, rfl, h1, h2⟩ := rp_tup h
  obtain ⟨v1, v2, rfl, r1, r2⟩ := ra_two h2
  exact ⟨a, _, rfl, st_t (xt (e) h1), rfl, v1, _, rfl, v2, _, rfl, rfl, k v1 v2 r1 r2⟩
theorem g_three {j1 j2 j3 : Nat} {v : V} {d1 d2 d3 : PyData} {Q : L2.St → Hp → Prop} (e : Ex G H) (h : Rp G v (.tuple [d1, d2, d3])) (k : ∀ v1 v2 v3, Rp G v1 d1 → Rp G v2 d2 → Rp G v3 d3 → Q (((σ.set j1 (some v1)).set j2 (some v2)).set j3 (some v3)) H) : gTup K 3 (gCons (gName j1) (gCons (gName j2) (gCons (gName j3) gNil))) v σ H Q := by
  obtain ⟨a, xs, rfl, h1, h2⟩ := rp_tup h
  obtain ⟨v1, v2, v3, rfl, r1, r2, r3⟩ := ra_three h2
  exact ⟨a, _, rfl, st_t (xt (e) h1), rfl, v1, _, rfl, v2, _, rfl, v3, _, rfl, rfl, k v1 v2 v3 r1 r2 r3⟩
theorem g_five {j1 j2 j3 j4 j5 : Nat} {v : V} {d1 d2 d3 d4 d5 : PyData} {Q : L2.St → Hp → Prop} (e : Ex G H) (h : Rp G v (.tuple [d1, d2, d3, d4, d5]))
    (k : ∀ v1 v2 v3 v4 v5, Rp G v1 d1 → Rp G v2 d2 → Rp G v3 d3 → Rp G v4 d4 → Rp G v5 d5 → Q (((((σ.set j1 (some v1)).set j2 (some v2)).set j3 (some v3)).set j4 (some v4)).set j5 (some v5)) H) :
    gTup K 5 (gCons (gName j1) (gCons (gName j2) (gCons (gName j3) (gCons (gName j4) (gCons (gName j5) gNil))))) v σ H Q := by
  obtain ⟨a, xs, rfl, h1, h2⟩ := rp_tup h
  obtain ⟨v1, v2, v3, v4, v5, rfl, r1, r2, r3, r4, r5⟩ := ra_five h2
  exact ⟨a, _, rfl, st_t (xt (e) h1), rfl, v1, _, rfl, v2, _, rfl, v3, _, rfl, v4, _, rfl, v5, _, rfl, rfl, k v1 v2 v3 v4 v5 r1 r2 r3 r4 r5⟩
/-! ### loops -/
theorem ra_get1 {G : Hp} {vs : List V} {i : Int} (hv : RpAll G vs [.int i]) : vs = [.int i] := by
  cases hv with
  | cons a b =>
    cases b
    rw [rp_int a]
theorem ra_get2 {G : Hp} {vs : List V} {i j : Int} (hv : RpAll G vs [.int i, .int j]) : vs = [.int i, .int j] := by
  obtain ⟨v, w, rfl, a, b⟩ := ra_two hv
  rw [rp_int a, rp_int b]
theorem w_forR {ta : TA} {j : Nat} {n : Int} (h : EvS ta σ G [.int n]) (e : Ex G H) (hn : -100000 ≤ n ∧ n ≤ 100000) (Pv : Nat → L2.St → Hp → Prop) (h0 : ∀ G2 H2, Stp G H G2 H2 → Pv 0 σ H2)
    (hs : ∀ (i : Nat) σ' H', (i : Int) < n → Pv i σ' H' → tu { D with nx := Pv (i + 1), ct := Pv (i + 1), bk := tz D } (σ'.set j (some (.int (i : Int)))) H') (hd : ∀ σ' H', Pv n.toNat σ' H' → tz D σ' H') : tSeq (tFor (iRng1 ta) (gName j) tu) tz D σ H :=
  h H e _ fun vs G2 H2 s hv => ⟨n, ra_get1 hv, by omega, by omega, for_range (lo := 0) (n := n.toNat) Pv (h0 G2 H2 s) (fun i σ' H' hi p => by
        have e0 : (0 : Int) + (i : Int) = (i : Int) := Int.zero_add _
        show tu { D with nx := Pv (i + 1), ct := Pv (i + 1), bk := tz D } (σ'.set j (some (.int ((0 : Int) + (i : Int))))) H'
        rw [e0]
        exact hs i σ' H' (by omega) p) hd⟩
theorem w_forR1 {ta : TA} {j : Nat} {n : Int} (h : EvS ta σ G [.int n]) (e : Ex G H) (hn : -100000 ≤ n ∧ n ≤ 100000) (Pv : Nat → L2.St → Hp → Prop) (h0 : ∀ G2 H2, Stp G H G2 H2 → Pv 0 σ H2)
    (hs : ∀ (i : Nat) σ' H', (i : Int) < n → Pv i σ' H' → tu { D with nx := Pv (i + 1), ct := Pv (i + 1), bk := D.nx } (σ'.set j (some (.int (i : Int)))) H') (hd : ∀ σ' H', Pv n.toNat σ' H' → D.nx σ' H') : tFor (iRng1 ta) (gName j) tu D σ H := w_forR (tz := tNext) h e hn Pv h0 hs hd
theorem w_forR2 {ta : TA} {j : Nat} {lo n : Int} (h : EvS ta σ G [.int lo, .int n]) (e : Ex G H) (hl : -100000 ≤ lo ∧ lo ≤ 100000) (hn : -100000 ≤ n ∧ n ≤ 100000) (Pv : Nat → L2.St → Hp → Prop) (h0 : ∀ G2 H2, Stp G H G2 H2 → Pv 0 σ H2)
    (hs : ∀ (i : Nat) σ' H', lo + (i : Int) < n → Pv i σ' H' → tu { D with nx := Pv (i + 1), ct := Pv (i + 1), bk := tz D } (σ'.set j (some (.int (lo + (i : Int))))) H') (hd : ∀ σ' H', Pv (n - lo).toNat σ' H' → tz D σ' H') : tSeq (tFor (iRng2 ta) (gName j) tu) tz D σ H :=
  h H e _ fun vs G2 H2 s hv => ⟨lo, n, ra_get2 hv, ⟨by omega, by omega, by omega, by omega⟩, for_range (lo := lo) (n := (n - lo).toNat) Pv (h0 G2 H2 s) (fun i σ' H' hi p => hs i σ' H' (by omega) p) hd⟩
theorem w_forR21 {ta : TA} {j : Nat} {lo n : Int} (h : EvS ta σ G [.int lo, .int n]) (e : Ex G H) (hl : -100000 ≤ lo ∧ lo ≤ 100000) (hn : -100000 ≤ n ∧ n ≤ 100000) (Pv : Nat → L2.St → Hp → Prop) (h0 : ∀ G2 H2, Stp G H G2 H2 → Pv 0 σ H2)
    (hs : ∀ (i : Nat) σ' H', lo + (i : Int) < n → Pv i σ' H' → tu { D with nx := Pv (i + 1), ct := Pv (i + 1), bk := D.nx } (σ'.set j (some (.int (lo + (i : Int))))) H') (hd : ∀ σ' H', Pv (n - lo).toNat σ' H' → D.nx σ' H') : tFor (iRng2 ta) (gName j) tu D σ H := w_forR2 (tz := tNext) h e hl hn Pv h0 hs hd
/-- over a list of data -/
theorem w_forL {α : Type} {tl : TE} {as : List α} {f : α → PyData} (h : EvD tl σ G (.list (as.map f))) (e : Ex G H) (Pv : Hp → Nat → L2.St → Hp → Prop) (h0 : ∀ G2 H2, Stp G H G2 H2 → Pv G2 0 σ H2) (hl : ∀ G2 i σ' H', Pv G2 i σ' H' → Ex G2 H')
    (hs : ∀ G2 i a v σ' H', Ex G G2 → as[i]? = some a → Rp G2 v (f a) → Pv G2 i σ' H' → g v σ' H' fun σ2 H2 => tu { D with nx := Pv G2 (i + 1), ct := Pv G2 (i + 1), bk := tz D } σ2 H2) (hd : ∀ G2 σ' H', Ex G G2 → Pv G2 as.length σ' H' → tz D σ' H') : tSeq (tFor (iList K tl) g tu) tz D σ H :=
  h H e _ fun v G2 H2 s hv => by
    obtain ⟨a, xs, rfl, h1, h2⟩ := rp_lst hv
    have lx : xs.length = as.length := (ra_len h2).trans (List.length_map _)
    refine ⟨a, rfl, ⟨xs, sq_of (s.gh _ _ h1)⟩, for_list (xs := xs) (Pv G2) (h0 G2 H2 s) (fun i σ' H' _ p => sq_of (hl G2 i σ' H' p _ _ h1)) (fun i x σ' H' hx p => ?_) (fun σ' H' p => hd G2 σ' H' s.g (lx ▸ p))⟩
    obtain ⟨d, hd2, hr⟩ := ra_get' h2 hx
    rw [List.getElem?_map] at hd2
    cases ha : as[i]? with
    | none => rw [ha] at hd2; cases hd2
    | some b =>
      rw [ha] at hd2
      cases hd2
      exact hs G2 i b x σ' H' s.g ha hr p
theorem w_forL1 {α : Type} {tl : TE} {as : List α} {f : α → PyData} (h : EvD tl σ G (.list (as.map f))) (e : Ex G H) (Pv : Hp → Nat → L2.St → Hp → Prop) (h0 : ∀ G2 H2, Stp G H G2 H2 → Pv G2 0 σ H2) (hl : ∀ G2 i σ' H', Pv G2 i σ' H' → Ex G2 H')
    (hs : ∀ G2 i a v σ' H', Ex G G2 → as[i]? = some a → Rp G2 v (f a) → Pv G2 i σ' H' → g v σ' H' fun σ2 H2 => tu { D with nx := Pv G2 (i + 1), ct := Pv G2 (i + 1), bk := D.nx } σ2 H2) (hd : ∀ G2 σ' H', Ex G G2 → Pv G2 as.length σ' H' → D.nx σ' H') : tFor (iList K tl) g tu D σ H := w_forL (tz := tNext) h e Pv h0 hl hs hd
theorem w_forT {α : Type} {tl : TE} {as : List α} {f : α → PyData} (h : EvD tl σ G (.tuple (as.map f))) (e : Ex G H) (Pv : Hp → Nat → L2.St → Hp → Prop) (h0 : ∀ G2 H2, Stp G H G2 H2 → Pv G2 0 σ H2) (hl : ∀ G2 i σ' H', Pv G2 i σ' H' → Ex G2 H')
    (hs : ∀ G2 i a v σ' H', Ex G G2 → as[i]? = some a → Rp G2 v (f a) → Pv G2 i σ' H' → g v σ' H' fun σ2 H2 => tu { D with nx := Pv G2 (i + 1), ct := Pv G2 (i + 1), bk := tz D } σ2 H2) (hd : ∀ G2 σ' H', Ex G G2 → Pv G2 as.length σ' H' → tz D σ' H') : tSeq (tFor (iTup K tl) g tu) tz D σ H :=
  h H e _ fun v G2 H2 s hv => by
    obtain ⟨a, xs, rfl, h1, h2⟩ := rp_tup hv
    have lx : xs.length = as.length := (ra_len h2).trans (List.length_map _)
    refine ⟨a, rfl, ⟨xs, st_t (xt (s.gh) h1)⟩, for_tup (xs := xs) (Pv G2) (h0 G2 H2 s) (fun i σ' H' _ p => st_t (xt (hl G2 i σ' H' p) h1)) (fun i x σ' H' hx p => ?_) (fun σ' H' p => hd G2 σ' H' s.g (lx ▸ p))⟩
    obtain ⟨d, hd2, hr⟩ := ra_get' h2 hx
    rw [List.getElem?_map] at hd2
    cases ha : as[i]? with
    | none => rw [ha] at hd2; cases hd2
    | some b =>
      rw [ha] at hd2
      cases hd2
      exact hs G2 i b x σ' H' s.g ha hr p
theorem w_forT1 {α : Type} {tl : TE} {as : List α} {f : α → PyData} (h : EvD tl σ G (.tuple (as.map f))) (e : Ex G H) (Pv : Hp → Nat → L2.St → Hp → Prop) (h0 : ∀ G2 H2, Stp G H G2 H2 → Pv G2 0 σ H2) (hl : ∀ G2 i σ' H', Pv G2 i σ' H' → Ex G2 H')
    (hs : ∀ G2 i a v σ' H', Ex G G2 → as[i]? = some a → Rp G2 v (f a) → Pv G2 i σ' H' → g v σ' H' fun σ2 H2 => tu { D with nx := Pv G2 (i + 1), ct := Pv G2 (i + 1), bk := D.nx } σ2 H2) (hd : ∀ G2 σ' H', Ex G G2 → Pv G2 as.length σ' H' → D.nx σ' H') : tFor (iTup K tl) g tu D σ H := w_forT (tz := tNext) h e Pv h0 hl hs hd
/-! ### list comprehensions -/
/-- behind i turns: the list at Dl, own, holds the data ds -/
def Cm (G H : Hp) (Dl : Addr) (ds : List PyData) (H' : Hp) : Prop := ∃ G' xs, Stp G H G' H' ∧ G' Dl = none ∧ H' Dl = some (.lst xs) ∧ RpAll G' xs ds
theorem cm_end {Dl : Addr} {ds : List PyData} {H' : Hp} (hD : H Dl = none) (h : Cm G H Dl ds H') : ∃ G2, Stp G H G2 H' ∧ Rp G2 (.ref Dl) (.list ds) := by
  obtain ⟨G', xs, s, g, hx, r⟩ := h
  obtain ⟨e1, e2, r2⟩ := frz s.gh hx g r
  exact ⟨_, ⟨s.g.trans e1, e2, s.h, fun a o q => (upd_ne (ne_of_none q hD)).trans (s.f a o q)⟩, r2⟩
theorem cm_turn {Dl : Addr} {ds : List PyData} {H' : Hp} {σ2 : L2.St} {c : Bool} {y : PyData} (hD : H Dl = none) (h : Cm G H Dl ds H') (hl : ds.length < 100000) (hc : ∀ G', Ex G G' → Ex G' H' → EvC t σ2 G' c) (hy : c = true → ∀ G', Ex G G' → EvD te σ2 G' y) :
    t σ2 H' fun b H3 => if b = true then te σ2 H3 fun v H4 => ∃ acc, H4 Dl = some (.lst acc) ∧ acc.length < sizeLine ∧ Cm G H Dl (if c = true then ds ++ [y] else ds) (upd H4 Dl (.lst (acc ++ [v]))) else Cm G H Dl (if c = true then ds ++ [y] else ds) H3 := by
  obtain ⟨G', xs, s, g, hx, r⟩ := h
  refine (hc G' s.g s.gh) H' s.gh _ fun G2 H2 s2 => ?_
  cases c with
  | false => exact iteF ⟨G2, xs, s.trans s2, s2.none hx g, s2.h _ _ hx, ra_mono s2.g _ _ r⟩
  | true =>
    refine iteT ((hy rfl G2 (s.trans s2).g) H2 s2.gh _ fun v G3 H3 s3 hv => ?_)
    have S := (s.trans s2).trans s3
    have hx3 := s3.h _ _ (s2.h _ _ hx)
    have g3 : G3 Dl = none := (s2.trans s3).none hx g
    refine ⟨xs, hx3, sz_lt (by rw [ra_len r]; exact hl), G3, xs ++ [v], ⟨S.g, Ex.mut S.gh g3, Ex.mut S.h hD, S.f⟩, g3, upd_same, ?_⟩
    exact ra_app (ra_mono (s2.trans s3).g _ _ r) (ra_one hv)
theorem filter_take {α : Type} (c : α → Bool) (y : α → PyData) (as : List α) (i : Nat) (a : α) (h : as[i]? = some a) :
    ((as.take (i + 1)).filter c).map y = if c a = true then ((as.take i).filter c).map y ++ [y a] else ((as.take i).filter c).map y := by
  rw [List.take_add_one, h]
  simp only [Option.toList_some, List.filter_append, List.map_append]
  cases hc : c a with
  | true => simp [hc]
  | false => simp [hc]
theorem filter_len {α : Type} (c : α → Bool) (y : α → PyData) (as : List α) (i : Nat) : (((as.take i).filter c).map y).length ≤ as.length := by
  rw [List.length_map]
  exact Nat.le_trans (List.length_filter_le _ _) (by rw [List.length_take]; exact Nat.min_le_right _ _)
/-- [y(a) for a in as if c(a)]: S2 tells the slots behind the target -/
theorem ed_lcL {α : Type} {tl : TE} {vs : List Nat} {as : List α} {f y : α → PyData} {c : α → Bool} (S2 : α → Hp → L2.St → Prop) (h : EvD tl σ G (.list (as.map f))) (hz : as.length < 100000)
    (hg : ∀ a ∈ as, ∀ v G' H', Ex G G' → Ex G' H' → Rp G' v (f a) → ∀ Q : L2.St → Hp → Prop, (∀ σ2, S2 a G' σ2 → wipe σ2 vs = wipe σ vs → Q σ2 H') → g v (wipe σ vs) H' Q)
    (hc : ∀ a ∈ as, ∀ G' G'' σ2, Ex G G' → Ex G' G'' → S2 a G' σ2 → EvC tt σ2 G'' (c a)) (hy : ∀ a ∈ as, c a = true → ∀ G' G'' σ2, Ex G G' → Ex G' G'' → S2 a G' σ2 → EvD te σ2 G'' (y a)) :
    EvD (tLc (iList K tl) g tt te vs) σ G (.list ((as.filter c).map y)) := fun H e Q q =>
  h H e _ fun v G1 H1 s hv => by
    obtain ⟨a, xs, rfl, h1, h2⟩ := rp_lst hv
    have lx : xs.length = as.length := (ra_len h2).trans (List.length_map _)
    refine ⟨a, rfl, ⟨xs, sq_of (s.gh _ _ h1)⟩, fun Dl hD => lc_list (xs := xs) (fun i H' => Cm G1 H1 Dl (((as.take i).filter c).map y) H') ?_ (fun i H' _ p => ?_) (fun i x H' hx p => ?_) (fun H' p => ?_)⟩
    · exact ⟨G1, [], ⟨Ex.refl _, s.gh.trans (Ex.new hD), Ex.new hD, fun _ _ _ => rfl⟩, fresh_back s.gh hD, upd_same, .nil⟩
    · obtain ⟨G', ys, s', _⟩ := p
      exact sq_of (s'.gh _ _ (s'.g _ _ h1))
    · obtain ⟨d, hd2, hr⟩ := ra_get' h2 hx
      rw [List.getElem?_map] at hd2
      cases ha : as[i]? with
      | none => rw [ha] at hd2; cases hd2
      | some b =>
        rw [ha] at hd2
        cases hd2
        have hb : b ∈ as := List.mem_of_getElem? ha
        have eG : Ex G1 H' := let ⟨G', _, s', _⟩ := p; s'.g.trans s'.gh
        refine hg b hb x G1 H' s.g eG hr _ fun σ2 hS hw => ⟨hw, ?_⟩
        rw [filter_take c y as i b ha]
        exact cm_turn hD p (Nat.lt_of_le_of_lt (filter_len c y as i) hz) (fun G' e1 _ => hc b hb G1 G' σ2 s.g e1 hS) (fun hcb G' e1 => hy b hb hcb G1 G' σ2 s.g e1 hS)
    · rw [lx, List.take_length] at p
      obtain ⟨G2, s2, r⟩ := cm_end hD p
      exact q _ G2 H' (s.trans s2) r
theorem ed_lcT {α : Type} {tl : TE} {vs : List Nat} {as : List α} {f y : α → PyData} {c : α → Bool} (S2 : α → Hp → L2.St → Prop) (h : EvD tl σ G (.tuple (as.map f))) (hz : as.length < 100000)
    (hg : ∀ a ∈ as, ∀ v G' H', Ex G G' → Ex G' H' → Rp G' v (f a) → ∀ Q : L2.St → Hp → Prop, (∀ σ2, S2 a G' σ2 → wipe σ2 vs = wipe σ vs → Q σ2 H') → g v (wipe σ vs) H' Q)
    (hc : ∀ a ∈ as, ∀ G' G'' σ2, Ex G G' → Ex G' G'' → S2 a G' σ2 → EvC tt σ2 G'' (c a)) (hy : ∀ a ∈ as, c a = true → ∀ G' G'' σ2, Ex G G' → Ex G' G'' → S2 a G' σ2 → EvD te σ2 G'' (y a)) :
    EvD (tLc (iTup K tl) g tt te vs) σ G (.list ((as.filter c).map y)) := fun H e Q q =>
  h H e _ fun v G1 H1 s hv => by
    obtain ⟨a, xs, rfl, h1, h2⟩ := rp_tup hv
    have lx : xs.length = as.length := (ra_len h2).trans (List.length_map _)
    refine ⟨a, rfl, ⟨xs, st_t (xt (s.gh) h1)⟩, fun Dl hD => lc_tup (xs := xs) (fun i H' => Cm G1 H1 Dl (((as.take i).filter c).map y) H') ?_ (fun i H' _ p => ?_) (fun i x H' hx p => ?_) (fun H' p => ?_)⟩
    · exact ⟨G1, [], ⟨Ex.refl _, s.gh.trans (Ex.new hD), Ex.new hD, fun _ _ _ => rfl⟩, fresh_back s.gh hD, upd_same, .nil⟩
    · obtain ⟨G', ys, s', _⟩ := p
      exact st_t (xt s'.gh (xt s'.g h1))
    · obtain ⟨d, hd2, hr⟩ := ra_get' h2 hx
      rw [List.getElem?_map] at hd2
      cases ha : as[i]? with
      | none => rw [ha] at hd2; cases hd2
      | some b =>
        rw [ha] at hd2
        cases hd2
        have hb : b ∈ as := List.mem_of_getElem? ha
        have eG : Ex G1 H' := let ⟨G', _, s', _⟩ := p; s'.g.trans s'.gh
        refine hg b hb x G1 H' s.g eG hr _ fun σ2 hS hw => ⟨hw, ?_⟩
        rw [filter_take c y as i b ha]
        exact cm_turn hD p (Nat.lt_of_le_of_lt (filter_len c y as i) hz) (fun G' e1 _ => hc b hb G1 G' σ2 s.g e1 hS) (fun hcb G' e1 => hy b hb hcb G1 G' σ2 s.g e1 hS)
    · rw [lx, List.take_length] at p
      obtain ⟨G2, s2, r⟩ := cm_end hD p
      exact q _ G2 H' (s.trans s2) r
/-- [y(i) for i in range(lo, hi) if c(i)], i from 0 on -/
theorem ed_lcR {ta : TA} {vs : List Nat} {j : Nat} {lo n : Int} {y : Nat → PyData} {c : Nat → Bool} (h : EvS ta σ G [.int lo, .int n]) (hl : -100000 ≤ lo ∧ lo ≤ 100000) (hn : -100000 ≤ n ∧ n ≤ 100000) (hm : n - lo < 100000)
    (hw : ∀ x, wipe ((wipe σ vs).set j (some x)) vs = wipe σ vs)
    (hc : ∀ i : Nat, lo + (i : Int) < n → ∀ G', Ex G G' → EvC tt ((wipe σ vs).set j (some (.int (lo + i)))) G' (c i)) (hy : ∀ i : Nat, lo + (i : Int) < n → c i = true → ∀ G', Ex G G' → EvD te ((wipe σ vs).set j (some (.int (lo + i)))) G' (y i)) :
    EvD (tLc (iRng2 ta) (gName j) tt te vs) σ G (.list (((List.range (n - lo).toNat).filter c).map y)) := fun H e Q q =>
  h H e _ fun ws G1 H1 s hv => ⟨lo, n, ra_get2 hv, ⟨by omega, by omega, by omega, by omega⟩, fun Dl hD => by
    refine lc_range (lo := lo) (n := (n - lo).toNat) (fun i H' => Cm G1 H1 Dl (((List.range i).filter c).map y) H') ?_ (fun i H' hi p => ⟨hw _, ?_⟩) (fun H' p => ?_)
    · exact ⟨G1, [], ⟨Ex.refl _, s.gh.trans (Ex.new hD), Ex.new hD, fun _ _ _ => rfl⟩, fresh_back s.gh hD, upd_same, .nil⟩
    · have e1 : ((List.range (i + 1)).filter c).map y = if c i = true then ((List.range i).filter c).map y ++ [y i] else ((List.range i).filter c).map y := by
        rw [List.range_succ, List.filter_append, List.map_append]
        cases hc : c i with
        | true => simp [hc]
        | false => simp [hc]
      rw [e1]
      have l1 : (((List.range i).filter c).map y).length ≤ i := by
        rw [List.length_map]
        have := List.length_filter_le c (List.range i)
        rw [List.length_range] at this
        exact this
      exact cm_turn hD p (by omega) (fun G' e1 _ => hc i (by omega) G' (s.g.trans e1)) (fun hcb G' e1 => hy i (by omega) hcb G' (s.g.trans e1))
    · obtain ⟨G2, s2, r⟩ := cm_end hD p
      exact q _ G2 H' (s.trans s2) r⟩
theorem ed_lcR1 {ta : TA} {vs : List Nat} {j : Nat} {n : Int} {y : Nat → PyData} {c : Nat → Bool} (h : EvS ta σ G [.int n]) (hn : -100000 ≤ n ∧ n < 100000)
    (hw : ∀ x, wipe ((wipe σ vs).set j (some x)) vs = wipe σ vs)
    (hc : ∀ i : Nat, (i : Int) < n → ∀ G', Ex G G' → EvC tt ((wipe σ vs).set j (some (.int i))) G' (c i)) (hy : ∀ i : Nat, (i : Int) < n → c i = true → ∀ G', Ex G G' → EvD te ((wipe σ vs).set j (some (.int i))) G' (y i)) :
    EvD (tLc (iRng1 ta) (gName j) tt te vs) σ G (.list (((List.range n.toNat).filter c).map y)) := fun H e Q q =>
  h H e _ fun ws G1 H1 s hv => ⟨n, ra_get1 hv, by omega, by omega, fun Dl hD => by
    refine lc_range (lo := 0) (n := n.toNat) (fun i H' => Cm G1 H1 Dl (((List.range i).filter c).map y) H') ?_ (fun i H' hi p => ⟨hw _, ?_⟩) (fun H' p => ?_)
    · exact ⟨G1, [], ⟨Ex.refl _, s.gh.trans (Ex.new hD), Ex.new hD, fun _ _ _ => rfl⟩, fresh_back s.gh hD, upd_same, .nil⟩
    · have e1 : ((List.range (i + 1)).filter c).map y = if c i = true then ((List.range i).filter c).map y ++ [y i] else ((List.range i).filter c).map y := by
        rw [List.range_succ, List.filter_append, List.map_append]
        cases hc : c i with
        | true => simp [hc]
        | false => simp [hc]
      rw [e1, Int.zero_add]
      have l1 : (((List.range i).filter c).map y).length ≤ i := by
        rw [List.length_map]
        have := List.length_filter_le c (List.range i)
        rw [List.length_range] at this
        exact this
      exact cm_turn hD p (by omega) (fun G' e1 _ => hc i (by omega) G' (s.g.trans e1)) (fun hcb G' e1 => hy i (by omega) hcb G' (s.g.trans e1))
    · obtain ⟨G2, s2, r⟩ := cm_end hD p
      exact q _ G2 H' (s.trans s2) r⟩
theorem et_yes : EvC (fun _ H Q => Q true H) σ G true := fun H e Q q => q G H (Stp.refl e)
end
end Fw

namespace Fw
open PySem PySem.Spec PyProof.Rows L2 Evl
open TL (tl len_tl ext_tl tl_append tl_mk mk_tl)

/-! ### a list of one's own, made behind (G, H), that holds ds at (G', H') -/
structure Own (G H : Hp) (p : Addr) (ds : List PyData) (G' H' : Hp) : Prop where
  s : Stp G H G' H'
  n : H p = none
  g : G' p = none
  at_ : ∃ xs, H' p = some (.lst xs) ∧ RpAll G' xs ds
section
variable {K : PySem.W.Frag} {σ : L2.St} {G H G' H' G2 H2 : Hp} {p : Addr} {ds : List PyData} {d : PyData} {te : TE} {t : TT} {D : Ends} {tz tu : TS}
theorem Own.new (e : Ex G H) (h : H p = none) : Own G H p [] G (upd H p (.lst [])) :=
  ⟨⟨Ex.refl _, e.trans (Ex.new h), Ex.new h, fun _ _ _ => rfl⟩, h, fresh_back e h, [], upd_same, .nil⟩
theorem Own.step (o : Own G H p ds G' H') (s : Stp G' H' G2 H2) : Own G H p ds G2 H2 := by
  obtain ⟨xs, hx, r⟩ := o.at_
  exact ⟨o.s.trans s, o.n, s.none hx o.g, xs, s.h _ _ hx, ra_mono s.g _ _ r⟩
theorem Own.done (o : Own G H p ds G' H') : ∃ G2, Stp G H G2 H' ∧ Ex G' G2 ∧ Rp G2 (.ref p) (.list ds) := by
  obtain ⟨xs, hx, r⟩ := o.at_
  obtain ⟨e1, e2, r2⟩ := frz o.s.gh hx o.g r
  exact ⟨_, ⟨o.s.g.trans e1, e2, o.s.h, fun a u q => (upd_ne (ne_of_none q o.n)).trans (o.s.f a u q)⟩, e1, r2⟩
/-- the list as data, for what is read -/
theorem Own.read (o : Own G H p ds G' H') : ∃ G2, Ex G' G2 ∧ Ex G2 H' ∧ Rp G2 (.ref p) (.list ds) := by
  obtain ⟨xs, hx, r⟩ := o.at_
  obtain ⟨e1, e2, r2⟩ := frz o.s.gh hx o.g r
  exact ⟨_, e1, e2, r2⟩
/-- the list changes -/
theorem Own.put {xs : List V} {es : List PyData} (o : Own G H p ds G' H') (r : RpAll G' xs es) : Own G H p es G' (upd H' p (.lst xs)) :=
  ⟨⟨o.s.g, Ex.mut o.s.gh o.g, Ex.mut o.s.h o.n, o.s.f⟩, o.n, o.g, xs, upd_same, r⟩
theorem Own.other {q : Addr} {es : List PyData} {o : HO} (w : Own G H q es G' H') (hn : H p = none) (hg : G' p = none) (ne : p ≠ q) : Own G H q es G' (upd H' p o) := by
  obtain ⟨xs, hx, r⟩ := w.at_
  exact ⟨⟨w.s.g, Ex.mut w.s.gh hg, Ex.mut w.s.h hn, w.s.f⟩, w.n, w.g, xs, (upd_ne (fun e => ne e.symm)).trans hx, r⟩
theorem w_appO {j : Nat} (hs : σ[j]? = some (some (.ref p))) (o : Own G H p ds G' H') (h : EvH te σ G' H' d) (hz : ds.length < 100000) (k : ∀ G2 H2 xs, Stp G' H' G2 H2 → Own G H p (ds ++ [d]) G2 (upd H2 p (.lst xs)) → D.nx σ (upd H2 p (.lst xs))) :
    tDrop (tBM K "list" rAppend (tVar j) (tCons te tNil)) D σ H' := by
  obtain ⟨xs, hx, r⟩ := o.at_
  refine ⟨.ref p, hs, Or.inl ⟨rfl, xs, sq_of hx⟩, h _ fun v G2 H2 s hv => ⟨p, xs, v, rfl, rfl, s.h _ _ hx, sz_lt (by rw [ra_len r]; exact hz), ?_⟩⟩
  have o2 := o.step s
  exact k G2 H2 _ s (o2.put (ra_app (ra_mono s.g _ _ r) (ra_one hv)))
theorem w_appOS {j : Nat} (hs : σ[j]? = some (some (.ref p))) (o : Own G H p ds G' H') (h : EvH te σ G' H' d) (hz : ds.length < 100000) (k : ∀ G2 H2 xs, Stp G' H' G2 H2 → Own G H p (ds ++ [d]) G2 (upd H2 p (.lst xs)) → tz D σ (upd H2 p (.lst xs))) :
    tSeq (tDrop (tBM K "list" rAppend (tVar j) (tCons te tNil))) tz D σ H' := w_appO (D := { D with nx := tz D }) hs o h hz k
/-- while, over a list of one's own and what else W says -/
theorem w_while (W : Nat → L2.St → Hp → Prop) (m0 : Nat) (h0 : W m0 σ H)
    (hs : ∀ m σ' H', W m σ' H' → ∃ (G' : Hp) (b : Bool), EvCH t σ' G' H' b ∧ (b = true → ∀ G2 H2, Stp G' H' G2 H2 → tu { D with nx := fun σ2 H2 => ∃ m', m' < m ∧ W m' σ2 H2, ct := fun σ2 H2 => ∃ m', m' < m ∧ W m' σ2 H2, bk := tz D } σ' H2) ∧
      (b = false → ∀ G2 H2, Stp G' H' G2 H2 → tz D σ' H2)) : tSeq (tWhile t tu) tz D σ H :=
  ⟨W, ⟨m0, h0⟩, fun m σ' H' hw => by
    obtain ⟨G', b, hb, h1, h2⟩ := hs m σ' H' hw
    refine hb _ fun G2 H2 s => ?_
    cases b with
    | true => exact iteT ⟨_, fun _ _ h => h, h1 rfl G2 H2 s⟩
    | false => exact iteF (h2 rfl G2 H2 s)⟩
end
/-! ### what stands at the top -/
theorem bt_len : bootBuiltins "len" = some (.builtin "len") := by decide +kernel
theorem bt_abs : bootBuiltins "abs" = some (.builtin "abs") := by decide +kernel
theorem bt_max : bootBuiltins "max" = some (.builtin "max") := by decide +kernel
theorem bt_min : bootBuiltins "min" = some (.builtin "min") := by decide +kernel
theorem bt_all : bootBuiltins "all" = some (.builtin "all") := by decide +kernel
theorem bt_isinstance : bootBuiltins "isinstance" = some (.builtin "isinstance") := by decide +kernel
theorem bt_sorted : bootBuiltins "sorted" = some (.builtin "sorted") := by decide +kernel
theorem bt_repr : bootBuiltins "repr" = some (.builtin "repr") := by decide +kernel
theorem bt_int : bootBuiltins "int" = some (.type "int") := by decide +kernel
theorem bt_bool : bootBuiltins "bool" = some (.type "bool") := by decide +kernel
theorem bt_str : bootBuiltins "str" = some (.type "str") := by decide +kernel
theorem bt_list : bootBuiltins "list" = some (.type "list") := by decide +kernel
theorem bt_tuple : bootBuiltins "tuple" = some (.type "tuple") := by decide +kernel
theorem bt_ValueError : bootBuiltins "ValueError" = some (.type "ValueError") := by decide +kernel
structure Zs (mg : Str → Option Value) : Prop where
  len : mg "len" = none
  abs : mg "abs" = none
  max : mg "max" = none
  min : mg "min" = none
  all : mg "all" = none
  isinstance : mg "isinstance" = none
  sorted : mg "sorted" = none
  repr : mg "repr" = none
  int : mg "int" = none
  bool : mg "bool" = none
  str : mg "str" = none
  list : mg "list" = none
  tuple : mg "tuple" = none
  range : mg "range" = none
  ValueError : mg "ValueError" = none
theorem Zs.mk' {K : PySem.W.Frag} {h : Heap} {mg : Str → Option Value} (X : K.In h) (G : h.Ns mainGlobals mg)
    (z : (["len", "abs", "max", "min", "all", "isinstance", "sorted", "repr", "int", "bool", "str", "list", "tuple", "range", "ValueError"] : List Str).all (fun x => PySem.W.nsIn K mainGlobals x == some none) = true) : Zs mg := by
  have q : ∀ x ∈ (["len", "abs", "max", "min", "all", "isinstance", "sorted", "repr", "int", "bool", "str", "list", "tuple", "range", "ValueError"] : List Str), mg x = none := fun x hx => PySem.W.mg_none_of X G (by
    have := List.all_eq_true.mp z x hx
    simpa using this)
  constructor <;> exact q _ (by decide)
/-- a def that keeps its promise, and how it is called -/
structure Df (P : Program) (w : World) (K : PySem.W.Frag) (mg : Str → Option Value) (base : Heap) (CX : CXT) (k : Nat) (x : Str) (f : Addr) (fd : FuncData) (ps : List Str) (sp : Sp) : Prop where
  ok : FnOk P w K mg base CX k f fd ps sp
  g : mg x = some (.ref f)
  k : PySem.W.keepIn K (.ref f) = true
  b : Binds K fd ps []
/-- small numbers -/
def Sm (ns : List Int) : Prop := ∀ n ∈ ns, 0 ≤ n ∧ n < 1009
theorem Sm.app {ns ms : List Int} (h : Sm ns) (k : Sm ms) : Sm (ns ++ ms) := fun n hn => (List.mem_append.mp hn).elim (h n) (k n)
theorem Sm.one {n : Int} (h : 0 ≤ n ∧ n < 1009) : Sm [n] := fun m hm => by
  rw [List.mem_singleton] at hm
  rw [hm]
  exact h
theorem Sm.get {ns : List Int} {i : Nat} {n : Int} (h : Sm ns) (e : ns[i]? = some n) : 0 ≤ n ∧ n < 1009 := h n (List.mem_of_getElem? e)
theorem ed_call0 {σ : L2.St} {G : Hp} {ta : TA} {sp : Sp} {E : XK} {ds : List PyData} {d : PyData} (h : EvS ta σ G ds) (hr : RD (fun vs H Q => sp (vs ++ []) H Q E) ds d) : EvD (tCall sp [] E ta) σ G d := fun H x Q q =>
  h H x _ fun vs G2 H2 s1 h1 => hr G2 H2 vs s1.gh h1 Q fun v G3 H3 s2 h2 => q v G3 H3 (s1.trans s2) h2
end Fw

namespace Fw
open PySem PySem.Spec PyProof.Rows L2 Evl
open TL (tl len_tl ext_tl tl_append tl_mk mk_tl)

/-! ### a list or a tuple, walked -/
def iSeq (K : PySem.W.Frag) (tl : TE) : TI := fun σ H R => tl σ H fun x H1 => ∃ a, x = .ref a ∧ (((∃ xs, SqL K H1 a xs) ∧ R (Itl K a) H1) ∨ ((∃ xs, SqT K H1 a xs) ∧ R (Itt K a) H1))
theorem pi_seq {X : Cx} {tg l : Expr} {tl : TE} (hl : PE X l tl) : PI X tg l (iSeq X.K tl) :=
  ⟨fun pins s σ H R I h => thn (hl.run pins s σ H _ I h) fun v s1 ⟨x, H1, I1, r1, a, ex, q⟩ => by
    have fr := I1.fpOk (Nat.le_refl s1.heap.objs.size) I1.fresh
    subst ex
    cases r1
    rcases q with ⟨⟨xs, hq⟩, q⟩ | ⟨⟨xs, hq⟩, q⟩
    · obtain ⟨its, rv, p, hz⟩ := I1.list hq
      exact wpAny_pyIter_list p.isList ⟨_, [s1.heap.objs.size], _, _, H1, rfl, I1.kept (t' := s1.toks) (fun b o e => Heap.get?_push_of_some _ e), turn_list a _, ⟨_, Heap.get?_push_size _ rfl, rfl, rfl⟩, fun b hb => List.mem_singleton.mp hb ▸ fr, q⟩
    · obtain ⟨its, rv, p, hz⟩ := I1.tuple hq
      exact wpAny_pyIter_tuple (show s1.heap.IsTuple a its.toArray from p) ⟨_, [s1.heap.objs.size], _, _, H1, rfl, I1.kept (t' := s1.toks) (fun b o e => Heap.get?_push_of_some _ e), turn_tuple a _, ⟨_, Heap.get?_push_size _ rfl, rfl, rfl⟩, fun b hb => List.mem_singleton.mp hb ▸ fr, q⟩⟩
/-- a list, or a tuple -/
def sq (b : Bool) (ds : List PyData) : PyData := if b then .list ds else .tuple ds
section
variable {K : PySem.W.Frag} {σ : L2.St} {G G' H H' : Hp} {te ta tb tl : TE} {t tt : TT} {d : PyData} {D : Ends} {tu tw tz : TS} {g : TG} {b : Bool} {ds : List PyData}
def SqAt (b : Bool) (G : Hp) (a : Addr) (xs : List V) : Prop := if b then G a = some (.lst xs) else TupAt G a xs
theorem rp_sq {v : V} (h : Rp G v (sq b ds)) : ∃ a xs, v = .ref a ∧ SqAt b G a xs ∧ RpAll G xs ds := by
  cases b with
  | true => exact rp_lst h
  | false => exact rp_tup h
theorem sq_len {a : Addr} {xs : List V} (h : SqAt b G a xs) (e : Ex G H) : SqL K H a xs ∨ SqT K H a xs := by
  cases b with
  | true => exact .inl (sq_of (e _ _ h))
  | false => exact .inr (st_t (xt e h))
theorem rd_lenq : RD (rLenU K) [sq b ds] (.int ds.length) := by
  cases b with
  | true => exact rd_lenl
  | false => exact rd_lent
theorem rd_tupq : RD (rTupU K) [sq b ds] (.tuple ds) := by
  cases b with
  | true => exact rd_tupl
  | false => exact rd_tupt
theorem rd_listq : RD (rListU K) [sq b ds] (.list ds) := by
  cases b with
  | true => exact rd_listl
  | false => exact rd_listt
theorem w_forS {α : Type} {as : List α} {f : α → PyData} (h : EvD tl σ G (sq b (as.map f))) (e : Ex G H) (Pv : Hp → Nat → L2.St → Hp → Prop) (h0 : ∀ G2 H2, Stp G H G2 H2 → Pv G2 0 σ H2) (hl : ∀ G2 i σ' H', Pv G2 i σ' H' → Ex G2 H')
    (hs : ∀ G2 i a v σ' H', Ex G G2 → as[i]? = some a → Rp G2 v (f a) → Pv G2 i σ' H' → g v σ' H' fun σ2 H2 => tu { D with nx := Pv G2 (i + 1), ct := Pv G2 (i + 1), bk := tz D } σ2 H2) (hd : ∀ G2 σ' H', Ex G G2 → Pv G2 as.length σ' H' → tz D σ' H') : tSeq (tFor (iSeq K tl) g tu) tz D σ H :=
  h H e _ fun v G2 H2 s hv => by
    obtain ⟨a, xs, rfl, h1, h2⟩ := rp_sq hv
    have lx : xs.length = as.length := (ra_len h2).trans (List.length_map _)
    have turn : ∀ i x σ' H', xs[i]? = some x → Pv G2 i σ' H' → g x σ' H' fun σ2 H2 => tu { D with nx := Pv G2 (i + 1), ct := Pv G2 (i + 1), bk := tz D } σ2 H2 := fun i x σ' H' hx p => by
      obtain ⟨d, hd2, hr⟩ := ra_get' h2 hx
      rw [List.getElem?_map] at hd2
      cases ha : as[i]? with
      | none => rw [ha] at hd2; cases hd2
      | some b =>
        rw [ha] at hd2
        cases hd2
        exact hs G2 i b x σ' H' s.g ha hr p
    cases b with
    | true => exact ⟨a, rfl, .inl ⟨⟨xs, sq_of (s.gh _ _ h1)⟩, for_list (xs := xs) (Pv G2) (h0 G2 H2 s) (fun i σ' H' _ p => sq_of (hl G2 i σ' H' p _ _ h1)) turn (fun σ' H' p => hd G2 σ' H' s.g (lx ▸ p))⟩⟩
    | false => exact ⟨a, rfl, .inr ⟨⟨xs, st_t (xt (s.gh) h1)⟩, for_tup (xs := xs) (Pv G2) (h0 G2 H2 s) (fun i σ' H' _ p => st_t (xt (hl G2 i σ' H' p) h1)) turn (fun σ' H' p => hd G2 σ' H' s.g (lx ▸ p))⟩⟩
theorem w_forS1 {α : Type} {as : List α} {f : α → PyData} (h : EvD tl σ G (sq b (as.map f))) (e : Ex G H) (Pv : Hp → Nat → L2.St → Hp → Prop) (h0 : ∀ G2 H2, Stp G H G2 H2 → Pv G2 0 σ H2) (hl : ∀ G2 i σ' H', Pv G2 i σ' H' → Ex G2 H')
    (hs : ∀ G2 i a v σ' H', Ex G G2 → as[i]? = some a → Rp G2 v (f a) → Pv G2 i σ' H' → g v σ' H' fun σ2 H2 => tu { D with nx := Pv G2 (i + 1), ct := Pv G2 (i + 1), bk := D.nx } σ2 H2) (hd : ∀ G2 σ' H', Ex G G2 → Pv G2 as.length σ' H' → D.nx σ' H') : tFor (iSeq K tl) g tu D σ H := w_forS (tz := tNext) h e Pv h0 hl hs hd
theorem ed_lcS {α : Type} {vs : List Nat} {as : List α} {f y : α → PyData} {c : α → Bool} (S2 : α → Hp → L2.St → Prop) (h : EvD tl σ G (sq b (as.map f))) (hz : as.length < 100000)
    (hg : ∀ a ∈ as, ∀ v G' H', Ex G G' → Ex G' H' → Rp G' v (f a) → ∀ Q : L2.St → Hp → Prop, (∀ σ2, S2 a G' σ2 → wipe σ2 vs = wipe σ vs → Q σ2 H') → g v (wipe σ vs) H' Q)
    (hc : ∀ a ∈ as, ∀ G' G'' σ2, Ex G G' → Ex G' G'' → S2 a G' σ2 → EvC tt σ2 G'' (c a)) (hy : ∀ a ∈ as, c a = true → ∀ G' G'' σ2, Ex G G' → Ex G' G'' → S2 a G' σ2 → EvD te σ2 G'' (y a)) :
    EvD (tLc (iSeq K tl) g tt te vs) σ G (.list ((as.filter c).map y)) := fun H e Q q =>
  h H e _ fun v G1 H1 s hv => by
    cases b with
    | true =>
      obtain ⟨a, xs, rfl, h1, h2⟩ := rp_lst hv
      refine ⟨a, rfl, .inl ⟨⟨xs, sq_of (s.gh _ _ h1)⟩, fun Dl hD => ?_⟩⟩
      have r := ed_lcL (K := K) (tl := tC (.ref a)) (te := te) (tt := tt) (σ := σ) (G := G1) (g := g) (vs := vs) (as := as) (f := f) (y := y) (c := c) S2 (ed_c hv) hz (fun a ha v G' H' e1 => hg a ha v G' H' (s.g.trans e1)) (fun a ha G' G'' σ2 e1 => hc a ha G' G'' σ2 (s.g.trans e1)) (fun a ha hca G' G'' σ2 e1 => hy a ha hca G' G'' σ2 (s.g.trans e1)) H1 s.gh Q fun v G2 H2 s2 hv2 => q v G2 H2 (s.trans s2) hv2
      obtain ⟨a', e', _, w⟩ := r
      cases e'
      exact w Dl hD
    | false =>
      obtain ⟨a, xs, rfl, h1, h2⟩ := rp_tup hv
      refine ⟨a, rfl, .inr ⟨⟨xs, st_t (xt (s.gh) h1)⟩, fun Dl hD => ?_⟩⟩
      have r := ed_lcT (K := K) (tl := tC (.ref a)) (te := te) (tt := tt) (σ := σ) (G := G1) (g := g) (vs := vs) (as := as) (f := f) (y := y) (c := c) S2 (ed_c hv) hz (fun a ha v G' H' e1 => hg a ha v G' H' (s.g.trans e1)) (fun a ha G' G'' σ2 e1 => hc a ha G' G'' σ2 (s.g.trans e1)) (fun a ha hca G' G'' σ2 e1 => hy a ha hca G' G'' σ2 (s.g.trans e1)) H1 s.gh Q fun v G2 H2 s2 hv2 => q v G2 H2 (s.trans s2) hv2
      obtain ⟨a', e', _, w⟩ := r
      cases e'
      exact w Dl hD
/-- [y(c) for c in s if k(c)] over the signs of a text -/
theorem ed_lcC {vs : List Nat} {j : Nat} {x : Str} {y : Nat → PyData} {c : Nat → Bool} (h : EvD tl σ G (.str x)) (hz : (TL.tl x).length < 100000) (hw : ∀ x, wipe ((wipe σ vs).set j (some x)) vs = wipe σ vs)
    (hc : ∀ a ∈ TL.tl x, ∀ G', Ex G G' → EvC tt ((wipe σ vs).set j (some (.str ⟨#[a]⟩))) G' (c a)) (hy : ∀ a ∈ TL.tl x, c a = true → ∀ G', Ex G G' → EvD te ((wipe σ vs).set j (some (.str ⟨#[a]⟩))) G' (y a)) :
    EvD (tLc (iStr tl) (gName j) tt te vs) σ G (.list (((TL.tl x).filter c).map y)) := fun H e Q q =>
  h H e _ fun v G1 H1 s hv => ⟨x, rp_str hv, fun Dl hD => by
    refine lc_it walk_str (fun i H' => Cm G1 H1 Dl ((((TL.tl x).take i).filter c).map y) H') ?_ (fun _ _ _ _ => True.intro) (fun i v H0 H' hi p yy => ?_) (fun H' p => ?_)
    · exact ⟨G1, [], ⟨Ex.refl _, s.gh.trans (Ex.new hD), Ex.new hD, fun _ _ _ => rfl⟩, fresh_back s.gh hD, upd_same, .nil⟩
    · obtain ⟨rfl, a, ha, rfl⟩ := yy
      have ha' : (TL.tl x)[i]? = some a := by
        unfold TL.tl
        rw [Array.getElem?_toList]
        exact ha
      have hb : a ∈ TL.tl x := List.mem_of_getElem? ha'
      refine ⟨hw _, ?_⟩
      rw [filter_take c y (TL.tl x) i a ha']
      exact cm_turn hD p (Nat.lt_of_le_of_lt (filter_len c y (TL.tl x) i) hz) (fun G' e1 _ => hc a hb G' (s.g.trans e1)) (fun hcb G' e1 => hy a hb hcb G' (s.g.trans e1))
    · have lx : x.cps.size = (TL.tl x).length := by
        unfold TL.tl
        simp
      rw [lx, List.take_length] at p
      obtain ⟨G2, s2, r⟩ := cm_end hD p
      exact q _ G2 H' (s.trans s2) r⟩
/-! ### isinstance -/
def tyD : PyData → String
  | .none => "NoneType"
  | .bool _ => "bool"
  | .int _ => "int"
  | .str _ => "str"
  | .list _ => "list"
  | .tuple _ => "tuple"
  | .dict _ => "dict"
theorem ty_of {v : V} (h : Rp G v d) (hn : tyD d ≠ "tuple") : TyX K G v (.type (tyD d)) := by
  cases h with
  | non => exact .base .non
  | bl b => exact .base (.bl b)
  | int i => exact .base (.int i)
  | str x => exact .base (.str x)
  | lst h _ => exact .base (.lst h)
  | tup h _ => exact absurd rfl hn
theorem ed_isi {T : String} {r : Bool} (h : EvD te σ G d) (hk : kitB (tyD d) T = some r) (hn : tyD d ≠ "tuple" := by simp [tyD]) : EvD (tCB (rIsi K) (tCons te (tCons (tC (.ty T)) tNil))) σ G (.bool r) := fun H e Q q =>
  h H e _ fun v G2 H2 s hv => ⟨v, .ty T, .type (tyD d), .type T, r, rfl, .ty T, ty_of (rp_mono s.gh _ _ hv) hn, kit_ty hk, q _ G2 H2 s (.bl r)⟩
/-! ### f-strings -/
theorem ed_f2 {a x : Str} (h : EvD te σ G (.str x)) (ha : a.length ≤ 1000) (hx : x.length ≤ 100000) : EvD (fun σ H Q => tJs [tC (.str a), tFmt te] Str.empty σ H fun out H1 => Q (.str out) H1) σ G (.str (Str.empty ++ a ++ x)) := fun H e Q q => by
  have e0 : Str.empty.length = 0 := rfl
  refine ⟨a, rfl, by rw [strLen_append, sizeLine_eq]; omega, h H e _ fun v G2 H2 s hv => .inl ⟨x, rp_str hv, by rw [sizeLine_eq]; omega, x, rfl, by rw [strLen_append, strLen_append, sizeLine_eq]; omega, q _ G2 H2 s (.str _)⟩⟩
end
end Fw

namespace Fw
open PySem PySem.Spec PyProof.Rows L2 Evl
/-! ### the rules with the written part said -/
section
variable {X : Cx} (K : PySem.W.Frag) (hK : X.K = K)
include hK
theorem k_addU : OpR X (binaryOp .Add) (rAddU K) := hK ▸ op_addU
theorem k_inU : OpR X (compareOp .In) (rInU K false) := hK ▸ op_inU
theorem k_notInU : OpR X (compareOp .NotIn) (rInU K true) := hK ▸ op_notInU
theorem k_eqD (hu : X.A.units + 64 < cLine) : OpR X (compareOp .Eq) (rEqD K) := hK ▸ op_eqD hu
theorem k_neD (hu : X.A.units + 64 < cLine) : OpR X (compareOp .NotEq) (rNeD K) := hK ▸ op_neD hu
theorem k_ix : IxR X (rIx K) := hK ▸ ix_seq
theorem k_sl : SlR X (rSlU K) := hK ▸ sl_U
theorem k_len : CallR X (.builtin "len") (rLenU K) := hK ▸ c_len
theorem k_list : CallR X (.type "list") (rListU K) := hK ▸ c_list
theorem k_tup : CallR X (.type "tuple") (rTupU K) := hK ▸ c_tup
theorem k_all (hc : X.calm = true) : CallR X (.builtin "all") (rAll K) := hK ▸ cr_all hc
theorem k_isi : CallR X (.builtin "isinstance") (rIsi K) := hK ▸ call_isi
theorem k_piL {tg l : Expr} {tl : TE} (hl : PE X l tl) : PI X tg l (iList K tl) := hK ▸ pi_list hl
theorem k_piT {tg l : Expr} {tl : TE} (hl : PE X l tl) : PI X tg l (iTup K tl) := hK ▸ pi_tup hl
theorem k_piS {tg l : Expr} {tl : TE} (hl : PE X l tl) : PI X tg l (iSeq K tl) := hK ▸ pi_seq hl
theorem k_tgt {es : List Expr} {k : Nat} {t : TGs} {n : Nat} {pos : Pos} (hc : X.calm = true) (h : PGs X es t) (hn : (assignEach es X.env).length = n := by rfl) (hst : (assignEach es X.env).findIdx? (·.1) = none := by rfl) : PG X (.Tuple es k pos) (gTup K n t) := by
  subst hK
  exact pg_tup hc h hn hst
theorem k_fld {e : Expr} {ta : TE} {f : Str} {pos : Pos} (he : PE X e ta) (hb : attributeBase e f X.env (eval e X.env) = eval e X.env) : PE X (.Attribute e f pos) (tFld K ta f) := by
  subst hK
  exact pe_fld he hb
end
section
variable {X : Cx}
theorem pe_gstr {x y : Str} {t : Tok} {pos : Pos} (hg : Gl X x) (hm : X.mg x = some (.str y t)) (hd : (x == ("__debug__" : Str)) = false := by decide) : PE X (.Name x pos) (tC (.str y)) := pe_glob hg hm ⟨_, rfl⟩ hd
theorem pe_gint {x : Str} {y : Int} {t : Tok} {pos : Pos} (hg : Gl X x) (hm : X.mg x = some (.int y t)) (hd : (x == ("__debug__" : Str)) = false := by decide) : PE X (.Name x pos) (tC (.int y)) := pe_glob hg hm ⟨_, rfl⟩ hd
theorem pe_ty {x : Str} {T : String} {pos : Pos} (hg : Gl X x) (hm : X.mg x = none) (hv : bootBuiltins x = some (.type T)) (hn : x ≠ "__name__" := by decide) (hd : (x == ("__debug__" : Str)) = false := by decide) : PE X (.Name x pos) (tC (.ty T)) := pe_bltn hg hm hv rfl hn hd
end
section
variable {K : PySem.W.Frag} {σ : L2.St} {G G' H H' : Hp} {te ta tb tl : TE} {t tt : TT} {d : PyData} {D : Ends} {tu tw tz : TS} {g : TG} {b : Bool} {ds : List PyData}
theorem w_asg (h : EvH te σ G H d) (k : ∀ v G2 H2, Stp G H G2 H2 → Rp G2 v d → g v σ H2 fun σ' H' => tz D σ' H') : tSeq (tAsg te g) tz D σ H := h _ fun v G2 H2 s hv => k v G2 H2 s hv
theorem w_asg1 (h : EvH te σ G H d) (k : ∀ v G2 H2, Stp G H G2 H2 → Rp G2 v d → g v σ H2 fun σ' H' => D.nx σ' H') : tAsg te g D σ H := h _ fun v G2 H2 s hv => k v G2 H2 s hv
theorem h_run {Q : VK} (h : EvH te σ G H d) (k : ∀ v G2 H2, Stp G H G2 H2 → Rp G2 v d → Q v H2) : te σ H Q := h Q k
theorem h_runV {Q : VK} {v : V} (e : Ex G H) (h : ∀ H, Ex G H → ∀ Q : VK, (∀ G2 H2, Stp G H G2 H2 → Q v H2) → te σ H Q) (k : ∀ G2 H2, Stp G H G2 H2 → Q v H2) : te σ H Q := h H e Q k
theorem ed_is {d f : PyData} (e : d = f) (h : EvD te σ G d) : EvD te σ G f := e ▸ h
theorem ec_is {b c : Bool} (e : b = c) (h : EvC t σ G b) : EvC t σ G c := e ▸ h
/-! comprehensions whose target is one name -/
theorem ed_lcS1 {α : Type} {vs : List Nat} {j : Nat} {as : List α} {f y : α → PyData} {c : α → Bool} (h : EvD tl σ G (sq b (as.map f))) (hz : as.length < 100000) (hw : ∀ x, wipe ((wipe σ vs).set j (some x)) vs = wipe σ vs)
    (hc : ∀ a ∈ as, ∀ u G', Ex G G' → Rp G' u (f a) → EvC tt ((wipe σ vs).set j (some u)) G' (c a)) (hy : ∀ a ∈ as, c a = true → ∀ u G', Ex G G' → Rp G' u (f a) → EvD te ((wipe σ vs).set j (some u)) G' (y a)) :
    EvD (tLc (iSeq K tl) (gName j) tt te vs) σ G (.list ((as.filter c).map y)) :=
  ed_lcS (fun a G' σ2 => ∃ u, σ2 = (wipe σ vs).set j (some u) ∧ Rp G' u (f a)) h hz (fun a _ v G' H' _ _ hv Q q => q _ ⟨v, rfl, hv⟩ (hw _)) (fun a ha G' G'' σ2 e1 e2 hS => by
    obtain ⟨u, rfl, hu⟩ := hS
    exact hc a ha u G'' (e1.trans e2) (rp_mono e2 _ _ hu)) (fun a ha hca G' G'' σ2 e1 e2 hS => by
    obtain ⟨u, rfl, hu⟩ := hS
    exact hy a ha hca u G'' (e1.trans e2) (rp_mono e2 _ _ hu))
theorem ed_lcT1 {α : Type} {vs : List Nat} {j : Nat} {as : List α} {f y : α → PyData} {c : α → Bool} (h : EvD tl σ G (.tuple (as.map f))) (hz : as.length < 100000) (hw : ∀ x, wipe ((wipe σ vs).set j (some x)) vs = wipe σ vs)
    (hc : ∀ a ∈ as, ∀ u G', Ex G G' → Rp G' u (f a) → EvC tt ((wipe σ vs).set j (some u)) G' (c a)) (hy : ∀ a ∈ as, c a = true → ∀ u G', Ex G G' → Rp G' u (f a) → EvD te ((wipe σ vs).set j (some u)) G' (y a)) :
    EvD (tLc (iTup K tl) (gName j) tt te vs) σ G (.list ((as.filter c).map y)) :=
  ed_lcT (fun a G' σ2 => ∃ u, σ2 = (wipe σ vs).set j (some u) ∧ Rp G' u (f a)) h hz (fun a _ v G' H' _ _ hv Q q => q _ ⟨v, rfl, hv⟩ (hw _)) (fun a ha G' G'' σ2 e1 e2 hS => by
    obtain ⟨u, rfl, hu⟩ := hS
    exact hc a ha u G'' (e1.trans e2) (rp_mono e2 _ _ hu)) (fun a ha hca G' G'' σ2 e1 e2 hS => by
    obtain ⟨u, rfl, hu⟩ := hS
    exact hy a ha hca u G'' (e1.trans e2) (rp_mono e2 _ _ hu))
theorem ed_lcL1 {α : Type} {vs : List Nat} {j : Nat} {as : List α} {f y : α → PyData} {c : α → Bool} (h : EvD tl σ G (.list (as.map f))) (hz : as.length < 100000) (hw : ∀ x, wipe ((wipe σ vs).set j (some x)) vs = wipe σ vs)
    (hc : ∀ a ∈ as, ∀ u G', Ex G G' → Rp G' u (f a) → EvC tt ((wipe σ vs).set j (some u)) G' (c a)) (hy : ∀ a ∈ as, c a = true → ∀ u G', Ex G G' → Rp G' u (f a) → EvD te ((wipe σ vs).set j (some u)) G' (y a)) :
    EvD (tLc (iList K tl) (gName j) tt te vs) σ G (.list ((as.filter c).map y)) :=
  ed_lcL (fun a G' σ2 => ∃ u, σ2 = (wipe σ vs).set j (some u) ∧ Rp G' u (f a)) h hz (fun a _ v G' H' _ _ hv Q q => q _ ⟨v, rfl, hv⟩ (hw _)) (fun a ha G' G'' σ2 e1 e2 hS => by
    obtain ⟨u, rfl, hu⟩ := hS
    exact hc a ha u G'' (e1.trans e2) (rp_mono e2 _ _ hu)) (fun a ha hca G' G'' σ2 e1 e2 hS => by
    obtain ⟨u, rfl, hu⟩ := hS
    exact hy a ha hca u G'' (e1.trans e2) (rp_mono e2 _ _ hu))
theorem lc_all {α : Type} {as : List α} {y : α → PyData} {xs : List PyData} (h : as.map y = xs) : PyData.list ((as.filter fun _ => true).map y) = .list xs := by
  rw [List.filter_eq_self.mpr (fun _ _ => rfl), h]
/-! calls that may raise -/
theorem call_at {sp : Sp} {E : XK} {ta : TA} {Q : VK} (h : EvS ta σ G ds) (e : Ex G H) (k : ∀ vs G2 H2, Stp G H G2 H2 → RpAll G2 vs ds → sp (vs ++ []) H2 Q E) : tCall sp [] E ta σ H Q := h H e _ k
theorem w_callD {sp : Sp} {E : XK} {ta : TA} (h : EvS ta σ G ds) (e : Ex G H) (k : ∀ vs G2 H2, Stp G H G2 H2 → RpAll G2 vs ds → sp (vs ++ []) H2 (fun _ H' => tz D σ H') E) : tSeq (tDrop (tCall sp [] E ta)) tz D σ H := h H e _ k
theorem w_callS {sp : Sp} {E : XK} {ta : TA} {i : Nat} (h : EvS ta σ G ds) (e : Ex G H) (k : ∀ vs G2 H2, Stp G H G2 H2 → RpAll G2 vs ds → sp (vs ++ []) H2 (fun v H' => tz D (σ.set i (some v)) H') E) : tSeq (tAsg (tCall sp [] E ta) (gName i)) tz D σ H := h H e _ k
theorem w_callG {sp : Sp} {E : XK} {ta : TA} (h : EvS ta σ G ds) (e : Ex G H) (k : ∀ vs G2 H2, Stp G H G2 H2 → RpAll G2 vs ds → sp (vs ++ []) H2 (fun v H' => g v σ H' fun σ' H' => tz D σ' H') E) : tSeq (tAsg (tCall sp [] E ta) g) tz D σ H := h H e _ k
theorem w_callR {sp : Sp} {E : XK} {ta : TA} (h : EvS ta σ G ds) (e : Ex G H) (k : ∀ vs G2 H2, Stp G H G2 H2 → RpAll G2 vs ds → sp (vs ++ []) H2 D.rt E) : tRet (tCall sp [] E ta) D σ H := h H e _ k
/-! arguments that are data or objects -/
def EvV (te : TE) (σ : L2.St) (G : Hp) (v : V) : Prop := ∀ H, Ex G H → ∀ Q : VK, (∀ G2 H2, Stp G H G2 H2 → Q v H2) → te σ H Q
def EvSP (ta : TA) (σ : L2.St) (G : Hp) (P : Hp → List V → Prop) : Prop := ∀ H, Ex G H → ∀ Q : List V → Hp → Prop, (∀ vs G2 H2, Stp G H G2 H2 → P G2 vs → Q vs H2) → ta σ H Q
theorem ev_v {j : Nat} {v : V} (h : σ[j]? = some (some v)) : EvV (tVar j) σ G v := fun H e Q q => ⟨v, h, q G H (Stp.refl e)⟩
theorem EvV.mono {v : V} (x : Ex G G') (h : EvV te σ G v) : EvV te σ G' v := fun H e Q q => h H (x.trans e) Q fun G2 H2 s => q _ H2 (s.up x e).1
theorem ep_nil : EvSP tNil σ G (fun _ vs => vs = []) := fun H e Q q => q [] G H (Stp.refl e) rfl
theorem ep_D {tr : TA} {P : Hp → List V → Prop} (h : EvD te σ G d) (hr : ∀ G', Ex G G' → EvSP tr σ G' P) : EvSP (tCons te tr) σ G (fun G vs => ∃ v r, vs = v :: r ∧ Rp G v d ∧ P G r) := fun H e Q q =>
  h H e _ fun v G2 H2 s1 h1 => hr G2 s1.g H2 s1.gh _ fun vs G3 H3 s2 h2 => q _ G3 H3 (s1.trans s2) ⟨v, vs, rfl, rp_mono s2.g _ _ h1, h2⟩
theorem ep_V {tr : TA} {P : Hp → List V → Prop} {v : V} (h : EvV te σ G v) (hr : ∀ G', Ex G G' → EvSP tr σ G' P) : EvSP (tCons te tr) σ G (fun G vs => ∃ r, vs = v :: r ∧ P G r) := fun H e Q q =>
  h H e _ fun G2 H2 s1 => hr G2 s1.g H2 s1.gh _ fun vs G3 H3 s2 h2 => q _ G3 H3 (s1.trans s2) ⟨vs, rfl, h2⟩
section
variable {sp : Sp} {E : XK} {ta : TA} {P : Hp → List V → Prop}
theorem p_call {Q : VK} (h : EvSP ta σ G P) (e : Ex G H) (k : ∀ vs G2 H2, Stp G H G2 H2 → P G2 vs → sp (vs ++ []) H2 Q E) : tCall sp [] E ta σ H Q := h H e _ k
theorem p_callD (h : EvSP ta σ G P) (e : Ex G H) (k : ∀ vs G2 H2, Stp G H G2 H2 → P G2 vs → sp (vs ++ []) H2 (fun _ H' => tz D σ H') E) : tSeq (tDrop (tCall sp [] E ta)) tz D σ H := h H e _ k
theorem p_callS {i : Nat} (h : EvSP ta σ G P) (e : Ex G H) (k : ∀ vs G2 H2, Stp G H G2 H2 → P G2 vs → sp (vs ++ []) H2 (fun v H' => tz D (σ.set i (some v)) H') E) : tSeq (tAsg (tCall sp [] E ta) (gName i)) tz D σ H := h H e _ k
theorem p_callG (h : EvSP ta σ G P) (e : Ex G H) (k : ∀ vs G2 H2, Stp G H G2 H2 → P G2 vs → sp (vs ++ []) H2 (fun v H' => g v σ H' fun σ' H' => tz D σ' H') E) : tSeq (tAsg (tCall sp [] E ta) g) tz D σ H := h H e _ k
theorem p_callR (h : EvSP ta σ G P) (e : Ex G H) (k : ∀ vs G2 H2, Stp G H G2 H2 → P G2 vs → sp (vs ++ []) H2 D.rt E) : tRet (tCall sp [] E ta) D σ H := h H e _ k
end
theorem w_retV {v : V} (h : EvV te σ G v) (e : Ex G H) (k : ∀ G2 H2, Stp G H G2 H2 → D.rt v H2) : tRet te D σ H := h H e _ k
end
end Fw

namespace Fw
open PySem PySem.Spec PyProof.Rows L2 Evl
/-! ### dicts of one's own -/
structure OwnD (G H : Hp) (p : Addr) (kvs : List (Key × V)) (G' H' : Hp) : Prop where
  s : Stp G H G' H'
  n : H p = none
  g : G' p = none
  at_ : H' p = some (.dK kvs)
structure OwnT (G H : Hp) (p : Addr) (kvs : List (List Key × V)) (G' H' : Hp) : Prop where
  s : Stp G H G' H'
  n : H p = none
  g : G' p = none
  at_ : H' p = some (.dT kvs)
/-- an exception class of the program's own -/
structure Xc (K : PySem.W.Frag) (mg : Str → Option Value) (x : Str) (C : Addr) : Prop where
  g : mg x = some (.ref C)
  ex : PySem.W.excIn K C [.type "ValueError", .type "Exception", .type "BaseException", .type "object"] "ValueError.__new__" = true
  kp : PySem.W.keepIn K (.ref C) = true
  sub : PySem.W.subIn K (.ref C) (.type "BaseException") = some true
  ty : PySem.W.typeIn K (.ref C) = some (.type "type")
  is : PySem.W.isClsIn K C = true
  self : PySem.W.subIn K (.ref C) (.ref C) = some true
section
variable {K : PySem.W.Frag} {σ : L2.St} {G H G' H' G2 H2 : Hp} {p : Addr} {te : TE} {d : PyData} {D : Ends} {tz : TS} {E : XK} {C : Addr}
theorem OwnD.new (e : Ex G H) (h : H p = none) : OwnD G H p [] G (upd H p (.dK [])) := ⟨⟨Ex.refl _, e.trans (Ex.new h), Ex.new h, fun _ _ _ => rfl⟩, h, fresh_back e h, upd_same⟩
theorem OwnD.step {kvs : List (Key × V)} (o : OwnD G H p kvs G' H') (s : Stp G' H' G2 H2) : OwnD G H p kvs G2 H2 := ⟨o.s.trans s, o.n, s.none o.at_ o.g, s.h _ _ o.at_⟩
theorem OwnD.put {kvs kvs' : List (Key × V)} (o : OwnD G H p kvs G' H') : OwnD G H p kvs' G' (upd H' p (.dK kvs')) := ⟨⟨o.s.g, Ex.mut o.s.gh o.g, Ex.mut o.s.h o.n, o.s.f⟩, o.n, o.g, upd_same⟩
theorem OwnD.done {kvs : List (Key × V)} (o : OwnD G H p kvs G' H') : Stp G H (upd G' p (.dK kvs)) H' ∧ Ex G' (upd G' p (.dK kvs)) := by
  refine ⟨⟨o.s.g.trans (Ex.new o.g), fun a u q => ?_, o.s.h, fun a u q => (upd_ne (ne_of_none q o.n)).trans (o.s.f a u q)⟩, Ex.new o.g⟩
  by_cases hp : a = p
  · subst hp
    rw [upd_same] at q
    rw [o.at_]
    exact q
  · rw [upd_ne hp] at q
    exact o.s.gh a u q
theorem OwnT.new (e : Ex G H) (h : H p = none) : OwnT G H p [] G (upd H p (.dT [])) := ⟨⟨Ex.refl _, e.trans (Ex.new h), Ex.new h, fun _ _ _ => rfl⟩, h, fresh_back e h, upd_same⟩
theorem OwnT.step {kvs : List (List Key × V)} (o : OwnT G H p kvs G' H') (s : Stp G' H' G2 H2) : OwnT G H p kvs G2 H2 := ⟨o.s.trans s, o.n, s.none o.at_ o.g, s.h _ _ o.at_⟩
theorem OwnT.put {kvs kvs' : List (List Key × V)} (o : OwnT G H p kvs G' H') : OwnT G H p kvs' G' (upd H' p (.dT kvs')) := ⟨⟨o.s.g, Ex.mut o.s.gh o.g, Ex.mut o.s.h o.n, o.s.f⟩, o.n, o.g, upd_same⟩
theorem OwnT.done {kvs : List (List Key × V)} (o : OwnT G H p kvs G' H') : Stp G H (upd G' p (.dT kvs)) H' ∧ Ex G' (upd G' p (.dT kvs)) := by
  refine ⟨⟨o.s.g.trans (Ex.new o.g), fun a u q => ?_, o.s.h, fun a u q => (upd_ne (ne_of_none q o.n)).trans (o.s.f a u q)⟩, Ex.new o.g⟩
  by_cases hp : a = p
  · subst hp
    rw [upd_same] at q
    rw [o.at_]
    exact q
  · rw [upd_ne hp] at q
    exact o.s.gh a u q
theorem w_raise1 (h : EvH te σ G H d) (k : ∀ G2 H2, Stp G H G2 H2 → E (.ref C) none H2) : te σ H fun _ H1 => E (.ref C) none H1 := h _ fun v G2 H2 s _ => k G2 H2 s
end
section
variable {K : PySem.W.Frag} {σ : L2.St} {G H G' H' : Hp} {p : Addr} {te tv : TE} {d : PyData} {D : Ends} {tz : TS} {j : Nat} {kvs : List (Key × V)} {n : Str} {dv : PyData}
/-- in a dict that stands; key a text -/
theorem ec_din (hs : σ[j]? = some (some (.ref p))) (hp : H p = some (.dK kvs)) (h : EvH te σ G H (.str n)) : EvCH (tB (tDIn te (tVar j))) σ G H (valV kvs (Sum.inr n)).isSome := fun Q q => h _ fun v G2 H2 s hv =>
  ⟨.ref p, hs, p, _, rfl, (rp_str hv) ▸ DGet.k (k := Sum.inr n) (s.h _ _ hp), _, rfl, q G2 H2 s⟩
theorem ec_dnin (hs : σ[j]? = some (some (.ref p))) (hp : H p = some (.dK kvs)) (h : EvH te σ G H (.str n)) : EvCH (tB (tDNotIn te (tVar j))) σ G H (!(valV kvs (Sum.inr n)).isSome) := fun Q q => h _ fun v G2 H2 s hv =>
  ⟨.ref p, hs, p, _, rfl, (rp_str hv) ▸ DGet.k (k := Sum.inr n) (s.h _ _ hp), _, rfl, q G2 H2 s⟩
theorem ec_dini {i : Int} (hs : σ[j]? = some (some (.ref p))) (hp : H p = some (.dK kvs)) (h : EvH te σ G H (.int i)) : EvCH (tB (tDIn te (tVar j))) σ G H (valV kvs (Sum.inl i)).isSome := fun Q q => h _ fun v G2 H2 s hv =>
  ⟨.ref p, hs, p, _, rfl, (rp_int hv) ▸ DGet.k (k := Sum.inl i) (s.h _ _ hp), _, rfl, q G2 H2 s⟩
/-- d[k] = v, a dict of one's own -/
theorem w_dput (hs : σ[j]? = some (some (.ref p))) {G0 H0 : Hp} (o : OwnD G0 H0 p kvs G H) (hv : EvH tv σ G H dv) (hk : ∀ G2 H2, Stp G H G2 H2 → EvH te σ G2 H2 (.str n)) (hl : kvs.length < 100000)
    (k : ∀ v G2 H2, Stp G H G2 H2 → Rp G2 v dv → OwnD G0 H0 p (putK kvs (Sum.inr n) v) G2 (upd H2 p (.dK (putK kvs (Sum.inr n) v))) → D.nx σ (upd H2 p (.dK (putK kvs (Sum.inr n) v)))) : sDPut (tVar j) te tv D σ H :=
  hv _ fun v G2 H2 s r => ⟨.ref p, hs, hk G2 H2 s _ fun y G3 H3 s3 ry => ⟨p, _, rfl, (rp_str ry) ▸ DPut.k (k := Sum.inr n) (s3.h _ _ (s.h _ _ o.at_)) (sz_lt hl), k v G3 H3 (s.trans s3) (rp_mono s3.g _ _ r) (OwnD.put (o.step (s.trans s3)))⟩⟩
theorem w_dputi {i : Int} (hs : σ[j]? = some (some (.ref p))) {G0 H0 : Hp} (o : OwnD G0 H0 p kvs G H) (hv : EvH tv σ G H dv) (hk : ∀ G2 H2, Stp G H G2 H2 → EvH te σ G2 H2 (.int i)) (hl : kvs.length < 100000)
    (k : ∀ v G2 H2, Stp G H G2 H2 → Rp G2 v dv → OwnD G0 H0 p (putK kvs (Sum.inl i) v) G2 (upd H2 p (.dK (putK kvs (Sum.inl i) v))) → D.nx σ (upd H2 p (.dK (putK kvs (Sum.inl i) v)))) : sDPut (tVar j) te tv D σ H :=
  hv _ fun v G2 H2 s r => ⟨.ref p, hs, hk G2 H2 s _ fun y G3 H3 s3 ry => ⟨p, _, rfl, (rp_int ry) ▸ DPut.k (k := Sum.inl i) (s3.h _ _ (s.h _ _ o.at_)) (sz_lt hl), k v G3 H3 (s.trans s3) (rp_mono s3.g _ _ r) (OwnD.put (o.step (s.trans s3)))⟩⟩
theorem w_noneD (k : D.nx σ H) : tNext D σ H := k
end
theorem val_ints {v : V} (m : Int) : ∀ l : List Int, (valV (l.map fun n => ((Sum.inl n : Key), v)) (Sum.inl m)).isSome = decide (m ∈ l)
  | [] => rfl
  | n :: l => by
    by_cases h : n = m
    · subst h
      rw [List.map_cons, valV_pos rfl]
      simp
    · rw [List.map_cons, valV_neg (fun e => h (Sum.inl.inj e)), val_ints m l]
      have : ¬ m = n := fun e => h e.symm
      simp [this]
theorem val_none_of {κ : Type} [DecidableEq κ] {kvs : List (κ × V)} {k : κ} (h : (valV kvs k).isSome = false) : valV kvs k = none := by
  cases hh : valV kvs k with
  | none => rfl
  | some v => rw [hh] at h; cases h
theorem val_names {v : V} (m : Str) : ∀ l : List Str, (valV (l.map fun n => ((Sum.inr n : Key), v)) (Sum.inr m)).isSome = decide (m ∈ l)
  | [] => rfl
  | n :: l => by
    by_cases h : n = m
    · subst h
      rw [List.map_cons, valV_pos rfl]
      simp
    · rw [List.map_cons, valV_neg (fun e => h (Sum.inr.inj e)), val_names m l]
      have : ¬ m = n := fun e => h e.symm
      simp [this]
/-! ### keys that are tuples; what stands in dicts -/
def kD : Key → PyData
  | .inl i => .int i
  | .inr x => .str x
theorem ra_keys {G : Hp} : ∀ {ks : List Key} {vs : List V}, RpAll G vs (ks.map kD) → vs = ks.map kV
  | [], _, h => by cases h; rfl
  | .inl i :: ks, _, h => by
    cases h with
    | cons h1 h2 => rw [rp_int h1, ra_keys h2]; rfl
  | .inr x :: ks, _, h => by
    cases h with
    | cons h1 h2 => rw [rp_str h1, ra_keys h2]; rfl
/-- an expression that is a key of a dict: a tuple, just made -/
def EvK (te : TE) (σ : L2.St) (G : Hp) (ks : List Key) : Prop := ∀ H, Ex G H → ∀ Q : VK, (∀ b G2 H2, Stp G H G2 H2 → G2 b = some (.tup (ks.map kV)) → Q (.ref b) H2) → te σ H Q
def EvKH (te : TE) (σ : L2.St) (G H : Hp) (ks : List Key) : Prop := ∀ Q : VK, (∀ b G2 H2, Stp G H G2 H2 → G2 b = some (.tup (ks.map kV)) → Q (.ref b) H2) → te σ H Q
theorem EvK.mono {te : TE} {σ : L2.St} {G G' : Hp} {ks : List Key} (x : Ex G G') (h : EvK te σ G ks) : EvK te σ G' ks := fun H e Q q => h H (x.trans e) Q fun b G2 H2 s hb => q b _ H2 (s.up x e).1 ((s.up x e).2 _ _ hb)
theorem ek_at {te : TE} {σ : L2.St} {G H : Hp} {ks : List Key} (e : Ex G H) (h : EvK te σ G ks) : EvKH te σ G H ks := fun Q q => h H e Q q
theorem ek_tup {ta : TA} {σ : L2.St} {G : Hp} {ks : List Key} (h : EvS ta σ G (ks.map kD)) (hl : ks.length ≤ 100000) : EvK (tTup ta) σ G ks := fun H e Q q =>
  h H e _ fun vs G2 H2 s hv => ⟨sz_of (by rw [ra_len hv, List.length_map]; exact hl), fun p hp => by
    have ev := ra_keys hv
    subst ev
    exact q p _ _ (s.trans (Stp.new s.gh hp)) upd_same⟩
/-- a key that stands -/
theorem ek_var {i : Nat} {σ : L2.St} {G : Hp} {b : Addr} {ks : List Key} (h : σ[i]? = some (some (.ref b))) (hb : G b = some (.tup (ks.map kV))) : EvK (tVar i) σ G ks := fun H e Q q => ⟨.ref b, h, q b G H (Stp.refl e) hb⟩
section
variable {σ : L2.St} {G H G' H' : Hp} {p a : Addr} {te tv td ty : TE} {d : PyData} {D : Ends} {tz : TS} {j : Nat} {kvs : List (Key × V)} {kts : List (List Key × V)} {n : Str} {dv : PyData} {ks : List Key} {u : V}
theorem ed_dget (hs : σ[j]? = some (some (.ref a))) (ha : G a = some (.dK kvs)) (h : EvD ty σ G (.str n)) (hv : valV kvs (Sum.inr n) = some u) (hu : Rp G u d) : EvD (tDGet (tVar j) ty) σ G d := fun H e Q q =>
  ⟨.ref a, hs, h H e _ fun v G2 H2 s r => ⟨a, u, rfl, (rp_str r) ▸ hv ▸ DGet.k (k := Sum.inr n) (s.gh _ _ (s.g _ _ ha)), q u G2 H2 s (rp_mono s.g _ _ hu)⟩⟩
theorem ed_dgetT (hs : σ[j]? = some (some (.ref a))) (ha : G a = some (.dT kts)) (h : EvK ty σ G ks) (hv : valV kts ks = some u) (hu : Rp G u d) : EvD (tDGet (tVar j) ty) σ G d := fun H e Q q =>
  ⟨.ref a, hs, h H e _ fun b G2 H2 s hb => by
    exact ⟨a, u, rfl, hv ▸ DGet.t (k := ks) (s.gh _ _ (s.g _ _ ha)) (s.gh _ _ hb), q u G2 H2 s (rp_mono s.g _ _ hu)⟩⟩
theorem ec_dinD (hs : σ[j]? = some (some (.ref a))) (ha : G a = some (.dK kvs)) (h : EvD ty σ G (.str n)) : EvC (tB (tDIn ty (tVar j))) σ G (valV kvs (Sum.inr n)).isSome := fun H e Q q =>
  h H e _ fun v G2 H2 s r => ⟨.ref a, hs, a, _, rfl, (rp_str r) ▸ DGet.k (k := Sum.inr n) (s.gh _ _ (s.g _ _ ha)), _, rfl, q G2 H2 s⟩
theorem ec_dninD (hs : σ[j]? = some (some (.ref a))) (ha : G a = some (.dK kvs)) (h : EvD ty σ G (.str n)) : EvC (tB (tDNotIn ty (tVar j))) σ G (!(valV kvs (Sum.inr n)).isSome) := fun H e Q q =>
  h H e _ fun v G2 H2 s r => ⟨.ref a, hs, a, _, rfl, (rp_str r) ▸ DGet.k (k := Sum.inr n) (s.gh _ _ (s.g _ _ ha)), _, rfl, q G2 H2 s⟩
theorem ec_dninT (hs : σ[j]? = some (some (.ref a))) (ha : G a = some (.dT kts)) (h : EvK ty σ G ks) : EvC (tB (tDNotIn ty (tVar j))) σ G (!(valV kts ks).isSome) := fun H e Q q =>
  h H e _ fun b G2 H2 s hb => by
    exact ⟨.ref a, hs, a, _, rfl, DGet.t (k := ks) (s.gh _ _ (s.g _ _ ha)) (s.gh _ _ hb), _, rfl, q G2 H2 s⟩
/-- in a dict of one's own, keys tuples -/
theorem ec_dinTO (hs : σ[j]? = some (some (.ref p))) (hp : H p = some (.dT kts)) (h : EvKH te σ G H ks) : EvCH (tB (tDIn te (tVar j))) σ G H (valV kts ks).isSome := fun Q q => h _ fun b G2 H2 s hb => by
    exact ⟨.ref p, hs, p, _, rfl, DGet.t (k := ks) (s.h _ _ hp) (s.gh _ _ hb), _, rfl, q G2 H2 s⟩
theorem w_dputT (hs : σ[j]? = some (some (.ref p))) {G0 H0 : Hp} (o : OwnT G0 H0 p kts G H) (hv : EvH tv σ G H dv) (hk : ∀ G2 H2, Stp G H G2 H2 → EvKH te σ G2 H2 ks) (hl : kts.length < 100000)
    (k : ∀ v G2 H2, Stp G H G2 H2 → Rp G2 v dv → OwnT G0 H0 p (putK kts ks v) G2 (upd H2 p (.dT (putK kts ks v))) → D.nx σ (upd H2 p (.dT (putK kts ks v)))) : sDPut (tVar j) te tv D σ H :=
  hv _ fun v G2 H2 s r => ⟨.ref p, hs, hk G2 H2 s _ fun b G3 H3 s3 hb => by
    exact ⟨p, _, rfl, DPut.t (k := ks) (s3.h _ _ (s.h _ _ o.at_)) (s3.gh _ _ hb) (sz_lt hl), k v G3 H3 (s.trans s3) (rp_mono s3.g _ _ r) (OwnT.put (o.step (s.trans s3)))⟩⟩
end
/-! ### keys and values, one beside the other -/
def zK (ks : List Str) (us : List V) : List (Key × V) := (ks.zip us).map fun q => (Sum.inr q.1, q.2)
theorem zK_snoc {ks : List Str} {us : List V} {k : Str} {u : V} (h : us.length = ks.length) : zK (ks ++ [k]) (us ++ [u]) = zK ks us ++ [(Sum.inr k, u)] := by
  unfold zK
  rw [List.zip_append h.symm, List.map_append]
  rfl
theorem zK_none (k : Str) : ∀ {ks : List Str} {us : List V}, k ∉ ks → valV (zK ks us) (Sum.inr k) = none
  | [], _, _ => rfl
  | _ :: _, [], _ => rfl
  | k' :: ks, u :: us, h => (valV_neg (fun e => h (by rw [show k' = k from Sum.inr.inj e]; exact List.mem_cons_self))).trans (zK_none k fun z => h (List.mem_cons_of_mem _ z))
/-! ### an object of one's own, being made -/
def hid (a : Addr) (G : Hp) : Hp := fun b => if b = a then none else G b
theorem hid_same {a : Addr} {G : Hp} : hid a G a = none := if_pos rfl
theorem hid_ne {a b : Addr} {G : Hp} (h : b ≠ a) : hid a G b = G b := if_neg h
def notSeq : HO → Bool
  | .lst _ => false
  | .tup _ => false
  | .frz _ _ => false
  | _ => true
mutual
theorem rp_hid {a : Addr} {G : Hp} {o : HO} (ha : G a = some o) (ho : notSeq o = true) : ∀ (d : PyData) (v : V), Rp G v d → Rp (hid a G) v d
  | .none, _, h => by cases h; exact .non
  | .bool b, _, h => by cases h; exact .bl b
  | .int i, _, h => by cases h; exact .int i
  | .str x, _, h => by cases h; exact .str x
  | .list ds, _, h => by
    cases h with
    | @lst b _ _ hs hr => exact .lst ((hid_ne fun e => by rw [e, ha] at hs; cases hs; cases ho).trans hs) (ra_hid ha ho ds _ hr)
  | .tuple ds, _, h => by
    cases h with
    | @tup b _ _ hs hr => exact .tup (hs.elim (fun hs => .inl ((hid_ne fun e => by rw [e, ha] at hs; cases hs; cases ho).trans hs)) fun ⟨ob, h1, hs⟩ => .inr ⟨ob, h1, (hid_ne fun e => by rw [e, ha] at hs; cases hs; cases ho).trans hs⟩) (ra_hid ha ho ds _ hr)
  | .dict kvs, _, h => by cases h
theorem ra_hid {a : Addr} {G : Hp} {o : HO} (ha : G a = some o) (ho : notSeq o = true) : ∀ (ds : List PyData) (vs : List V), RpAll G vs ds → RpAll (hid a G) vs ds
  | [], _, h => by cases h; exact .nil
  | d :: ds, _, h => by
    cases h with
    | cons h1 h2 => exact .cons (rp_hid ha ho d _ h1) (ra_hid ha ho ds _ h2)
end
structure OwnI (G0 H0 : Hp) (a C dx : Addr) (fs : List (Str × V)) (G H : Hp) : Prop where
  s : Stp G0 H0 G H
  n : H0 a = none
  g : G a = none
  at_ : H a = some (.ins C dx fs)
section
variable {K : PySem.W.Frag} {σ : L2.St} {G0 H0 G H G3 H3 : Hp} {a C dx : Addr} {fs : List (Str × V)} {d : PyData} {f : Str} {v : V} {te td ty tl tk tv : TE} {D : Ends} {tz : TS} {j : Nat} {E : XK}
theorem OwnI.ex (o : OwnI G0 H0 a C dx fs G H) : Ex G (upd G a (.ins C dx fs)) ∧ Ex (upd G a (.ins C dx fs)) H := ⟨Ex.new o.g, fun b u q => by
  by_cases hb : b = a
  · subst hb
    rw [upd_same] at q
    rw [o.at_]
    exact q
  · rw [upd_ne hb] at q
    exact o.s.gh b u q⟩
theorem OwnI.put (o : OwnI G0 H0 a C dx fs G H) (S : Stp (upd G a (.ins C dx fs)) H G3 H3) (fs2 : List (Str × V)) : H3 a = some (.ins C dx fs) ∧ G3 a = some (.ins C dx fs) ∧ OwnI G0 H0 a C dx fs2 (hid a G3) (upd H3 a (.ins C dx fs2)) ∧ Ex G (hid a G3) := by
  have g3 : G3 a = some (.ins C dx fs) := S.g _ _ upd_same
  have x : Ex G (hid a G3) := fun b u q => by
    have hb : b ≠ a := fun e => by rw [e, o.g] at q; cases q
    rw [hid_ne hb]
    exact S.g b u ((upd_ne hb).trans q)
  refine ⟨S.h _ _ o.at_, g3, ⟨⟨o.s.g.trans x, fun b u q => ?_, fun b u q => ?_, fun b u q => ?_⟩, o.n, hid_same, upd_same⟩, x⟩
  · have hb : b ≠ a := fun e => by rw [e, hid_same] at q; cases q
    rw [upd_ne hb]
    rw [hid_ne hb] at q
    exact S.gh b u q
  · have hb : b ≠ a := fun e => by rw [e, o.n] at q; cases q
    rw [upd_ne hb]
    exact S.h b u (o.s.h b u q)
  · have hb : b ≠ a := fun e => by rw [e, o.n] at q; cases q
    rw [hid_ne hb, S.f b u (o.s.h b u q), upd_ne hb]
    exact o.s.f b u q
theorem OwnI.fail (o : OwnI G0 H0 a C dx fs G H) (S : Stp (upd G a (.ins C dx fs)) H G3 H3) : ∃ G2, Stp G0 H0 G2 H3 := by
  obtain ⟨h1, h2, h3, h4⟩ := o.put S fs
  refine ⟨hid a G3, ⟨h3.s.g, fun b u q => ?_, o.s.h.trans S.h, h3.s.f⟩⟩
  have hb : b ≠ a := fun e => by rw [e, hid_same] at q; cases q
  rw [hid_ne hb] at q
  exact S.gh b u q
/-- o.f, read -/
theorem ed_fld (hs : σ[j]? = some (some (.ref a))) (ha : G a = some (.ins C dx fs)) (c : Cls K C) (n : NoAttr K C f) (hl : fs.lookup f = some v) (hv : Rp G v d) : EvD (tFld K (tVar j) f) σ G d := fun H e Q q =>
  ⟨.ref a, hs, a, C, dx, fs, v, rfl, e _ _ ha, c, n, hl, q v G H (Stp.refl e) hv⟩
theorem ev_fld (hs : σ[j]? = some (some (.ref a))) (ha : G a = some (.ins C dx fs)) (c : Cls K C) (n : NoAttr K C f) (hl : fs.lookup f = some v) : EvV (tFld K (tVar j) f) σ G v := fun H e Q q =>
  ⟨.ref a, hs, a, C, dx, fs, v, rfl, e _ _ ha, c, n, hl, q G H (Stp.refl e)⟩
/-- self.f = e, behind e's value -/
theorem fld_put {N : L2.St → Hp → Prop} {fs2 : List (Str × V)} (hs : σ[j]? = some (some (.ref a))) (h3 : H3 a = some (.ins C dx fs)) (c : Cls K C) (n : NoAttr K C f) (hl : fs.length < 1000) (e : putF f v fs = fs2) (k : N σ (upd H3 a (.ins C dx fs2))) :
    (tVar j) σ H3 fun x H2 => ∃ a C dx fs, x = .ref a ∧ H2 a = some (.ins C dx fs) ∧ Cls K C ∧ NoAttr K C f ∧ fs.length < 1000 ∧ N σ (upd H2 a (.ins C dx (putF f v fs))) :=
  ⟨.ref a, hs, a, C, dx, fs, rfl, h3, c, n, hl, e ▸ k⟩
theorem w_fldS (h : EvH te σ G H d) (hs : σ[j]? = some (some (.ref a))) (c : Cls K C) (n : NoAttr K C f) (hl : fs.length < 1000) (k : ∀ v G2 H2, Stp G H G2 H2 → Rp G2 v d → ∃ fs2, H2 a = some (.ins C dx fs) ∧ putF f v fs = fs2 ∧ tz D σ (upd H2 a (.ins C dx fs2))) : tSeq (sFld K (tVar j) te f) tz D σ H :=
  h _ fun v G2 H2 s hv => by
    obtain ⟨fs2, h2, rfl, q⟩ := k v G2 H2 s hv
    exact ⟨.ref a, hs, a, C, dx, fs, rfl, h2, c, n, hl, q⟩
theorem w_fldV (h : te σ H fun y H1 => (tVar j) σ H1 fun x H2 => ∃ a C dx fs, x = .ref a ∧ H2 a = some (.ins C dx fs) ∧ Cls K C ∧ NoAttr K C f ∧ fs.length < 1000 ∧ tz D σ (upd H2 a (.ins C dx (putF f y fs)))) : tSeq (sFld K (tVar j) te f) tz D σ H := h
theorem OwnI.set (o : OwnI G0 H0 a C dx fs G H) (fs2 : List (Str × V)) : OwnI G0 H0 a C dx fs2 G (upd H a (.ins C dx fs2)) := ⟨⟨o.s.g, Ex.mut o.s.gh o.g, Ex.mut o.s.h o.n, o.s.f⟩, o.n, o.g, upd_same⟩
theorem OwnI.step (o : OwnI G0 H0 a C dx fs G H) (S : Stp (upd G a (.ins C dx fs)) H G3 H3) : OwnI G0 H0 a C dx fs (hid a G3) H3 ∧ Ex G (hid a G3) := by
  obtain ⟨h1, h2, h3, h4⟩ := o.put S fs
  have e : upd H3 a (.ins C dx fs) = H3 := by
    funext b
    by_cases hb : b = a
    · subst hb
      rw [upd_same, h1]
    · rw [upd_ne hb]
  rw [e] at h3
  exact ⟨h3, h4⟩
theorem OwnI.done (o : OwnI G0 H0 a C dx fs G H) : Stp G0 H0 (upd G a (.ins C dx fs)) H ∧ Ex G (upd G a (.ins C dx fs)) := by
  obtain ⟨x, y⟩ := o.ex
  exact ⟨⟨o.s.g.trans x, y, o.s.h, fun b u q => (upd_ne (ne_of_none q o.n)).trans (o.s.f b u q)⟩, x⟩
/-- in a dict told by an expression -/
theorem ec_dninV {kvs : List (Key × V)} {n : Str} (hy : EvD ty σ G (.str n)) (hd : ∀ G', Ex G G' → EvV td σ G' (.ref a)) (ha : G a = some (.dK kvs)) : EvC (tB (tDNotIn ty td)) σ G (!(valV kvs (Sum.inr n)).isSome) := fun H e Q q =>
  hy H e _ fun v G2 H2 s r => hd G2 s.g H2 s.gh _ fun G3 H3 s3 => ⟨a, _, rfl, (rp_str r) ▸ DGet.k (k := Sum.inr n) ((s.trans s3).gh _ _ ((s.trans s3).g _ _ ha)), _, rfl, q G3 H3 (s.trans s3)⟩
theorem ed_dgetV {kvs : List (Key × V)} {n : Str} {u : V} (hd : EvV td σ G (.ref a)) (ha : G a = some (.dK kvs)) (hy : ∀ G', Ex G G' → EvD ty σ G' (.str n)) (hv : valV kvs (Sum.inr n) = some u) (hu : Rp G u d) : EvD (tDGet td ty) σ G d := fun H e Q q =>
  hd H e _ fun G2 H2 s => hy G2 s.g H2 s.gh _ fun v G3 H3 s3 r => ⟨a, u, rfl, (rp_str r) ▸ hv ▸ DGet.k (k := Sum.inr n) ((s.trans s3).gh _ _ ((s.trans s3).g _ _ ha)), q u G3 H3 (s.trans s3) (rp_mono (s.trans s3).g _ _ hu)⟩
theorem ed_dgetTV {kts : List (List Key × V)} {ks : List Key} {u : V} (hd : EvV td σ G (.ref a)) (ha : G a = some (.dT kts)) (hy : ∀ G', Ex G G' → EvK ty σ G' ks) (hv : valV kts ks = some u) (hu : Rp G u d) : EvD (tDGet td ty) σ G d := fun H e Q q =>
  hd H e _ fun G2 H2 s => hy G2 s.g H2 s.gh _ fun b G3 H3 s3 hb => by
    exact ⟨a, u, rfl, hv ▸ DGet.t (k := ks) ((s.trans s3).gh _ _ ((s.trans s3).g _ _ ha)) (s3.gh _ _ hb), q u G3 H3 (s.trans s3) (rp_mono (s.trans s3).g _ _ hu)⟩
theorem ec_dninTV {kts : List (List Key × V)} {ks : List Key} (hy : EvK ty σ G ks) (hd : ∀ G', Ex G G' → EvV td σ G' (.ref a)) (ha : G a = some (.dT kts)) : EvC (tB (tDNotIn ty td)) σ G (!(valV kts ks).isSome) := fun H e Q q =>
  hy H e _ fun b G2 H2 s hb => hd G2 s.g H2 s.gh _ fun G3 H3 s3 => by
    exact ⟨a, _, rfl, DGet.t (k := ks) ((s.trans s3).gh _ _ ((s.trans s3).g _ _ ha)) (s3.gh _ _ (s3.g _ _ hb)), _, rfl, q G3 H3 (s.trans s3)⟩
/-- {key(a): val(a) for a in as}, the keys texts, all different; over a tuple -/
theorem w_dcT {α : Type} {vs : List Nat} {as : List α} {fd y : α → PyData} {key : α → Str} {Q : VK} (h : EvD tl σ G (.tuple (as.map fd))) (e : Ex G H) (hz : as.length < 100000) (hw : ∀ x, wipe ((wipe σ vs).set j (some x)) vs = wipe σ vs) (hn : (as.map key).Nodup)
    (hk : ∀ a ∈ as, ∀ u G', Ex G G' → Rp G' u (fd a) → EvD tk ((wipe σ vs).set j (some u)) G' (.str (key a))) (hy : ∀ a ∈ as, ∀ u G', Ex G G' → Rp G' u (fd a) → EvD tv ((wipe σ vs).set j (some u)) G' (y a))
    (q : ∀ t us G2 H2, Stp G H G2 H2 → G2 t = some (.dK (zK (as.map key) us)) → RpAll G2 us (as.map y) → Q (.ref t) H2) : tDc (iTup K tl) (gName j) tYes tk tv vs σ H Q := h H e _ fun v G1 H1 s hv => by
  obtain ⟨a, xs, rfl, h1, h2⟩ := rp_tup hv
  have lx : xs.length = as.length := (ra_len h2).trans (List.length_map _)
  refine ⟨a, rfl, ⟨xs, st_t (xt (s.gh) h1)⟩, fun Dl hD => dc_tup (xs := xs) (fun i H' => ∃ G' us, OwnD G1 H1 Dl (zK ((as.take i).map key) us) G' H' ∧ RpAll G' us ((as.take i).map y)) ?_ (fun i H' _ p => ?_) (fun i x H' hx p => ?_) (fun H' p => ?_)⟩
  · exact ⟨G1, [], OwnD.new s.gh hD, .nil⟩
  · obtain ⟨G', us, o, _⟩ := p
    exact st_t (xt o.s.gh (xt o.s.g h1))
  · obtain ⟨G', us, o, r⟩ := p
    obtain ⟨dd, hd2, hr⟩ := ra_get' h2 hx
    rw [List.getElem?_map] at hd2
    cases ha : as[i]? with
    | none => rw [ha] at hd2; cases hd2
    | some b =>
      rw [ha] at hd2
      cases hd2
      have hb : b ∈ as := List.mem_of_getElem? ha
      have et : as.take (i + 1) = as.take i ++ [b] := by
        rw [List.take_add_one, ha]
        rfl
      refine ⟨hw _, ?_⟩
      simp only [tYes, if_true]
      refine (hk b hb x G' (s.g.trans o.s.g) (rp_mono o.s.g _ _ hr)) H' o.s.gh _ fun v3 G3 H3 s3 r3 => ?_
      refine (hy b hb x G3 ((s.g.trans o.s.g).trans s3.g) (rp_mono (o.s.g.trans s3.g) _ _ hr)) H3 s3.gh _ fun v4 G4 H4 s4 r4 => ?_
      have o4 := o.step (s3.trans s4)
      have nin : key b ∉ (as.take i).map key := fun z => by
        have hd : ((as.take (i + 1)).map key).Nodup := hn.sublist ((List.take_sublist _ _).map _)
        rw [et, List.map_append] at hd
        exact (List.nodup_append.mp hd).2.2 _ z (key b) (by simp) rfl
      have lu : us.length = ((as.take i).map key).length := by rw [ra_len r, List.length_map, List.length_map]
      refine ⟨_, Sum.inr (key b), rp_str r3, o4.at_, ?_, G4, us ++ [v4], ?_, ?_⟩
      · unfold zK
        rw [List.length_map, List.length_zip, lu, List.length_map, List.length_take, sizeLine_eq]
        omega
      · rw [putK_new _ (zK_none _ nin), ← zK_snoc lu, et, List.map_append]
        exact o4.put
      · rw [et, List.map_append]
        exact ra_app (ra_mono (s3.trans s4).g _ _ r) (ra_one r4)
  · obtain ⟨G', us, o, r⟩ := p
    rw [lx, List.take_length] at o r
    obtain ⟨s4, x4⟩ := o.done
    exact q Dl us _ H' (s.trans s4) upd_same (ra_mono x4 _ _ r)
end
end Fw

namespace Fw
open PySem PySem.Spec PyProof.Rows L2 Evl
open TL (tl len_tl ext_tl tl_append tl_mk mk_tl)
/-! ### items by number -/
theorem atI_getD {ns : List Int} {i : Int} (h0 : 0 ≤ i) (h1 : i < ns.length) : atI (ns.map PyData.int) i = some (.int (ns.getD i.toNat 0)) := by
  obtain ⟨k, rfl⟩ := Int.eq_ofNat_of_zero_le h0
  have hk : k < ns.length := by omega
  refine atI_nat ?_
  rw [List.getElem?_map, List.getElem?_eq_getElem hk]
  simp [hk]
theorem atI_chr {l : List Nat} {i : Int} (h0 : 0 ≤ i) (h1 : i < l.length) : atI l i = some (l.getD i.toNat 0) := by
  obtain ⟨k, rfl⟩ := Int.eq_ofNat_of_zero_le h0
  have hk : k < l.length := by omega
  refine atI_nat ?_
  rw [List.getElem?_eq_getElem hk]
  simp [hk]
theorem Sm.getD {ns : List Int} (h : Sm ns) (i : Nat) : 0 ≤ ns.getD i 0 ∧ ns.getD i 0 < 1009 := by
  rw [List.getD_eq_getElem?_getD]
  cases e : ns[i]? with
  | none => decide
  | some n => exact h.get e
section
variable {K : PySem.W.Frag} {σ : L2.St} {G G' H H' : Hp} {te ta tb tl' ti : TE} {t tt : TT} {d : PyData} {D : Ends} {tu tw tz : TS} {g : TG} {b : Bool} {ds : List PyData} {ns : List Int} {i : Int} {x : Str}
theorem ed_num (h : EvD te σ G (.list (ns.map PyData.int))) (hi : EvD ti σ G (.int i)) (h0 : 0 ≤ i) (h1 : i < ns.length) : EvD (tOp (rIx K) te ti) σ G (.int (ns.getD i.toNat 0)) := ed_op h hi (r2_ixl (atI_getD h0 h1))
theorem ed_chr (h : EvD te σ G (.str x)) (hi : EvD ti σ G (.int i)) (hz : x.length ≤ 100000) (h0 : 0 ≤ i) (h1 : i < (tl x).length) : EvD (tOp (rIx K) te ti) σ G (.str ⟨#[(tl x).getD i.toNat 0]⟩) := ed_op h hi (r2_ixs (by rw [sizeLine_eq]; omega) (atI_chr h0 h1))
/-- int(..) of an int -/
theorem ed_int1 (h : EvD te σ G (.int i)) : EvD (tCB rInt1 (tCons te tNil)) σ G (.int i) := ed_cb (es_cons h es_nil) rd_int
theorem ed_mod {j : Int} (h : EvD te σ G (.int i)) (h2 : EvD ti σ G (.int j)) (hj : 0 < j) : EvD (tOp (rI (fun _ j => 0 < j) fun i j => .int (i % j)) te ti) σ G (.int (i % j)) := ed_op h h2 (r2_I hj)
theorem ed_div {j : Int} (h : EvD te σ G (.int i)) (h2 : EvD ti σ G (.int j)) (hj : 0 < j ∧ j < 1073741824) : EvD (tOp (rI CDiv fun i j => .int (i / j)) te ti) σ G (.int (i / j)) := ed_op h h2 (r2_I hj)
/-- a loop over the signs of a text -/
theorem w_forC {j : Nat} (h : EvD tl' σ G (.str x)) (e : Ex G H) (Pv : Hp → Nat → L2.St → Hp → Prop) (h0 : ∀ G2 H2, Stp G H G2 H2 → Pv G2 0 σ H2)
    (hs : ∀ G2 i c σ' H', Ex G G2 → (tl x)[i]? = some c → Pv G2 i σ' H' → tu { D with nx := Pv G2 (i + 1), ct := Pv G2 (i + 1), bk := tz D } (σ'.set j (some (.str ⟨#[c]⟩))) H') (hd : ∀ G2 σ' H', Ex G G2 → Pv G2 (tl x).length σ' H' → tz D σ' H') : tSeq (tFor (iStr tl') (gName j) tu) tz D σ H :=
  h H e _ fun v G2 H2 s hv => ⟨x, rp_str hv, by
    refine for_it walk_str (Pv G2) (h0 G2 H2 s) (fun _ _ _ _ _ => True.intro) (fun i v σ' H0 H' hi p yy => ?_) (fun σ' H' p => ?_)
    · obtain ⟨rfl, c, hc, rfl⟩ := yy
      refine hs G2 i c σ' _ s.g ?_ p
      unfold TL.tl
      rw [Array.getElem?_toList]
      exact hc
    · have lx : x.cps.size = (tl x).length := by
        unfold TL.tl
        simp
      rw [lx] at p
      exact hd G2 σ' H' s.g p⟩
end
theorem tl_cut (z : Str) (lo hi : Option Int) : tl (cutS z lo hi) = ((tl z).drop (HT.sIx (tl z).length 0 lo)).take (HT.sIx (tl z).length (tl z).length hi - HT.sIx (tl z).length 0 lo) := by
  have e : z.length = (tl z).length := len_tl z
  unfold cutS
  rw [e]
theorem cut1 {z : Str} {c : Nat} {r : List Nat} (h : tl z = c :: r) : cutS z none (some 1) = ⟨#[c]⟩ := by
  apply ext_tl
  rw [tl_cut, h, HT.sIx_none, show HT.sIx (c :: r).length (c :: r).length (some 1) = min 1 (c :: r).length from HT.sIx_nat _ _ 1]
  have : min 1 (c :: r).length = 1 := by
    rw [List.length_cons]
    omega
  rw [this]
  rfl
theorem chr_len (c : Nat) : (⟨#[c]⟩ : Str).length = 1 := rfl
/-! ### objects that are made; properties; errors that are caught -/
section
variable {K : PySem.W.Frag} {σ : L2.St} {G G' H H' : Hp} {te ta tb : TE} {d : PyData} {D : Ends} {C a dx : Addr} {fs : List (Str × V)} {f : Str} {v : V} {j m : Nat}
theorem OwnI.new (e : Ex G H) (h1 : H a = none) (h2 : H dx = none) (ne : dx ≠ a) : OwnI G H a C dx [] G (upd (upd H dx (.own a)) a (.ins C dx [])) := by
  have h3 : upd H dx (.own a) a = none := (upd_ne (Ne.symm ne)).trans h1
  exact ⟨⟨Ex.refl _, (e.trans (Ex.new h2)).trans (Ex.new h3), (Ex.new h2).trans (Ex.new h3), fun _ _ _ => rfl⟩, h1, fresh_back e h1, upd_same⟩
theorem p_make {sp : Sp} {E : XK} {tk : TA} {P : Hp → List V → Prop} {gV : List V → List V → List V} {Q : VK} (h : EvSP tk σ G P) (e : Ex G H) (hl : ∀ G vs, P G vs → vs.length = m)
    (k : ∀ vs a dx G2 H2, Stp G H G2 H2 → P G2 vs → OwnI G2 H2 a C dx [] G2 (upd (upd H2 dx (.own a)) a (.ins C dx [])) → sp (gV [.ref a] vs) (upd (upd H2 dx (.own a)) a (.ins C dx [])) (fun v H3 => v = .non ∧ Q (.ref a) H3) E) : tMakeK C 0 m sp gV E tNil tk σ H Q :=
  h H e _ fun vs G2 H2 s p => ⟨rfl, hl _ _ p, fun a dx h1 h2 ne => k vs a dx G2 H2 s p (OwnI.new s.gh h1 h2 ne)⟩
theorem d_make {sp : Sp} {E : XK} {tk : TA} {ds : List PyData} {gV : List V → List V → List V} {Q : VK} (h : EvS tk σ G ds) (e : Ex G H) (hl : ds.length = m)
    (k : ∀ vs a dx G2 H2, Stp G H G2 H2 → RpAll G2 vs ds → OwnI G2 H2 a C dx [] G2 (upd (upd H2 dx (.own a)) a (.ins C dx [])) → sp (gV [.ref a] vs) (upd (upd H2 dx (.own a)) a (.ins C dx [])) (fun v H3 => v = .non ∧ Q (.ref a) H3) E) : tMakeK C 0 m sp gV E tNil tk σ H Q :=
  h H e _ fun vs G2 H2 s p => ⟨rfl, (ra_len p).trans hl, fun a dx h1 h2 ne => k vs a dx G2 H2 s p (OwnI.new s.gh h1 h2 ne)⟩
theorem ra_four {vs : List V} {d1 d2 d3 d4 : PyData} (h : RpAll G vs [d1, d2, d3, d4]) : ∃ v1 v2 v3 v4, vs = [v1, v2, v3, v4] ∧ Rp G v1 d1 ∧ Rp G v2 d2 ∧ Rp G v3 d3 ∧ Rp G v4 d4 := by
  cases h with
  | cons h1 h2 =>
    obtain ⟨x, y, z, rfl, h4, h5, h6⟩ := ra_three h2
    exact ⟨_, x, y, z, rfl, h1, h4, h5, h6⟩
theorem w_asgQ {g : TG} (h : te σ H fun x H1 => g x σ H1 D.nx) : tAsg te g D σ H := h
theorem w_tryQ {te : Ends → TE} {g : TG} {tz : TS} (h : te { D with nx := tz D } σ H fun x H1 => g x σ H1 fun σ' H' => tz D σ' H') : tSeq (fun D σ H => tAsg (te D) g D σ H) tz D σ H := h
theorem w_whenK {t : TT} {tu tz : TS} {b : Bool} (M : L2.St → Hp → Prop) (h : EvCH t σ G H b) (h1 : b = true → ∀ G2 H2, Stp G H G2 H2 → (∀ σ' H', M σ' H' → tz D σ' H') → tu { D with nx := tz D } σ H2) (h2 : b = false → ∀ G2 H2, Stp G H G2 H2 → M σ H2) (k : ∀ σ' H', M σ' H' → tz D σ' H') : tSeq (tIfS t tu tNext) tz D σ H :=
  w_when h (fun hb G2 H2 s => h1 hb G2 H2 s k) (fun hb G2 H2 s => k _ _ (h2 hb G2 H2 s))
theorem w_ifK {t : TT} {tu tw tz : TS} {b : Bool} (M : L2.St → Hp → Prop) (h : EvCH t σ G H b) (h1 : b = true → ∀ G2 H2, Stp G H G2 H2 → (∀ σ' H', M σ' H' → tz D σ' H') → tu { D with nx := tz D } σ H2) (h2 : b = false → ∀ G2 H2, Stp G H G2 H2 → (∀ σ' H', M σ' H' → tz D σ' H') → tw { D with nx := tz D } σ H2) (k : ∀ σ' H', M σ' H' → tz D σ' H') : tSeq (tIfS t tu tw) tz D σ H :=
  w_if h (fun hb G2 H2 s => h1 hb G2 H2 s k) (fun hb G2 H2 s => h2 hb G2 H2 s k)
theorem ed_prop (hs : σ[j]? = some (some (.ref a))) (ha : G a = some (.ins C dx fs)) (hl : fs.lookup f = some v) (hv : Rp G v d) : EvD (tProp C (getSp C f) [] E0 (tVar j)) σ G d := fun H e Q q =>
  ⟨.ref a, hs, a, dx, fs, rfl, e _ _ ha, a, dx, fs, v, rfl, e _ _ ha, hl, q v G H (Stp.refl e) hv⟩
end
theorem exm_own {K : PySem.W.Frag} {mg : Str → Option Value} {x : Str} {C : Addr} (X : Xc K mg x C) : PySem.W.exmOne K (.ref C) (.ref C) = some true := by
  have h1 := X.sub
  have h2 := X.is
  have h3 := X.ty
  have h4 := X.self
  unfold PySem.W.isClsIn at h2
  unfold PySem.W.exmOne PySem.W.kitCls
  simp [h1, h2, h3, h4]
/-! ### data that may be compared -/
def okS (x : Str) : Prop := ∀ c ∈ tl x, c < 1114112
theorem okS.ok {x : Str} (h : okS x) : PyData.strOk x = true := by
  unfold PyData.strOk
  rw [Array.all_eq_true']
  intro c hc
  exact decide_eq_true (h c (Array.mem_toList_iff.mpr hc))
/-- depth and form of data of one's own: n levels at most -/
def okD : Nat → PyData → Prop
  | _, .none => True
  | _, .bool _ => True
  | _, .int _ => True
  | _, .str x => okS x
  | n + 1, .list ds => ∀ d ∈ ds, okD n d
  | n + 1, .tuple ds => ∀ d ∈ ds, okD n d
  | _, _ => False
theorem lay_all {ds : List PyData} (h : ∀ d ∈ ds, d.canLay0 = true) : PyData.canLayAll0 ds = true := by
  induction ds with
  | nil => rfl
  | cons d ds ih =>
    unfold PyData.canLayAll0
    rw [h d List.mem_cons_self, ih fun e he => h e (List.mem_cons_of_mem _ he)]
    rfl
theorem depth_all {n : Nat} {ds : List PyData} (h : ∀ d ∈ ds, d.depth ≤ n) : PyData.depthAll ds ≤ n := by
  induction ds with
  | nil => exact Nat.zero_le _
  | cons d ds ih =>
    unfold PyData.depthAll
    exact Nat.max_le.mpr ⟨h d List.mem_cons_self, ih fun e he => h e (List.mem_cons_of_mem _ he)⟩
theorem okD.lay : ∀ (n : Nat) (d : PyData), okD n d → d.canLay0 = true ∧ d.depth ≤ n + 1
  | n, .none, _ => ⟨rfl, by unfold PyData.depth; omega⟩
  | n, .bool _, _ => ⟨rfl, by unfold PyData.depth; omega⟩
  | n, .int _, _ => ⟨rfl, by unfold PyData.depth; omega⟩
  | n, .str x, h => ⟨by unfold PyData.canLay0; exact okS.ok (by cases n <;> exact h), by unfold PyData.depth; omega⟩
  | 0, .list _, h => h.elim
  | 0, .tuple _, h => h.elim
  | 0, .dict _, h => h.elim
  | _ + 1, .dict _, h => h.elim
  | n + 1, .list ds, h => by
    have h' : ∀ d ∈ ds, okD n d := h
    unfold PyData.canLay0 PyData.depth
    refine ⟨lay_all fun d hd => (okD.lay n d (h' d hd)).1, ?_⟩
    have := depth_all fun d hd => (okD.lay n d (h' d hd)).2
    omega
  | n + 1, .tuple ds, h => by
    have h' : ∀ d ∈ ds, okD n d := h
    unfold PyData.canLay0 PyData.depth
    refine ⟨lay_all fun d hd => (okD.lay n d (h' d hd)).1, ?_⟩
    have := depth_all fun d hd => (okD.lay n d (h' d hd)).2
    omega
theorem okD.shaped {n : Nat} {d : PyData} (h : okD n d) (hn : n ≤ 63) : SeqAt.shaped d = true := by
  obtain ⟨h1, h2⟩ := h.lay
  unfold SeqAt.shaped
  rw [h1, decide_eq_true (by omega)]
  rfl
theorem eqv_same {n : Nat} {d : PyData} (h : okD n d) : PyData.eqv d d = true := SeqAt.eqv_refl d h.lay.1
theorem eqv_bools (a b : Bool) : PyData.eqv (.bool a) (.bool b) = (a == b) := by
  unfold PyData.eqv
  rfl
end Fw

namespace Fw
open PySem PySem.Spec PyProof.Rows L2 Evl
open TL (tl len_tl ext_tl tl_append tl_mk mk_tl)
/-! ### a list of the caller's that changes -/
section
variable {K : PySem.W.Frag} {σ : L2.St} {G H G' H' G1 H1 G2 H2 : Hp} {p q : Addr} {ds es : List PyData} {d : PyData} {te : TE} {D : Ends} {tz : TS} {o : HO}
theorem hid_some {a : Addr} (h : hid p H a = some o) : a ≠ p ∧ H a = some o := by
  have ne : a ≠ p := fun e => by rw [e, hid_same] at h; cases h
  rw [hid_ne ne] at h
  exact ⟨ne, h⟩
theorem hid_none (h : H p = none) : hid p H = H := by
  funext a
  by_cases e : a = p
  · rw [e, hid_same, h]
  · rw [hid_ne e]
theorem hid_fresh (h : H q = none) : hid p H q = none := by
  by_cases e : q = p
  · rw [e, hid_same]
  · rw [hid_ne e, h]
theorem Stp.wk (s : Stp G H G2 H2) : Stp G (hid p H) G2 H2 :=
  ⟨s.g, s.gh, fun a u q => s.h a u (hid_some q).2, fun a u q => s.f a u (hid_some q).2⟩
theorem Stp.transP (a : Stp G (hid p H) G1 H1) (b : Stp G1 (hid p H1) G2 H2) : Stp G (hid p H) G2 H2 :=
  ⟨a.g.trans b.g, b.gh, fun x u q => b.h x u ((hid_ne (hid_some q).1).trans (a.h x u q)), fun x u q => (b.f x u ((hid_ne (hid_some q).1).trans (a.h x u q))).trans (a.f x u q)⟩
theorem Stp.mutP (s : Stp G (hid p H) G2 H2) (g : G2 p = Option.none) : Stp G (hid p H) G2 (upd H2 p o) :=
  ⟨s.g, Ex.mut s.gh g, fun a u q => (upd_ne (hid_some q).1).trans (s.h a u q), s.f⟩
theorem Stp.idP (e : Ex G H) : Stp G (hid p H) G H := (Stp.refl e).wk
theorem Own.wk (w : Own G H q ds G' H') : Own G (hid p H) q ds G' H' := ⟨w.s.wk, hid_fresh w.n, w.g, w.at_⟩
theorem Own.stepP (w : Own G (hid p H) q ds G1 H1) (s : Stp G1 (hid p H1) G2 H2) (ne : q ≠ p) : Own G (hid p H) q ds G2 H2 := by
  obtain ⟨xs, hx, r⟩ := w.at_
  have hx' : hid p H1 q = some (.lst xs) := (hid_ne ne).trans hx
  exact ⟨w.s.transP s, w.n, (s.f _ _ hx').trans w.g, xs, s.h _ _ hx', ra_mono s.g _ _ r⟩
/-- an own list, new, with data in it -/
theorem Own.with {xs : List V} (e : Ex G H) (h : H q = none) (r : RpAll G xs ds) : Own G H q ds G (upd H q (.lst xs)) :=
  ⟨⟨Ex.refl _, e.trans (Ex.new h), Ex.new h, fun _ _ _ => rfl⟩, h, fresh_back e h, xs, upd_same, r⟩
/-- the base goes back -/
theorem Own.back (s : Stp G H G1 H1) (w : Own G1 H1 q ds G2 H2) (h : H q = none) : Own G H q ds G2 H2 := ⟨s.trans w.s, h, w.g, w.at_⟩
theorem Own.backP (s : Stp G (hid p H) G1 H1) (w : Own G1 (hid p H1) q ds G2 H2) (h : H q = none) : Own G (hid p H) q ds G2 H2 := ⟨s.transP w.s, hid_fresh h, w.g, w.at_⟩
theorem Own.fin (w : Own G H q ds G' H') : ∃ xs, H' q = some (.lst xs) ∧ Stp G H (upd G' q (.lst xs)) H' ∧ Ex G' (upd G' q (.lst xs)) ∧ Rp (upd G' q (.lst xs)) (.ref q) (.list ds) := by
  obtain ⟨xs, hx, r⟩ := w.at_
  obtain ⟨e1, e2, r2⟩ := frz w.s.gh hx w.g r
  exact ⟨xs, hx, ⟨w.s.g.trans e1, e2, w.s.h, fun a u q => (upd_ne (ne_of_none q w.n)).trans (w.s.f a u q)⟩, e1, r2⟩
theorem stp_old (s : Stp G (hid p H) G2 H2) {a : Addr} (h : H2 a = none) (ne : a ≠ p) : H a = none := by
  cases e : H a with
  | none => rfl
  | some u => rw [s.h a u ((hid_ne ne).trans e)] at h; cases h
theorem ne_some {a : Addr} (h : H a = none) (k : H p = some o) : a ≠ p := fun e => by rw [e, k] at h; cases h
/-- what is drawn from: a list of the numbers and how many were drawn -/
structure Dr (G H : Hp) (p : Addr) (vn : V) (ns : List Int) : Prop where
  ex : Ex G H
  g : G p = none
  n : Rp G vn (.list (ns.map PyData.int))
  l : 1 ≤ ns.length ∧ ns.length ≤ 1000
  k : ∃ k : Int, 0 ≤ k ∧ H p = some (.lst [vn, .int k])
variable {vn : V} {ns : List Int}
theorem Dr.step (w : Dr G H p vn ns) (s : Stp G H G2 H2) : Dr G2 H2 p vn ns := by
  obtain ⟨k, h0, hk⟩ := w.k
  exact ⟨s.gh, s.none hk w.g, rp_mono s.g _ _ w.n, w.l, k, h0, s.h _ _ hk⟩
theorem Dr.mut (w : Dr G H p vn ns) (g : G q = none) (ne : q ≠ p) : Dr G (upd H q o) p vn ns := by
  obtain ⟨k, h0, hk⟩ := w.k
  exact ⟨Ex.mut w.ex g, w.g, w.n, w.l, k, h0, (upd_ne ne.symm).trans hk⟩
theorem Dr.up (w : Dr G H p vn ns) (e : Ex G G2) (e2 : Ex G2 H) (g : G2 p = none) : Dr G2 H p vn ns := ⟨e2, g, rp_mono e _ _ w.n, w.l, w.k⟩
theorem Dr.ne (w : Dr G H p vn ns) (h : H q = none) : q ≠ p := by
  obtain ⟨k, h0, hk⟩ := w.k
  exact ne_some h hk
/-- x = list(l), a list of one's own -/
theorem w_listO {i : Nat} (h : EvD te σ G (.list ds)) (e : Ex G H) (k : ∀ l G2 H2 xs, Stp G H G2 H2 → H2 l = none → RpAll G2 xs ds → tz D (σ.set i (some (.ref l))) (upd H2 l (.lst xs))) : tSeq (tAsg (tCB (rListU K) (tCons te tNil)) (gName i)) tz D σ H :=
  h H e _ fun v G2 H2 s hv => by
    obtain ⟨a, xs, rfl, h1, h2⟩ := rp_lst hv
    exact ⟨a, xs, rfl, .inl (sq_of (s.gh _ _ h1)), fun l hl => k l G2 H2 xs s hl h2⟩
theorem w_putI {j n : Nat} {i : Int} {ti : TE} {xs : List V} (hs : σ[j]? = some (some (.ref p))) (h : EvH te σ G H d) (hp : H p = some (.lst xs)) (hi : ∀ G2 H2, Stp G H G2 H2 → EvH ti σ G2 H2 (.int i)) (hn : ixN xs.length i = some n)
    (k : ∀ v G2 H2, Stp G H G2 H2 → Rp G2 v d → tz D σ (upd H2 p (.lst (xs.set n v)))) : tSeq (tAsg te (gSub (tVar j) ti rSetL)) tz D σ H :=
  h _ fun v G2 H2 s r => ⟨.ref p, hs, hi G2 H2 s _ fun u G3 H3 s3 r3 => ⟨p, xs, i, n, rfl, rp_int r3, s3.h _ _ (s.h _ _ hp), hn, k v G3 H3 (s.trans s3) (rp_mono s3.g _ _ r)⟩⟩
theorem w_opL {r : R2} {ta tb : TE} {g : TG} (h : EvH ta σ G H d) (k : ∀ v G2 H2, Stp G H G2 H2 → Rp G2 v d → tb σ H2 fun w H3 => r v w H3 fun x H4 => g x σ H4 fun σ' H' => tz D σ' H') : tSeq (tAsg (tOp r ta tb) g) tz D σ H := h _ k
/-- x = C(k = v, ..) -/
theorem w_makeS {sp : Sp} {E : XK} {tk : TA} {ds : List PyData} {gV : List V → List V → List V} {C : Addr} {m i : Nat} (h : EvS tk σ G ds) (e : Ex G H) (hl : ds.length = m)
    (k : ∀ vs a dx G2 H2, Stp G H G2 H2 → RpAll G2 vs ds → OwnI G2 H2 a C dx [] G2 (upd (upd H2 dx (.own a)) a (.ins C dx [])) → sp (gV [.ref a] vs) (upd (upd H2 dx (.own a)) a (.ins C dx [])) (fun v H3 => v = .non ∧ tz D (σ.set i (some (.ref a))) H3) E) : tSeq (tAsg (tMakeK C 0 m sp gV E tNil tk) (gName i)) tz D σ H :=
  d_make (Q := fun v H' => tz D (σ.set i (some v)) H') h e hl k
theorem ra_erase {G : Hp} : ∀ {vs : List V} {ds : List PyData} (k : Nat), RpAll G vs ds → RpAll G (vs.eraseIdx k) (ds.eraseIdx k)
  | _, _, _, .nil => by
    rw [List.eraseIdx_nil, List.eraseIdx_nil]
    exact .nil
  | _, _, 0, .cons _ h2 => h2
  | _, _, k + 1, .cons h1 h2 => .cons h1 (ra_erase k h2)
theorem perm_erase {α : Type} : ∀ {l : List α} {k : Nat} {a : α}, l[k]? = some a → (a :: l.eraseIdx k).Perm l
  | [], _, _, h => by simp at h
  | b :: l, 0, a, h => by
    have : b = a := by simpa using h
    subst this
    exact .refl _
  | b :: l, k + 1, a, h => by
    have ih := perm_erase (l := l) (k := k) (a := a) (by simpa using h)
    exact (List.Perm.swap b a _).trans (ih.cons b)
theorem perm_inv {α β : Type} {f : α → β} {es ds : List β} (h : es.Perm ds) : ∀ l : List α, ds = l.map f → ∃ l' : List α, es = l'.map f ∧ l'.Perm l := by
  induction h with
  | nil => intro l hl; cases l with
    | nil => exact ⟨[], rfl, .refl _⟩
    | cons a l => cases hl
  | cons x _ ih => intro l hl; cases l with
    | nil => cases hl
    | cons a l =>
      rw [List.map_cons] at hl
      injection hl with h1 h2
      obtain ⟨l', e, p⟩ := ih l h2
      exact ⟨a :: l', by rw [List.map_cons, e, h1], p.cons a⟩
  | swap x y t => intro l hl; match l, hl with
    | [], hl => cases hl
    | [a], hl => cases hl
    | a :: b :: l, hl =>
      simp only [List.map_cons, List.cons.injEq] at hl
      obtain ⟨rfl, rfl, rfl⟩ := hl
      exact ⟨b :: a :: l, rfl, List.Perm.swap a b l⟩
  | trans _ _ ih1 ih2 =>
    intro l hl
    obtain ⟨l2, e2, p2⟩ := ih2 l hl
    obtain ⟨l1, e1, p1⟩ := ih1 l2 e2
    exact ⟨l1, e1, p1.trans p2⟩
end
end Fw

namespace HT
open PySem PySem.Spec PyProof.Rows L2
/-! ### t[::-1], t a tuple -/
section
variable {prog : Program} {w : World} {A : Around} {E : Value → Shared → Prop} {s : Shared}
theorem rev_adjust (n : Nat) : Builtin.Slice.sliceAdjust none none (-1) (n : Int) = ((n : Int) - 1, -1) := by
  unfold Builtin.Slice.sliceAdjust
  simp
theorem rev_places (n : Nat) : Builtin.Slice.slicePlaces ((n : Int) - 1) (-1) (-1) = n := by
  unfold Builtin.Slice.slicePlaces
  simp
  omega
theorem rev_pick (xs : Array Value) : ((List.range xs.size).filterMap fun (m : Nat) => xs[(((xs.size : Int) - 1) + (m : Int) * (-1)).toNat]?).toArray = xs.toList.reverse.toArray := by
  have e : (fun (m : Nat) => xs[(((xs.size : Int) - 1) + (m : Int) * (-1)).toNat]?) = (fun i => xs[i]?) ∘ fun m => xs.size - 1 - m := by
    funext m
    have : (((xs.size : Int) - 1) + (m : Int) * (-1)).toNat = xs.size - 1 - m := by omega
    show xs[_]? = xs[xs.size - 1 - m]?
    rw [this]
  rw [e, ← List.filterMap_map, PySem.W.krv_range, List.filterMap_reverse, PySem.W.krv_all]
theorem rev_applied {z : Addr} {n : Nat} {Q : Int × Int × Nat → Shared → Prop} {c : Value} (hz : s.heap.IsSliceOf z .none .none c) (pc : IsPart c (some (-1))) (h : Q ((n : Int) - 1, -1, n) s) : wpAny (model prog w) A (Builtin.Slice.sliceApplied (.ref z) (pure (n : Int))) Q E s := by
  obtain ⟨o1, o2, o3, o4⟩ := id hz
  unfold Builtin.Slice.sliceApplied
  unfold Builtin.Slice.sliceFields
  refine wpAny_bind (wpAny_bind (wpAny_field o2 o4 (x := .none) rfl (wpAny_bind (wpAny_field o2 o4 (x := .none) rfl (wpAny_bind (wpAny_field o2 o4 (x := c) rfl (wpAny_pure ?_)))))))
  refine wpAny_bind (slicePart_ pc ?_)
  show wpAny _ _ (if ((-1 : Int) == 0) = true then _ else _) _ _ s
  rw [if_neg (by decide)]
  refine wpAny_bind (slicePart_none (wpAny_bind (slicePart_none (wpAny_bind (wpAny_pure ?_)))))
  show wpAny _ _ (match Builtin.Slice.sliceAdjust none none (-1) (n : Int) with | (a, b) => pure (a, (-1 : Int), Builtin.Slice.slicePlaces a b (-1))) _ _ s
  rw [rev_adjust]
  show wpAny _ _ (pure ((n : Int) - 1, (-1 : Int), Builtin.Slice.slicePlaces ((n : Int) - 1) (-1) (-1))) _ _ s
  rw [rev_places]
  exact wpAny_pure h
theorem rev_getItem {t z : Addr} {us : Array Value} {c : Value} {Q : Value → Shared → Prop} (q : IsTup s.heap t us) (hz : s.heap.IsSliceOf z .none .none c) (pc : IsPart c (some (-1)))
    (h : Q (.ref s.heap.objs.size) { s with heap := s.heap.push { cls := .type "tuple", data := .seq us.toList.reverse.toArray } }) (hl : us.size ≤ sizeLine) : wpAny (model prog w) A (getItem (.ref t) (.ref z)) Q E s := by
  have ok : sizeOk (.seq us.toList.reverse.toArray) := by
    show us.toList.reverse.toArray.size ≤ sizeLine
    rw [List.size_toArray, List.length_reverse, Array.length_toList]
    exact hl
  obtain ⟨o1, o2, o3, o4⟩ := id hz
  have tz : s.TypeIs (.ref z) "slice" := ⟨o1, o2, o3⟩
  unfold getItem
  try with_reducible refine (wpAny_holding ?_)
  first | refine wpAny_bind (wpAny_pure ?_) | skip
  refine wpAny_bind (wpAny_sequenceKey q.typeIs (by decide) ?_)
  refine wpAny_bind (wpAny_callSpecial?_slot (name := Str.ofString "__getitem__") q.typeIs PyProof.Rows.slot_tuple_getitem (wpAny_call_entry PyProof.Rows.slot_tuple_getitem q.typeIs entry_tuple_getitem ?_ (args_tuple_getitem _ _)))
  show wpAny _ _ (Builtin.Tuple.tupleItemsOf (.ref t) >>= fun _ => _) _ _ s
  refine wpAny_bind (tupleItemsOf_ q ?_)
  refine wpAny_bind (wpAny_typeOf tz ?_)
  rw [if_pos (by decide)]
  refine wpAny_bind (rev_applied hz pc ?_)
  have no : ¬ ((((us.size : Int) - 1) == 0 && (-1 : Int) == 1 && us.size == us.size) = true) := by
    intro q
    rw [Bool.and_eq_true, Bool.and_eq_true] at q
    have := q.1.2
    exact absurd this (by decide)
  show wpAny _ _ (if (((us.size : Int) - 1) == 0 && (-1 : Int) == 1 && us.size == us.size) = true then _ else _) _ _ s
  rw [if_neg no, rev_pick]
  first
    | exact wpAny_bind (m := Builtin.Tuple.tupleExact _) (wpAny_newObj_type (wpAny_pure ⟨_, rfl, wpAny_pure h⟩) ok)
    | exact wpAny_bind (m := Builtin.Tuple.tupleExact _) (wpAny_newObj_type (wpAny_bind (wpAny_pure (wpAny_pure ⟨_, rfl, wpAny_pure h⟩))) ok)
    | exact wpAny_bind (wpAny_bind (m := Builtin.Tuple.tupleExact _) (wpAny_newObj_type (wpAny_pure (wpAny_pure ⟨_, rfl, wpAny_pure h⟩)) ok))
    | exact wpAny_bind (wpAny_bind (m := Builtin.Tuple.tupleExact _) (wpAny_newObj_type (wpAny_pure ⟨_, rfl, wpAny_pure h⟩) ok))
end
end HT
namespace Fw
open PySem PySem.Spec PyProof.Rows L2 Evl
def tRevT (K : PySem.W.Frag) (te : TE) : TE := fun σ H Q => te σ H fun x H1 => ∃ a xs, x = .ref a ∧ SqT K H1 a xs ∧ ∀ p, H1 p = none → Q (.ref p) (upd H1 p (.tup xs.reverse))
theorem pe_revT {X : Cx} {e : Expr} {te : TE} {k : Nat} {p1 p2 p3 pos : Pos} (he : PE X e te) : PE X (.Subscript e (.Slice none none (some (.UnaryOp .USub (.Constant (.int 1) k p1) p2)) p3) pos) (tRevT X.K te) := by
  refine ⟨fun pins s σ H Q I h => ?_⟩
  refine Subscript_ (thn (he.run pins s σ H _ I h) fun v s1 ⟨x, H1, I1, r1, q1⟩ => ?_)
  obtain ⟨a, xs, ex, hx, q⟩ := q1
  subst ex
  cases r1
  have step : PO X (some (.UnaryOp .USub (.Constant (.int 1) k p1) p2)) (tPart (tUn (rU fun i => .int (-i)) (tC (.int 1)))) := po_some (pe_un un_neg pe_int)
  refine wpAny_Slice (thn (po_none.run pins s1 σ H1 (fun o H2 => (o = none ∧ H2 = H1)) I1 ⟨rfl, rfl⟩) fun y1 s2 ⟨l, H2, I2, pl, el, e2⟩ => ?_)
  subst el e2
  refine thn (po_none.run pins s2 σ H2 (fun o H3 => (o = none ∧ H3 = H2)) I2 ⟨rfl, rfl⟩) fun y2 s3 ⟨u, H3, I3, pu, eu, e3⟩ => ?_
  subst eu e3
  refine thn (step.run pins s3 σ H3 (fun o H4 => (o = some (-1) ∧ H4 = H3)) I3 ⟨1, rfl, -1, rfl, rfl, rfl⟩) fun y3 s4 ⟨o, H4, I4, ps, eo, e4⟩ => ?_
  subst eo e4
  cases pl
  cases pu
  have I5 : Inv X pins σ H4 { s4 with heap := s4.heap.push { cls := .type "slice", data := .fields #[.none, .none, y3] } } := I4.kept (t' := s4.toks) fun b ob z => Heap.get?_push_of_some _ z
  obtain ⟨its, r, ht, hz⟩ := I5.tuple hx
  have hlen : its.toArray.size = xs.length := by rw [List.size_toArray]; exact (r.length).symm
  show wpAny (model X.prog X.w) X.A (subscriptTail e (.Slice none none (some (.UnaryOp .USub (.Constant (.int 1) k p1) p2)) p3) (.ref a) (.ref s4.heap.objs.size)) (EP X pins σ Q) X.xe { s4 with heap := s4.heap.push { cls := .type "slice", data := .fields #[.none, .none, y3] } }
  refine tail_any (ops := [.ref a, .ref s4.heap.objs.size]) (ht).typeIs (PyProof.Rows.slot_tuple_getitem.lookup) ?_ (by with_unfolding_all rfl)
  refine HT.rev_getItem ht (Heap.IsSliceOf.new _ .none .none y3) ps ?_ (by rw [hlen]; exact hz)
  refine ⟨.ref _, _, I5.laid (t' := s4.toks) (o := .tup xs.reverse) (fun b ob z => Heap.get?_push_of_some _ z) (Nat.le_refl _) ?_, rfl, q _ (I5.hok.fresh (Nat.le_refl _))⟩
  exact ⟨by rw [List.length_reverse]; exact hz, _, r.reverse, IsTup.new _ _⟩
theorem k_revT {X : Cx} (K : PySem.W.Frag) (hK : X.K = K) {e : Expr} {te : TE} {k : Nat} {p1 p2 p3 pos : Pos} (he : PE X e te) : PE X (.Subscript e (.Slice none none (some (.UnaryOp .USub (.Constant (.int 1) k p1) p2)) p3) pos) (tRevT K te) := hK ▸ pe_revT he
theorem ra_rev {G : Hp} {vs : List V} {ds : List PyData} (h : RpAll G vs ds) : RpAll G vs.reverse ds.reverse := by
  induction h using RpAll.rec (motive_1 := fun _ _ _ => True) with
  | nil => exact .nil
  | cons h _ _ ih =>
    rw [List.reverse_cons, List.reverse_cons]
    exact ra_app ih (ra_one h)
  | _ => trivial
theorem ed_revT {K : PySem.W.Frag} {σ : L2.St} {G : Hp} {te : TE} {ds : List PyData} (h : EvD te σ G (.tuple ds)) : EvD (tRevT K te) σ G (.tuple ds.reverse) := fun H e Q q =>
  h H e _ fun v G2 H2 s hv => by
    obtain ⟨a, xs, rfl, h1, h2⟩ := rp_tup hv
    exact ⟨a, xs, rfl, st_t (xt (s.gh) h1), fun p hp => q _ _ _ (s.trans (Stp.new s.gh hp)) (.tup (.inl upd_same) (ra_rev (ra_mono (Ex.new (fresh_back s.gh hp)) _ _ h2)))⟩
end Fw

namespace Fw
open PySem PySem.Spec PyProof.Rows L2 Evl
open TL (tl len_tl ext_tl tl_append tl_mk mk_tl)
/-! ### texts that are put together -/
def rJoin (K : PySem.W.Frag) : V → List V → Hp → VK → Prop := fun x xs H Q => ∃ a p, ∃ ys : List Str, x = .str a ∧ xs = [.ref p] ∧ (SqL K H p (ys.map V.str) ∨ SqT K H p (ys.map V.str)) ∧ (ys.map (fun y => y.length)).sum + ys.length * a.length ≤ 16777216 ∧ Q (.str (Txt.join a ys)) H
theorem k_join {X : Cx} (K : PySem.W.Frag) (hK : X.K = K) {o e : Expr} {to te : TE} {apos pos : Pos} (ho : PE X o to) (he : PE X e te) (hs : starEach [e] X.env = [(false, eval e X.env)] := by rfl) (hbase : attributeBase o "join" X.env (eval o X.env) = eval o X.env := by rfl) (hline : (apos.endLine == pos.line) = true := by rfl) :
    PE X (.Call (.Attribute o "join" apos) [e] [] pos) (tM1 (rJoin K) to te) := by
  subst hK
  exact pe_join ho he hs hbase hline
section
variable {K : PySem.W.Frag} {σ : L2.St} {G H G' H' G2 H2 : Hp} {p q : Addr} {ds es : List PyData} {d : PyData} {te to : TE} {ta : TA} {D : Ends} {tz : TS} {b : Bool} {x a : Str}
theorem sum_le {ys : List Str} {m : Nat} (h : ∀ y ∈ ys, y.length ≤ m) : (ys.map (fun y : Str => y.length)).sum ≤ ys.length * m := by
  induction ys with
  | nil => simp
  | cons y ys ih =>
    have h1 := h y List.mem_cons_self
    have h2 := ih fun z hz => h z (List.mem_cons_of_mem _ hz)
    rw [List.map_cons, List.sum_cons, List.length_cons, Nat.succ_mul]
    omega
theorem ed_join {ys : List Str} {m n : Nat} (ho : EvD to σ G (.str a)) (h : EvD te σ G (sq b (ys.map PyData.str))) (hy : ∀ y ∈ ys, y.length ≤ m) (hn : ys.length ≤ n) (hm : n * m + n * a.length ≤ 16777216) : EvD (tM1 (rJoin K) to te) σ G (.str (Txt.join a ys)) := fun H e Q q =>
  ho H e _ fun v G2 H2 s hv => ⟨⟨a, rp_str hv⟩, (h.mono s.g) H2 s.gh _ fun w G3 H3 s3 hw => by
    obtain ⟨l, xs, rfl, h1, h2⟩ := rp_sq hw
    have ex := ra_str h2
    subst ex
    refine ⟨a, l, ys, rp_str hv, rfl, sq_len h1 s3.gh, ?_, q _ G3 H3 (s.trans s3) (.str _)⟩
    have h3 := sum_le hy
    have h4 : ys.length * m ≤ n * m := Nat.mul_le_mul_right m hn
    have h5 : ys.length * a.length ≤ n * a.length := Nat.mul_le_mul_right _ hn
    omega⟩
/-- the parts of an f-string -/
inductive JsD (σ : L2.St) (G : Hp) : List TE → List Str → Prop
  | nil : JsD σ G [] []
  | cons {te : TE} {x : Str} {ts : List TE} {xs : List Str} (h : EvD te σ G (.str x)) (r : JsD σ G ts xs) : JsD σ G (te :: ts) (x :: xs)
theorem JsD.mono {ts : List TE} {xs : List Str} (x : Ex G G') (h : JsD σ G ts xs) : JsD σ G' ts xs := by
  induction h with
  | nil => exact .nil
  | cons h _ ih => exact .cons (h.mono x) ih
theorem js_run {ts : List TE} {xs : List Str} (h : JsD σ G ts xs) : ∀ (acc : Str) (G' H : Hp), Ex G G' → Ex G' H → acc.length + (xs.map (fun y : Str => y.length)).sum ≤ 100000 → ∀ Q : Str → Hp → Prop, (∀ G2 H2, Stp G' H G2 H2 → Q (xs.foldl (fun a b => a ++ b) acc) H2) → tJs ts acc σ H Q := by
  induction h with
  | nil => exact fun acc G' H _ e2 _ Q q => q G' H (Stp.refl e2)
  | @cons te x ts xs h r ih =>
    intro acc G' H e1 e2 hl Q q
    rw [List.map_cons, List.sum_cons] at hl
    exact (h.mono e1) H e2 _ fun v G2 H2 s hv => ⟨x, rp_str hv, by rw [strLen_append, sizeLine_eq]; omega, ih (acc ++ x) G2 H2 (e1.trans s.g) s.gh (by rw [strLen_append]; omega) Q fun G3 H3 s3 => q G3 H3 (s.trans s3)⟩
theorem ed_fs {ts : List TE} {xs : List Str} (h : JsD σ G ts xs) (hl : (xs.map (fun y : Str => y.length)).sum ≤ 100000) : EvD (fun σ H Q => tJs ts Str.empty σ H fun out H1 => Q (.str out) H1) σ G (.str (xs.foldl (fun a b => a ++ b) Str.empty)) := fun H e Q q =>
  js_run h Str.empty G H (Ex.refl _) e (by have e0 : Str.empty.length = 0 := rfl; omega) _ fun G2 H2 s => q _ G2 H2 s (.str _)
theorem ed_fmtS (h : EvD te σ G (.str x)) (hx : x.length ≤ 100000) : EvD (tFmt te) σ G (.str x) := fun H e Q q => h H e _ fun v G2 H2 s hv => .inl ⟨x, rp_str hv, by rw [sizeLine_eq]; omega, q _ G2 H2 s (.str _)⟩
theorem ed_fmtI {i : Int} (h : EvD te σ G (.int i)) (hi : i.natAbs.log2 < 1920) : EvD (tFmt te) σ G (.str (toString i)) := fun H e Q q => h H e _ fun v G2 H2 s hv => .inr ⟨i, rp_int hv, hi, q _ G2 H2 s (.str _)⟩
/-- x = [e, ..], a list of one's own -/
theorem w_lstO {i : Nat} (h : EvS ta σ G ds) (e : Ex G H) (hl : ds.length ≤ 100000) (k : ∀ l G2 H2 xs, Stp G H G2 H2 → H2 l = none → RpAll G2 xs ds → tz D (σ.set i (some (.ref l))) (upd H2 l (.lst xs))) : tSeq (tAsg (tLst ta) (gName i)) tz D σ H :=
  h H e _ fun vs G2 H2 s hv => ⟨sz_of (by rw [ra_len hv]; exact hl), fun l hp => k l G2 H2 vs s hp hv⟩
/-- small numbers written -/
theorem log6 {i : Int} (h0 : 0 ≤ i) (h : i ≤ 6) : i.natAbs.log2 < 1920 := by
  have : i = 0 ∨ i = 1 ∨ i = 2 ∨ i = 3 ∨ i = 4 ∨ i = 5 ∨ i = 6 := by omega
  rcases this with rfl | rfl | rfl | rfl | rfl | rfl | rfl <;> decide +kernel
theorem str6 {i : Int} (h0 : 0 ≤ i) (h : i ≤ 6) : (toString i : Str).length = 1 ∧ ∀ c ∈ tl (toString i : Str), c < 128 ∧ c ≠ 32 ∧ c ≠ 10 := by
  have : i = 0 ∨ i = 1 ∨ i = 2 ∨ i = 3 ∨ i = 4 ∨ i = 5 ∨ i = 6 := by omega
  rcases this with rfl | rfl | rfl | rfl | rfl | rfl | rfl <;> decide +kernel
end
end Fw

namespace Fw
open PySem PySem.Spec PyProof.Rows L2 Evl
open TL (tl len_tl ext_tl tl_append tl_mk mk_tl)
/-! ### what is not come to -/
def tNever : TS := fun _ _ _ => False
theorem ps_never {X : Cx} {st : Stmt} : PS X st tNever := ⟨fun _ _ _ _ _ _ h => h.elim⟩
/-! ### texts that are split; int(text); enumerate -/
def rSplit : V → List V → Hp → VK → Prop := fun x xs H Q => ∃ a b, x = .str a ∧ xs = [.str b] ∧ (b.length == 0) = false ∧ a.length + 2 ≤ sizeLine ∧ rNewStrs (Txt.split a b) H Q
theorem k_split {X : Cx} {o e : Expr} {to te : TE} {apos pos : Pos} (ho : PE X o to) (he : PE X e te) (hs : starEach [e] X.env = [(false, eval e X.env)] := by rfl) (hbase : attributeBase o "split" X.env (eval o X.env) = eval o X.env := by rfl) (hline : (apos.endLine == pos.line) = true := by rfl) :
    PE X (.Call (.Attribute o "split" apos) [e] [] pos) (tM1 rSplit to te) := pe_split ho he hs hbase hline
def rIntS : List V → Hp → VK → Prop := fun xs H Q => ∃ a n, xs = [.str a] ∧ PySem.intText? a = some n ∧ a.length ≤ 640 ∧ Q (.int n) H
theorem c_intS {X : Cx} : CallR X (.type "int") rIntS := call_int_str
theorem k_enum {X : Cx} (K : PySem.W.Frag) (hK : X.K = K) {e : Expr} {ta : TA} {p pos tpos : Pos} {elts : List Expr} {kk : Nat} (hg : Gl X "enumerate") (hm : X.mg "enumerate" = none) (ha : PA X [e] ta) (hs : starEach [e] X.env = [(false, eval e X.env)] := by rfl) :
    PI X (.Tuple elts kk tpos) (.Call (.Name "enumerate" p) [e] [] pos) (iEnum K ta) := hK ▸ pi_enum hg hm ha hs
section
variable {K : PySem.W.Frag} {σ : L2.St} {G H G' H' G2 H2 : Hp} {p q : Addr} {ds es : List PyData} {d : PyData} {te to tl' : TE} {ta : TA} {D : Ends} {tu tz : TS} {b : Bool} {x a : Str}
theorem rp_strs (G : Hp) {H : Hp} {p : Addr} (e : Ex G H) (hp : H p = none) (ys : List Str) : Stp G H (upd G p (.lst (ys.map V.str))) (upd H p (.lst (ys.map V.str))) ∧ Rp (upd G p (.lst (ys.map V.str))) (.ref p) (.list (ys.map PyData.str)) :=
  ⟨Stp.new e hp, .lst upd_same (ra_strs ys)⟩
theorem ed_split {y : Str} {s : Nat} {parts : List Str} (ho : EvD to σ G (.str (Txt.join y parts))) (h : EvD te σ G (.str y)) (ey : tl y = [s]) (hk : y.cps.all (· < 256) = true) (hne : parts ≠ []) (hp : ∀ p ∈ parts, s ∉ tl p) (hl : (Txt.join y parts).length ≤ 16000000) :
    EvD (tM1 rSplit to te) σ G (.list (parts.map PyData.str)) := fun H e Q q =>
  ho H e _ fun v G2 H2 s2 hv => ⟨⟨_, rp_str hv⟩, (h.mono s2.g) H2 s2.gh _ fun w G3 H3 s3 hw => by
    refine ⟨Txt.join y parts, y, rp_str hv, by rw [rp_str hw], ?_, by rw [sizeLine_eq]; omega, fun l hn => ?_⟩
    · rw [len_tl, ey]
      rfl
    · rw [TL.split_join ey hk hne hp]
      obtain ⟨s4, r4⟩ := rp_strs G3 s3.gh hn parts
      exact q _ _ _ ((s2.trans s3).trans s4) r4⟩
theorem ed_intS {n : Int} (h : EvD te σ G (.str x)) (hn : PySem.intText? x = some n) (hl : x.length ≤ 640) : EvD (tCB rIntS (tCons te tNil)) σ G (.int n) := fun H e Q q =>
  h H e _ fun v G2 H2 s hv => ⟨x, n, by rw [rp_str hv], hn, hl, q _ G2 H2 s (.int n)⟩
theorem int6 {i : Int} (h0 : 0 ≤ i) (h : i ≤ 6) : PySem.intText? (toString i : Str) = some i := by
  have : i = 0 ∨ i = 1 ∨ i = 2 ∨ i = 3 ∨ i = 4 ∨ i = 5 ∨ i = 6 := by omega
  rcases this with rfl | rfl | rfl | rfl | rfl | rfl | rfl <;> decide +kernel
theorem cut_from {α : Type} (f : α → PyData) (l : List α) (n : Nat) : cutD (l.map f) (some (n : Int)) none = (l.drop n).map f := by
  unfold cutD
  rw [HT.sIx_none, HT.sIx_nat, List.length_map, ← List.map_drop, ← List.map_take]
  congr 1
  by_cases h : n ≤ l.length
  · rw [Nat.min_eq_left h, List.take_of_length_le (by rw [List.length_drop]; exact Nat.le_refl _)]
  · rw [Nat.min_eq_right (by omega), List.drop_length, List.take_nil, List.drop_eq_nil_of_le (by omega)]
/-- for at, x in enumerate(a list) -/
theorem w_forE {α : Type} {as : List α} {f : α → PyData} {j1 j2 : Nat} (h : EvD tl' σ G (.list (as.map f))) (e : Ex G H) (Pv : Hp → Nat → L2.St → Hp → Prop) (h0 : ∀ G2 H2, Stp G H G2 H2 → Pv G2 0 σ H2) (hl : ∀ G2 i σ' H', Pv G2 i σ' H' → Ex G2 H')
    (hs : ∀ G2 i a v σ' H' T, Ex G G2 → as[i]? = some a → Rp G2 v (f a) → Pv G2 i σ' H' → H' T = none → tu { D with nx := Pv G2 (i + 1), ct := Pv G2 (i + 1), bk := tz D } ((σ'.set j1 (some (.int (i : Nat)))).set j2 (some v)) (upd H' T (.tup [.int (i : Nat), v])))
    (hd : ∀ G2 σ' H', Ex G G2 → Pv G2 as.length σ' H' → tz D σ' H') : tSeq (tFor (iEnum K (tCons tl' tNil)) (gTup K 2 (gCons (gName j1) (gCons (gName j2) gNil))) tu) tz D σ H :=
  h H e _ fun v G2 H2 s hv => by
    obtain ⟨a, xs, rfl, h1, h2⟩ := rp_lst hv
    have lx : xs.length = as.length := (ra_len h2).trans (List.length_map _)
    refine ⟨a, xs, rfl, sq_of (s.gh _ _ h1), for_it (walk_enum (xs := xs)) (Pv G2) (h0 G2 H2 s) (fun i σ' H' _ p => sq_of (hl G2 i σ' H' p _ _ h1)) (fun i x σ' H0 H' hi p y => ?_) (fun σ' H' p => hd G2 σ' H' s.g (lx ▸ p))⟩
    obtain ⟨T, x1, x2, rfl, hT, rfl, e1, e2⟩ := y
    cases e1
    obtain ⟨d, hd2, hr⟩ := ra_get' h2 e2
    rw [List.getElem?_map] at hd2
    cases ha : as[i]? with
    | none => rw [ha] at hd2; cases hd2
    | some b =>
      rw [ha] at hd2
      cases hd2
      exact ⟨T, _, rfl, st_of upd_same, rfl, _, _, rfl, _, _, rfl, rfl, hs G2 i b x2 σ' H0 T s.g ha hr p hT⟩
end
end Fw

namespace Fw
open PySem PySem.Spec PyProof.Rows L2 Evl
open TL (tl len_tl ext_tl tl_append tl_mk mk_tl)
/-! ### the law's own frame: no repr is under way -/
/-- the promise of a def at one place from which it is called -/
def OkAt (P : Program) (w : World) (K : PySem.W.Frag) (mg : Str → Option Value) (base : Heap) (f : Addr) (fd : FuncData) (ps : List Str) (sp : Sp) (A : Around) : Prop :=
  ∀ (outer : List Env) (t : Shared) (Y : Hp) (args : Args) (us : List Value) (vs : List V) (Q : VK) (E : XK), Env0 P w K mg base A outer t Y → BindsTo t fd args (ps.zip us) → Vals vs us → sp vs Y Q E → codeAny (model P w) A (.call (.ref f) args) (CR CX0 outer P w Y t Q E) t
theorem fun_at {P : Program} {w : World} {K : PySem.W.Frag} {mg : Str → Option Value} {base : Heap} {x qual : Str} {st : Stmt} {f : Addr} {fd : FuncData} {N ps : List Str} {k : Nat} {sp : Sp} {A : Around} (F : Fun K x qual st f fd) (S : FnScope N ps (defScope st)) (len : ∀ vs Y Q E, sp vs Y Q E → vs.length = ps.length) (room : Room (k + 1) A)
    (body : ∀ (cdv : Value) (outer : List Env) (t : Shared) (Y : Hp) (vs : List V) (Q : VK) (E : XK), Room k (A.deeper (envOfC qual (defScope st) t.heap.objs.size f cdv)) → sp vs Y Q E →
      ∃ ts, PSs (cxOf CX0 P w K mg base N qual (defScope st) f cdv A outer t Y E).nox (defBody st) ts ∧ ts { nx := fun _ Y' => Q .non Y', rt := Q } (start N vs) Y) : OkAt P w K mg base f fd ps sp A := by
  intro outer t Y args us vs Q E e0 hb r hq
  obtain ⟨oc, od, kV, doc, pm, an, cdv, ct, osl, rfl, lk, hcd⟩ := F.ex
  have ln := len _ _ _ _ hq
  have KX : K.In t.heap := e0.mod.kin.keeps fun z o e => (e0.bs z o e).1
  have lim : t.heap.NoLimit := e0.mod.nolimit.keeps fun z o e => (e0.bs z o e).1
  have kinds : ∀ y ∈ ps.zip us, (defScope st).names.lookup y.1 = some .local ∨ ((defScope st).names.lookup y.1 = some .cell ∧ ((cellsFrom (t.heap.objs.size + 1) (defScope st).names []).lookup y.1).isSome = true) := fun y hy => by
    obtain ⟨n, v⟩ := y
    rcases S.par n (List.of_mem_zip hy).1 with z | z
    · exact .inl z
    · exact .inr ⟨z, PySem.W.cellsFrom_some _ _ _ (.inl z)⟩
  refine codeAny_call_function room.depth (KX _ _ lk) rfl S.co S.gen rfl (PySem.W.codeRec_of KX hcd) (hb _ _ _ _ ?_)
  refine wpAny_newFunctionEnv_cells S.kind kinds fun env he t1 z => ?_
  subst he
  refine ⟨lim.keeps z.toInCall.keep, codeAny_func ?_⟩
  obtain ⟨ts, hts, hx⟩ := body cdv outer t Y vs Q E (room.deeper _) hq
  have I : Inv (cxOf CX0 P w K mg base N qual (defScope st) f cdv A outer t Y E) [] (start N vs) Y t1 := inv_start S room.hd e0 ln r z
  refine wpAny_mono (hts.nox.run [] t1 (start N vs) Y _ I hx) (fun fl t' ht => ?_) fun e t' ht => ht
  have fin : ∀ {σ' : L2.St} {Y' : Hp} {v : V} {u : Value}, Inv (cxOf CX0 P w K mg base N qual (defScope st) f cdv A outer t Y E) [] σ' Y' t' → RelV v u → Q v Y' → CE outer P w Y t Q u t' :=
    fun {σ' Y' v u} J rv q => ⟨v, Y', J.os, J.bare, J.base, J.hok, rv, q⟩
  cases fl with
  | ret u =>
    obtain ⟨v, σ', Y', J, rv, q⟩ := ht
    exact fin J rv q
  | next =>
    obtain ⟨σ', Y', J, q⟩ := ht
    exact fin (v := V.non) (u := Value.none) J rfl q
  | brk =>
    obtain ⟨_, _, _, q⟩ := ht
    exact False.elim q
  | cont =>
    obtain ⟨_, _, _, q⟩ := ht
    exact False.elim q
theorem at_law {P : Program} {w : World} {K : PySem.W.Frag} {mg mb : Str → Option Value} {fa c : Addr} {fd : FuncData} {x : Str} {sp : Sp} {t : Shared} {cells : List Value} {ns : List Int}
    (KX : K.In t.heap) (h1 : t.heap.Ns mainGlobals mg) (h2 : t.heap.Ns builtinsNs mb) (h3 : ∀ y : Str, y ≠ "__name__" → mb y = bootBuiltins y) (h4 : t.heap.NoLimit) (h5 : t.gens = #[])
    (hc : t.heap.get? c = some { cls := .type "list", data := .seq cells.toArray }) (hi : IntsAre cells ns) (hz : ns.length ≤ sizeLine)
    (F : ∀ base : Heap, K.In base → base.Ns mainGlobals mg → OkAt P w K mg base fa fd [x] sp callerA) (hbind : ∀ (t : Shared) (u : Value), BindsTo t fd ⟨[u], []⟩ [(x, u)])
    (hq : ∀ Y : Hp, SqL K Y c (ns.map V.int) → sp [.ref c] Y (fun v _ => v = .bl true) fun _ _ _ => False) :
    codeAny (model P w) callerA (.call (.ref fa) ⟨[.ref c], []⟩) (fun r t' => r = .ok (.ret (.bool true)) ∧ OldK t.heap t'.heap ∧ t'.os = t.os ∧ AllBare t'.gens) t := by
  have rv := vals_ints hi
  have lv := hi.length
  have core : ∀ Y : Hp, Only Y → SqL K Y c (ns.map V.int) → HOk P w Y t.heap → (∀ z, Y z ≠ none → z = c) → (Y c ≠ none → K.lookup c = none) →
      codeAny (model P w) callerA (.call (.ref fa) ⟨[.ref c], []⟩) (fun r t' => r = .ok (.ret (.bool true)) ∧ OldK t.heap t'.heap ∧ t'.os = t.os ∧ AllBare t'.gens) t := by
    intro Y hO hS hok hA hK
    have keepB : ∀ {z : Addr} {o : Obj}, t.heap.get? z = some o → Y z = none → (hidT t.heap Y).get? z = some o := fun e n => hidT_get e n
    have noD : ∀ {z : Addr} {o : Obj} {es : Array DictEntry} {ep : Nat}, t.heap.get? z = some o → o.data = .dict es ep → Y z = none := fun {z o es ep} e d => by
      cases q : Y z with
      | none => rfl
      | some u =>
        have ez : z = c := hA z (by rw [q]; exact Option.some_ne_none _)
        subst ez
        rw [hc] at e
        cases e
        have d' : Data.seq cells.toArray _ = Data.dict es ep := d
        cases d'
    have nsB : ∀ {z : Addr} {m : Str → Option Value}, t.heap.Ns z m → (hidT t.heap Y).Ns z m := fun {z m} ⟨o, es, ep, e, d, r⟩ => ⟨o, es, ep, keepB e (noD e d), d, r⟩
    have inB : K.In (hidT t.heap Y) := fun z o e => keepB (KX z o e) (by
      cases q : Y z with
      | none => rfl
      | some u =>
        have ez : z = c := hA z (by rw [q]; exact Option.some_ne_none _)
        subst ez
        rw [hK (by rw [q]; exact Option.some_ne_none _)] at e
        cases e)
    have md : Mod K mg (hidT t.heap Y) := ⟨inB, nsB h1, ⟨mb, nsB h2, h3⟩, let ⟨mc, z1, z2⟩ := h4; ⟨mc, nsB z1, z2⟩⟩
    have e0 : Env0 P w K mg (hidT t.heap Y) callerA [] t Y := ⟨rfl, md, fun z o e => of_hidT e, Nat.le_of_eq (hidT_size _ _), trivial, fun z hz => absurd (show z ∈ ([] : List Addr) from hz) List.not_mem_nil, hok, .of_eq h5⟩
    refine codeAny_mono (F _ inB (nsB h1) [] t Y ⟨[.ref c], []⟩ [.ref c] [.ref c] _ _ e0 (hbind t (.ref c)) (.cons rfl .nil) (hq Y hS)) fun r t' hr => ?_
    cases r with
    | error e => exact False.elim (show False from hr)
    | ok fl =>
      cases fl with
      | next => exact False.elim hr
      | brk => exact False.elim hr
      | cont => exact False.elim hr
      | ret u =>
        obtain ⟨v, Y', os, bare, un, hok', ru, qv⟩ := hr
        have qv' : v = .bl true := qv
        subst qv'
        obtain rfl : u = Value.bool true := ru
        refine ⟨rfl, OldK.of_keep fun z o e => ?_, os, bare⟩
        cases q : Y z with
        | none => exact un.keep z o e q (fun y => absurd (show z ∈ ([] : List Addr) from y) List.not_mem_nil) (by simp)
        | some u =>
          rcases hO z with y | ⟨ob, xs, y⟩
          · rw [q] at y
            cases y
          · have y2 := un.frzs z ob _ y
            obtain ⟨e1, _⟩ := hok z _ y
            obtain ⟨e2, _⟩ := hok' z _ y2
            rw [e] at e1
            cases e1
            exact e2
  cases hk : K.lookup c with
  | some o =>
    have e := KX c o hk
    rw [hc] at e
    cases e
    exact core (fun _ => none) (fun _ => .inl rfl) (.inr ⟨_, cells.toArray, _, hk, rfl, rfl, rfl, by rw [List.size_toArray, lv]; exact hz, by simpa using rv⟩) (fun z u y => by have y' : (none : Option HO) = some u := y; cases y') (fun z y => absurd rfl y) fun y => absurd rfl y
  | none =>
    refine core (fun z => if z = c then some (.frz { cls := .type "list", data := .seq cells.toArray } (.lst (ns.map V.int))) else none) (fun z => ?_) (.inl (.inr ⟨{ cls := .type "list", data := .seq cells.toArray }, if_pos rfl⟩)) (fun z u y => ?_) (fun z y => ?_) fun _ => hk
    · by_cases ez : z = c
      · exact .inr ⟨_, _, if_pos ez⟩
      · exact .inl (if_neg ez)
    · by_cases ez : z = c
      · have y' := (if_pos ez).symm.trans y
        cases y'
        subst ez
        exact ⟨hc, by rw [List.length_map]; exact hz, cells, _, rv, hc⟩
      · have y' := (if_neg ez).symm.trans y
        cases y'
    · by_cases ez : z = c
      · exact ez
      · exact absurd (if_neg ez) y
/-- the head, the promise of the law's def at the caller's place -/
theorem walk_at {l : PySem.W.OpenLaw} {n : Nat} {q : Program} {loose : List Str} {XP : (Str → Option Value) → Heap → Prop} {YP : World → Heap → Prop} {d : DefRec} {K : Params → PySem.W.Frag} {sp : World → Sp} {x : Str}
    (hn : l.most = some n) (hn2 : n ≤ sizeLine) (hdf : d.params.defaults = []) (hY : ∀ (w : World) (h : Heap), YP w h → (K w.params).In h)
    (F : ∀ (w : World) (mg : Str → Option Value) (fa : Addr) (h : Heap), (K w.params).In h → h.Ns mainGlobals mg → mg d.name = some (.ref fa) →
      ∃ fd : FuncData, (∀ (t : Shared) (u : Value), BindsTo t fd ⟨[u], []⟩ [(x, u)]) ∧ ∀ base : Heap, (K w.params).In base → base.Ns mainGlobals mg → OkAt l.prog w (K w.params) mg base fa fd [x] (sp w) callerA)
    (hq : ∀ (w : World) (Y : Hp) (c : Addr) (ns : List Int), ns.length ≤ n → SqL (K w.params) Y c (ns.map V.int) → sp w [.ref c] Y (fun v _ => v = .bl true) fun _ _ _ => False) :
    PySem.W.WalkO q loose XP YP l.row.toRowW d [] (fun f vs => PySem.call f vs) := by
  refine Att.attach_call hn hdf fun w s0 s1 mg mb fa o pm cd doc c vs ns G Y ho hd hcd hmg hobj hints hlen hg => ?_
  obtain ⟨fd, hb, hF⟩ := F w mg fa _ (hY w _ Y) G.T.g hmg
  exact at_law (hY w _ Y) G.T.g G.T.b G.T.builtins G.T.nolimit hg hobj hints (Nat.le_trans hlen hn2) hF hb fun Y hS => hq w Y c ns hlen hS
/-! ### repr of data -/
def rRepr (K : PySem.W.Frag) : List V → Hp → VK → Prop := fun xs H Q => ∃ (a : Addr) (d : PyData), xs = [.ref a] ∧ Dp K H (.ref a) d ∧ SeqAt.shaped d = true ∧ d.showable = true ∧ d.shown.length ≤ 16000000 ∧ Q (.str d.shown) H
theorem call_reprD {X : Cx} (hg : X.A.guards = some []) (hu : X.A.units + 80 < cLine) : CallR X (.builtin "repr") (rRepr X.K) := by
  intro pins s σ H xs us Q I r h
  obtain ⟨a, d, rfl, hd, hs, hw, hz, q⟩ := h
  obtain ⟨u, rfl, ru⟩ := vals1 r
  obtain rfl : u = Value.ref a := ru
  obtain ⟨as, hr⟩ := Dp.reads I d _ _ hd rfl
  have hc := SeqAt.canLay_of_shaped hs
  have h64 := SeqAt.depth_of_shaped hs
  refine repr_of_reads' hr hw (PyData.noDict_hsm (PyData.hasDict_of_canLay d hc)) hg (by omega) (fun _ _ e => e) (fun h' u tk hk => ⟨.str d.shown, H, I.kept (t' := tk) hk, ⟨u, rfl⟩, q⟩) (by rw [sizeLine_eq]; omega)
end Fw

namespace Fw
open PySem PySem.Spec PyProof.Rows L2 Evl
open TL (tl len_tl ext_tl tl_append tl_mk mk_tl)
/-! ### tuples that are made by a call, and asked for an index -/
def rTupF (K : PySem.W.Frag) : List V → Hp → VK → Prop := fun xs H Q => ∃ p ys, xs = [.ref p] ∧ ((SqL K H p ys ∧ ∀ l (ob : Obj), H l = none → ob.dict = none → Q (.ref l) (upd H l (.frz ob (.tup ys)))) ∨ (SqT K H p ys ∧ Q (.ref p) H))
theorem call_tupF {X : Cx} : CallR X (.type "tuple") (rTupF X.K) := by
  intro pins s σ H xs us Q I r h
  obtain ⟨p, ys, rfl, h⟩ := h
  obtain ⟨u, rfl, rx⟩ := vals1 r
  cases rx
  rcases h with ⟨hq, q⟩ | ⟨hq, q⟩
  · obtain ⟨its, rv, pl, hz⟩ := I.list hq
    have hl := rv.length
    refine call_tuple_list pl.isList (fun h1 kp => ?_) (by simp only [List.size_toArray]; omega)
    have J : Inv X pins σ H { s with heap := h1 } := I.kept (t' := s.toks) kp
    have J2 : Inv X pins σ (upd H h1.objs.size (.frz { cls := .type "tuple", data := .seq its.toArray } (.tup ys))) { s with heap := h1.push { cls := .type "tuple", data := .seq its.toArray } } :=
      J.laid (t' := s.toks) (fun b o e => Heap.get?_push_of_some _ e) (Nat.le_refl _) (show ObjOk X.prog X.w _ _ _ (.frz _ (.tup ys)) from ⟨Heap.get?_push_size _ rfl, hz, its, rv, IsTup.new _ _⟩)
    exact ⟨.ref h1.objs.size, _, J2, rfl, q _ _ (J.hok.fresh (Nat.le_refl _)) rfl⟩
  · obtain ⟨its, rv, pl, hz⟩ := I.tuple hq
    exact call_tuple_same pl ⟨.ref p, H, I, rfl, q⟩
theorem k_tupF {X : Cx} (K : PySem.W.Frag) (hK : X.K = K) : CallR X (.type "tuple") (rTupF K) := hK ▸ call_tupF
/-- the tuple that is asked: nothing is written on it -/
def tyTup (x : V) (H : Hp) : Prop := ∃ (a : Addr) (xs : List V) (ob : Obj), x = .ref a ∧ H a = some (.frz ob (.tup xs)) ∧ ob.dict = none
theorem ty_tup {X : Cx} : TyOk X "tuple" tyTup := by
  intro pins σ H s x v I r h
  obtain ⟨a, xs, ob, rfl, ha, hd⟩ := h
  cases r
  obtain ⟨h1, h2, its, rv, h3⟩ := I.hok a _ ha
  exact ⟨let ⟨o, ho, hc, _⟩ := h3; ⟨o, ho, hc⟩, fun b e => by
    cases e
    exact ⟨ob, h1, hd⟩⟩
def rTIdx (K : PySem.W.Frag) : V → List V → Hp → VK → Prop := fun x xs H Q => ∃ p, ∃ ys : List Str, ∃ z j, x = .ref p ∧ xs = [.str z] ∧ SqT K H p (ys.map V.str) ∧ ys[j]? = some z ∧ (∀ m, m < j → ys[m]? ≠ some z) ∧ Q (.int (j : Nat)) H
theorem k_tidx {X : Cx} (K : PySem.W.Frag) (hK : X.K = K) {o e : Expr} {to te : TE} {apos cpos : Pos} (ho : PE X o to) (he : PE X e te) (hbase : attributeBase o "index" X.env (eval o X.env) = eval o X.env := by rfl)
    (hfew : ((backTo cpos (starEach [e] X.env)).all (fun x => !x.1) && (backToKw cpos (keywordEach [] X.env)).all (fun x => x.1.isSome) && decide ([e].length + ([] : List Keyword).length + (if ([] : List Keyword).isEmpty then 0 else 1) < 30)) = true := by rfl)
    (hline : (apos.endLine == cpos.line) = true := by rfl) (hs : starEach [e] X.env = (false, eval e X.env) :: starEach [] X.env := by rfl) (hplain : (backTo cpos (starEach [] X.env)).any (·.1) = false := by rfl) :
    PE X (.Call (.Attribute o "index" apos) [e] [] cpos) (tMG tyTup (rTIdx K) to (tCons te tNil)) := by
  subst hK
  exact pe_mG ty_tup PySem.F.plainAttrs_tuple PySem.F.slot_tuple_index PySem.F.type_tuple_index mt_tup_index ho (pa_cons he pa_nil (hs := hs)) hbase hfew hline hs hplain
/-- (e, ..) , a new tuple of which it is known that nothing is written on it -/
def tTupF (t : TA) : TE := fun σ H Q => t σ H fun xs H1 => xs.length ≤ sizeLine ∧ ∀ p (ob : Obj), H1 p = none → ob.dict = none → Q (.ref p) (upd H1 p (.frz ob (.tup xs)))
theorem pe_tupF {X : Cx} {es : List Expr} {t : TA} {x1 : Nat} {pos : Pos} (h : PA X es t) : PE X (.Tuple es x1 pos) (tTupF t) := by
  refine ⟨fun pins s σ H Q I hq => ?_⟩
  refine wpAny_Tuple_spliced (thn (h.run pos pins s σ H _ I hq) fun us s1 ⟨xs, H1, J, r, z, q⟩ => ⟨by rw [← r.length]; exact z, ?_⟩)
  have fr : H1 s1.heap.objs.size = none := J.hok.fresh (Nat.le_refl _)
  refine ⟨.ref s1.heap.objs.size, upd H1 s1.heap.objs.size (.frz { cls := .type "tuple", data := .seq us.toArray } (.tup xs)), J.laid (t' := s1.toks) (fun b u e => Heap.get?_push_of_some _ e) (Nat.le_refl _) ?_, rfl, q _ _ fr rfl⟩
  exact ⟨Heap.get?_push_size _ rfl, z, us, r, ⟨_, Heap.get?_push_size _ rfl, rfl, _, rfl⟩⟩
section
variable {K : PySem.W.Frag} {σ : L2.St} {G G' H H' : Hp} {te to : TE} {ta : TA} {d : PyData} {ds : List PyData} {b : Bool}
/-- data at the top a tuple of which that is known -/
def EvF (te : TE) (σ : L2.St) (G : Hp) (ds : List PyData) : Prop := ∀ H, Ex G H → ∀ Q : VK, (∀ a xs ob G2 H2, Stp G H G2 H2 → G2 a = some (.frz ob (.tup xs)) → ob.dict = none → RpAll G2 xs ds → Q (.ref a) H2) → te σ H Q
def RpF (G : Hp) (v : V) (ds : List PyData) : Prop := ∃ (a : Addr) (xs : List V) (ob : Obj), v = .ref a ∧ G a = some (.frz ob (.tup xs)) ∧ ob.dict = none ∧ RpAll G xs ds
theorem RpF.rp {v : V} (h : RpF G v ds) : Rp G v (.tuple ds) := by
  obtain ⟨a, xs, ob, rfl, h1, h2, h3⟩ := h
  exact .tup (.inr ⟨ob, h2, h1⟩) h3
theorem RpF.mono {v : V} (e : Ex G G') (h : RpF G v ds) : RpF G' v ds := by
  obtain ⟨a, xs, ob, rfl, h1, h2, h3⟩ := h
  exact ⟨a, xs, ob, rfl, e _ _ h1, h2, ra_mono e _ _ h3⟩
def EvT (te : TE) (σ : L2.St) (G : Hp) (ds : List PyData) : Prop := ∀ H, Ex G H → ∀ Q : VK, (∀ v G2 H2, Stp G H G2 H2 → RpF G2 v ds → Q v H2) → te σ H Q
theorem EvT.mono (x : Ex G G') (h : EvT te σ G ds) : EvT te σ G' ds := fun H e Q q => h H (x.trans e) Q fun v G2 H2 s hv => q v _ H2 (s.up x e).1 (hv.mono (s.up x e).2)
theorem EvT.ev (h : EvT te σ G ds) : EvD te σ G (.tuple ds) := fun H e Q q => h H e Q fun v G2 H2 s hv => q v G2 H2 s hv.rp
theorem et_var {i : Nat} {v : V} (h : σ[i]? = some (some v)) (hd : RpF G v ds) : EvT (tVar i) σ G ds := fun H e Q q => ⟨v, h, q v G H (Stp.refl e) hd⟩
theorem et_tup (h : EvS ta σ G ds) (hl : ds.length ≤ 100000) : EvT (tTupF ta) σ G ds := fun H e Q q =>
  h H e _ fun vs G2 H2 s hv => ⟨sz_of (by rw [ra_len hv]; exact hl), fun p ob hp ho => q _ _ _ (s.trans (Stp.new s.gh hp)) ⟨p, vs, ob, rfl, upd_same, ho, ra_mono (Ex.new (fresh_back s.gh hp)) _ _ hv⟩⟩
/-- tuple(a list) -/
theorem et_tupl (h : EvD te σ G (.list ds)) : EvT (tCB (rTupF K) (tCons te tNil)) σ G ds := fun H e Q q =>
  h H e _ fun v G2 H2 s hv => by
    obtain ⟨a, xs, rfl, h1, h2⟩ := rp_lst hv
    exact ⟨a, xs, rfl, .inl ⟨sq_of (s.gh _ _ h1), fun p ob hp ho => q _ _ _ (s.trans (Stp.new s.gh hp)) ⟨p, xs, ob, rfl, upd_same, ho, ra_mono (Ex.new (fresh_back s.gh hp)) _ _ h2⟩⟩⟩
/-- where a text first stands -/
def fstAt : List Str → Str → Nat
  | [], _ => 0
  | y :: ys, x => if y = x then 0 else fstAt ys x + 1
theorem fst_at : ∀ {ys : List Str} {x : Str}, x ∈ ys → ys[fstAt ys x]? = some x ∧ ∀ m, m < fstAt ys x → ys[m]? ≠ some x
  | y :: ys, x, h => by
    unfold fstAt
    by_cases e : y = x
    · rw [if_pos e]
      exact ⟨by rw [e]; rfl, fun m hm => absurd hm (Nat.not_lt_zero m)⟩
    · rw [if_neg e]
      have hm : x ∈ ys := (List.mem_cons.mp h).elim (fun z => absurd z.symm e) id
      obtain ⟨h1, h2⟩ := fst_at hm
      refine ⟨h1, fun m hm => ?_⟩
      cases m with
      | zero => exact fun z => e (Option.some.inj z)
      | succ m => exact h2 m (Nat.lt_of_succ_lt_succ hm)
theorem fst_lt {ys : List Str} {x : Str} (h : x ∈ ys) : fstAt ys x < ys.length := (List.getElem?_eq_some_iff.mp (fst_at h).1).1
theorem ed_tidx {ys : List Str} {x : Str} (h : EvT to σ G (ys.map PyData.str)) (hx : EvD te σ G (.str x)) (hm : x ∈ ys) : EvD (tMG tyTup (rTIdx K) to (tCons te tNil)) σ G (.int (fstAt ys x : Nat)) := fun H e Q q =>
  h H e _ fun v G2 H2 s hv => by
    obtain ⟨a, xs, ob, rfl, h1, h2, h3⟩ := hv
    refine ⟨⟨a, xs, ob, rfl, s.gh _ _ h1, h2⟩, (hx.mono s.g) H2 s.gh _ fun w G3 H3 s3 hw => ?_⟩
    obtain rfl := ra_str h3
    exact ⟨a, ys, x, fstAt ys x, rfl, by rw [rp_str hw], st_t (xt s3.gh (.inr ⟨ob, h2, s3.g _ _ h1⟩)), (fst_at hm).1, (fst_at hm).2, q _ G3 H3 (s.trans s3) (.int _)⟩
/-- if i, i an int -/
def tTru (K : PySem.W.Frag) (te : TE) : TT := fun σ H Q => te σ H fun x H' => ∃ k, TruV K x H' k ∧ Q k H'
theorem k_tru {X : Cx} (K : PySem.W.Frag) (hK : X.K = K) {a : Expr} {ta : TE} (ha : PE X a ta) (he : ∀ whole, isTrue a X.env whole = (do let v ← whole; standAt a.pos; holding [v] (truthy v)) := by intro _; rfl) : PT X a (tTru K ta) := by
  subst hK
  exact pt_truth ha he
theorem ec_tru {i : Int} (h : EvD te σ G (.int i)) : EvC (tTru K te) σ G (i != 0) := fun H e Q q => h H e _ fun v G2 H2 s hv => ⟨_, by rw [rp_int hv]; rfl, q G2 H2 s⟩
end
end Fw

/-! values of one's own: immutable ones are trees, what changes stands in a store of one's own -/
namespace VS
open PySem PySem.Spec PyProof.Rows L2 Evl
open Fw (TupAt)

inductive Tk where
  | i (n : Int) | s (x : Str) | op | cl
  deriving DecidableEq
abbrev Ky := List Tk
inductive W where
  | non | bl (b : Bool) | int (i : Int) | str (x : Str)
  | tup (k : Bool) (ws : List W) | lst (ws : List W) | dct (t : Bool) (kvs : List (Ky × W)) | obj (C : Addr) (fs : List (Str × W))
  | ref (n : Nat) | raw (v : V)
inductive Cell where
  | l (ws : List W) | d (t : Bool) (kvs : List (Ky × W)) | o (C : Addr) (fs : List (Str × W))
abbrev Sto := List (Option Cell)
def kyK : Key → Ky
  | .inl i => [.i i]
  | .inr x => [.s x]
def kyT (ks : List Key) : Ky := .op :: (ks.flatMap kyK ++ [.cl])
/-- a tuple; one that is known to have no dict -/
def TpAt (G : Hp) (k : Bool) (a : Addr) (xs : List V) : Prop := if k = true then G a = some (.tup xs) else ∃ ob : Obj, ob.dict = none ∧ G a = some (.frz ob (.tup xs))
/-- an immutable dict: locked -/
def DcAt (G : Hp) (t : Bool) (a : Addr) (ks : List Ky) (xs : List V) : Prop :=
  if t = true then ∃ (o : Obj) (kvs : List (List Key × V)), G a = some (.frz o (.dT kvs)) ∧ kvs.map (fun p => kyT p.1) = ks ∧ kvs.map (fun p => p.2) = xs
  else ∃ (o : Obj) (kvs : List (Key × V)), G a = some (.frz o (.dK kvs)) ∧ kvs.map (fun p => kyK p.1) = ks ∧ kvs.map (fun p => p.2) = xs
def DcM (H : Hp) (t : Bool) (a : Addr) (ks : List Ky) (xs : List V) : Prop :=
  if t = true then ∃ kvs : List (List Key × V), H a = some (.dT kvs) ∧ kvs.map (fun p => kyT p.1) = ks ∧ kvs.map (fun p => p.2) = xs
  else ∃ kvs : List (Key × V), H a = some (.dK kvs) ∧ kvs.map (fun p => kyK p.1) = ks ∧ kvs.map (fun p => p.2) = xs
mutual
inductive Rp (φ : List Addr) (G : Hp) : V → W → Prop
  | non : Rp φ G .non .non
  | bl (b : Bool) : Rp φ G (.bl b) (.bl b)
  | int (i : Int) : Rp φ G (.int i) (.int i)
  | str (x : Str) : Rp φ G (.str x) (.str x)
  | tup {k : Bool} {a : Addr} {xs : List V} {ws : List W} (h : TpAt G k a xs) (hs : RpAll φ G xs ws) : Rp φ G (.ref a) (.tup k ws)
  | lst {a : Addr} {xs : List V} {ws : List W} (h : G a = some (.lst xs)) (hs : RpAll φ G xs ws) : Rp φ G (.ref a) (.lst ws)
  | dct {t : Bool} {a : Addr} {xs : List V} {kvs : List (Ky × W)} {ws : List W} (h : DcAt G t a (kvs.map fun p => p.1) xs) (hw : ws = kvs.map fun p => p.2) (hs : RpAll φ G xs ws) : Rp φ G (.ref a) (.dct t kvs)
  | obj {a C dx : Addr} {xs : List (Str × V)} {fs : List (Str × W)} {vs : List V} {ws : List W} (h : G a = some (.ins C dx xs)) (hn : xs.map (fun p => p.1) = fs.map fun p => p.1) (hv : vs = xs.map fun p => p.2) (hw : ws = fs.map fun p => p.2) (hs : RpAll φ G vs ws) : Rp φ G (.ref a) (.obj C fs)
  | ref {n : Nat} {a : Addr} (h : φ[n]? = some a) : Rp φ G (.ref a) (.ref n)
  | raw (v : V) : Rp φ G v (.raw v)
inductive RpAll (φ : List Addr) (G : Hp) : List V → List W → Prop
  | nil : RpAll φ G [] []
  | cons {v : V} {vs : List V} {w : W} {ws : List W} (h : Rp φ G v w) (hs : RpAll φ G vs ws) : RpAll φ G (v :: vs) (w :: ws)
end
theorem tp_mono {G G2 : Hp} (e : Ex G G2) {k : Bool} {a : Addr} {xs : List V} (h : TpAt G k a xs) : TpAt G2 k a xs := by
  cases k with
  | true => exact e _ _ h
  | false =>
    obtain ⟨ob, h1, h2⟩ := h
    exact ⟨ob, h1, e _ _ h2⟩
theorem rd_mono {G G2 : Hp} (e : Ex G G2) {a : Addr} {u : HO} (h : Rd G a u) : Rd G2 a u := h.elim (fun h => .inl (e _ _ h)) fun ⟨o, h⟩ => .inr ⟨o, e _ _ h⟩
theorem dc_mono {G G2 : Hp} (e : Ex G G2) {t : Bool} {a : Addr} {ks : List Ky} {xs : List V} (h : DcAt G t a ks xs) : DcAt G2 t a ks xs := by
  cases t with
  | true =>
    obtain ⟨o, kvs, h1, h2⟩ := h
    exact ⟨o, kvs, e _ _ h1, h2⟩
  | false =>
    obtain ⟨o, kvs, h1, h2⟩ := h
    exact ⟨o, kvs, e _ _ h1, h2⟩
theorem pre_get {φ φ2 : List Addr} (p : φ <+: φ2) {n : Nat} {a : Addr} (h : φ[n]? = some a) : φ2[n]? = some a := by
  obtain ⟨t, rfl⟩ := p
  rw [List.getElem?_append_left (by
    rcases Nat.lt_or_ge n φ.length with h2 | h2
    · exact h2
    · rw [List.getElem?_eq_none h2] at h
      cases h)]
  exact h
mutual
theorem rp_mono {φ φ2 : List Addr} {G G2 : Hp} (p : φ <+: φ2) (e : Ex G G2) : ∀ {v : V} {w : W}, Rp φ G v w → Rp φ2 G2 v w
  | _, _, .non => .non
  | _, _, .bl b => .bl b
  | _, _, .int i => .int i
  | _, _, .str x => .str x
  | _, _, .tup h hs => .tup (tp_mono e h) (ra_mono p e hs)
  | _, _, .lst h hs => .lst (e _ _ h) (ra_mono p e hs)
  | _, _, .dct h hw hs => .dct (dc_mono e h) hw (ra_mono p e hs)
  | _, _, .obj h hn hv hw hs => .obj (e _ _ h) hn hv hw (ra_mono p e hs)
  | _, _, .ref h => .ref (pre_get p h)
  | _, _, .raw v => .raw v
theorem ra_mono {φ φ2 : List Addr} {G G2 : Hp} (p : φ <+: φ2) (e : Ex G G2) : ∀ {v : List V} {w : List W}, RpAll φ G v w → RpAll φ2 G2 v w
  | _, _, .nil => .nil
  | _, _, .cons h hs => .cons (rp_mono p e h) (ra_mono p e hs)
end
theorem ra_len {φ : List Addr} {G : Hp} : ∀ {vs : List V} {ws : List W}, RpAll φ G vs ws → vs.length = ws.length
  | _, _, .nil => rfl
  | _, _, .cons _ h => congrArg Nat.succ (ra_len h)
theorem ra_get {φ : List Addr} {G : Hp} : ∀ {vs : List V} {ws : List W} {i : Nat} {w : W}, RpAll φ G vs ws → ws[i]? = some w → ∃ v, vs[i]? = some v ∧ Rp φ G v w
  | _, _, _, _, .nil, h => by simp at h
  | _, _, 0, _, .cons h1 _, h => by
    simp at h
    exact ⟨_, rfl, h ▸ h1⟩
  | _, _, i + 1, _, .cons _ h2, h => by
    obtain ⟨v, e, r⟩ := ra_get (i := i) h2 (by simpa using h)
    exact ⟨v, by simpa using e, r⟩
theorem ra_get' {φ : List Addr} {G : Hp} : ∀ {vs : List V} {ws : List W} {i : Nat} {v : V}, RpAll φ G vs ws → vs[i]? = some v → ∃ w, ws[i]? = some w ∧ Rp φ G v w
  | _, _, _, _, .nil, h => by simp at h
  | _, _, 0, _, .cons h1 _, h => by
    simp at h
    exact ⟨_, rfl, h ▸ h1⟩
  | _, _, i + 1, _, .cons _ h2, h => by
    obtain ⟨v, e, r⟩ := ra_get' (i := i) h2 (by simpa using h)
    exact ⟨v, by simpa using e, r⟩
theorem ra_app {φ : List Addr} {G : Hp} : ∀ {vs ws : List V} {ds es : List W}, RpAll φ G vs ds → RpAll φ G ws es → RpAll φ G (vs ++ ws) (ds ++ es)
  | _, _, _, _, .nil, h => h
  | _, _, _, _, .cons h1 h2, h => .cons h1 (ra_app h2 h)
theorem ra_one {φ : List Addr} {G : Hp} {v : V} {w : W} (h : Rp φ G v w) : RpAll φ G [v] [w] := .cons h .nil
theorem ra_take {φ : List Addr} {G : Hp} : ∀ {vs : List V} {ws : List W} (n : Nat), RpAll φ G vs ws → RpAll φ G (vs.take n) (ws.take n)
  | _, _, 0, _ => .nil
  | _, _, _ + 1, .nil => .nil
  | _, _, n + 1, .cons h1 h2 => .cons h1 (ra_take n h2)
theorem ra_drop {φ : List Addr} {G : Hp} : ∀ {vs : List V} {ws : List W} (n : Nat), RpAll φ G vs ws → RpAll φ G (vs.drop n) (ws.drop n)
  | _, _, 0, h => h
  | _, _, _ + 1, .nil => .nil
  | _, _, n + 1, .cons _ h2 => ra_drop n h2
theorem ra_set {φ : List Addr} {G : Hp} {v : V} {w : W} (r : Rp φ G v w) : ∀ {vs : List V} {ws : List W} (i : Nat), RpAll φ G vs ws → RpAll φ G (vs.set i v) (ws.set i w)
  | _, _, _, .nil => .nil
  | _, _, 0, .cons _ h2 => .cons r h2
  | _, _, i + 1, .cons h1 h2 => .cons h1 (ra_set r i h2)
theorem ra_rev {φ : List Addr} {G : Hp} : ∀ {vs : List V} {ws : List W}, RpAll φ G vs ws → RpAll φ G vs.reverse ws.reverse
  | _, _, .nil => .nil
  | _, _, .cons h1 h2 => by
    rw [List.reverse_cons, List.reverse_cons]
    exact ra_app (ra_rev h2) (ra_one h1)
/-! ### no reference into the store -/
mutual
def W.free : W → Bool
  | .ref _ => false
  | .tup _ ws => freeAll ws
  | .lst ws => freeAll ws
  | .dct _ kvs => freeK kvs
  | .obj _ fs => freeF fs
  | _ => true
def freeAll : List W → Bool
  | [] => true
  | w :: ws => w.free && freeAll ws
def freeK : List (Ky × W) → Bool
  | [] => true
  | (_, w) :: ws => w.free && freeK ws
def freeF : List (Str × W) → Bool
  | [] => true
  | (_, w) :: ws => w.free && freeF ws
end
theorem freeAll_iff : ∀ {ws : List W}, freeAll ws = true ↔ ∀ w ∈ ws, w.free = true
  | [] => by simp [freeAll]
  | w :: ws => by simp [freeAll, freeAll_iff (ws := ws)]
theorem freeK_map : ∀ (kvs : List (Ky × W)), freeK kvs = freeAll (kvs.map fun p => p.2)
  | [] => rfl
  | (k, w) :: r => by simp [freeK, freeAll, freeK_map r]
theorem freeF_map : ∀ (kvs : List (Str × W)), freeF kvs = freeAll (kvs.map fun p => p.2)
  | [] => rfl
  | (k, w) :: r => by simp [freeF, freeAll, freeF_map r]
mutual
theorem rp_any {φ φ2 : List Addr} {G : Hp} : ∀ {v : V} {w : W}, Rp φ G v w → w.free = true → Rp φ2 G v w
  | _, _, .non, _ => .non
  | _, _, .bl b, _ => .bl b
  | _, _, .int i, _ => .int i
  | _, _, .str x, _ => .str x
  | _, _, .tup h hs, f => .tup h (ra_any hs (by simpa [W.free] using f))
  | _, _, .lst h hs, f => .lst h (ra_any hs (by simpa [W.free] using f))
  | _, _, .dct h hw hs, f => .dct h hw (ra_any hs (by rw [hw, ← freeK_map]; simpa [W.free] using f))
  | _, _, .obj h hn hv hw hs, f => .obj h hn hv hw (ra_any hs (by rw [hw, ← freeF_map]; simpa [W.free] using f))
  | _, _, .ref h, f => by simp [W.free] at f
  | _, _, .raw v, _ => .raw v
theorem ra_any {φ φ2 : List Addr} {G : Hp} : ∀ {v : List V} {w : List W}, RpAll φ G v w → freeAll w = true → RpAll φ2 G v w
  | _, _, .nil, _ => .nil
  | _, _, .cons h hs, f => by
    simp only [freeAll, Bool.and_eq_true] at f
    exact .cons (rp_any h f.1) (ra_any hs f.2)
end
/-! ### the state -/
def CellAt (φ : List Addr) (G H : Hp) (a : Addr) : Cell → Prop
  | .l ws => ∃ xs, H a = some (.lst xs) ∧ RpAll φ G xs ws
  | .d t kvs => ∃ xs, DcM H t a (kvs.map fun p => p.1) xs ∧ RpAll φ G xs (kvs.map fun p => p.2)
  | .o C fs => ∃ dx xs, H a = some (.ins C dx xs) ∧ xs.map (fun p => p.1) = fs.map (fun p => p.1) ∧ RpAll φ G (xs.map fun p => p.2) (fs.map fun p => p.2)
structure Ok (φ : List Addr) (st : Sto) (G H : Hp) : Prop where
  ex : Ex G H
  len : φ.length = st.length
  cell : ∀ (n : Nat) (a : Addr) (c : Cell), φ[n]? = some a → st[n]? = some (some c) → CellAt φ G H a c ∧ G a = none
  inj : ∀ (m n : Nat) (a : Addr) (c d : Cell), φ[m]? = some a → φ[n]? = some a → st[m]? = some (some c) → st[n]? = some (some d) → m = n
/-- no live cell stands at a -/
def Free (φ : List Addr) (st : Sto) (a : Addr) : Prop := ∀ n : Nat, φ[n]? = some a → st[n]? = some none
def isTup : HO → Bool
  | .tup _ => true
  | _ => false
structure Step (φ : List Addr) (st : Sto) (G H : Hp) (φ2 : List Addr) (st2 : Sto) (G2 H2 : Hp) : Prop where
  g : Ex G G2
  ok : Ok φ2 st2 G2 H2
  pre : φ <+: φ2
  keep : ∀ a o, H a = some o → Free φ st a → H2 a = some o ∧ (G2 a = G a ∨ isTup o = true)
  dom : ∀ a o, H a = some o → ∃ o', H2 a = some o'
  new : ∀ (n : Nat) (a : Addr), φ2[n]? = some a → φ.length ≤ n → H a = none
  dead : ∀ n : Nat, st[n]? = some none → st2[n]? = some none
section
variable {φ φ2 φ3 : List Addr} {st st2 st3 : Sto} {G G2 G3 H H2 H3 : Hp}
theorem Step.refl (h : Ok φ st G H) : Step φ st G H φ st G H :=
  ⟨Ex.refl G, h, List.prefix_rfl, fun _ _ e _ => ⟨e, .inl rfl⟩, fun _ o e => ⟨o, e⟩, fun n a e l => absurd e (by
    rw [List.getElem?_eq_none l]
    exact nofun), fun _ h => h⟩
theorem pre_back (p : φ <+: φ2) {n : Nat} {a : Addr} (h : φ2[n]? = some a) (l : n < φ.length) : φ[n]? = some a := by
  obtain ⟨t, rfl⟩ := p
  rw [List.getElem?_append_left l] at h
  exact h
theorem Step.free (s : Step φ st G H φ2 st2 G2 H2) {a : Addr} {o : HO} (e : H a = some o) (f : Free φ st a) : Free φ2 st2 a := fun n hn => by
  rcases Nat.lt_or_ge n φ.length with l | l
  · exact s.dead n (f n (pre_back s.pre hn l))
  · rw [s.new n a hn l] at e
    cases e
theorem Step.trans (s : Step φ st G H φ2 st2 G2 H2) (t : Step φ2 st2 G2 H2 φ3 st3 G3 H3) : Step φ st G H φ3 st3 G3 H3 := by
  refine ⟨s.g.trans t.g, t.ok, s.pre.trans t.pre, fun a o e f => ?_, fun a o e => ?_, fun n a e l => ?_, fun n h => t.dead n (s.dead n h)⟩
  · obtain ⟨h1, h2⟩ := s.keep a o e f
    obtain ⟨h3, h4⟩ := t.keep a o h1 (s.free e f)
    exact ⟨h3, h4.elim (fun h4 => h2.elim (fun h2 => .inl (h4.trans h2)) .inr) .inr⟩
  · obtain ⟨o2, h2⟩ := s.dom a o e
    exact t.dom a o2 h2
  · rcases Nat.lt_or_ge n φ2.length with l2 | l2
    · exact s.new n a (pre_back t.pre e l2) l
    · have := t.new n a e l2
      cases h : H a with
      | none => rfl
      | some o =>
        obtain ⟨o2, h2⟩ := s.dom a o h
        rw [h2] at this
        cases this
theorem Step.rp (s : Step φ st G H φ2 st2 G2 H2) {v : V} {w : W} (h : Rp φ G v w) : Rp φ2 G2 v w := rp_mono s.pre s.g h
theorem Step.ra (s : Step φ st G H φ2 st2 G2 H2) {v : List V} {w : List W} (h : RpAll φ G v w) : RpAll φ2 G2 v w := ra_mono s.pre s.g h
theorem cell_mono {a : Addr} {c : Cell} (p : φ <+: φ2) (e : Ex G G2) (h : CellAt φ G H a c) (k : H2 a = H a) : CellAt φ2 G2 H2 a c := by
  cases c with
  | l ws =>
    obtain ⟨xs, h1, h2⟩ := h
    exact ⟨xs, k.trans h1, ra_mono p e h2⟩
  | d t kvs =>
    obtain ⟨xs, h1, h2⟩ := h
    refine ⟨xs, ?_, ra_mono p e h2⟩
    cases t with
    | true =>
      obtain ⟨l, h1, h3⟩ := h1
      exact ⟨l, k.trans h1, h3⟩
    | false =>
      obtain ⟨l, h1, h3⟩ := h1
      exact ⟨l, k.trans h1, h3⟩
  | o C fs =>
    obtain ⟨dx, xs, h1, h2, h3⟩ := h
    exact ⟨dx, xs, k.trans h1, h2, ra_mono p e h3⟩
theorem cell_some {a : Addr} {c : Cell} (h : CellAt φ G H a c) : ∃ o, H a = some o ∧ isTup o = false := by
  cases c with
  | l ws =>
    obtain ⟨xs, h1, h2⟩ := h
    exact ⟨_, h1, rfl⟩
  | d t kvs =>
    obtain ⟨xs, h1, h2⟩ := h
    cases t with
    | true =>
      obtain ⟨l, h1, h3⟩ := h1
      exact ⟨_, h1, rfl⟩
    | false =>
      obtain ⟨l, h1, h3⟩ := h1
      exact ⟨_, h1, rfl⟩
  | o C fs =>
    obtain ⟨dx, xs, h1, h2, h3⟩ := h
    exact ⟨_, h1, rfl⟩
/-- a new immutable object -/
theorem Step.new1 (k : Ok φ st G H) {p : Addr} {o : HO} (h : H p = none) : Step φ st G H φ st (upd G p o) (upd H p o) := by
  have gp := fresh_back k.ex h
  have ne : ∀ a u, H a = some u → a ≠ p := fun a u e z => by
    subst z
    rw [h] at e
    cases e
  refine ⟨Ex.new gp, ⟨fun a u q => ?_, k.len, fun n a c h1 h2 => ?_, k.inj⟩, List.prefix_rfl, fun a u e f => ?_, fun a u e => ⟨u, (upd_ne (ne a u e)).trans e⟩, fun n a e l => ?_, fun _ h => h⟩
  · by_cases hp : a = p
    · subst hp
      rw [upd_same] at q ⊢
      exact q
    · rw [upd_ne hp] at q ⊢
      exact k.ex a u q
  · obtain ⟨h3, h4⟩ := k.cell n a c h1 h2
    obtain ⟨u, hu, _⟩ := cell_some h3
    refine ⟨cell_mono List.prefix_rfl (Ex.new gp) h3 (upd_ne (ne a u hu)), (upd_ne (ne a u hu)).trans h4⟩
  · exact ⟨(upd_ne (ne a u e)).trans e, .inl (upd_ne (ne a u e))⟩
  · rw [List.getElem?_eq_none l] at e
    cases e
/-- a new cell -/
theorem Step.cell (k : Ok φ st G H) {p : Addr} {o : HO} {c : Cell} (h : H p = none) (hc : CellAt φ G (upd H p o) p c) : Step φ st G H (φ ++ [p]) (st ++ [some c]) G (upd H p o) := by
  have gp := fresh_back k.ex h
  have ne : ∀ a u, H a = some u → a ≠ p := fun a u e z => by
    subst z
    rw [h] at e
    cases e
  have pr : φ <+: φ ++ [p] := List.prefix_append _ _
  have look : ∀ {n : Nat} {a : Addr} {c' : Cell}, (φ ++ [p])[n]? = some a → (st ++ [some c])[n]? = some (some c') → (φ[n]? = some a ∧ st[n]? = some (some c')) ∨ (n = φ.length ∧ a = p ∧ c' = c) := fun {n a c'} h1 h2 => by
    rcases Nat.lt_trichotomy n φ.length with l | l | l
    · rw [List.getElem?_append_left l] at h1
      rw [List.getElem?_append_left (k.len ▸ l)] at h2
      exact .inl ⟨h1, h2⟩
    · refine .inr ⟨l, ?_, ?_⟩
      · rw [l] at h1
        simpa using h1.symm
      · rw [l, k.len] at h2
        simpa using h2.symm
    · rw [List.getElem?_eq_none (by simp; omega)] at h1
      cases h1
  have live : ∀ {n : Nat} {a : Addr} {c' : Cell}, φ[n]? = some a → st[n]? = some (some c') → a ≠ p := fun {n a c'} h1 h2 => by
    obtain ⟨u, hu, _⟩ := cell_some (k.cell n a c' h1 h2).1
    exact ne a u hu
  refine ⟨Ex.refl G, ⟨fun a u q => ?_, by simp [k.len], fun n a c' h1 h2 => ?_, fun m n a c1 c2 h1 h2 h3 h4 => ?_⟩, pr, fun a u e f => ⟨(upd_ne (ne a u e)).trans e, .inl rfl⟩, fun a u e => ⟨u, (upd_ne (ne a u e)).trans e⟩, fun n a e l => ?_, fun n hn => ?_⟩
  · rw [upd_ne (fun z => by rw [z, gp] at q; cases q)]
    exact k.ex a u q
  · rcases look h1 h2 with ⟨h3, h4⟩ | ⟨_, rfl, rfl⟩
    · obtain ⟨h5, h6⟩ := k.cell n a c' h3 h4
      exact ⟨cell_mono pr (Ex.refl G) h5 (upd_ne (live h3 h4)), h6⟩
    · refine ⟨?_, gp⟩
      exact cell_mono pr (Ex.refl G) hc rfl
  · rcases look h1 h3 with ⟨a1, a2⟩ | ⟨a1, a2, a3⟩
    · rcases look h2 h4 with ⟨b1, b2⟩ | ⟨b1, b2, b3⟩
      · exact k.inj m n a c1 c2 a1 b1 a2 b2
      · exact absurd b2 (live a1 a2)
    · rcases look h2 h4 with ⟨b1, b2⟩ | ⟨b1, b2, b3⟩
      · exact absurd a2 (live b1 b2)
      · rw [a1, b1]
  · rcases Nat.lt_or_ge n (φ ++ [p]).length with l2 | l2
    · have : n = φ.length := by
        rw [List.length_append] at l2
        simp at l2
        omega
      subst this
      simp at e
      rw [← e]
      exact h
    · rw [List.getElem?_eq_none l2] at e
      cases e
  · rw [List.getElem?_append_left]
    · exact hn
    · rcases Nat.lt_or_ge n st.length with l | l
      · exact l
      · rw [List.getElem?_eq_none l] at hn
        cases hn
/-- a cell changes -/
theorem Step.put (k : Ok φ st G H) {n : Nat} {p : Addr} {o : HO} {c c0 : Cell} (hp : φ[n]? = some p) (h : st[n]? = some (some c0)) (hc : CellAt φ G (upd H p o) p c) : Step φ st G H φ (st.set n (some c)) G (upd H p o) := by
  have gp := (k.cell n p c0 hp h).2
  have ln : n < st.length := by
    rcases Nat.lt_or_ge n st.length with l | l
    · exact l
    · rw [List.getElem?_eq_none l] at h
      cases h
  have look : ∀ {m : Nat} {a : Addr} {c' : Cell}, φ[m]? = some a → (st.set n (some c))[m]? = some (some c') → (m ≠ n ∧ st[m]? = some (some c')) ∨ (m = n ∧ a = p ∧ c' = c) := fun {m a c'} h1 h2 => by
    by_cases e : m = n
    · subst e
      rw [h1] at hp
      cases hp
      rw [List.getElem?_set_self ln] at h2
      cases h2
      exact .inr ⟨rfl, rfl, rfl⟩
    · rw [List.getElem?_set_ne (Ne.symm e)] at h2
      exact .inl ⟨e, h2⟩
  have live : ∀ {m : Nat} {a : Addr} {c' : Cell}, φ[m]? = some a → st[m]? = some (some c') → m ≠ n → a ≠ p := fun {m a c'} h1 h2 h3 z => h3 (k.inj m n a c' c0 h1 (z ▸ hp) h2 h)
  have nf : ∀ a, Free φ st a → a ≠ p := fun a f z => by
    subst z
    rw [f n hp] at h
    cases h
  refine ⟨Ex.refl G, ⟨fun a u q => ?_, by simp [k.len], fun m a c' h1 h2 => ?_, fun m1 m2 a c1 c2 h1 h2 h3 h4 => ?_⟩, List.prefix_rfl, fun a u e f => ⟨(upd_ne (nf a f)).trans e, .inl rfl⟩, fun a u e => ?_, fun m a e l => ?_, fun m hm => ?_⟩
  · rw [upd_ne (fun z => by rw [z, gp] at q; cases q)]
    exact k.ex a u q
  · rcases look h1 h2 with ⟨h3, h4⟩ | ⟨_, rfl, rfl⟩
    · obtain ⟨h5, h6⟩ := k.cell m a c' h1 h4
      exact ⟨cell_mono List.prefix_rfl (Ex.refl G) h5 (upd_ne (live h1 h4 h3)), h6⟩
    · exact ⟨hc, gp⟩
  · rcases look h1 h3 with ⟨a1, a2⟩ | ⟨a1, a2, a3⟩
    · rcases look h2 h4 with ⟨b1, b2⟩ | ⟨b1, b2, b3⟩
      · exact k.inj m1 m2 a c1 c2 h1 h2 a2 b2
      · exact absurd b2 (live h1 a2 a1)
    · rcases look h2 h4 with ⟨b1, b2⟩ | ⟨b1, b2, b3⟩
      · exact absurd a2 (live h2 b2 b1)
      · rw [a1, b1]
  · by_cases z : a = p
    · exact ⟨o, by rw [z, upd_same]⟩
    · exact ⟨u, by rw [upd_ne z]; exact e⟩
  · rw [List.getElem?_eq_none l] at e
    cases e
  · by_cases z : m = n
    · subst z
      rw [hm] at h
      cases h
    · rw [List.getElem?_set_ne (Ne.symm z)]
      exact hm
/-- a cell becomes immutable -/
theorem Step.frz (k : Ok φ st G H) {n : Nat} {p : Addr} {o : HO} {c : Cell} (hp : φ[n]? = some p) (h : st[n]? = some (some c)) (ho : H p = some o) : Step φ st G H φ (st.set n none) (upd G p o) H := by
  have gp := (k.cell n p c hp h).2
  have ln : n < st.length := by
    rcases Nat.lt_or_ge n st.length with l | l
    · exact l
    · rw [List.getElem?_eq_none l] at h
      cases h
  have look : ∀ {m : Nat} {c' : Cell}, (st.set n none)[m]? = some (some c') → m ≠ n ∧ st[m]? = some (some c') := fun {m c'} h2 => by
    by_cases e : m = n
    · subst e
      rw [List.getElem?_set_self ln] at h2
      cases h2
    · rw [List.getElem?_set_ne (Ne.symm e)] at h2
      exact ⟨e, h2⟩
  have nf : ∀ a, Free φ st a → a ≠ p := fun a f z => by
    subst z
    rw [f n hp] at h
    cases h
  refine ⟨Ex.new gp, ⟨fun a u q => ?_, by simp [k.len], fun m a c' h1 h2 => ?_, fun m1 m2 a c1 c2 h1 h2 h3 h4 => k.inj m1 m2 a c1 c2 h1 h2 (look h3).2 (look h4).2⟩, List.prefix_rfl, fun a u e f => ⟨e, .inl (upd_ne (nf a f))⟩, fun a u e => ⟨u, e⟩, fun m a e l => ?_, fun m hm => ?_⟩
  · by_cases z : a = p
    · subst z
      rw [upd_same] at q
      cases q
      exact ho
    · rw [upd_ne z] at q
      exact k.ex a u q
  · obtain ⟨h3, h4⟩ := look h2
    obtain ⟨h5, h6⟩ := k.cell m a c' h1 h4
    refine ⟨cell_mono List.prefix_rfl (Ex.new gp) h5 rfl, ?_⟩
    rw [upd_ne (fun (z : a = p) => h3 (k.inj m n a c' c h1 (by rw [z]; exact hp) h4 h))]
    exact h6
  · rw [List.getElem?_eq_none l] at e
    cases e
  · by_cases z : m = n
    · subst z
      exact List.getElem?_set_self ln
    · rw [List.getElem?_set_ne (Ne.symm z)]
      exact hm
/-- behind a call that has a store of its own -/
theorem Step.pure {φc : List Addr} {stc : Sto} (k : Ok φ st G H) (s : Step [] [] G H φc stc G2 H2) : Step φ st G H φ st G2 H2 := by
  have fr : ∀ a, Free [] ([] : Sto) a := fun a n h => by simp at h
  refine ⟨s.g, ⟨s.ok.ex, k.len, fun n a c h1 h2 => ?_, k.inj⟩, List.prefix_rfl, fun a o e f => s.keep a o e (fr a), s.dom, fun n a e l => ?_, fun n h => h⟩
  · obtain ⟨h3, h4⟩ := k.cell n a c h1 h2
    obtain ⟨o, ho, ht⟩ := cell_some h3
    obtain ⟨h5, h6⟩ := s.keep a o ho (fr a)
    exact ⟨cell_mono List.prefix_rfl s.g h3 (h5.trans ho.symm), (h6.resolve_right (by rw [ht]; exact Bool.false_ne_true)).trans h4⟩
  · rw [List.getElem?_eq_none l] at e
    cases e
theorem Ok.nil (e : Ex G H) : Ok [] [] G H := ⟨e, rfl, fun n a c h => by simp at h, fun m n a c d h => by simp at h⟩
end
end VS

namespace VS
open PySem PySem.Spec PyProof.Rows L2 Evl
open Fw (TupAt)
abbrev Xn := Addr × List (Str × W)
inductive R (α : Type) where
  | ok (a : α) | ex (e : Xn)
abbrev Env := List (Option W)
abbrev M (α : Type) := Env → Sto → Option (R α × Sto)
def andR {α β : Type} (m : Option (R α × Sto)) (f : α → Sto → Option (R β × Sto)) : Option (R β × Sto) := match m with
  | some (.ok a, s) => f a s
  | some (.ex e, s) => some (.ex e, s)
  | none => none
@[simp] theorem andR_ok {α β : Type} {a : α} {s : Sto} {f : α → Sto → Option (R β × Sto)} : andR (some (.ok a, s)) f = f a s := rfl
@[simp] theorem andR_ex {α β : Type} {e : Xn} {s : Sto} {f : α → Sto → Option (R β × Sto)} : andR (some (.ex e, s)) f = some (.ex e, s) := rfl
@[simp] theorem andR_none {α β : Type} {f : α → Sto → Option (R β × Sto)} : andR none f = none := rfl
def EnvOk (φ : List Addr) (G : Hp) (σ : L2.St) (ρ : Env) : Prop := σ.length = ρ.length ∧ ∀ (i : Nat) (w : W), ρ[i]? = some (some w) → ∃ v, σ[i]? = some (some v) ∧ Rp φ G v w
def ExAt (φ : List Addr) (G H : Hp) (e : Xn) (cls : Value) (od : Option Addr) : Prop :=
  cls = .ref e.1 ∧ ((e.2 = [] ∧ od = none) ∨ ∃ (d : Addr) (xs : List (Str × V)), e.2 ≠ [] ∧ od = some d ∧ H d = some (.xd xs) ∧ xs.map (fun p => p.1) = e.2.map (fun p => p.1) ∧ RpAll φ G (xs.map fun p => p.2) (e.2.map fun p => p.2))
/-- t reads as m: what m gives comes, or what it raises -/
def Sim {α β : Type} (Rel : List Addr → Hp → β → α → Prop) (E : L2.St → XK) (t : L2.St → Hp → (β → Hp → Prop) → Prop) (m : M α) : Prop :=
  ∀ (σ : L2.St) (ρ : Env) (φ : List Addr) (st : Sto) (G H : Hp) (r : R α) (st' : Sto), Ok φ st G H → EnvOk φ G σ ρ → m ρ st = some (r, st') → ∀ Q : β → Hp → Prop,
    (∀ a b φ2 G2 H2, r = .ok a → Step φ st G H φ2 st' G2 H2 → Rel φ2 G2 b a → Q b H2) →
    (∀ e cls od φ2 G2 H2, r = .ex e → Step φ st G H φ2 st' G2 H2 → ExAt φ2 G2 H2 e cls od → E σ cls od H2) → t σ H Q
abbrev SimE := @Sim W V (fun φ G v w => Rp φ G v w)
abbrev SimA := @Sim (List W) (List V) (fun φ G v w => RpAll φ G v w)
abbrev SimT := @Sim Bool Bool (fun _ _ b c => b = c)
section
variable {α β γ δ : Type} {Rel : List Addr → Hp → β → α → Prop} {E : L2.St → XK} {t : L2.St → Hp → (β → Hp → Prop) → Prop} {m : M α} {σ : L2.St} {ρ : Env} {φ φ2 : List Addr} {st st2 st' : Sto} {G G2 H H2 : Hp}
theorem EnvOk.mono (h : EnvOk φ G σ ρ) (s : Step φ st G H φ2 st2 G2 H2) : EnvOk φ2 G2 σ ρ := ⟨h.1, fun i w e => by
  obtain ⟨v, h1, h2⟩ := h.2 i w e
  exact ⟨v, h1, s.rp h2⟩⟩
theorem EnvOk.set (h : EnvOk φ G σ ρ) {v : V} {w : W} (r : Rp φ G v w) (i : Nat) : EnvOk φ G (σ.set i (some v)) (ρ.set i (some w)) := by
  refine ⟨by simp [h.1], fun j w' e => ?_⟩
  by_cases z : i = j
  · subst z
    have l : i < ρ.length := by
      rcases Nat.lt_or_ge i ρ.length with l | l
      · exact l
      · rw [List.getElem?_eq_none (by simpa using l)] at e
        cases e
    rw [List.getElem?_set_self l] at e
    cases e
    exact ⟨v, List.getElem?_set_self (h.1 ▸ l), r⟩
  · rw [List.getElem?_set_ne z] at e
    obtain ⟨u, h1, h2⟩ := h.2 j w' e
    exact ⟨u, by rw [List.getElem?_set_ne z]; exact h1, h2⟩
theorem Sim.then_ {κ : Type} {F : α → Sto → Option (R κ × Sto)} {r : R κ} (h : Sim Rel E t m) (k : Ok φ st G H) (ev : EnvOk φ G σ ρ) (hm : andR (m ρ st) F = some (r, st')) {Q : β → Hp → Prop}
    (x : ∀ e cls od φ2 G2 H2, r = .ex e → Step φ st G H φ2 st' G2 H2 → ExAt φ2 G2 H2 e cls od → E σ cls od H2)
    (n : ∀ a s b φ2 G2 H2, F a s = some (r, st') → Step φ st G H φ2 s G2 H2 → Rel φ2 G2 b a → Q b H2) : t σ H Q := by
  cases e : m ρ st with
  | none =>
    rw [e] at hm
    cases hm
  | some p =>
    obtain ⟨q, s⟩ := p
    cases q with
    | ok a =>
      rw [e] at hm
      exact h σ ρ φ st G H _ _ k ev e Q (fun a' b φ2 G2 H2 ea s1 r1 => by cases ea; exact n a s b φ2 G2 H2 hm s1 r1) (fun _ _ _ _ _ _ z => nomatch z)
    | ex e' =>
      rw [e] at hm
      cases hm
      exact h σ ρ φ st G H _ _ k ev e Q (fun _ _ _ _ _ z => nomatch z) (fun e2 cls od φ2 G2 H2 ee s1 r1 => by cases ee; exact x e' cls od φ2 G2 H2 rfl s1 r1)
end
/-! ### what an operation gives -/
inductive Fr where
  | val (w : W) | nl (ws : List W) | nt (ws : List W) | nf (ws : List W) | nd (t : Bool) (kvs : List (Ky × W))
/-- c: a list or dict that is new becomes a cell -/
def fin (c : Bool) (fr : Fr) (st : Sto) : R W × Sto := match fr with
  | .val w => (.ok w, st)
  | .nt ws => (.ok (.tup true ws), st)
  | .nf ws => (.ok (.tup false ws), st)
  | .nl ws => if c = true then (.ok (.ref st.length), st ++ [some (.l ws)]) else (.ok (.lst ws), st)
  | .nd t kvs => (.ok (.ref st.length), st ++ [some (.d t kvs)])
@[simp] theorem fin_val {c : Bool} {w : W} {st : Sto} : fin c (.val w) st = (.ok w, st) := rfl
@[simp] theorem fin_nt {c : Bool} {w : List W} {st : Sto} : fin c (.nt w) st = (.ok (.tup true w), st) := rfl
@[simp] theorem fin_nf {c : Bool} {w : List W} {st : Sto} : fin c (.nf w) st = (.ok (.tup false w), st) := rfl
@[simp] theorem fin_nl {w : List W} {st : Sto} : fin false (.nl w) st = (.ok (.lst w), st) := rfl
@[simp] theorem fin_nlc {w : List W} {st : Sto} : fin true (.nl w) st = (.ok (.ref st.length), st ++ [some (.l w)]) := rfl
@[simp] theorem fin_nd {c t : Bool} {w : List (Ky × W)} {st : Sto} : fin c (.nd t w) st = (.ok (.ref st.length), st ++ [some (.d t w)]) := rfl
def FrPost (φ : List Addr) (G H : Hp) (Q : VK) : Fr → Prop
  | .val w => ∀ v, Rp φ G v w → Q v H
  | .nl ws => ∀ p xs, H p = none → RpAll φ G xs ws → Q (.ref p) (upd H p (.lst xs))
  | .nt ws => ∀ p xs, H p = none → RpAll φ G xs ws → Q (.ref p) (upd H p (.tup xs))
  | .nf ws => ∀ p xs (ob : Obj), H p = none → ob.dict = none → RpAll φ G xs ws → Q (.ref p) (upd H p (.frz ob (.tup xs)))
  | .nd t kvs => ∀ p xs H', H p = none → (∃ o, H' = upd H p o) → DcM H' t p (kvs.map fun q => q.1) xs → RpAll φ G xs (kvs.map fun q => q.2) → Q (.ref p) H'
theorem fin_post {φ : List Addr} {st st' : Sto} {G H : Hp} {Q : VK} {c : Bool} {fr : Fr} {r : R W} (k : Ok φ st G H) (hf : fin c fr st = (r, st'))
    (q : ∀ w v φ2 G2 H2, r = .ok w → Step φ st G H φ2 st' G2 H2 → Rp φ2 G2 v w → Q v H2) : FrPost φ G H Q fr := by
  cases fr with
  | val w =>
    cases hf
    exact fun v h => q w v φ G H rfl (Step.refl k) h
  | nt ws =>
    cases hf
    intro p xs hp h
    have s := Step.new1 (o := .tup xs) k hp
    exact q _ _ _ _ _ rfl s (.tup (k := true) upd_same (s.ra h))
  | nf ws =>
    cases hf
    intro p xs ob hp hd h
    have s := Step.new1 (o := .frz ob (.tup xs)) k hp
    exact q _ _ _ _ _ rfl s (.tup (k := false) ⟨ob, hd, upd_same⟩ (s.ra h))
  | nl ws =>
    intro p xs hp h
    cases c with
    | false =>
      cases hf
      have s := Step.new1 (o := .lst xs) k hp
      exact q _ _ _ _ _ rfl s (.lst upd_same (s.ra h))
    | true =>
      cases hf
      have s := Step.cell (o := .lst xs) (c := .l ws) k hp ⟨xs, upd_same, h⟩
      exact q _ _ _ _ _ rfl s (.ref (by rw [← k.len]; simp))
  | nd t kvs =>
    intro p xs H' hp ho hd h
    obtain ⟨o, rfl⟩ := ho
    cases hf
    have s := Step.cell (o := o) (c := .d t kvs) k hp ⟨xs, hd, h⟩
    exact q _ _ _ _ _ rfl s (.ref (by rw [← k.len]; simp))
/-! ### combinators: expressions -/
def vVar (i : Nat) : M W := fun ρ st => match ρ[i]? with
  | some (some w) => some (.ok w, st)
  | _ => none
def vC (w : W) : M W := fun _ st => some (.ok w, st)
def vNil : M (List W) := fun _ st => some (.ok [], st)
def vCons (a : M W) (r : M (List W)) : M (List W) := fun ρ st => andR (a ρ st) fun w s => andR (r ρ s) fun ws s2 => some (.ok (w :: ws), s2)
def finO (c : Bool) (x : Option Fr) (st : Sto) : Option (R W × Sto) := x.map fun fr => fin c fr st
@[simp] theorem finO_some {c : Bool} {fr : Fr} {st : Sto} : finO c (some fr) st = some (fin c fr st) := rfl
@[simp] theorem finO_none {c : Bool} {st : Sto} : finO c none st = none := rfl
def vOp (c : Bool) (f : W → W → Sto → Option Fr) (a b : M W) : M W := fun ρ st => andR (a ρ st) fun x s => andR (b ρ s) fun y s2 => finO c (f x y s2) s2
def vUn (c : Bool) (f : W → Sto → Option Fr) (a : M W) : M W := fun ρ st => andR (a ρ st) fun x s => finO c (f x s) s
def vCB (c : Bool) (f : List W → Sto → Option Fr) (a : M (List W)) : M W := fun ρ st => andR (a ρ st) fun xs s => finO c (f xs s) s
def vTup (a : M (List W)) : M W := vCB false (fun ws _ => if ws.length ≤ 100000 then some (.nt ws) else none) a
def vTupF (a : M (List W)) : M W := vCB false (fun ws _ => if ws.length ≤ 100000 then some (.nf ws) else none) a
def vLst (c : Bool) (a : M (List W)) : M W := vCB c (fun ws _ => if ws.length ≤ 100000 then some (.nl ws) else none) a
/-- an operation on two values, by their readings -/
def Op2 (r : R2) (f : W → W → Sto → Option Fr) : Prop := ∀ (φ : List Addr) (st : Sto) (G H : Hp) (v1 v2 : V) (w1 w2 : W) (fr : Fr), Ok φ st G H → Rp φ G v1 w1 → Rp φ G v2 w2 → f w1 w2 st = some fr → ∀ Q : VK, FrPost φ G H Q fr → r v1 v2 H Q
def Op1 (r : V → Hp → VK → Prop) (f : W → Sto → Option Fr) : Prop := ∀ (φ : List Addr) (st : Sto) (G H : Hp) (v1 : V) (w1 : W) (fr : Fr), Ok φ st G H → Rp φ G v1 w1 → f w1 st = some fr → ∀ Q : VK, FrPost φ G H Q fr → r v1 H Q
def OpN (r : List V → Hp → VK → Prop) (f : List W → Sto → Option Fr) : Prop := ∀ (φ : List Addr) (st : Sto) (G H : Hp) (vs : List V) (ws : List W) (fr : Fr), Ok φ st G H → RpAll φ G vs ws → f ws st = some fr → ∀ Q : VK, FrPost φ G H Q fr → r vs H Q
section
variable {E : L2.St → XK} {ta tb te : TE} {tr : TA} {ma mb me : M W} {mr : M (List W)} {c : Bool}
theorem sim_var {i : Nat} : SimE E (tVar i) (vVar i) := fun σ ρ φ st G H r st' k ev hm Q q x => by
  unfold vVar at hm
  cases e : ρ[i]? with
  | none => rw [e] at hm; cases hm
  | some o =>
    cases o with
    | none => rw [e] at hm; cases hm
    | some w =>
      rw [e] at hm
      cases hm
      obtain ⟨v, h1, h2⟩ := ev.2 i w e
      exact ⟨v, h1, q w v φ G H rfl (Step.refl k) h2⟩
theorem sim_c {v : V} {w : W} (h : ∀ φ G, Rp φ G v w) : SimE E (tC v) (vC w) := fun σ ρ φ st G H r st' k ev hm Q q x => by
  cases hm
  exact q w v φ G H rfl (Step.refl k) (h φ G)
theorem sim_int {i : Int} : SimE E (tC (.int i)) (vC (.int i)) := sim_c fun _ _ => .int i
theorem sim_str {i : Str} : SimE E (tC (.str i)) (vC (.str i)) := sim_c fun _ _ => .str i
theorem sim_bl {i : Bool} : SimE E (tC (.bl i)) (vC (.bl i)) := sim_c fun _ _ => .bl i
theorem sim_non : SimE E (tC .non) (vC .non) := sim_c fun _ _ => .non
theorem sim_raw {v : V} : SimE E (tC v) (vC (.raw v)) := sim_c fun _ _ => .raw v
theorem sim_nil : SimA E tNil vNil := fun σ ρ φ st G H r st' k ev hm Q q x => by
  cases hm
  exact q [] [] φ G H rfl (Step.refl k) .nil
theorem sim_cons (ha : SimE E ta ma) (hr : SimA E tr mr) : SimA E (tCons ta tr) (vCons ma mr) := fun σ ρ φ st G H r st' k ev hm Q q x =>
  ha.then_ k ev hm x fun a s v φ2 G2 H2 hm2 s1 r1 => hr.then_ s1.ok (ev.mono s1) hm2 (fun e cls od φ3 G3 H3 he s2 xa => x e cls od φ3 G3 H3 he (s1.trans s2) xa) fun b s' vs φ3 G3 H3 hm3 s2 r2 => by
    cases hm3
    exact q _ _ φ3 G3 H3 rfl (s1.trans s2) (.cons (s2.rp r1) r2)
theorem finO_post {φ : List Addr} {st st' : Sto} {G H : Hp} {Q : VK} {x : Option Fr} {r : R W} (k : Ok φ st G H) (hf : finO c x st = some (r, st'))
    (q : ∀ w v φ2 G2 H2, r = .ok w → Step φ st G H φ2 st' G2 H2 → Rp φ2 G2 v w → Q v H2) : ∃ fr, x = some fr ∧ FrPost φ G H Q fr := by
  cases x with
  | none => cases hf
  | some fr => exact ⟨fr, rfl, fin_post (c := c) k (Option.some.inj hf) q⟩
theorem sim_op {r : R2} {f : W → W → Sto → Option Fr} (o : Op2 r f) (ha : SimE E ta ma) (hb : SimE E tb mb) : SimE E (tOp r ta tb) (vOp c f ma mb) := fun σ ρ φ st G H rr st' k ev hm Q q x =>
  ha.then_ k ev hm x fun a s v φ2 G2 H2 hm2 s1 r1 => hb.then_ s1.ok (ev.mono s1) hm2 (fun e cls od φ3 G3 H3 he s2 xa => x e cls od φ3 G3 H3 he (s1.trans s2) xa) fun b s' w φ3 G3 H3 hm3 s2 r2 => by
    obtain ⟨fr, e1, p⟩ := finO_post (Q := Q) s2.ok hm3 fun w' v' φ4 G4 H4 e s3 r3 => q w' v' φ4 G4 H4 e ((s1.trans s2).trans s3) r3
    exact o φ3 s' G3 H3 v w a b fr s2.ok (s2.rp r1) r2 e1 Q p
theorem sim_un {r : V → Hp → VK → Prop} {f : W → Sto → Option Fr} (o : Op1 r f) (ha : SimE E ta ma) : SimE E (tUn r ta) (vUn c f ma) := fun σ ρ φ st G H rr st' k ev hm Q q x =>
  ha.then_ k ev hm x fun a s v φ2 G2 H2 hm2 s1 r1 => by
    obtain ⟨fr, e1, p⟩ := finO_post (Q := Q) s1.ok hm2 fun w' v' φ4 G4 H4 e s3 r3 => q w' v' φ4 G4 H4 e (s1.trans s3) r3
    exact o φ2 s G2 H2 v a fr s1.ok r1 e1 Q p
theorem sim_cb {r : List V → Hp → VK → Prop} {f : List W → Sto → Option Fr} (o : OpN r f) (ha : SimA E tr mr) : SimE E (tCB r tr) (vCB c f mr) := fun σ ρ φ st G H rr st' k ev hm Q q x =>
  ha.then_ k ev hm x fun a s v φ2 G2 H2 hm2 s1 r1 => by
    obtain ⟨fr, e1, p⟩ := finO_post (Q := Q) s1.ok hm2 fun w' v' φ4 G4 H4 e s3 r3 => q w' v' φ4 G4 H4 e (s1.trans s3) r3
    exact o φ2 s G2 H2 v a fr s1.ok r1 e1 Q p
theorem sim_tup (ha : SimA E tr mr) : SimE E (tTup tr) (vTup mr) := fun σ ρ φ st G H rr st' k ev hm Q q x =>
  ha.then_ k ev hm x fun a s v φ2 G2 H2 hm2 s1 r1 => by
    obtain ⟨fr, e1, p⟩ := finO_post (Q := Q) s1.ok hm2 fun w' v' φ4 G4 H4 e s3 r3 => q w' v' φ4 G4 H4 e (s1.trans s3) r3
    dsimp only at e1
    split at e1
    · rename_i hl
      cases e1
      exact ⟨sz_of (by rw [ra_len r1]; exact hl), fun a' ha' => p a' v ha' r1⟩
    · cases e1
theorem sim_tupf (ha : SimA E tr mr) : SimE E (Fw.tTupF tr) (vTupF mr) := fun σ ρ φ st G H rr st' k ev hm Q q x =>
  ha.then_ k ev hm x fun a s v φ2 G2 H2 hm2 s1 r1 => by
    obtain ⟨fr, e1, p⟩ := finO_post (Q := Q) s1.ok hm2 fun w' v' φ4 G4 H4 e s3 r3 => q w' v' φ4 G4 H4 e (s1.trans s3) r3
    dsimp only at e1
    split at e1
    · rename_i hl
      cases e1
      exact ⟨sz_of (by rw [ra_len r1]; exact hl), fun a' ob ha' hd => p a' v ob ha' hd r1⟩
    · cases e1
theorem sim_lst (ha : SimA E tr mr) : SimE E (tLst tr) (vLst c mr) := fun σ ρ φ st G H rr st' k ev hm Q q x =>
  ha.then_ k ev hm x fun a s v φ2 G2 H2 hm2 s1 r1 => by
    obtain ⟨fr, e1, p⟩ := finO_post (Q := Q) s1.ok hm2 fun w' v' φ4 G4 H4 e s3 r3 => q w' v' φ4 G4 H4 e (s1.trans s3) r3
    dsimp only at e1
    split at e1
    · rename_i hl
      cases e1
      exact ⟨sz_of (by rw [ra_len r1]; exact hl), fun a' ha' => p a' v ha' r1⟩
    · cases e1
end
end VS

namespace VS
open PySem PySem.Spec PyProof.Rows L2 Evl
open TL (tl len_tl ext_tl tl_append tl_mk mk_tl)
def lstOf (w : W) (st : Sto) : Option (List W) := match w with
  | .lst ws => some ws
  | .ref n => match st[n]? with
    | some (some (.l ws)) => some ws
    | _ => none
  | _ => none
def seqOf (w : W) (st : Sto) : Option (List W) := match w with
  | .tup _ ws => some ws
  | w => lstOf w st
@[simp] theorem lstOf_lst {ws : List W} {st : Sto} : lstOf (.lst ws) st = some ws := rfl
@[simp] theorem seqOf_lst {ws : List W} {st : Sto} : seqOf (.lst ws) st = some ws := rfl
@[simp] theorem seqOf_tup {b : Bool} {ws : List W} {st : Sto} : seqOf (.tup b ws) st = some ws := rfl
@[simp] theorem seqOf_ref {n : Nat} {st : Sto} : seqOf (.ref n) st = lstOf (.ref n) st := rfl
theorem lstOf_ref {n : Nat} {st : Sto} {ws : List W} (h : st[n]? = some (some (.l ws))) : lstOf (.ref n) st = some ws := by
  simp only [lstOf, h]
section
variable {K : PySem.W.Frag} {φ : List Addr} {st : Sto} {G H : Hp} {v : V} {w : W} {ws : List W}
theorem lst_rd (k : Ok φ st G H) (r : Rp φ G v w) (h : lstOf w st = some ws) : ∃ a xs, v = .ref a ∧ H a = some (.lst xs) ∧ RpAll φ G xs ws := by
  cases r with
  | lst h1 h2 =>
    cases h
    exact ⟨_, _, rfl, k.ex _ _ h1, h2⟩
  | ref h1 =>
    rename_i n a
    simp only [lstOf] at h
    split at h
    · rename_i e2
      cases h
      obtain ⟨⟨xs, h3, h4⟩, _⟩ := k.cell _ _ _ h1 e2
      exact ⟨_, xs, rfl, h3, h4⟩
    · cases h
  | _ => cases h
theorem tup_rd (k : Ok φ st G H) {b : Bool} (r : Rp φ G v (.tup b ws)) : ∃ a xs, v = .ref a ∧ SqT K H a xs ∧ RpAll φ G xs ws := by
  cases r with
  | tup h1 h2 =>
    refine ⟨_, _, rfl, ?_, h2⟩
    cases b with
    | true => exact .inl (.inl (k.ex _ _ h1))
    | false =>
      obtain ⟨ob, _, h3⟩ := h1
      exact .inl (.inr ⟨ob, k.ex _ _ h3⟩)
theorem seq_rd (k : Ok φ st G H) (r : Rp φ G v w) (h : seqOf w st = some ws) : ∃ a xs, v = .ref a ∧ (SqL K H a xs ∨ SqT K H a xs) ∧ RpAll φ G xs ws := by
  unfold seqOf at h
  split at h
  · cases h
    obtain ⟨a, xs, h1, h2, h3⟩ := tup_rd (K := K) k r
    exact ⟨a, xs, h1, .inr h2, h3⟩
  · obtain ⟨a, xs, h1, h2, h3⟩ := lst_rd k r h
    exact ⟨a, xs, h1, .inl (.inl (.inl h2)), h3⟩
theorem rp_int {i : Int} (h : Rp φ G v (.int i)) : v = .int i := by cases h; rfl
theorem rp_str {x : Str} (h : Rp φ G v (.str x)) : v = .str x := by cases h; rfl
theorem rp_bl {b : Bool} (h : Rp φ G v (.bl b)) : v = .bl b := by cases h; rfl
theorem rp_non (h : Rp φ G v .non) : v = .non := by cases h; rfl
end
/-! ### flat values -/
def W.flat : W → Bool
  | .non => true
  | .bl _ => true
  | .int _ => true
  | .str _ => true
  | _ => false
def W.v : W → V
  | .non => .non
  | .bl b => .bl b
  | .int i => .int i
  | .str x => .str x
  | .raw v => v
  | _ => .non
theorem flat_rp {φ : List Addr} {G : Hp} {v : V} {w : W} (r : Rp φ G v w) (h : w.flat = true) : v = w.v ∧ flatV v = true := by
  cases r <;> first | exact ⟨rfl, rfl⟩ | (simp [W.flat] at h)
theorem flat_ra {φ : List Addr} {G : Hp} : ∀ {vs : List V} {ws : List W}, RpAll φ G vs ws → ws.all W.flat = true → vs = ws.map W.v ∧ vs.all flatV = true
  | _, _, .nil, _ => ⟨rfl, rfl⟩
  | _, _, .cons h hs, e => by
    rw [List.all_cons, Bool.and_eq_true] at e
    obtain ⟨h1, h2⟩ := flat_rp h e.1
    obtain ⟨h3, h4⟩ := flat_ra hs e.2
    exact ⟨by rw [h1, h3]; rfl, by rw [List.all_cons, h2, h4]; rfl⟩
/-! ### data that may be compared -/
def pyL (f : W → Option PyData) : List W → Option (List PyData)
  | [] => some []
  | w :: ws => match f w, pyL f ws with
    | some d, some ds => some (d :: ds)
    | _, _ => none
def pyN : Nat → Sto → W → Option PyData
  | 0, _, _ => none
  | n + 1, st, w => match w with
    | .non => some .none
    | .bl b => some (.bool b)
    | .int i => some (.int i)
    | .str x => some (.str x)
    | .tup _ ws => (pyL (pyN n st) ws).map .tuple
    | w => match lstOf w st with
      | some ws => (pyL (pyN n st) ws).map .list
      | none => none
section
variable {K : PySem.W.Frag} {φ : List Addr} {st : Sto} {G H : Hp}
theorem pyL_dp {f : W → Option PyData} (hf : ∀ v w d, Rp φ G v w → f w = some d → Dp K H v d) : ∀ {vs : List V} {ws : List W} {ds : List PyData}, RpAll φ G vs ws → pyL f ws = some ds → DpAll K H vs ds
  | _, _, _, .nil, h => by
    cases h
    exact .nil
  | _, _, _, .cons h1 h2, h => by
    unfold pyL at h
    split at h
    · rename_i e1 e2
      cases h
      exact .cons (hf _ _ _ h1 e1) (pyL_dp hf h2 e2)
    · cases h
theorem py_dp (k : Ok φ st G H) : ∀ (n : Nat) {v : V} {w : W} {d : PyData}, Rp φ G v w → pyN n st w = some d → Dp K H v d
  | 0, _, _, _, _, h => by cases h
  | n + 1, v, w, d, r, h => by
    unfold pyN at h
    split at h
    · cases h; cases r; exact .non
    · cases h; cases r; exact .bl _
    · cases h; cases r; exact .int _
    · cases h; cases r; exact .str _
    · obtain ⟨ds, e, rfl⟩ := Option.map_eq_some_iff.mp h
      obtain ⟨a, xs, rfl, h2, h3⟩ := tup_rd (K := K) k r
      exact .tup h2 (pyL_dp (fun v w d => py_dp k n) h3 e)
    · split at h
      · rename_i e0
        obtain ⟨ds, e, rfl⟩ := Option.map_eq_some_iff.mp h
        obtain ⟨a, xs, rfl, h2, h3⟩ := lst_rd k r e0
        exact .lst (.inl (.inl h2)) (pyL_dp (fun v w d => py_dp k n) h3 e)
      · cases h
end
def pyOf (st : Sto) (w : W) : Option PyData := pyN 20 st w
/-! ### the operations -/
def LIM : Nat := 100000
def fAdd (a b : W) (st : Sto) : Option Fr := match a, b with
  | .int i, .int j => some (.val (.int (i + j)))
  | .str x, .str y => if x.length + y.length ≤ LIM then some (.val (.str (x ++ y))) else none
  | .tup p xs, .tup q ys => if xs.length + ys.length ≤ LIM then (if xs.isEmpty then some (.val (.tup q ys)) else if ys.isEmpty then some (.val (.tup p xs)) else some (.nt (xs ++ ys))) else none
  | a, b => match lstOf a st, lstOf b st with
    | some xs, some ys => if xs.length + ys.length ≤ LIM then some (.nl (xs ++ ys)) else none
    | _, _ => none
def fI (g : Int → Int → Option W) (a b : W) (_ : Sto) : Option Fr := match a, b with
  | .int i, .int j => (g i j).map .val
  | _, _ => none
def gSub (i j : Int) : Option W := some (.int (i - j))
def gMul (i j : Int) : Option W := if (-(2 ^ 64) < i ∧ i < 2 ^ 64) ∨ (-(2 ^ 64) < j ∧ j < 2 ^ 64) then some (.int (i * j)) else none
def gMod (i j : Int) : Option W := if 0 < j then some (.int (i % j)) else none
def gDiv (i j : Int) : Option W := if 0 < j ∧ j < 1073741824 then some (.int (i / j)) else none
def gPow (i j : Int) : Option W := if 0 ≤ j ∧ j ≤ 1000000 ∧ i.natAbs < 2 ^ 64 then some (.int (i ^ j.toNat)) else none
def gLt (i j : Int) : Option W := some (.bl (decide (i < j)))
def gLe (i j : Int) : Option W := some (.bl (decide (i ≤ j)))
def gGt (i j : Int) : Option W := some (.bl (decide (j < i)))
def gGe (i j : Int) : Option W := some (.bl (decide (j ≤ i)))
def fEq (neg : Bool) (a b : W) (st : Sto) : Option Fr := match pyOf st a, pyOf st b with
  | some d, some e => if SeqAt.shaped d = true ∧ SeqAt.shaped e = true then some (.val (.bl (if neg then !PyData.eqv d e else PyData.eqv d e))) else none
  | _, _ => none
def inW (x : W) (ws : List W) : Bool := ws.any fun y => eqV y.v x.v
def isStr : W → Bool
  | .str _ => true
  | _ => false
def fIn (neg : Bool) (a b : W) (st : Sto) : Option Fr := match b with
  | .str z => match a with
    | .str x => match tl x with
      | [c] => some (.val (.bl (if neg then !decide (c ∈ tl z) else decide (c ∈ tl z))))
      | _ => none
    | _ => none
  | b => match seqOf b st with
    | some ws => if a.flat = true ∧ ws.all W.flat = true then some (.val (.bl (if neg then !inW a ws else inW a ws))) else
      match pyOf st a, lstOf b st, pyOf st b with
      | some d, some _, some (.list ds) => if SeqAt.shaped d = true ∧ SeqAt.shaped (.list ds) = true then some (.val (.bl (if neg then !(ds.any fun z => PyData.eqv z d) else ds.any fun z => PyData.eqv z d))) else none
      | _, _, _ => none
    | none => none
def rInV (K : PySem.W.Frag) (neg : Bool) : R2 := fun x y H Q => Fw.rInU K neg x y H Q ∨ (if neg then rNotInD K else rInD K) x y H Q
theorem k_inV {X : Cx} (K : PySem.W.Frag) (hK : X.K = K) (hu : X.A.units + 65 < cLine) : OpR X (compareOp .In) (rInV K false) := hK ▸ Fw.op_inU.or (op_inD hu)
theorem k_notInV {X : Cx} (K : PySem.W.Frag) (hK : X.K = K) (hu : X.A.units + 65 < cLine) : OpR X (compareOp .NotIn) (rInV K true) := hK ▸ Fw.op_notInU.or (op_notInD hu)
section
variable {K : PySem.W.Frag}
theorem sz_le {n : Nat} (h : n ≤ LIM) : n ≤ sizeLine := by
  rw [sizeLine_eq]
  exact Nat.le_trans h (by decide)
theorem o_add : Op2 (Fw.rAddU K) fAdd := fun φ st G H v1 v2 w1 w2 fr k r1 r2 hf Q p => by
  unfold fAdd at hf
  split at hf
  · cases hf
    exact .inl ⟨_, _, rp_int r1, rp_int r2, p _ (.int _)⟩
  · split at hf
    · rename_i hl
      cases hf
      exact .inr (.inl ⟨_, _, rp_str r1, rp_str r2, sz_le hl, p _ (.str _)⟩)
    · cases hf
  · split at hf
    · rename_i hl
      obtain ⟨a, xs, rfl, h1, h2⟩ := tup_rd (K := K) k r1
      obtain ⟨b, ys, rfl, h3, h4⟩ := tup_rd (K := K) k r2
      refine .inr (.inr (.inr ⟨a, b, xs, ys, rfl, rfl, h1, h3, by rw [ra_len h2, ra_len h4]; exact sz_le hl, fun e0 => ?_, fun e0 e1 => ?_, fun e0 e1 q hq => ?_⟩))
      · subst e0
        cases h2
        cases hf
        exact p _ r2
      · rw [if_neg (by
          intro z
          cases h2 with
          | nil => exact e0 rfl
          | cons _ _ => simp at z)] at hf
        subst e1
        cases h4
        cases hf
        exact p _ r1
      · rw [if_neg (by
          intro z
          cases h2 with
          | nil => exact e0 rfl
          | cons _ _ => simp at z), if_neg (by
          intro z
          cases h4 with
          | nil => exact e1 rfl
          | cons _ _ => simp at z)] at hf
        cases hf
        exact p q _ hq (ra_app h2 h4)
    · cases hf
  · split at hf
    · rename_i e1 e2
      split at hf
      · rename_i hl
        cases hf
        obtain ⟨a, xs, rfl, h1, h2⟩ := lst_rd k r1 e1
        obtain ⟨b, ys, rfl, h3, h4⟩ := lst_rd k r2 e2
        exact .inr (.inr (.inl ⟨a, b, xs, ys, rfl, rfl, h1, h3, by rw [ra_len h2, ra_len h4]; exact sz_le hl, fun q hq => p q _ hq (ra_app h2 h4)⟩))
      · cases hf
    · cases hf
theorem o_I0 {g : Int → Int → V} {g' : Int → Int → Option W} (hg : ∀ φ G i j w, g' i j = some w → Rp φ G (g i j) w) : Op2 (rI0 g) (fI g') := fun φ st G H v1 v2 w1 w2 fr k r1 r2 hf Q p => by
  unfold fI at hf
  split at hf
  · obtain ⟨w, e, rfl⟩ := Option.map_eq_some_iff.mp hf
    exact ⟨_, _, rp_int r1, rp_int r2, p _ (hg φ G _ _ w e)⟩
  · cases hf
theorem o_I {C : Int → Int → Prop} {g : Int → Int → V} {g' : Int → Int → Option W} (hg : ∀ φ G i j w, g' i j = some w → C i j ∧ Rp φ G (g i j) w) : Op2 (rI C g) (fI g') := fun φ st G H v1 v2 w1 w2 fr k r1 r2 hf Q p => by
  unfold fI at hf
  split at hf
  · obtain ⟨w, e, rfl⟩ := Option.map_eq_some_iff.mp hf
    obtain ⟨h1, h2⟩ := hg φ G _ _ w e
    exact ⟨_, _, rp_int r1, rp_int r2, h1, p _ h2⟩
  · cases hf
theorem o_sub : Op2 (rI0 fun i j => .int (i - j)) (fI gSub) := o_I0 fun φ G i j w e => by cases e; exact .int _
theorem o_mul : Op2 (rI CMul fun i j => .int (i * j)) (fI gMul) := o_I fun φ G i j w e => by
  unfold gMul at e
  split at e
  · rename_i h
    cases e
    exact ⟨h, .int _⟩
  · cases e
theorem o_mod : Op2 (rI (fun _ j => 0 < j) fun i j => .int (i % j)) (fI gMod) := o_I fun φ G i j w e => by
  unfold gMod at e
  split at e
  · rename_i h
    cases e
    exact ⟨h, .int _⟩
  · cases e
theorem o_div : Op2 (rI CDiv fun i j => .int (i / j)) (fI gDiv) := o_I fun φ G i j w e => by
  unfold gDiv at e
  split at e
  · rename_i h
    cases e
    exact ⟨h, .int _⟩
  · cases e
theorem o_pow : Op2 (rI CPow fun i j => .int (i ^ j.toNat)) (fI gPow) := o_I fun φ G i j w e => by
  unfold gPow at e
  split at e
  · rename_i h
    cases e
    exact ⟨h, .int _⟩
  · cases e
theorem o_lt : Op2 (rI0 fun i j => .bl (decide (i < j))) (fI gLt) := o_I0 fun φ G i j w e => by cases e; exact .bl _
theorem o_le : Op2 (rI0 fun i j => .bl (decide (i ≤ j))) (fI gLe) := o_I0 fun φ G i j w e => by cases e; exact .bl _
theorem o_gt : Op2 (rI0 fun i j => .bl (decide (j < i))) (fI gGt) := o_I0 fun φ G i j w e => by cases e; exact .bl _
theorem o_ge : Op2 (rI0 fun i j => .bl (decide (j ≤ i))) (fI gGe) := o_I0 fun φ G i j w e => by cases e; exact .bl _
theorem o_eq : Op2 (rEqD K) (fEq false) := fun φ st G H v1 v2 w1 w2 fr k r1 r2 hf Q p => by
  unfold fEq at hf
  split at hf
  · rename_i d e h1 h2
    split at hf
    · rename_i hs
      cases hf
      exact ⟨d, e, py_dp k 20 r1 h1, py_dp k 20 r2 h2, hs.1, hs.2, p _ (.bl _)⟩
    · cases hf
  · cases hf
theorem o_ne : Op2 (rNeD K) (fEq true) := fun φ st G H v1 v2 w1 w2 fr k r1 r2 hf Q p => by
  unfold fEq at hf
  split at hf
  · rename_i d e h1 h2
    split at hf
    · rename_i hs
      cases hf
      exact ⟨d, e, py_dp k 20 r1 h1, py_dp k 20 r2 h2, hs.1, hs.2, p _ (.bl _)⟩
    · cases hf
  · cases hf
theorem inV_W (x : W) (ws : List W) : inV x.v (ws.map W.v) = inW x ws := by
  unfold inV inW
  rw [List.any_map]
  rfl
theorem o_in {neg : Bool} : Op2 (rInV K neg) (fIn neg) := fun φ st G H v1 v2 w1 w2 fr k r1 r2 hf Q p => by
  unfold fIn at hf
  split at hf
  · split at hf
    · rename_i z _ x
      split at hf
      · rename_i c hc
        cases hf
        have e : x = ⟨#[c]⟩ := ext_tl (by rw [hc])
        subst e
        exact .inl (.inr ⟨c, z, rp_str r1, rp_str r2, p _ (.bl _)⟩)
      · cases hf
    · cases hf
  · split at hf
    · rename_i ws hs
      split at hf
      · rename_i hfl
        cases hf
        obtain ⟨a, xs, rfl, h1, h2⟩ := seq_rd (K := K) k r2 hs
        obtain ⟨rfl, h4⟩ := flat_rp r1 hfl.1
        obtain ⟨rfl, h6⟩ := flat_ra h2 hfl.2
        refine .inl (.inl ⟨a, _, rfl, h1, h4, h6, ?_⟩)
        rw [inV_W]
        exact p _ (.bl _)
      · split at hf
        · rename_i d l ds e1 e2 e3
          split at hf
          · rename_i hsh
            cases hf
            refine .inr ?_
            cases neg with
            | true => exact ⟨d, ds, py_dp k 20 r1 e1, py_dp k 20 r2 e3, hsh.1, hsh.2, p _ (.bl _)⟩
            | false => exact ⟨d, ds, py_dp k 20 r1 e1, py_dp k 20 r2 e3, hsh.1, hsh.2, p _ (.bl _)⟩
          · cases hf
        · cases hf
    · cases hf
/-! built-in functions -/
def fLen (ws : List W) (st : Sto) : Option Fr := match ws with
  | [.str x] => if x.length ≤ LIM then some (.val (.int x.length)) else none
  | [w] => (seqOf w st).map fun l => .val (.int l.length)
  | _ => none
theorem o_len : OpN (Fw.rLenU K) fLen := fun φ st G H vs ws fr k r hf Q p => by
  unfold fLen at hf
  split at hf
  · cases r with
    | cons h1 h2 =>
      cases h2
      split at hf
      · rename_i hl
        cases hf
        cases h1
        exact ⟨_, _, rfl, ⟨sz_le hl, rfl⟩, p _ (.int _)⟩
      · cases hf
  · cases r with
    | cons h1 h2 =>
      cases h2
      obtain ⟨l, e, rfl⟩ := Option.map_eq_some_iff.mp hf
      obtain ⟨a, xs, rfl, h3, h4⟩ := seq_rd (K := K) k h1 e
      refine ⟨_, xs.length, rfl, ?_, ?_⟩
      · rcases h3 with h3 | h3
        · exact .inl ⟨xs, h3, rfl⟩
        · exact .inr ⟨xs, h3, rfl⟩
      · rw [ra_len h4]
        exact p _ (.int _)
  · cases hf
def fAbs (ws : List W) (_ : Sto) : Option Fr := match ws with
  | [.int i] => some (.val (.int (if i < 0 then -i else i)))
  | _ => none
theorem o_abs : OpN Fw.rAbs fAbs := fun φ st G H vs ws fr k r hf Q p => by
  unfold fAbs at hf
  split at hf
  · cases hf
    cases r with
    | cons h1 h2 =>
      cases h2
      cases h1
      exact ⟨_, rfl, p _ (.int _)⟩
  · cases hf
def fInt1 (ws : List W) (_ : Sto) : Option Fr := match ws with
  | [.int i] => some (.val (.int i))
  | [.bl b] => some (.val (.int (if b then 1 else 0)))
  | _ => none
theorem o_int1 : OpN Fw.rInt1 fInt1 := fun φ st G H vs ws fr k r hf Q p => by
  unfold fInt1 at hf
  split at hf
  · cases hf
    cases r with
    | cons h1 h2 =>
      cases h2
      cases h1
      exact .inl ⟨_, rfl, p _ (.int _)⟩
  · cases hf
    cases r with
    | cons h1 h2 =>
      cases h2
      cases h1
      exact .inr ⟨_, rfl, p _ (.int _)⟩
  · cases hf
def fMax2 (ws : List W) (_ : Sto) : Option Fr := match ws with
  | [.int i, .int j] => some (.val (.int (if j > i then j else i)))
  | _ => none
theorem o_max2 : OpN rMax2 fMax2 := fun φ st G H vs ws fr k r hf Q p => by
  unfold fMax2 at hf
  split at hf
  · cases hf
    cases r with
    | cons h1 h2 =>
      cases h2 with
      | cons h2 h3 =>
        cases h3
        cases h1
        cases h2
        exact ⟨_, _, rfl, p _ (.int _)⟩
  · cases hf
def fMin2 (ws : List W) (_ : Sto) : Option Fr := match ws with
  | [.int i, .int j] => some (.val (.int (if j < i then j else i)))
  | _ => none
theorem o_min2 : OpN Fw.rMin2 fMin2 := fun φ st G H vs ws fr k r hf Q p => by
  unfold fMin2 at hf
  split at hf
  · cases hf
    cases r with
    | cons h1 h2 =>
      cases h2 with
      | cons h2 h3 =>
        cases h3
        cases h1
        cases h2
        exact ⟨_, _, rfl, p _ (.int _)⟩
  · cases hf
def fList (ws : List W) (st : Sto) : Option Fr := match ws with
  | [w] => (seqOf w st).map .nl
  | _ => none
theorem o_list : OpN (Fw.rListU K) fList := fun φ st G H vs ws fr k r hf Q p => by
  unfold fList at hf
  split at hf
  · obtain ⟨l, e, rfl⟩ := Option.map_eq_some_iff.mp hf
    cases r with
    | cons h1 h2 =>
      cases h2
      obtain ⟨a, xs, rfl, h3, h4⟩ := seq_rd (K := K) k h1 e
      exact ⟨a, xs, rfl, h3, fun q hq => p q xs hq h4⟩
  · cases hf
def fTupF (ws : List W) (st : Sto) : Option Fr := match ws with
  | [.tup b l] => some (.val (.tup b l))
  | [w] => (lstOf w st).map .nf
  | _ => none
theorem o_tupF : OpN (Fw.rTupF K) fTupF := fun φ st G H vs ws fr k r hf Q p => by
  unfold fTupF at hf
  split at hf
  · cases hf
    cases r with
    | cons h1 h2 =>
      cases h2
      obtain ⟨a, xs, rfl, h3, h4⟩ := tup_rd (K := K) k h1
      exact ⟨a, xs, rfl, .inr ⟨h3, p _ h1⟩⟩
  · obtain ⟨l, e, rfl⟩ := Option.map_eq_some_iff.mp hf
    cases r with
    | cons h1 h2 =>
      cases h2
      obtain ⟨a, xs, rfl, h3, h4⟩ := lst_rd k h1 e
      exact ⟨a, xs, rfl, .inl ⟨.inl (.inl h3), fun q ob hq hd => p q xs ob hq hd h4⟩⟩
  · cases hf
def fStrI (ws : List W) (_ : Sto) : Option Fr := match ws with
  | [.int i] => if i.natAbs.log2 < 1920 then some (.val (.str (toString i))) else none
  | _ => none
theorem o_strI : OpN Fw.rStrI fStrI := fun φ st G H vs ws fr k r hf Q p => by
  unfold fStrI at hf
  split at hf
  · split at hf
    · rename_i hl
      cases hf
      cases r with
      | cons h1 h2 =>
        cases h2
        cases h1
        exact ⟨_, rfl, hl, p _ (.str _)⟩
    · cases hf
  · cases hf
def bls : List W → Option (List Bool)
  | [] => some []
  | .bl b :: ws => (bls ws).map (b :: ·)
  | _ => none
theorem bls_ra {φ : List Addr} {G : Hp} : ∀ {ws : List W} {bs : List Bool} {vs : List V}, bls ws = some bs → RpAll φ G vs ws → vs = bs.map V.bl
  | [], _, _, h, r => by
    cases h
    cases r
    rfl
  | .bl b :: ws, _, _, h, r => by
    obtain ⟨l, e, rfl⟩ := Option.map_eq_some_iff.mp h
    cases r with
    | cons h1 h2 =>
      cases h1
      rw [bls_ra e h2]
      rfl
  | .non :: _, _, _, h, _ | .int _ :: _, _, _, h, _ | .str _ :: _, _, _, h, _ | .tup _ _ :: _, _, _, h, _ | .lst _ :: _, _, _, h, _ | .dct _ _ :: _, _, _, h, _ | .obj _ _ :: _, _, _, h, _ | .ref _ :: _, _, _, h, _ | .raw _ :: _, _, _, h, _ => by cases h
def fAll (ws : List W) (st : Sto) : Option Fr := match ws with
  | [w] => (lstOf w st).bind fun l => (bls l).map fun bs => .val (.bl (bs.all id))
  | _ => none
theorem o_all : OpN (Fw.rAll K) fAll := fun φ st G H vs ws fr k r hf Q p => by
  unfold fAll at hf
  split at hf
  · obtain ⟨l, e, h⟩ := Option.bind_eq_some_iff.mp hf
    obtain ⟨bs, e2, rfl⟩ := Option.map_eq_some_iff.mp h
    cases r with
    | cons h1 h2 =>
      cases h2
      obtain ⟨a, xs, rfl, h3, h4⟩ := lst_rd k h1 e
      have := bls_ra e2 h4
      subst this
      exact ⟨a, bs, rfl, .inl (.inl h3), p _ (.bl _)⟩
  · cases hf
/-! subscripts and slices -/
def fIx (a b : W) (st : Sto) : Option Fr := match b with
  | .int i => match a with
    | .str x => if x.length ≤ LIM then (atI (tl x) i).map fun c => .val (.str ⟨#[c]⟩) else none
    | a => (seqOf a st).bind fun ws => (atI ws i).map .val
  | _ => none
theorem atI_ra {φ : List Addr} {G : Hp} {xs : List V} {ws : List W} {i : Int} {w : W} (r : RpAll φ G xs ws) (h : atI ws i = some w) : ∃ v, atI xs i = some v ∧ Rp φ G v w := by
  unfold atI at h ⊢
  obtain ⟨j, h1, h2⟩ := Option.bind_eq_some_iff.mp h
  obtain ⟨v, h3, h4⟩ := ra_get r h2
  refine ⟨v, ?_, h4⟩
  rw [ra_len r, h1]
  exact h3
theorem o_ix : Op2 (rIx K) fIx := fun φ st G H v1 v2 w1 w2 fr k r1 r2 hf Q p => by
  unfold fIx at hf
  split at hf
  · split at hf
    · split at hf
      · rename_i hl
        obtain ⟨c, e, rfl⟩ := Option.map_eq_some_iff.mp hf
        exact .inr (.inr ⟨_, _, c, rp_str r1, rp_int r2, sz_le hl, e, p _ (.str _)⟩)
      · cases hf
    · obtain ⟨ws, e, h⟩ := Option.bind_eq_some_iff.mp hf
      obtain ⟨w, e2, rfl⟩ := Option.map_eq_some_iff.mp h
      obtain ⟨a, xs, rfl, h3, h4⟩ := seq_rd (K := K) k r1 e
      obtain ⟨v, h5, h6⟩ := atI_ra h4 e2
      rcases h3 with h3 | h3
      · exact .inl ⟨a, xs, _, v, rfl, rp_int r2, h3, h5, p _ h6⟩
      · exact .inr (.inl ⟨a, xs, _, v, rfl, rp_int r2, h3, h5, p _ h6⟩)
  · cases hf
def cutW (xs : List W) (lo hi : Option Int) : List W := (xs.drop (HT.sIx xs.length 0 lo)).take (HT.sIx xs.length xs.length hi - HT.sIx xs.length 0 lo)
theorem ra_cut {φ : List Addr} {G : Hp} {xs : List V} {ws : List W} (r : RpAll φ G xs ws) (lo hi : Option Int) : RpAll φ G (cutV xs lo hi) (cutW ws lo hi) := by
  unfold cutV cutW
  rw [ra_len r]
  exact ra_take _ (ra_drop _ r)
def fSl (a : W) (lo hi : Option Int) (st : Sto) : Option Fr := match a with
  | .str x => if x.length ≤ LIM then some (.val (.str (cutS x lo hi))) else none
  | .tup b ws => if HT.sIx ws.length 0 lo = 0 ∧ HT.sIx ws.length ws.length hi = ws.length then some (.val (.tup b ws)) else some (.nt (cutW ws lo hi))
  | a => (lstOf a st).map fun ws => .nl (cutW ws lo hi)
def vNoPart : M (Option Int) := fun _ st => some (.ok none, st)
def vPart (m : M W) : M (Option Int) := fun ρ st => andR (m ρ st) fun w s => match w with
  | .int i => some (.ok (some i), s)
  | _ => none
def vSl (c : Bool) (a : M W) (lo hi : M (Option Int)) : M W := fun ρ st => andR (a ρ st) fun x s => andR (lo ρ s) fun l s2 => andR (hi ρ s2) fun h s3 => finO c (fSl x l h s3) s3
abbrev SimO := @Sim (Option Int) (Option Int) (fun _ _ b c => b = c)
variable {E : L2.St → XK} {te : TE} {t1 t2 : TO} {me : M W} {m1 m2 : M (Option Int)} {c : Bool}
theorem sim_noPart : SimO E tNoPart vNoPart := fun σ ρ φ st G H r st' k ev hm Q q x => by
  cases hm
  exact q none none φ G H rfl (Step.refl k) rfl
theorem sim_part (h : SimE E te me) : SimO E (tPart te) (vPart me) := fun σ ρ φ st G H r st' k ev hm Q q x =>
  h.then_ k ev hm x fun a s v φ2 G2 H2 hm2 s1 r1 => by
    split at hm2
    · cases hm2
      exact ⟨_, rp_int r1, q _ _ φ2 G2 H2 rfl s1 rfl⟩
    · cases hm2
theorem sim_sl (h : SimE E te me) (h1 : SimO E t1 m1) (h2 : SimO E t2 m2) : SimE E (tSl (Fw.rSlU K) te t1 t2) (vSl c me m1 m2) := fun σ ρ φ st G H r st' k ev hm Q q x =>
  h.then_ k ev hm x fun a s v φ2 G2 H2 hm2 s1 r1 => h1.then_ s1.ok (ev.mono s1) hm2 (fun e cls od φ3 G3 H3 he s2 xa => x e cls od φ3 G3 H3 he (s1.trans s2) xa) fun lo s' lo' φ3 G3 H3 hm3 s2 r2 =>
    h2.then_ s2.ok (ev.mono (s1.trans s2)) hm3 (fun e cls od φ4 G4 H4 he s3 xa => x e cls od φ4 G4 H4 he ((s1.trans s2).trans s3) xa) fun hi s'' hi' φ4 G4 H4 hm4 s3 r3 => by
      obtain ⟨fr, e1, p⟩ := finO_post (Q := Q) s3.ok hm4 fun w' v' φ5 G5 H5 e s4 r4 => q w' v' φ5 G5 H5 e (((s1.trans s2).trans s3).trans s4) r4
      have ra := s3.rp (s2.rp r1)
      subst r2
      subst r3
      unfold fSl at e1
      split at e1
      · split at e1
        · rename_i hl
          cases e1
          exact .inr (.inr ⟨_, rp_str ra, sz_le hl, p _ (.str _)⟩)
        · cases e1
      · obtain ⟨b, xs, rfl, h5, h6⟩ := tup_rd (K := K) s3.ok ra
        refine .inr (.inl ⟨b, xs, rfl, h5, fun z => ?_, fun z q' hq' => ?_⟩)
        · rw [ra_len h6] at z
          rw [if_pos z] at e1
          cases e1
          exact p _ ra
        · rw [ra_len h6] at z
          rw [if_neg z] at e1
          cases e1
          exact p q' _ hq' (ra_cut h6 _ _)
      · obtain ⟨ws, e2, rfl⟩ := Option.map_eq_some_iff.mp e1
        obtain ⟨b, xs, rfl, h5, h6⟩ := lst_rd s3.ok ra e2
        exact .inl ⟨b, xs, rfl, .inl (.inl h5), fun q' hq' => p q' _ hq' (ra_cut h6 _ _)⟩
end
end VS

namespace VS
open PySem PySem.Spec PyProof.Rows L2 Evl
open TL (tl len_tl ext_tl tl_append tl_mk mk_tl)
/-! ### tests and logic -/
def vB (m : M W) : M Bool := fun ρ st => andR (m ρ st) fun w s => match w with
  | .bl b => some (.ok b, s)
  | _ => none
def vAnd (a b : M Bool) : M Bool := fun ρ st => andR (a ρ st) fun c s => if c = true then b ρ s else some (.ok false, s)
def vOr (a b : M Bool) : M Bool := fun ρ st => andR (a ρ st) fun c s => if c = true then some (.ok true, s) else b ρ s
def vNot (a : M Bool) : M Bool := fun ρ st => andR (a ρ st) fun c s => some (.ok (!c), s)
def vAndV (a b : M W) : M W := fun ρ st => andR (a ρ st) fun w s => match w with
  | .bl c => if c = true then b ρ s else some (.ok (.bl false), s)
  | _ => none
def vOrV (a b : M W) : M W := fun ρ st => andR (a ρ st) fun w s => match w with
  | .bl c => if c = true then some (.ok (.bl true), s) else b ρ s
  | _ => none
def vNotV (a : M W) : M W := fun ρ st => andR (a ρ st) fun w s => match w with
  | .bl c => some (.ok (.bl (!c)), s)
  | _ => none
def vIf (c : M Bool) (a b : M W) : M W := fun ρ st => andR (c ρ st) fun c s => if c = true then a ρ s else b ρ s
def vChain (f f' : W → W → Sto → Option Fr) (a b c : M W) : M W := fun ρ st => andR (a ρ st) fun x s => andR (b ρ s) fun y s2 => match f x y s2 with
  | some (.val (.bl k)) => if k = true then andR (c ρ s2) fun z s3 => finO false (f' y z s3) s3 else some (.ok (.bl false), s2)
  | _ => none
def truW (w : W) (st : Sto) : Option Bool := match w with
  | .non => some false
  | .bl b => some b
  | .int i => some (i != 0)
  | .str x => if x.length ≤ LIM then some ((x.length : Int) != 0) else none
  | w => (seqOf w st).map fun l => !l.isEmpty
def vTru (m : M W) : M Bool := fun ρ st => andR (m ρ st) fun w s => (truW w s).map fun b => (.ok b, s)
def fIs (neg : Bool) (a b : W) (_ : Sto) : Option Fr := match b with
  | .non => match a with
    | .non => some (.val (.bl (!neg)))
    | .raw _ => none
    | _ => some (.val (.bl neg))
  | _ => none
section
variable {K : PySem.W.Frag} {E : L2.St → XK} {ta tb tc te : TE} {t u : TT} {ma mb mc me : M W} {m n : M Bool}
theorem sim_b (h : SimE E te me) : SimT E (tB te) (vB me) := fun σ ρ φ st G H r st' k ev hm Q q x =>
  h.then_ k ev hm x fun a s v φ2 G2 H2 hm2 s1 r1 => by
    split at hm2
    · cases hm2
      exact ⟨_, rp_bl r1, q _ _ φ2 G2 H2 rfl s1 rfl⟩
    · cases hm2
theorem sim_test (h : SimE E te me) : SimT E (tTest te) (vB me) := sim_b h
theorem sim_and (h : SimT E t m) (h' : SimT E u n) : SimT E (tAnd t u) (vAnd m n) := fun σ ρ φ st G H r st' k ev hm Q q x =>
  h.then_ k ev hm x fun a s v φ2 G2 H2 hm2 s1 r1 => by
    subst r1
    cases v with
    | true =>
      refine iteT (h' σ ρ φ2 s G2 H2 r st' s1.ok (ev.mono s1) hm2 Q (fun a b φ3 G3 H3 e s2 r2 => q a b φ3 G3 H3 e (s1.trans s2) r2) fun e cls od φ3 G3 H3 he s2 xa => x e cls od φ3 G3 H3 he (s1.trans s2) xa)
    | false =>
      cases hm2
      exact iteF (q _ _ φ2 G2 H2 rfl s1 rfl)
theorem sim_or (h : SimT E t m) (h' : SimT E u n) : SimT E (tOr t u) (vOr m n) := fun σ ρ φ st G H r st' k ev hm Q q x =>
  h.then_ k ev hm x fun a s v φ2 G2 H2 hm2 s1 r1 => by
    subst r1
    cases v with
    | false =>
      refine iteF (h' σ ρ φ2 s G2 H2 r st' s1.ok (ev.mono s1) hm2 Q (fun a b φ3 G3 H3 e s2 r2 => q a b φ3 G3 H3 e (s1.trans s2) r2) fun e cls od φ3 G3 H3 he s2 xa => x e cls od φ3 G3 H3 he (s1.trans s2) xa)
    | true =>
      cases hm2
      exact iteT (q _ _ φ2 G2 H2 rfl s1 rfl)
theorem sim_not (h : SimT E t m) : SimT E (tNot t) (vNot m) := fun σ ρ φ st G H r st' k ev hm Q q x =>
  h.then_ k ev hm x fun a s v φ2 G2 H2 hm2 s1 r1 => by
    cases hm2
    exact q _ _ φ2 G2 H2 rfl s1 (by rw [r1])
theorem sim_andV (h : SimE E ta ma) (h' : SimE E tb mb) : SimE E (tAndV ta tb) (vAndV ma mb) := fun σ ρ φ st G H r st' k ev hm Q q x =>
  h.then_ k ev hm x fun a s v φ2 G2 H2 hm2 s1 r1 => by
    split at hm2
    · refine ⟨_, rp_bl r1, ?_⟩
      rename_i c
      cases c with
      | true => exact iteT (h' σ ρ φ2 s G2 H2 r st' s1.ok (ev.mono s1) hm2 Q (fun a b φ3 G3 H3 e s2 r2 => q a b φ3 G3 H3 e (s1.trans s2) r2) fun e cls od φ3 G3 H3 he s2 xa => x e cls od φ3 G3 H3 he (s1.trans s2) xa)
      | false =>
        cases hm2
        exact iteF (q _ _ φ2 G2 H2 rfl s1 (.bl _))
    · cases hm2
theorem sim_orV (h : SimE E ta ma) (h' : SimE E tb mb) : SimE E (tOrV ta tb) (vOrV ma mb) := fun σ ρ φ st G H r st' k ev hm Q q x =>
  h.then_ k ev hm x fun a s v φ2 G2 H2 hm2 s1 r1 => by
    split at hm2
    · refine ⟨_, rp_bl r1, ?_⟩
      rename_i c
      cases c with
      | false => exact iteF (h' σ ρ φ2 s G2 H2 r st' s1.ok (ev.mono s1) hm2 Q (fun a b φ3 G3 H3 e s2 r2 => q a b φ3 G3 H3 e (s1.trans s2) r2) fun e cls od φ3 G3 H3 he s2 xa => x e cls od φ3 G3 H3 he (s1.trans s2) xa)
      | true =>
        cases hm2
        exact iteT (q _ _ φ2 G2 H2 rfl s1 (.bl _))
    · cases hm2
theorem sim_notV (h : SimE E ta ma) : SimE E (tNotV ta) (vNotV ma) := fun σ ρ φ st G H r st' k ev hm Q q x =>
  h.then_ k ev hm x fun a s v φ2 G2 H2 hm2 s1 r1 => by
    split at hm2
    · cases hm2
      exact ⟨_, rp_bl r1, q _ _ φ2 G2 H2 rfl s1 (.bl _)⟩
    · cases hm2
theorem sim_if (h : SimT E t m) (ha : SimE E ta ma) (hb : SimE E tb mb) : SimE E (tIf t ta tb) (vIf m ma mb) := fun σ ρ φ st G H r st' k ev hm Q q x =>
  h.then_ k ev hm x fun a s v φ2 G2 H2 hm2 s1 r1 => by
    subst r1
    cases v with
    | true => exact iteT (ha σ ρ φ2 s G2 H2 r st' s1.ok (ev.mono s1) hm2 Q (fun a b φ3 G3 H3 e s2 r2 => q a b φ3 G3 H3 e (s1.trans s2) r2) fun e cls od φ3 G3 H3 he s2 xa => x e cls od φ3 G3 H3 he (s1.trans s2) xa)
    | false => exact iteF (hb σ ρ φ2 s G2 H2 r st' s1.ok (ev.mono s1) hm2 Q (fun a b φ3 G3 H3 e s2 r2 => q a b φ3 G3 H3 e (s1.trans s2) r2) fun e cls od φ3 G3 H3 he s2 xa => x e cls od φ3 G3 H3 he (s1.trans s2) xa)
theorem sim_chain {r r' : R2} {f f' : W → W → Sto → Option Fr} (o : Op2 r f) (o' : Op2 r' f') (ha : SimE E ta ma) (hb : SimE E tb mb) (hc : SimE E tc mc) : SimE E (tChain r r' ta tb tc) (vChain f f' ma mb mc) := fun σ ρ φ st G H rr st' k ev hm Q q x =>
  ha.then_ k ev hm x fun a s v φ2 G2 H2 hm2 s1 r1 => hb.then_ s1.ok (ev.mono s1) hm2 (fun e cls od φ3 G3 H3 he s2 xa => x e cls od φ3 G3 H3 he (s1.trans s2) xa) fun b s' w φ3 G3 H3 hm3 s2 r2 => by
    split at hm3
    · rename_i c hf
      refine o φ3 s' G3 H3 v w a b _ s2.ok (s2.rp r1) r2 hf _ fun z hz => ?_
      refine ⟨c, rp_bl hz, ?_⟩
      cases c with
      | true =>
        refine iteT (hc.then_ s2.ok (ev.mono (s1.trans s2)) hm3 (fun e cls od φ4 G4 H4 he s3 xa => x e cls od φ4 G4 H4 he ((s1.trans s2).trans s3) xa) fun d s'' z' φ4 G4 H4 hm4 s3 r3 => ?_)
        obtain ⟨fr, e1, p⟩ := finO_post (Q := Q) s3.ok hm4 fun w' v' φ5 G5 H5 e s4 r4 => q w' v' φ5 G5 H5 e (((s1.trans s2).trans s3).trans s4) r4
        exact o' φ4 s'' G4 H4 w z' b d fr s3.ok (s3.rp r2) r3 e1 Q p
      | false =>
        cases hm3
        exact iteF (q _ _ φ3 G3 H3 rfl (s1.trans s2) (.bl _))
    · cases hm3
theorem tru_rd {φ : List Addr} {st : Sto} {G H : Hp} {v : V} {w : W} {b : Bool} (k : Ok φ st G H) (r : Rp φ G v w) (h : truW w st = some b) : TruV K v H b := by
  have sq : ∀ {w : W} {b : Bool}, Rp φ G v w → (seqOf w st).map (fun l => !l.isEmpty) = some b → TruV K v H b := fun {w b} r h => by
    obtain ⟨l, e, rfl⟩ := Option.map_eq_some_iff.mp h
    obtain ⟨a, xs, rfl, h3, h4⟩ := seq_rd (K := K) k r e
    have : (!l.isEmpty) = !xs.isEmpty := by
      cases h4 <;> rfl
    rcases h3 with h3 | h3
    · exact .inl ⟨xs, h3, this⟩
    · exact .inr (.inl ⟨xs, h3, this⟩)
  unfold truW at h
  split at h
  · cases h; cases r; rfl
  · cases h; cases r; rfl
  · cases h; cases r; rfl
  · split at h
    · rename_i hl
      cases h; cases r
      exact ⟨sz_le hl, rfl⟩
    · cases h
  · exact sq r h
theorem sim_tru (h : SimE E te me) : SimT E (Fw.tTru K te) (vTru me) := fun σ ρ φ st G H r st' k ev hm Q q x =>
  h.then_ k ev hm x fun a s v φ2 G2 H2 hm2 s1 r1 => by
    obtain ⟨b, e, hb⟩ := Option.map_eq_some_iff.mp hm2
    cases hb
    exact ⟨b, tru_rd s1.ok r1 e, q _ _ φ2 G2 H2 rfl s1 rfl⟩
theorem o_is : Op2 (fun x y H Q => y = .non ∧ Q (.bl (decide (x = .non))) H) (fIs false) := fun φ st G H v1 v2 w1 w2 fr k r1 r2 hf Q p => by
  unfold fIs at hf
  split at hf
  · refine ⟨rp_non r2, ?_⟩
    split at hf
    · cases hf
      cases r1
      exact p _ (.bl _)
    · cases hf
    · cases hf
      rename_i h1 h2
      have : decide (v1 = .non) = false := decide_eq_false fun z => by
        subst z
        cases r1 with
        | non => exact h1 rfl
        | raw => exact h2 _ rfl
      rw [this]
      exact p _ (.bl _)
  · cases hf
theorem o_isnot : Op2 (fun x y H Q => y = .non ∧ Q (.bl (!decide (x = .non))) H) (fIs true) := fun φ st G H v1 v2 w1 w2 fr k r1 r2 hf Q p => by
  unfold fIs at hf
  split at hf
  · refine ⟨rp_non r2, ?_⟩
    split at hf
    · cases hf
      cases r1
      exact p _ (.bl _)
    · cases hf
    · cases hf
      rename_i h1 h2
      have : decide (v1 = .non) = false := decide_eq_false fun z => by
        subst z
        cases r1 with
        | non => exact h1 rfl
        | raw => exact h2 _ rfl
      rw [this]
      exact p _ (.bl _)
  · cases hf
end
/-! ### dicts -/
def kvGet (kvs : List (Ky × W)) (k : Ky) : Option W := (kvs.find? fun p => decide (p.1 = k)).map (·.2)
def kvPut (kvs : List (Ky × W)) (k : Ky) (w : W) : List (Ky × W) := if (kvs.any fun p => decide (p.1 = k)) = true then kvs.map (fun p => if p.1 = k then (p.1, w) else p) else kvs ++ [(k, w)]
def atomK : W → Option Key
  | .int i => some (.inl i)
  | .str x => some (.inr x)
  | _ => none
def atoms : List W → Option (List Key)
  | [] => some []
  | w :: ws => match atomK w, atoms ws with
    | some k, some ks => some (k :: ks)
    | _, _ => none
def keyW (t : Bool) (w : W) : Option Ky := if t = true then match w with
    | .tup true ws => (atoms ws).map kyT
    | _ => none
  else (atomK w).map kyK
def dctOf (w : W) (st : Sto) : Option (Bool × List (Ky × W)) := match w with
  | .dct t kvs => some (t, kvs)
  | .ref n => match st[n]? with
    | some (some (.d t kvs)) => some (t, kvs)
    | _ => none
  | _ => none
@[simp] theorem dctOf_dct {t : Bool} {kvs : List (Ky × W)} {st : Sto} : dctOf (.dct t kvs) st = some (t, kvs) := rfl
theorem kyK_inj : ∀ {a b : Key}, kyK a = kyK b → a = b
  | .inl i, .inl j, h => by simp [kyK] at h; rw [h]
  | .inr i, .inr j, h => by simp [kyK] at h; rw [h]
  | .inl i, .inr j, h => by simp [kyK] at h
  | .inr i, .inl j, h => by simp [kyK] at h
theorem kyF_inj : ∀ {a b : List Key}, a.flatMap kyK = b.flatMap kyK → a = b
  | [], [], _ => rfl
  | [], y :: ys, h => by cases y <;> simp [kyK] at h
  | x :: xs, [], h => by cases x <;> simp [kyK] at h
  | x :: xs, y :: ys, h => by
    rw [List.flatMap_cons, List.flatMap_cons] at h
    have : kyK x = kyK y ∧ xs.flatMap kyK = ys.flatMap kyK := by
      cases x <;> cases y <;> simp [kyK] at h ⊢ <;> exact h
    rw [kyK_inj this.1, kyF_inj this.2]
theorem kyT_inj {a b : List Key} (h : kyT a = kyT b) : a = b := by
  unfold kyT at h
  injection h with _ h
  exact kyF_inj (List.append_cancel_right h)
section
variable {K : PySem.W.Frag} {φ : List Addr} {st : Sto} {G H : Hp} {v : V} {w : W}
def OptR (φ : List Addr) (G : Hp) (ov : Option V) : Option W → Prop
  | some w => ∃ z, ov = some z ∧ Rp φ G z w
  | none => ov = none
/-- the entries side by side -/
inductive KvR {κ : Type} (f : κ → Ky) (φ : List Addr) (G : Hp) : List (κ × V) → List (Ky × W) → Prop where
  | nil : KvR f φ G [] []
  | cons {k : κ} {v : V} {w : W} {l : List (κ × V)} {l' : List (Ky × W)} (h : Rp φ G v w) (hs : KvR f φ G l l') : KvR f φ G ((k, v) :: l) ((f k, w) :: l')
theorem kvR_of {κ : Type} {f : κ → Ky} : ∀ {l : List (κ × V)} {l' : List (Ky × W)}, l.map (fun p => f p.1) = l'.map (fun p => p.1) → RpAll φ G (l.map fun p => p.2) (l'.map fun p => p.2) → KvR f φ G l l'
  | [], [], _, _ => .nil
  | [], _ :: _, h, _ => by simp at h
  | _ :: _, [], h, _ => by simp at h
  | (k, v) :: l, (k', w) :: l', h, r => by
    simp only [List.map_cons, List.cons.injEq] at h
    obtain ⟨rfl, h2⟩ := h
    cases r with
    | cons r1 r2 => exact .cons r1 (kvR_of h2 r2)
theorem KvR.keys {κ : Type} {f : κ → Ky} : ∀ {l : List (κ × V)} {l' : List (Ky × W)}, KvR f φ G l l' → l.map (fun p => f p.1) = l'.map (fun p => p.1)
  | _, _, .nil => rfl
  | _, _, .cons _ h => by simp only [List.map_cons]; rw [h.keys]
theorem KvR.vals {κ : Type} {f : κ → Ky} : ∀ {l : List (κ × V)} {l' : List (Ky × W)}, KvR f φ G l l' → RpAll φ G (l.map fun p => p.2) (l'.map fun p => p.2)
  | _, _, .nil => .nil
  | _, _, .cons r h => .cons r h.vals
theorem KvR.len {κ : Type} {f : κ → Ky} {l : List (κ × V)} {l' : List (Ky × W)} (h : KvR f φ G l l') : l.length = l'.length := by
  have := congrArg List.length h.keys
  simpa using this
theorem KvR.get {κ : Type} [DecidableEq κ] {f : κ → Ky} (inj : ∀ {a b : κ}, f a = f b → a = b) (k : κ) : ∀ {l : List (κ × V)} {l' : List (Ky × W)}, KvR f φ G l l' → OptR φ G (valV l k) (kvGet l' (f k))
  | _, _, .nil => by
    show valV ([] : List (κ × V)) k = none
    rfl
  | _, _, .cons (k := k') r h => by
    by_cases e : k' = k
    · subst e
      simp only [kvGet, List.find?_cons, decide_true, Option.map_some]
      exact ⟨_, valV_pos rfl, r⟩
    · have e2 : ¬ f k' = f k := fun z => e (inj z)
      have ih := h.get inj k
      rw [valV_neg e]
      simp only [kvGet, List.find?_cons, decide_eq_false e2] at ih ⊢
      exact ih
theorem KvR.any {κ : Type} [DecidableEq κ] {f : κ → Ky} (inj : ∀ {a b : κ}, f a = f b → a = b) (k : κ) : ∀ {l : List (κ × V)} {l' : List (Ky × W)}, KvR f φ G l l' → (l.any fun p => decide (p.1 = k)) = (l'.any fun p => decide (p.1 = f k))
  | _, _, .nil => rfl
  | _, _, .cons (k := k') r h => by
    rw [List.any_cons, List.any_cons, h.any inj k]
    congr 1
    exact decide_eq_decide.mpr ⟨fun z => congrArg f z, fun z => inj z⟩
theorem KvR.app {κ : Type} {f : κ → Ky} (k : κ) {v : V} {w : W} (r : Rp φ G v w) : ∀ {l : List (κ × V)} {l' : List (Ky × W)}, KvR f φ G l l' → KvR f φ G (l ++ [(k, v)]) (l' ++ [(f k, w)])
  | _, _, .nil => .cons r .nil
  | _, _, .cons r1 h => .cons r1 (h.app k r)
theorem KvR.rep {κ : Type} [DecidableEq κ] {f : κ → Ky} (inj : ∀ {a b : κ}, f a = f b → a = b) (k : κ) {v : V} {w : W} (r : Rp φ G v w) : ∀ {l : List (κ × V)} {l' : List (Ky × W)}, KvR f φ G l l' →
    KvR f φ G (l.map fun p => if p.1 = k then (p.1, v) else p) (l'.map fun p => if p.1 = f k then (p.1, w) else p)
  | _, _, .nil => .nil
  | _, _, .cons (k := k') r1 h => by
    rw [List.map_cons, List.map_cons]
    by_cases e : k' = k
    · subst e
      rw [if_pos rfl, if_pos rfl]
      exact .cons r (h.rep inj k' r)
    · rw [if_neg e, if_neg fun z => e (inj z)]
      exact .cons r1 (h.rep inj k r)
theorem KvR.put {κ : Type} [DecidableEq κ] {f : κ → Ky} (inj : ∀ {a b : κ}, f a = f b → a = b) (k : κ) {l : List (κ × V)} {l' : List (Ky × W)} (h : KvR f φ G l l') {v : V} {w : W} (r : Rp φ G v w) : KvR f φ G (putK l k v) (kvPut l' (f k) w) := by
  unfold putK kvPut
  rw [h.any inj k]
  split
  · exact h.rep inj k r
  · exact h.app k r
/-- a dict that is read -/
theorem dct_rd (k : Ok φ st G H) (r : Rp φ G v w) {t : Bool} {kvs : List (Ky × W)} (h : dctOf w st = some (t, kvs)) : ∃ a, v = .ref a ∧
    (if t = true then ∃ l : List (List Key × V), Rd H a (.dT l) ∧ KvR kyT φ G l kvs else ∃ l : List (Key × V), Rd H a (.dK l) ∧ KvR kyK φ G l kvs) := by
  cases r with
  | dct h1 hw h2 =>
    cases h
    refine ⟨_, rfl, ?_⟩
    cases t with
    | true =>
      obtain ⟨o, l, h3, h4, h5⟩ := h1
      subst h5 hw
      exact ⟨l, .inr ⟨o, k.ex _ _ h3⟩, kvR_of h4 h2⟩
    | false =>
      obtain ⟨o, l, h3, h4, h5⟩ := h1
      subst h5 hw
      exact ⟨l, .inr ⟨o, k.ex _ _ h3⟩, kvR_of h4 h2⟩
  | ref h1 =>
    simp only [dctOf] at h
    split at h
    · rename_i e2
      cases h
      obtain ⟨⟨xs, h3, h4⟩, _⟩ := k.cell _ _ _ h1 e2
      refine ⟨_, rfl, ?_⟩
      cases t with
      | true =>
        obtain ⟨l, h5, h6, h7⟩ := h3
        subst h7
        exact ⟨l, .inl h5, kvR_of h6 h4⟩
      | false =>
        obtain ⟨l, h5, h6, h7⟩ := h3
        subst h7
        exact ⟨l, .inl h5, kvR_of h6 h4⟩
    · cases h
  | _ => cases h
theorem atom_rp {k : Key} (r : Rp φ G v w) (h : atomK w = some k) : v = kV k := by
  cases r <;> (first | (cases h; rfl) | cases h)
theorem atoms_ra : ∀ {ws : List W} {ks : List Key} {vs : List V}, RpAll φ G vs ws → atoms ws = some ks → vs = ks.map kV
  | _, _, _, .nil, h => by
    cases h
    rfl
  | _, _, _, .cons r1 r2, h => by
    unfold atoms at h
    split at h
    · rename_i e1 e2
      cases h
      rw [atom_rp r1 e1, atoms_ra r2 e2]
      rfl
    · cases h
theorem key_rd {t : Bool} {ky : Ky} (k : Ok φ st G H) (r : Rp φ G v w) (h : keyW t w = some ky) : if t = true then ∃ ks b, v = .ref b ∧ H b = some (.tup (ks.map kV)) ∧ ky = kyT ks else ∃ k, v = kV k ∧ ky = kyK k := by
  cases t with
  | true =>
    rw [if_pos rfl]
    unfold keyW at h
    rw [if_pos rfl] at h
    split at h
    · obtain ⟨ks, e, rfl⟩ := Option.map_eq_some_iff.mp h
      cases r with
      | tup h1 h2 =>
        refine ⟨ks, _, rfl, ?_, rfl⟩
        rw [← atoms_ra h2 e]
        exact k.ex _ _ h1
    · cases h
  | false =>
    rw [if_neg Bool.false_ne_true]
    unfold keyW at h
    rw [if_neg Bool.false_ne_true] at h
    obtain ⟨k, e, rfl⟩ := Option.map_eq_some_iff.mp h
    exact ⟨k, atom_rp r e, rfl⟩
/-- what a dict tells -/
def dGetW (d y : W) (st : Sto) : Option (Option W) := match dctOf d st with
  | some (t, kvs) => (keyW t y).map fun ky => kvGet kvs ky
  | none => none
theorem dget_rd {y : V} {d yw : W} {o : Option W} (k : Ok φ st G H) (r : Rp φ G v d) (ry : Rp φ G y yw) (h : dGetW d yw st = some o) : ∃ a ov, v = .ref a ∧ DGet H a y ov ∧ IsD H a ∧ OptR φ G ov o := by
  unfold dGetW at h
  split at h
  · rename_i t kvs hd
    obtain ⟨ky, hk, rfl⟩ := Option.map_eq_some_iff.mp h
    obtain ⟨a, rfl, h2⟩ := dct_rd k r hd
    have hk2 := key_rd k ry hk
    cases t with
    | true =>
      rw [if_pos rfl] at h2 hk2
      obtain ⟨l, h3, h4⟩ := h2
      obtain ⟨ks, b, rfl, h5, rfl⟩ := hk2
      refine ⟨a, valV l ks, rfl, .inr ⟨l, ks, b, h3, rfl, h5, rfl⟩, .inr ⟨l, h3⟩, ?_⟩
      exact h4.get kyT_inj ks
    | false =>
      rw [if_neg Bool.false_ne_true] at h2 hk2
      obtain ⟨l, h3, h4⟩ := h2
      obtain ⟨ks, rfl, rfl⟩ := hk2
      refine ⟨a, valV l ks, rfl, .inl ⟨l, ks, h3, rfl, rfl⟩, .inl ⟨l, h3⟩, ?_⟩
      exact h4.get kyK_inj ks
  · cases h
def vDGet (d y : M W) : M W := fun ρ st => andR (d ρ st) fun x s => andR (y ρ s) fun k s2 => match dGetW x k s2 with
  | some (some w) => some (.ok w, s2)
  | _ => none
def vDIn (neg : Bool) (y d : M W) : M W := fun ρ st => andR (y ρ st) fun k s => andR (d ρ s) fun x s2 => (dGetW x k s2).map fun o => (.ok (.bl (if neg then !o.isSome else o.isSome)), s2)
def vDGet1 (d y : M W) : M W := fun ρ st => andR (d ρ st) fun x s => match dctOf x s with
  | some _ => andR (y ρ s) fun k s2 => (dGetW x k s2).map fun o => (.ok (o.getD .non), s2)
  | none => none
def vDGet2 (d y z : M W) : M W := fun ρ st => andR (d ρ st) fun x s => match dctOf x s with
  | some _ => andR (y ρ s) fun k s2 => andR (z ρ s2) fun u s3 => (dGetW x k s3).map fun o => (.ok (o.getD u), s3)
  | none => none
variable {E : L2.St → XK} {td ty tz : TE} {md my mz : M W}
theorem opt_iso {o : Option W} {ov : Option V} (h : OptR φ G ov o) : ov.isSome = o.isSome := by
  cases o with
  | none =>
    cases h
    rfl
  | some w =>
    obtain ⟨z, rfl, _⟩ := h
    rfl
theorem opt_d {o : Option W} {ov : Option V} {z : V} {u : W} (h : OptR φ G ov o) (r : Rp φ G z u) : Rp φ G (ov.getD z) (o.getD u) := by
  cases o with
  | none =>
    cases h
    exact r
  | some w =>
    obtain ⟨z, rfl, h⟩ := h
    exact h
theorem sim_dget (hd : SimE E td md) (hy : SimE E ty my) : SimE E (tDGet td ty) (vDGet md my) := fun σ ρ φ st G H r st' k ev hm Q q x =>
  hd.then_ k ev hm x fun a s v φ2 G2 H2 hm2 s1 r1 => hy.then_ s1.ok (ev.mono s1) hm2 (fun e cls od φ3 G3 H3 he s2 xa => x e cls od φ3 G3 H3 he (s1.trans s2) xa) fun b s' u φ3 G3 H3 hm3 s2 r2 => by
    split at hm3
    · rename_i w hw
      cases hm3
      obtain ⟨a', ov, rfl, h1, _, z, rfl, h3⟩ := dget_rd s2.ok (s2.rp r1) r2 hw
      exact ⟨a', z, rfl, h1, q _ _ φ3 G3 H3 rfl (s1.trans s2) h3⟩
    · cases hm3
theorem sim_din (hy : SimE E ty my) (hd : SimE E td md) : SimE E (tDIn ty td) (vDIn false my md) := fun σ ρ φ st G H r st' k ev hm Q q x =>
  hy.then_ k ev hm x fun a s v φ2 G2 H2 hm2 s1 r1 => hd.then_ s1.ok (ev.mono s1) hm2 (fun e cls od φ3 G3 H3 he s2 xa => x e cls od φ3 G3 H3 he (s1.trans s2) xa) fun b s' u φ3 G3 H3 hm3 s2 r2 => by
    obtain ⟨o, ho, e⟩ := Option.map_eq_some_iff.mp hm3
    cases e
    obtain ⟨a', ov, rfl, h1, _, h3⟩ := dget_rd s2.ok r2 (s2.rp r1) ho
    refine ⟨a', ov, rfl, h1, ?_⟩
    rw [opt_iso h3]
    exact q _ _ φ3 G3 H3 rfl (s1.trans s2) (.bl _)
theorem sim_dnotin (hy : SimE E ty my) (hd : SimE E td md) : SimE E (tDNotIn ty td) (vDIn true my md) := fun σ ρ φ st G H r st' k ev hm Q q x =>
  hy.then_ k ev hm x fun a s v φ2 G2 H2 hm2 s1 r1 => hd.then_ s1.ok (ev.mono s1) hm2 (fun e cls od φ3 G3 H3 he s2 xa => x e cls od φ3 G3 H3 he (s1.trans s2) xa) fun b s' u φ3 G3 H3 hm3 s2 r2 => by
    obtain ⟨o, ho, e⟩ := Option.map_eq_some_iff.mp hm3
    cases e
    obtain ⟨a', ov, rfl, h1, _, h3⟩ := dget_rd s2.ok r2 (s2.rp r1) ho
    refine ⟨a', ov, rfl, h1, ?_⟩
    rw [opt_iso h3]
    exact q _ _ φ3 G3 H3 rfl (s1.trans s2) (.bl _)
theorem isd_of (k : Ok φ st G H) (r : Rp φ G v w) {p : Bool × List (Ky × W)} (h : dctOf w st = some p) : ∃ a, v = .ref a ∧ IsD H a := by
  obtain ⟨t, kvs⟩ := p
  obtain ⟨a, rfl, h2⟩ := dct_rd k r h
  cases t with
  | true =>
    obtain ⟨l, h3, _⟩ := h2
    exact ⟨a, rfl, .inr ⟨l, h3⟩⟩
  | false =>
    obtain ⟨l, h3, _⟩ := h2
    exact ⟨a, rfl, .inl ⟨l, h3⟩⟩
theorem sim_dget1 (hd : SimE E td md) (hy : SimE E ty my) : SimE E (tDGet1 td ty) (vDGet1 md my) := fun σ ρ φ st G H r st' k ev hm Q q x =>
  hd.then_ k ev hm x fun a s v φ2 G2 H2 hm2 s1 r1 => by
    split at hm2
    · rename_i e0
      obtain ⟨d, rfl, hi⟩ := isd_of s1.ok r1 e0
      refine ⟨d, rfl, hi, hy.then_ s1.ok (ev.mono s1) hm2 (fun e cls od φ3 G3 H3 he s2 xa => x e cls od φ3 G3 H3 he (s1.trans s2) xa) fun b s' u φ3 G3 H3 hm3 s2 r2 => ?_⟩
      obtain ⟨o, ho, e⟩ := Option.map_eq_some_iff.mp hm3
      cases e
      obtain ⟨a', ov, e5, h1, _, h3⟩ := dget_rd s2.ok (s2.rp r1) r2 ho
      cases e5
      exact ⟨ov, h1, q _ _ φ3 G3 H3 rfl (s1.trans s2) (opt_d h3 .non)⟩
    · cases hm2
theorem sim_dget2 (hd : SimE E td md) (hy : SimE E ty my) (hz : SimE E tz mz) : SimE E (tDGet2 td ty tz) (vDGet2 md my mz) := fun σ ρ φ st G H r st' k ev hm Q q x =>
  hd.then_ k ev hm x fun a s v φ2 G2 H2 hm2 s1 r1 => by
    split at hm2
    · rename_i e0
      obtain ⟨d, rfl, hi⟩ := isd_of s1.ok r1 e0
      refine ⟨d, rfl, hi, hy.then_ s1.ok (ev.mono s1) hm2 (fun e cls od φ3 G3 H3 he s2 xa => x e cls od φ3 G3 H3 he (s1.trans s2) xa) fun b s' u φ3 G3 H3 hm3 s2 r2 =>
        hz.then_ s2.ok (ev.mono (s1.trans s2)) hm3 (fun e cls od φ4 G4 H4 he s3 xa => x e cls od φ4 G4 H4 he ((s1.trans s2).trans s3) xa) fun c s'' z φ4 G4 H4 hm4 s3 r3 => ?_⟩
      obtain ⟨o, ho, e⟩ := Option.map_eq_some_iff.mp hm4
      cases e
      obtain ⟨a', ov, e5, h1, _, h3⟩ := dget_rd s3.ok (s3.rp (s2.rp r1)) (s3.rp r2) ho
      cases e5
      exact ⟨ov, h1, q _ _ φ4 G4 H4 rfl ((s1.trans s2).trans s3) (opt_d h3 r3)⟩
    · cases hm2
end
end VS

namespace VS
open PySem PySem.Spec PyProof.Rows L2 Evl
/-! ### objects -/
def objOf (w : W) (st : Sto) : Option (Addr × List (Str × W)) := match w with
  | .obj C fs => some (C, fs)
  | .ref n => match st[n]? with
    | some (some (.o C fs)) => some (C, fs)
    | _ => none
  | _ => none
@[simp] theorem objOf_obj {C : Addr} {fs : List (Str × W)} {st : Sto} : objOf (.obj C fs) st = some (C, fs) := rfl
section
variable {K : PySem.W.Frag} {φ : List Addr} {st : Sto} {G H : Hp} {v : V} {w : W}
theorem obj_rd (k : Ok φ st G H) (r : Rp φ G v w) {C : Addr} {fs : List (Str × W)} (h : objOf w st = some (C, fs)) : ∃ a dx xs, v = .ref a ∧ H a = some (.ins C dx xs) ∧ xs.map (fun p => p.1) = fs.map (fun p => p.1) ∧ RpAll φ G (xs.map fun p => p.2) (fs.map fun p => p.2) := by
  cases r with
  | obj h1 hn hv hw h2 =>
    cases h
    subst hv hw
    exact ⟨_, _, _, rfl, k.ex _ _ h1, hn, h2⟩
  | ref h1 =>
    simp only [objOf] at h
    split at h
    · rename_i e2
      cases h
      obtain ⟨⟨dx, xs, h3, h4, h5⟩, _⟩ := k.cell _ _ _ h1 e2
      exact ⟨_, dx, xs, rfl, h3, h4, h5⟩
    · cases h
  | _ => cases h
theorem look_rd {f : Str} : ∀ {xs : List (Str × V)} {fs : List (Str × W)}, xs.map (fun p => p.1) = fs.map (fun p => p.1) → RpAll φ G (xs.map fun p => p.2) (fs.map fun p => p.2) → OptR φ G (xs.lookup f) (fs.lookup f)
  | [], [], _, _ => rfl
  | [], _ :: _, h, _ => by simp at h
  | _ :: _, [], h, _ => by simp at h
  | (k, v) :: l, (k', w) :: l', h, r => by
    simp only [List.map_cons, List.cons.injEq] at h
    obtain ⟨rfl, h2⟩ := h
    cases r with
    | cons r1 r2 =>
      simp only [List.lookup_cons]
      cases (f == k) with
      | true => exact ⟨v, rfl, r1⟩
      | false => exact look_rd h2 r2
def fldW (C : Addr) (f : Str) (w : W) (st : Sto) : Option W := match objOf w st with
  | some (C', fs) => if C' = C then fs.lookup f else none
  | none => none
def vFld (C : Addr) (f : Str) (m : M W) : M W := fun ρ st => andR (m ρ st) fun w s => (fldW C f w s).map fun u => (.ok u, s)
theorem fld_rd {C : Addr} {f : Str} {u : W} (k : Ok φ st G H) (r : Rp φ G v w) (h : fldW C f w st = some u) : ∃ a dx xs y, v = .ref a ∧ H a = some (.ins C dx xs) ∧ xs.lookup f = some y ∧ Rp φ G y u := by
  unfold fldW at h
  split at h
  · rename_i C' fs e
    split at h
    · rename_i ec
      subst ec
      obtain ⟨a, dx, xs, rfl, h1, h2, h3⟩ := obj_rd k r e
      have := look_rd (f := f) h2 h3
      rw [h] at this
      obtain ⟨y, h4, h5⟩ := this
      exact ⟨a, dx, xs, y, rfl, h1, h4, h5⟩
    · cases h
  · cases h
variable {E : L2.St → XK} {ta : TE} {ma : M W} {tr tk : TA} {mr mk : M (List W)} {C : Addr} {f : Str}
theorem sim_fld (hc : Cls K C) (hn : NoAttr K C f) (h : SimE E ta ma) : SimE E (tFld K ta f) (vFld C f ma) := fun σ ρ φ st G H r st' k ev hm Q q x =>
  h.then_ k ev hm x fun a s v φ2 G2 H2 hm2 s1 r1 => by
    obtain ⟨u, e, z⟩ := Option.map_eq_some_iff.mp hm2
    cases z
    obtain ⟨a', dx, xs, y, rfl, h1, h2, h3⟩ := fld_rd s1.ok r1 e
    exact ⟨a', C, dx, xs, y, rfl, h1, hc, hn, h2, q _ _ φ2 G2 H2 rfl s1 h3⟩
theorem sim_getp {E' : XK} (h : SimE E ta ma) : SimE E (tProp C (getSp C f) [] E' ta) (vFld C f ma) := fun σ ρ φ st G H r st' k ev hm Q q x =>
  h.then_ k ev hm x fun a s v φ2 G2 H2 hm2 s1 r1 => by
    obtain ⟨u, e, z⟩ := Option.map_eq_some_iff.mp hm2
    cases z
    obtain ⟨a', dx, xs, y, rfl, h1, h2, h3⟩ := fld_rd s1.ok r1 e
    exact ⟨a', dx, xs, rfl, h1, a', dx, xs, y, rfl, h1, h2, q _ _ φ2 G2 H2 rfl s1 h3⟩
/-! ### calls -/
abbrev MF := List W → Sto → Option (R W × Sto)
/-- the promise of a def that reads as mf -/
def spV (n : Nat) (mf : MF) : Sp := fun vs H Q E => vs.length = n ∧ ∃ (φ : List Addr) (st : Sto) (G : Hp) (ws : List W) (r : R W) (st' : Sto), Ok φ st G H ∧ RpAll φ G vs ws ∧ mf ws st = some (r, st') ∧
  (∀ w v φ2 G2 H2, r = .ok w → Step φ st G H φ2 st' G2 H2 → Rp φ2 G2 v w → Q v H2) ∧
  (∀ e cls od φ2 G2 H2, r = .ex e → Step φ st G H φ2 st' G2 H2 → ExAt φ2 G2 H2 e cls od → E cls od H2)
/-- called: with a store of its own if nothing that is handed in refers to ours, and what comes back is immutable -/
def exFree (e : Xn) : Bool := freeF e.2
def pure1 (mf : MF) (ws : List W) (st : Sto) : Option (R W × Sto) := match mf ws [] with
  | some (.ok w, _) => if w.free = true then some (.ok w, st) else none
  | some (.ex e, _) => if exFree e = true then some (.ex e, st) else none
  | none => none
/-- p: a store of its own -/
def callF (p : Bool) (n : Nat) (mf : MF) (ws : List W) (st : Sto) : Option (R W × Sto) := if ws.length = n then (if p = true then (if freeAll ws = true then pure1 mf ws st else none) else mf ws st) else none
def vCall (p : Bool) (n : Nat) (mf : MF) (m : M (List W)) : M W := fun ρ st => andR (m ρ st) fun ws s => callF p n mf ws s
theorem ex_any {φ φ2 : List Addr} {e : Xn} {cls : Value} {od : Option Addr} (h : ExAt φ G H e cls od) (f : exFree e = true) : ExAt φ2 G H e cls od := by
  obtain ⟨h1, h2⟩ := h
  refine ⟨h1, ?_⟩
  rcases h2 with h2 | ⟨d, xs, ne, h3, h4, h5, h6⟩
  · exact .inl h2
  · exact .inr ⟨d, xs, ne, h3, h4, h5, ra_any h6 (by rw [← freeF_map]; exact f)⟩
theorem ex_mono {φ φ2 : List Addr} {G2 : Hp} {e : Xn} {cls : Value} {od : Option Addr} (p : φ <+: φ2) (g : Ex G G2) (h : ExAt φ G H e cls od) : ExAt φ2 G2 H e cls od := by
  obtain ⟨h1, h2⟩ := h
  refine ⟨h1, ?_⟩
  rcases h2 with h2 | ⟨d, xs, ne, h3, h4, h5, h6⟩
  · exact .inl h2
  · exact .inr ⟨d, xs, ne, h3, h4, h5, ra_mono p g h6⟩
/-- the promise, used -/
theorem sp_use {n : Nat} {mf : MF} {p : Bool} {vs : List V} {ws : List W} {r : R W} {st' : Sto} {Q : VK} {E' : XK} (k : Ok φ st G H) (ra : RpAll φ G vs ws) (h : callF p n mf ws st = some (r, st'))
    (q : ∀ w v φ2 G2 H2, r = .ok w → Step φ st G H φ2 st' G2 H2 → Rp φ2 G2 v w → Q v H2) (x : ∀ e cls od φ2 G2 H2, r = .ex e → Step φ st G H φ2 st' G2 H2 → ExAt φ2 G2 H2 e cls od → E' cls od H2) : spV n mf vs H Q E' := by
  unfold callF at h
  split at h
  · rename_i hl
    refine ⟨(ra_len ra).trans hl, ?_⟩
    cases p with
    | false => exact ⟨φ, st, G, ws, r, st', k, ra, h, q, x⟩
    | true =>
      rw [if_pos rfl] at h
      split at h
      · rename_i hf
        unfold pure1 at h
        split at h
        · rename_i w stc e
          split at h
          · rename_i hw
            cases h
            exact ⟨[], [], G, ws, _, _, Ok.nil k.ex, ra_any ra hf, e, fun w' v φ2 G2 H2 ew s r1 => by
              cases ew
              exact q w v φ G2 H2 rfl (Step.pure k s) (rp_any r1 hw), fun _ _ _ _ _ _ z => nomatch z⟩
          · cases h
        · rename_i e stc ee
          split at h
          · rename_i hw
            cases h
            exact ⟨[], [], G, ws, _, _, Ok.nil k.ex, ra_any ra hf, ee, fun _ _ _ _ _ z => (nomatch z), fun e' cls od φ2 G2 H2 ew s r1 => by
              cases ew
              exact x e cls od φ G2 H2 rfl (Step.pure k s) (ex_any r1 hw)⟩
          · cases h
        · cases h
      · cases h
  · cases h
theorem sim_call {n : Nat} {mf : MF} {p : Bool} {E' : XK} (hE : ∀ σ cls od H, E σ cls od H → E' cls od H) (h : SimA E tr mr) : SimE E (tCall (spV n mf) [] E' tr) (vCall p n mf mr) := fun σ ρ φ st G H r st' k ev hm Q q x =>
  h.then_ k ev hm x fun ws s vs φ2 G2 H2 hm2 s1 r1 => by
    rw [List.append_nil]
    exact sp_use s1.ok r1 hm2 (fun w v φ3 G3 H3 e s2 r2 => q w v φ3 G3 H3 e (s1.trans s2) r2) fun e cls od φ3 G3 H3 he s2 xa => hE σ _ _ _ (x e cls od φ3 G3 H3 he (s1.trans s2) xa)
/-- a call where what is raised is wished for at the slots -/
theorem sim_callS {n : Nat} {mf : MF} {p : Bool} {E' : L2.St → XK} (hE : ∀ σ cls od H, E σ cls od H → E' σ cls od H) (h : SimA E tr mr) : SimE E (tCallS (spV n mf) E' tr) (vCall p n mf mr) := fun σ ρ φ st G H r st' k ev hm Q q x =>
  h.then_ k ev hm x fun ws s vs φ2 G2 H2 hm2 s1 r1 => sp_use s1.ok r1 hm2 (fun w v φ3 G3 H3 e s2 r2 => q w v φ3 G3 H3 e (s1.trans s2) r2) fun e cls od φ3 G3 H3 he s2 xa => hE σ _ _ _ (x e cls od φ3 G3 H3 he (s1.trans s2) xa)
/-- o.m(..) -/
def vMeth (p : Bool) (C : Addr) (m : Str) (n : Nat) (mf : MF) (a : M W) (r : M (List W)) : M W := fun ρ st => andR (a ρ st) fun w s => match objOf w s with
  | some (C', fs) => if C' = C ∧ fs.lookup m = none then andR (r ρ s) fun ws s2 => callF p n mf (w :: ws) s2 else none
  | none => none
theorem sim_meth {m : Str} {n : Nat} {mf : MF} {p : Bool} {E' : XK} (hE : ∀ σ cls od H, E σ cls od H → E' cls od H) (ha : SimE E ta ma) (h : SimA E tr mr) : SimE E (tMeth C m (spV n mf) [] E' ta tr) (vMeth p C m n mf ma mr) := fun σ ρ φ st G H r st' k ev hm Q q x =>
  ha.then_ k ev hm x fun w s v φ2 G2 H2 hm2 s1 r1 => by
    split at hm2
    · rename_i C' fs e
      split at hm2
      · rename_i ec
        obtain ⟨rfl, en⟩ := ec
        obtain ⟨a, dx, xs, rfl, h1, h2, h3⟩ := obj_rd s1.ok r1 e
        have hl : xs.lookup m = none := by
          have := look_rd (f := m) h2 h3
          rw [en] at this
          exact this
        refine ⟨a, dx, xs, rfl, h1, hl, h.then_ s1.ok (ev.mono s1) hm2 (fun e cls od φ3 G3 H3 he s2 xa => x e cls od φ3 G3 H3 he (s1.trans s2) xa) fun ws s' vs φ3 G3 H3 hm3 s2 r2 => ?_⟩
        rw [List.append_nil]
        exact sp_use s2.ok (.cons (s2.rp r1) r2) hm3 (fun w v φ4 G4 H4 e s3 r3 => q w v φ4 G4 H4 e ((s1.trans s2).trans s3) r3) fun e cls od φ4 G4 H4 he s3 xa => hE σ _ _ _ (x e cls od φ4 G4 H4 he ((s1.trans s2).trans s3) xa)
      · cases hm2
    · cases hm2
theorem Step.adoptF {φ' : List Addr} {st' : Sto} {G' H' : Hp} {D : Addr} {o : HO} (s : Step φ st G H φ' st' G' H') (h : H D = none) (g : G' D = none) (f : Free φ' st' D) (hd : H' D = some o) : Step φ st G H φ' st' (upd G' D o) H' := by
  refine ⟨s.g.trans (Ex.new g), ⟨fun a u q => ?_, s.ok.len, fun n a c h1 h2 => ?_, s.ok.inj⟩, s.pre, fun a u e z => ?_, s.dom, s.new, s.dead⟩
  · by_cases z : a = D
    · subst z
      rw [upd_same] at q
      cases q
      exact hd
    · rw [upd_ne z] at q
      exact s.ok.ex a u q
  · obtain ⟨h3, h4⟩ := s.ok.cell n a c h1 h2
    refine ⟨cell_mono List.prefix_rfl (Ex.new g) h3 rfl, ?_⟩
    rw [upd_ne (fun (z : a = D) => by
      subst z
      rw [f n h1] at h2
      cases h2)]
    exact h4
  · obtain ⟨h3, h4⟩ := s.keep a u e z
    exact ⟨h3, h4.imp (fun h4 => (upd_ne (fun (z : a = D) => by
      subst z
      rw [h] at e
      cases e)).trans h4) id⟩
theorem Step.adoptC {φ' : List Addr} {st' : Sto} {G' H' : Hp} {D : Addr} {c : Cell} (s : Step φ st G H φ' st' G' H') (h : H D = none) (g : G' D = none) (f : Free φ' st' D) (hd : CellAt φ' G' H' D c) : Step φ st G H (φ' ++ [D]) (st' ++ [some c]) G' H' := by
  have k := s.ok
  have pr : φ' <+: φ' ++ [D] := List.prefix_append _ _
  have look : ∀ {n : Nat} {a : Addr} {c' : Cell}, (φ' ++ [D])[n]? = some a → (st' ++ [some c])[n]? = some (some c') → (φ'[n]? = some a ∧ st'[n]? = some (some c')) ∨ (n = φ'.length ∧ a = D ∧ c' = c) := fun {n a c'} h1 h2 => by
    rcases Nat.lt_trichotomy n φ'.length with l | l | l
    · rw [List.getElem?_append_left l] at h1
      rw [List.getElem?_append_left (k.len ▸ l)] at h2
      exact .inl ⟨h1, h2⟩
    · refine .inr ⟨l, ?_, ?_⟩
      · rw [l] at h1
        simpa using h1.symm
      · rw [l, k.len] at h2
        simpa using h2.symm
    · rw [List.getElem?_eq_none (by simp; omega)] at h1
      cases h1
  have live : ∀ {n : Nat} {a : Addr} {c' : Cell}, φ'[n]? = some a → st'[n]? = some (some c') → a ≠ D := fun {n a c'} h1 h2 z => by
    subst z
    rw [f n h1] at h2
    cases h2
  refine ⟨s.g, ⟨k.ex, by simp [k.len], fun n a c' h1 h2 => ?_, fun m n a c1 c2 h1 h2 h3 h4 => ?_⟩, s.pre.trans pr, s.keep, s.dom, fun n a e l => ?_, fun n hn => ?_⟩
  · rcases look h1 h2 with ⟨h3, h4⟩ | ⟨_, rfl, rfl⟩
    · obtain ⟨h5, h6⟩ := k.cell n a c' h3 h4
      exact ⟨cell_mono pr (Ex.refl _) h5 rfl, h6⟩
    · exact ⟨cell_mono pr (Ex.refl _) hd rfl, g⟩
  · rcases look h1 h3 with ⟨a1, a2⟩ | ⟨a1, a2, a3⟩
    · rcases look h2 h4 with ⟨b1, b2⟩ | ⟨b1, b2, b3⟩
      · exact k.inj m n a c1 c2 a1 b1 a2 b2
      · exact absurd b2 (live a1 a2)
    · rcases look h2 h4 with ⟨b1, b2⟩ | ⟨b1, b2, b3⟩
      · exact absurd a2 (live b1 b2)
      · rw [a1, b1]
  · rcases Nat.lt_or_ge n φ'.length with l2 | l2
    · rw [List.getElem?_append_left l2] at e
      exact s.new n a e l
    · rcases Nat.lt_or_ge n (φ' ++ [D]).length with l3 | l3
      · have : n = φ'.length := by
          rw [List.length_append] at l3
          simp at l3
          omega
        subst this
        simp at e
        rw [← e]
        exact h
      · rw [List.getElem?_eq_none l3] at e
        cases e
  · have := s.dead n hn
    rw [List.getElem?_append_left]
    · exact this
    · rcases Nat.lt_or_ge n st'.length with l | l
      · exact l
      · rw [List.getElem?_eq_none l] at this
        cases this
end
end VS

namespace VS
open PySem PySem.Spec PyProof.Rows L2 Evl
inductive SR where
  | nx (ρ : Env) | rt (w : W) | bk (ρ : Env) | ct (ρ : Env) | ex (e : Xn) (ρ : Env)
abbrev S := Env → Sto → Option (SR × Sto)
def SPost (E : L2.St → XK) (D : Ends) (φ : List Addr) (st : Sto) (G H : Hp) (st' : Sto) : SR → Prop
  | .nx ρ' => ∀ φ2 G2 H2 σ', Step φ st G H φ2 st' G2 H2 → EnvOk φ2 G2 σ' ρ' → D.nx σ' H2
  | .rt w => ∀ φ2 G2 H2 v, Step φ st G H φ2 st' G2 H2 → Rp φ2 G2 v w → D.rt v H2
  | .bk ρ' => ∀ φ2 G2 H2 σ', Step φ st G H φ2 st' G2 H2 → EnvOk φ2 G2 σ' ρ' → D.bk σ' H2
  | .ct ρ' => ∀ φ2 G2 H2 σ', Step φ st G H φ2 st' G2 H2 → EnvOk φ2 G2 σ' ρ' → D.ct σ' H2
  | .ex e ρ' => ∀ φ2 G2 H2 σ' cls od, Step φ st G H φ2 st' G2 H2 → EnvOk φ2 G2 σ' ρ' → ExAt φ2 G2 H2 e cls od → E σ' cls od H2
def SimS (E : L2.St → XK) (ts : TS) (ms : S) : Prop := ∀ (σ : L2.St) (ρ : Env) (φ : List Addr) (st : Sto) (G H : Hp) (r : SR) (st' : Sto), Ok φ st G H → EnvOk φ G σ ρ → ms ρ st = some (r, st') → ∀ D : Ends, SPost E D φ st G H st' r → ts D σ H
section
variable {E : L2.St → XK} {D : Ends} {φ φ2 : List Addr} {st st2 st' : Sto} {G G2 H H2 : Hp} {r : SR}
theorem SPost.after (s : Step φ st G H φ2 st2 G2 H2) (p : SPost E D φ st G H st' r) : SPost E D φ2 st2 G2 H2 st' r := by
  cases r with
  | nx ρ' => exact fun φ3 G3 H3 σ' t e => p φ3 G3 H3 σ' (s.trans t) e
  | rt w => exact fun φ3 G3 H3 v t e => p φ3 G3 H3 v (s.trans t) e
  | bk ρ' => exact fun φ3 G3 H3 σ' t e => p φ3 G3 H3 σ' (s.trans t) e
  | ct ρ' => exact fun φ3 G3 H3 σ' t e => p φ3 G3 H3 σ' (s.trans t) e
  | ex e ρ' => exact fun φ3 G3 H3 σ' cls od t e x => p φ3 G3 H3 σ' cls od (s.trans t) e x
end
/-- behind a part that gives a value -/
def andS {α : Type} (m : Option (R α × Sto)) (ρ : Env) (f : α → Sto → Option (SR × Sto)) : Option (SR × Sto) := match m with
  | some (.ok a, s) => f a s
  | some (.ex e, s) => some (.ex e ρ, s)
  | none => none
@[simp] theorem andS_ok {α : Type} {a : α} {s : Sto} {ρ : Env} {f : α → Sto → Option (SR × Sto)} : andS (some (.ok a, s)) ρ f = f a s := rfl
@[simp] theorem andS_ex {α : Type} {e : Xn} {s : Sto} {ρ : Env} {f : α → Sto → Option (SR × Sto)} : andS (some (.ex e, s)) ρ f = some (.ex e ρ, s) := rfl
@[simp] theorem andS_none {α : Type} {ρ : Env} {f : α → Sto → Option (SR × Sto)} : andS none ρ f = none := rfl
section
variable {α β : Type} {Rel : List Addr → Hp → β → α → Prop} {E : L2.St → XK} {t : L2.St → Hp → (β → Hp → Prop) → Prop} {m : M α} {σ : L2.St} {ρ : Env} {φ : List Addr} {st st' : Sto} {G H : Hp} {D : Ends} {r : SR}
theorem Sim.thenS {F : α → Sto → Option (SR × Sto)} (h : Sim Rel E t m) (k : Ok φ st G H) (ev : EnvOk φ G σ ρ) (hm : andS (m ρ st) ρ F = some (r, st')) (p : SPost E D φ st G H st' r) {Q : β → Hp → Prop}
    (n : ∀ a s b φ2 G2 H2, F a s = some (r, st') → Step φ st G H φ2 s G2 H2 → EnvOk φ2 G2 σ ρ → SPost E D φ2 s G2 H2 st' r → Rel φ2 G2 b a → Q b H2) : t σ H Q := by
  cases e : m ρ st with
  | none =>
    rw [e] at hm
    cases hm
  | some q =>
    obtain ⟨q, s⟩ := q
    cases q with
    | ok a =>
      rw [e] at hm
      exact h σ ρ φ st G H _ _ k ev e Q (fun a' b φ2 G2 H2 ea s1 r1 => by cases ea; exact n a s b φ2 G2 H2 hm s1 (ev.mono s1) (p.after s1) r1) (fun _ _ _ _ _ _ z => nomatch z)
    | ex e' =>
      rw [e] at hm
      cases hm
      exact h σ ρ φ st G H _ _ k ev e Q (fun _ _ _ _ _ z => nomatch z) (fun e2 cls od φ2 G2 H2 ee s1 r1 => by cases ee; exact p φ2 G2 H2 σ cls od s1 (ev.mono s1) r1)
end
/-! ### targets -/
abbrev VG := W → Env → Sto → Option (Env × Sto)
abbrev VGs := List W → Env → Sto → Option (Env × Sto)
/-- the slots but vs stay -/
def Off (vs : List Nat) (σ σ' : L2.St) : Prop := σ'.length = σ.length ∧ ∀ i, i ∉ vs → σ'[i]? = σ[i]?
def SimG (vs : List Nat) (g : TG) (mg : VG) : Prop := ∀ (σ : L2.St) (ρ : Env) (φ : List Addr) (st : Sto) (G H : Hp) (v : V) (w : W) (ρ' : Env) (st' : Sto), Ok φ st G H → EnvOk φ G σ ρ → Rp φ G v w → mg w ρ st = some (ρ', st') → ∀ Q : L2.St → Hp → Prop,
  (∀ σ' φ2 G2 H2, Step φ st G H φ2 st' G2 H2 → EnvOk φ2 G2 σ' ρ' → Off vs σ σ' → Q σ' H2) → g v σ H Q
def SimGs (vs : List Nat) (g : TGs) (mg : VGs) : Prop := ∀ (σ : L2.St) (ρ : Env) (φ : List Addr) (st : Sto) (G H : Hp) (v : List V) (w : List W) (ρ' : Env) (st' : Sto), Ok φ st G H → EnvOk φ G σ ρ → RpAll φ G v w → mg w ρ st = some (ρ', st') → ∀ Q : L2.St → Hp → Prop,
  (∀ σ' φ2 G2 H2, Step φ st G H φ2 st' G2 H2 → EnvOk φ2 G2 σ' ρ' → Off vs σ σ' → Q σ' H2) → g v σ H Q
def gN (i : Nat) : VG := fun w ρ st => some (ρ.set i (some w), st)
def gsNil : VGs := fun ws ρ st => match ws with
  | [] => some (ρ, st)
  | _ => none
def gsCons (g : VG) (gs : VGs) : VGs := fun ws ρ st => match ws with
  | w :: r => match g w ρ st with
    | some (ρ1, s1) => gs r ρ1 s1
    | none => none
  | [] => none
def gT (n : Nat) (gs : VGs) : VG := fun w ρ st => match w with
  | .tup _ ws => if ws.length = n then gs ws ρ st else none
  | _ => none
def gL (n : Nat) (gs : VGs) : VG := fun w ρ st => match lstOf w st with
  | some ws => if ws.length = n then gs ws ρ st else none
  | none => none
section
variable {K : PySem.W.Frag} {vs : List Nat} {g : TG} {gs : TGs} {mg : VG} {ms : VGs}
theorem sim_gN {i : Nat} (h : i ∈ vs) : SimG vs (gName i) (gN i) := fun σ ρ φ st G H v w ρ' st' k ev r hm Q q => by
  cases hm
  exact q _ φ G H (Step.refl k) (ev.set r i) ⟨List.length_set, fun j hj => List.getElem?_set_ne (fun (z : i = j) => hj (by rw [← z]; exact h))⟩
theorem sim_gsNil : SimGs vs gNil gsNil := fun σ ρ φ st G H v w ρ' st' k ev r hm Q q => by
  cases r with
  | nil =>
    cases hm
    exact ⟨rfl, q σ φ G H (Step.refl k) ev ⟨rfl, fun _ _ => rfl⟩⟩
  | cons _ _ => cases hm
theorem sim_gsCons (h : SimG vs g mg) (hs : SimGs vs gs ms) : SimGs vs (gCons g gs) (gsCons mg ms) := fun σ ρ φ st G H v w ρ' st' k ev r hm Q q => by
  cases r with
  | nil => cases hm
  | cons r1 r2 =>
    unfold gsCons at hm
    dsimp only at hm
    split at hm
    · rename_i ρ1 s1 e
      refine ⟨_, _, rfl, h σ ρ φ st G H _ _ ρ1 s1 k ev r1 e _ fun σ1 φ1 G1 H1 t1 ev1 o1 => ?_⟩
      exact hs σ1 ρ1 φ1 s1 G1 H1 _ _ ρ' st' t1.ok ev1 (t1.ra r2) hm Q fun σ2 φ2 G2 H2 t2 ev2 o2 => q σ2 φ2 G2 H2 (t1.trans t2) ev2 ⟨o2.1.trans o1.1, fun i hi => (o2.2 i hi).trans (o1.2 i hi)⟩
    · cases hm
theorem sim_gT {n : Nat} (hs : SimGs vs gs ms) : SimG vs (gTup K n gs) (gT n ms) := fun σ ρ φ st G H v w ρ' st' k ev r hm Q q => by
  unfold gT at hm
  split at hm
  · split at hm
    · rename_i hl
      obtain ⟨a, xs, rfl, h1, h2⟩ := tup_rd (K := K) k r
      exact ⟨a, xs, rfl, h1, (ra_len h2).trans hl, hs σ ρ φ st G H _ _ ρ' st' k ev h2 hm Q q⟩
    · cases hm
  · cases hm
theorem sim_gL {n : Nat} (hs : SimGs vs gs ms) : SimG vs (gLst K n gs) (gL n ms) := fun σ ρ φ st G H v w ρ' st' k ev r hm Q q => by
  unfold gL at hm
  split at hm
  · rename_i ws e
    split at hm
    · rename_i hl
      obtain ⟨a, xs, rfl, h1, h2⟩ := lst_rd k r e
      exact ⟨a, xs, rfl, .inl (.inl h1), (ra_len h2).trans hl, hs σ ρ φ st G H _ _ ρ' st' k ev h2 hm Q q⟩
    · cases hm
  · cases hm
end
/-! ### statements -/
def vSeq (a b : S) : S := fun ρ st => match a ρ st with
  | some (.nx ρ', s) => b ρ' s
  | o => o
def vNext : S := fun ρ st => some (.nx ρ, st)
def vNever : S := fun _ _ => none
def vBreak : S := fun ρ st => some (.bk ρ, st)
def vCont : S := fun ρ st => some (.ct ρ, st)
def vExpr (m : M W) : S := fun ρ st => andS (m ρ st) ρ fun _ s => some (.nx ρ, s)
def vRet (m : M W) : S := fun ρ st => andS (m ρ st) ρ fun w s => some (.rt w, s)
def vRetN : S := fun _ st => some (.rt .non, st)
def vAsg (m : M W) (g : VG) : S := fun ρ st => andS (m ρ st) ρ fun w s => (g w ρ s).map fun p => (.nx p.1, p.2)
def vSet (i : Nat) (m : M W) : S := vAsg m (gN i)
def vIfS (c : M Bool) (a b : S) : S := fun ρ st => andS (c ρ st) ρ fun c s => if c = true then a ρ s else b ρ s
def whileN (c : M Bool) (b : S) : Nat → S
  | 0, _, _ => none
  | n + 1, ρ, st => andS (c ρ st) ρ fun k s => if k = true then (match b ρ s with
      | some (.nx ρ', s') => whileN c b n ρ' s'
      | some (.ct ρ', s') => whileN c b n ρ' s'
      | some (.bk ρ', s') => some (.nx ρ', s')
      | o => o) else some (.nx ρ, s)
open Classical in
noncomputable def vWhile (c : M Bool) (b : S) : S := fun ρ st => if h : ∃ n, (whileN c b n ρ st).isSome = true then whileN c b (choose h) ρ st else none
theorem whileN_mono {c : M Bool} {b : S} : ∀ {n : Nat} {ρ : Env} {st : Sto} {r : SR × Sto}, whileN c b n ρ st = some r → ∀ m, n ≤ m → whileN c b m ρ st = some r
  | 0, _, _, _, h, _, _ => by cases h
  | n + 1, ρ, st, r, h, 0, hm => absurd hm (Nat.not_succ_le_zero n)
  | n + 1, ρ, st, r, h, m + 1, hm => by
    have ih : ∀ {ρ st r}, whileN c b n ρ st = some r → whileN c b m ρ st = some r := fun h => whileN_mono h m (Nat.le_of_succ_le_succ hm)
    unfold whileN at h ⊢
    cases e : c ρ st with
    | none =>
      rw [e] at h
      cases h
    | some q =>
      obtain ⟨q, s⟩ := q
      cases q with
      | ex e' =>
        rw [e] at h
        exact h
      | ok k =>
        rw [e] at h
        rw [andS_ok] at h ⊢
        cases k with
        | false => exact h
        | true =>
          rw [if_pos rfl] at h ⊢
          cases e2 : b ρ s with
          | none =>
            rw [e2] at h
            cases h
          | some q2 =>
            obtain ⟨q2, s2⟩ := q2
            rw [e2] at h
            cases q2 with
            | nx ρ' => exact ih h
            | ct ρ' => exact ih h
            | bk ρ' => exact h
            | rt w => exact h
            | ex e' ρ' => exact h
theorem while_of {c : M Bool} {b : S} {n : Nat} {ρ : Env} {st : Sto} {r : SR × Sto} (h : whileN c b n ρ st = some r) : vWhile c b ρ st = some r := by
  have hx : ∃ n, (whileN c b n ρ st).isSome = true := ⟨n, by rw [h]; rfl⟩
  unfold vWhile
  rw [dif_pos hx]
  have hc := Classical.choose_spec hx
  cases e : whileN c b (Classical.choose hx) ρ st with
  | none =>
    rw [e] at hc
    cases hc
  | some r2 =>
    have h1 := whileN_mono h (max n (Classical.choose hx)) (Nat.le_max_left _ _)
    have h2 := whileN_mono e (max n (Classical.choose hx)) (Nat.le_max_right _ _)
    rw [h1] at h2
    exact h2.symm
theorem of_while {c : M Bool} {b : S} {ρ : Env} {st : Sto} {r : SR × Sto} (h : vWhile c b ρ st = some r) : ∃ n, whileN c b n ρ st = some r := by
  unfold vWhile at h
  split at h
  · exact ⟨_, h⟩
  · cases h
section
variable {E : L2.St → XK} {te : TE} {me : M W} {t : TT} {m : M Bool} {ta tb : TS} {ma mb : S} {g : TG} {mg : VG} {vs : List Nat}
theorem sim_next : SimS E tNext vNext := fun σ ρ φ st G H r st' k ev hm D p => by
  cases hm
  exact p φ G H σ (Step.refl k) ev
theorem sim_never : SimS E tNever vNever := fun σ ρ φ st G H r st' k ev hm D p => by cases hm
theorem sim_break : SimS E tBreak vBreak := fun σ ρ φ st G H r st' k ev hm D p => by
  cases hm
  exact p φ G H σ (Step.refl k) ev
theorem sim_cont : SimS E tCont vCont := fun σ ρ φ st G H r st' k ev hm D p => by
  cases hm
  exact p φ G H σ (Step.refl k) ev
theorem sim_seq (ha : SimS E ta ma) (hb : SimS E tb mb) : SimS E (tSeq ta tb) (vSeq ma mb) := fun σ ρ φ st G H r st' k ev hm D p => by
  show ta _ σ H
  unfold vSeq at hm
  cases e : ma ρ st with
  | none =>
    rw [e] at hm
    cases hm
  | some q =>
    obtain ⟨q, s⟩ := q
    rw [e] at hm
    cases q with
    | nx ρ' =>
      exact ha σ ρ φ st G H _ _ k ev e _ fun φ2 G2 H2 σ' s1 e1 => hb σ' ρ' φ2 s G2 H2 r st' s1.ok e1 hm D (p.after s1)
    | rt w =>
      cases hm
      exact ha σ ρ φ st G H _ _ k ev e _ p
    | bk w =>
      cases hm
      exact ha σ ρ φ st G H _ _ k ev e _ p
    | ct w =>
      cases hm
      exact ha σ ρ φ st G H _ _ k ev e _ p
    | ex w x =>
      cases hm
      exact ha σ ρ φ st G H _ _ k ev e _ p
theorem sim_expr (h : SimE E te me) : SimS E (tDrop te) (vExpr me) := fun σ ρ φ st G H r st' k ev hm D p =>
  h.thenS k ev hm p fun a s b φ2 G2 H2 hm2 s1 ev1 p1 r1 => by
    cases hm2
    exact p1 φ2 G2 H2 σ (Step.refl s1.ok) ev1
theorem sim_ret (h : SimE E te me) : SimS E (tRet te) (vRet me) := fun σ ρ φ st G H r st' k ev hm D p =>
  h.thenS k ev hm p fun a s b φ2 G2 H2 hm2 s1 ev1 p1 r1 => by
    cases hm2
    exact p1 φ2 G2 H2 b (Step.refl s1.ok) r1
theorem sim_retN : SimS E tRetN vRetN := fun σ ρ φ st G H r st' k ev hm D p => by
  cases hm
  exact p φ G H .non (Step.refl k) .non
theorem sim_asg (h : SimE E te me) (hg : SimG vs g mg) : SimS E (tAsg te g) (vAsg me mg) := fun σ ρ φ st G H r st' k ev hm D p =>
  h.thenS k ev hm p fun a s b φ2 G2 H2 hm2 s1 ev1 p1 r1 => by
    obtain ⟨⟨ρ', s'⟩, e, z⟩ := Option.map_eq_some_iff.mp hm2
    cases z
    exact hg σ ρ φ2 s G2 H2 b a ρ' s' s1.ok ev1 r1 e _ fun σ' φ3 G3 H3 s2 ev2 _ => p1 φ3 G3 H3 σ' s2 ev2
theorem sim_set {i : Nat} (h : SimE E te me) : SimS E (tAsg te (gName i)) (vSet i me) := sim_asg (vs := [i]) h (sim_gN (List.mem_singleton.mpr rfl))
theorem sim_ifS (h : SimT E t m) (ha : SimS E ta ma) (hb : SimS E tb mb) : SimS E (tIfS t ta tb) (vIfS m ma mb) := fun σ ρ φ st G H r st' k ev hm D p =>
  h.thenS k ev hm p fun a s b φ2 G2 H2 hm2 s1 ev1 p1 r1 => by
    subst r1
    cases b with
    | true => exact iteT (ha σ ρ φ2 s G2 H2 r st' s1.ok ev1 hm2 D p1)
    | false => exact iteF (hb σ ρ φ2 s G2 H2 r st' s1.ok ev1 hm2 D p1)
theorem sim_while (h : SimT E t m) (hb : SimS E tb mb) : SimS E (tWhile t tb) (vWhile m mb) := fun σ ρ φ st G H r st' k ev hm D p => by
  obtain ⟨n0, hn⟩ := of_while hm
  refine ⟨fun n σ' H' => ∃ φ' s' G' ρ', Ok φ' s' G' H' ∧ EnvOk φ' G' σ' ρ' ∧ whileN m mb n ρ' s' = some (r, st') ∧ SPost E D φ' s' G' H' st' r, ⟨n0, φ, st, G, ρ, k, ev, hn, p⟩, ?_⟩
  rintro n σ' H' ⟨φ', s', G', ρ', k', ev', hw, p'⟩
  cases n with
  | zero => cases hw
  | succ n =>
    unfold whileN at hw
    refine h.thenS k' ev' hw p' fun a s b φ2 G2 H2 hm2 s1 ev1 p1 r1 => ?_
    subst r1
    cases b with
    | false =>
      cases hm2
      exact iteF (p1 φ2 G2 H2 σ' (Step.refl s1.ok) ev1)
    | true =>
      rw [if_pos rfl] at hm2
      refine iteT ⟨fun σ3 H3 => ∃ φ' s' G' ρ', Ok φ' s' G' H3 ∧ EnvOk φ' G' σ3 ρ' ∧ whileN m mb n ρ' s' = some (r, st') ∧ SPost E D φ' s' G' H3 st' r, fun σ3 H3 h3 => ⟨n, Nat.lt_succ_self n, h3⟩, ?_⟩
      cases e2 : mb ρ' s with
      | none =>
        rw [e2] at hm2
        cases hm2
      | some q2 =>
        obtain ⟨q2, s2⟩ := q2
        rw [e2] at hm2
        refine hb σ' ρ' φ2 s G2 H2 q2 s2 s1.ok ev1 e2 _ ?_
        cases q2 with
        | nx ρ2 => exact fun φ3 G3 H3 σ3 t3 ev3 => ⟨φ3, s2, G3, ρ2, t3.ok, ev3, hm2, p1.after t3⟩
        | ct ρ2 => exact fun φ3 G3 H3 σ3 t3 ev3 => ⟨φ3, s2, G3, ρ2, t3.ok, ev3, hm2, p1.after t3⟩
        | bk ρ2 =>
          cases hm2
          exact p1
        | rt w =>
          cases hm2
          exact p1
        | ex e' ρ2 =>
          cases hm2
          exact p1
end
/-! ### a def -/
def startV (N : Nat) (ws : List W) : Env := ws.map some ++ List.replicate (N - ws.length) none
def vDef (N : Nat) (b : S) : MF := fun ws st => match b (startV N ws) st with
  | some (.nx _, s) => some (.ok .non, s)
  | some (.rt w, s) => some (.ok w, s)
  | some (.ex e _, s) => some (.ex e, s)
  | _ => none
theorem start_env {φ : List Addr} {G : Hp} {N : List Str} {vs : List V} {ws : List W} (r : RpAll φ G vs ws) : EnvOk φ G (L2.start N vs) (startV N.length ws) := by
  have l := ra_len r
  refine ⟨by unfold L2.start startV; simp [l], fun i w h => ?_⟩
  unfold startV at h
  unfold L2.start
  rcases Nat.lt_or_ge i ws.length with hi | hi
  · rw [List.getElem?_append_left (by simpa using hi), List.getElem?_map] at h
    cases e : ws[i]? with
    | none => rw [e] at h; cases h
    | some w' =>
      rw [e] at h
      cases h
      obtain ⟨v, h1, h2⟩ := ra_get r e
      exact ⟨v, by rw [List.getElem?_append_left (by simpa [l] using hi), List.getElem?_map, h1]; rfl, h2⟩
  · rw [List.getElem?_append_right (by simpa using hi), List.getElem?_replicate] at h
    split at h <;> cases h
theorem sim_body {N : List Str} {n : Nat} {b : S} {ts : TS} {vs : List V} {H : Hp} {Q : VK} {E : XK} (hs : SimS (fun _ => E) ts b) (h : spV n (vDef N.length b) vs H Q E) : ts { nx := fun _ H' => Q .non H', rt := Q } (L2.start N vs) H := by
  obtain ⟨hl, φ, st, G, ws, r, st', k, ra, hm, q, x⟩ := h
  unfold vDef at hm
  cases e : b (startV N.length ws) st with
  | none =>
    rw [e] at hm
    cases hm
  | some o =>
    obtain ⟨o, s⟩ := o
    rw [e] at hm
    refine hs _ _ φ st G H o s k (start_env ra) e _ ?_
    cases o with
    | nx ρ' =>
      cases hm
      exact fun φ2 G2 H2 σ' s1 e1 => q .non .non φ2 G2 H2 rfl s1 .non
    | rt w =>
      cases hm
      exact fun φ2 G2 H2 v s1 r1 => q w v φ2 G2 H2 rfl s1 r1
    | ex e' ρ' =>
      cases hm
      exact fun φ2 G2 H2 σ' cls od s1 e1 x1 => x e' cls od φ2 G2 H2 rfl s1 x1
    | bk ρ' => cases hm
    | ct ρ' => cases hm
end VS

namespace VS
open PySem PySem.Spec PyProof.Rows L2 Evl
open TL (tl len_tl ext_tl tl_append tl_mk mk_tl)
/-! ### what is walked -/
structure Src where
  items : List W
  cells : List (Nat × List W)
def Src.Ok (s : Src) (st : Sto) : Prop := ∀ p ∈ s.cells, st[p.1]? = some (some (.l p.2))
def Walks (J : It) (src : Src) (φ0 : List Addr) (G0 : Hp) : Prop := ∀ (φ : List Addr) (st : Sto) (G H : Hp), VS.Ok φ st G H → φ0 <+: φ → Ex G0 G → src.Ok st →
  (∀ (i : Nat) (w : W), src.items[i]? = some w → J.go i H ∧ ∀ x H', J.yld i H x H' → ∃ G2, Step φ st G H φ st G2 H' ∧ Rp φ G2 x w) ∧ ∀ i, src.items.length ≤ i → J.stop i H
abbrev SimI := @Sim Src It (fun φ G J src => Walks J src φ G)
def srcOf (w : W) (st : Sto) : Option Src := match w with
  | .tup _ ws => some ⟨ws, []⟩
  | .lst ws => some ⟨ws, []⟩
  | .ref n => match st[n]? with
    | some (some (.l ws)) => some ⟨ws, [(n, ws)]⟩
    | _ => none
  | _ => none
@[simp] theorem srcOf_lst {ws : List W} {st : Sto} : srcOf (.lst ws) st = some ⟨ws, []⟩ := rfl
@[simp] theorem srcOf_tup {b : Bool} {ws : List W} {st : Sto} : srcOf (.tup b ws) st = some ⟨ws, []⟩ := rfl
def optR {α : Type} (o : Option α) (s : Sto) : Option (R α × Sto) := o.map fun a => (.ok a, s)
@[simp] theorem optR_some {α : Type} {a : α} {s : Sto} : optR (some a) s = some (.ok a, s) := rfl
@[simp] theorem optR_none {α : Type} {s : Sto} : optR (none : Option α) s = none := rfl
def vSrc (m : M W) : M Src := fun ρ st => andR (m ρ st) fun w s => optR (srcOf w s) s
def rngW (lo hi : Int) : Src := ⟨(List.range (hi - lo).toNat).map fun i => .int (lo + (i : Nat)), []⟩
def vRng1 (m : M (List W)) : M Src := fun ρ st => andR (m ρ st) fun ws s => match ws with
  | [.int j] => if -100000 ≤ j ∧ j ≤ 100000 then some (.ok (rngW 0 j), s) else none
  | _ => none
def vRng2 (m : M (List W)) : M Src := fun ρ st => andR (m ρ st) fun ws s => match ws with
  | [.int i, .int j] => if (-100000 ≤ i ∧ i ≤ 100000) ∧ -100000 ≤ j ∧ j ≤ 100000 then some (.ok (rngW i j), s) else none
  | _ => none
def vStrI (m : M W) : M Src := fun ρ st => andR (m ρ st) fun w s => match w with
  | .str x => some (.ok ⟨(tl x).map fun c => .str ⟨#[c]⟩, []⟩, s)
  | _ => none
section
variable {K : PySem.W.Frag} {E : L2.St → XK} {te : TE} {me : M W} {tr : TA} {mr : M (List W)} {φ : List Addr} {st : Sto} {G H : Hp}
theorem walks_l {a : Addr} {xs : List V} {ws : List W} (h : G a = some (.lst xs)) (r : RpAll φ G xs ws) : Walks (Itl K a) ⟨ws, []⟩ φ G := fun φ2 st2 G2 H2 k p e _ => by
  have hh := k.ex _ _ (e _ _ h)
  refine ⟨fun i w hw => ?_, fun i hi => ⟨xs, .inl (.inl hh), by rw [ra_len r]; exact hi⟩⟩
  obtain ⟨v, h1, h2⟩ := ra_get r hw
  refine ⟨⟨xs, v, .inl (.inl hh), h1⟩, fun x H' y => ?_⟩
  obtain ⟨rfl, y⟩ := y
  have := y xs (.inl (.inl hh))
  rw [h1] at this
  cases this
  exact ⟨G2, Step.refl k, rp_mono p e h2⟩
theorem walks_t {a : Addr} {xs : List V} {ws : List W} {b : Bool} (h : TpAt G b a xs) (r : RpAll φ G xs ws) : Walks (Itt K a) ⟨ws, []⟩ φ G := fun φ2 st2 G2 H2 k p e _ => by
  have hh : SqT K H2 a xs := by
    cases b with
    | true => exact .inl (.inl (k.ex _ _ (e _ _ h)))
    | false =>
      obtain ⟨ob, _, h⟩ := h
      exact .inl (.inr ⟨ob, k.ex _ _ (e _ _ h)⟩)
  refine ⟨fun i w hw => ?_, fun i hi => ⟨xs, hh, by rw [ra_len r]; exact hi⟩⟩
  obtain ⟨v, h1, h2⟩ := ra_get r hw
  refine ⟨⟨xs, v, hh, h1⟩, fun x H' y => ?_⟩
  obtain ⟨rfl, y⟩ := y
  have := y xs hh
  rw [h1] at this
  cases this
  exact ⟨G2, Step.refl k, rp_mono p e h2⟩
theorem walks_c {n : Nat} {a : Addr} {ws : List W} (h : φ[n]? = some a) : Walks (Itl K a) ⟨ws, [(n, ws)]⟩ φ G := fun φ2 st2 G2 H2 k p e c => by
  have hc : st2[n]? = some (some (.l ws)) := c _ (List.mem_singleton.mpr rfl)
  obtain ⟨⟨xs, hh, r⟩, _⟩ := k.cell n a _ (pre_get p h) hc
  refine ⟨fun i w hw => ?_, fun i hi => ⟨xs, .inl (.inl hh), by rw [ra_len r]; exact hi⟩⟩
  obtain ⟨v, h1, h2⟩ := ra_get r hw
  refine ⟨⟨xs, v, .inl (.inl hh), h1⟩, fun x H' y => ?_⟩
  obtain ⟨rfl, y⟩ := y
  have := y xs (.inl (.inl hh))
  rw [h1] at this
  cases this
  exact ⟨G2, Step.refl k, h2⟩
theorem sim_src (h : SimE E te me) : SimI E (Fw.iSeq K te) (vSrc me) := fun σ ρ φ st G H r st' k ev hm Q q x =>
  h.then_ k ev hm x fun w s v φ2 G2 H2 hm2 s1 r1 => by
    unfold optR at hm2
    obtain ⟨src, e, z⟩ := Option.map_eq_some_iff.mp hm2
    cases z
    cases r1 with
    | tup h1 h2 =>
      rename_i b a xs ws
      cases e
      have hh : SqT K H2 a xs := by
        cases b with
        | true => exact .inl (.inl (s1.ok.ex _ _ h1))
        | false =>
          obtain ⟨ob, _, h1⟩ := h1
          exact .inl (.inr ⟨ob, s1.ok.ex _ _ h1⟩)
      exact ⟨a, rfl, .inr ⟨⟨xs, hh⟩, q _ _ φ2 G2 H2 rfl s1 (walks_t h1 h2)⟩⟩
    | lst h1 h2 =>
      cases e
      exact ⟨_, rfl, .inl ⟨⟨_, .inl (.inl (s1.ok.ex _ _ h1))⟩, q _ _ φ2 G2 H2 rfl s1 (walks_l h1 h2)⟩⟩
    | ref h1 =>
      simp only [srcOf] at e
      split at e
      · rename_i e2
        cases e
        obtain ⟨⟨xs, h3, h4⟩, _⟩ := s1.ok.cell _ _ _ h1 e2
        exact ⟨_, rfl, .inl ⟨⟨xs, .inl (.inl h3)⟩, q _ _ φ2 G2 H2 rfl s1 (walks_c h1)⟩⟩
      · cases e
    | _ => cases e
theorem walks_r {lo : Int} {n : Nat} : Walks (Itr lo n) ⟨(List.range n).map fun i => .int (lo + (i : Nat)), []⟩ φ G := fun φ2 st2 G2 H2 k p e _ => by
  refine ⟨fun i w hw => ?_, fun i hi => show n ≤ i by simpa using hi⟩
  rw [List.getElem?_map] at hw
  obtain ⟨j, h1, h2⟩ := Option.map_eq_some_iff.mp hw
  obtain ⟨h3, h4⟩ := List.getElem?_eq_some_iff.mp h1
  rw [List.getElem_range] at h4
  subst h4
  rw [List.length_range] at h3
  refine ⟨h3, fun x H' y => ?_⟩
  obtain ⟨rfl, rfl⟩ := y
  subst h2
  exact ⟨G2, Step.refl k, .int _⟩
theorem ra1 {vs : List V} {w : W} (h : RpAll φ G vs [w]) : ∃ v, vs = [v] ∧ Rp φ G v w := by
  cases h with
  | cons h1 h2 =>
    cases h2
    exact ⟨_, rfl, h1⟩
theorem ra2 {vs : List V} {w u : W} (h : RpAll φ G vs [w, u]) : ∃ v x, vs = [v, x] ∧ Rp φ G v w ∧ Rp φ G x u := by
  cases h with
  | cons h1 h2 =>
    obtain ⟨x, rfl, h3⟩ := ra1 h2
    exact ⟨_, x, rfl, h1, h3⟩
theorem sim_rng1 (h : SimA E tr mr) : SimI E (iRng1 tr) (vRng1 mr) := fun σ ρ φ st G H r st' k ev hm Q q x =>
  h.then_ k ev hm x fun w s v φ2 G2 H2 hm2 s1 r1 => by
    split at hm2
    · rename_i j
      split at hm2
      · rename_i hb
        cases hm2
        obtain ⟨v, rfl, h1⟩ := ra1 r1
        rw [rp_int h1]
        refine ⟨j, rfl, by omega, by omega, q _ _ φ2 G2 H2 rfl s1 ?_⟩
        unfold rngW
        rw [Int.sub_zero]
        exact walks_r
      · cases hm2
    · cases hm2
theorem sim_rng2 (h : SimA E tr mr) : SimI E (iRng2 tr) (vRng2 mr) := fun σ ρ φ st G H r st' k ev hm Q q x =>
  h.then_ k ev hm x fun w s v φ2 G2 H2 hm2 s1 r1 => by
    split at hm2
    · rename_i i j
      split at hm2
      · rename_i hb
        cases hm2
        obtain ⟨v, y, rfl, h1, h2⟩ := ra2 r1
        rw [rp_int h1, rp_int h2]
        exact ⟨i, j, rfl, ⟨by omega, by omega, by omega, by omega⟩, q _ _ φ2 G2 H2 rfl s1 walks_r⟩
      · cases hm2
    · cases hm2
theorem sim_strI (h : SimE E te me) : SimI E (iStr te) (vStrI me) := fun σ ρ φ st G H r st' k ev hm Q q x =>
  h.then_ k ev hm x fun w s v φ2 G2 H2 hm2 s1 r1 => by
    split at hm2
    · rename_i z
      cases hm2
      refine ⟨z, rp_str r1, q _ _ φ2 G2 H2 rfl s1 fun φ3 st3 G3 H3 k3 p e _ => ?_⟩
      have lx : z.cps.size = (tl z).length := by
        unfold TL.tl
        simp
      refine ⟨fun i w hw => ?_, fun i hi => show z.cps.size ≤ i by rw [lx]; simpa using hi⟩
      rw [List.getElem?_map] at hw
      obtain ⟨c, h1, h2⟩ := Option.map_eq_some_iff.mp hw
      have h3 : z.cps[i]? = some c := by
        unfold TL.tl at h1
        rw [Array.getElem?_toList] at h1
        exact h1
      refine ⟨(Array.getElem?_eq_some_iff.mp h3).1, fun x H' y => ?_⟩
      obtain ⟨rfl, c', h4, rfl⟩ := y
      rw [h3] at h4
      cases h4
      subst h2
      exact ⟨G3, Step.refl k3, .str _⟩
    · cases hm2
end
/-! ### for -/
open Classical in
noncomputable def forL (src : Src) (g : VG) (b : S) : List W → S
  | [], ρ, st => if src.Ok st then some (.nx ρ, st) else none
  | w :: ws, ρ, st => if src.Ok st then (match g w ρ st with
      | some (ρ1, s1) => match b ρ1 s1 with
        | some (.nx ρ', s') => forL src g b ws ρ' s'
        | some (.ct ρ', s') => forL src g b ws ρ' s'
        | some (.bk ρ', s') => some (.nx ρ', s')
        | o => o
      | none => none) else none
noncomputable def vFor (mi : M Src) (g : VG) (b : S) : S := fun ρ st => andS (mi ρ st) ρ fun src s => forL src g b src.items ρ s
section
variable {E : L2.St → XK} {wi : TI} {mi : M Src} {g : TG} {mg : VG} {vs : List Nat} {tb : TS} {mb : S}
theorem sim_for (hi : SimI E wi mi) (hg : SimG vs g mg) (hb : SimS E tb mb) : SimS E (tFor wi g tb) (vFor mi mg mb) := fun σ ρ φ st G H r st' k ev hm D p =>
  hi.thenS k ev hm p fun src s J φ1 G1 H1 hm1 s1 ev1 p1 w1 => by
    refine ⟨fun i n σ' H' => ∃ φ' s' G' ρ', Ok φ' s' G' H' ∧ EnvOk φ' G' σ' ρ' ∧ φ1 <+: φ' ∧ Ex G1 G' ∧ forL src mg mb (src.items.drop i) ρ' s' = some (r, st') ∧ SPost E D φ' s' G' H' st' r ∧ i ≤ src.items.length ∧ n = src.items.length - i,
      ⟨src.items.length, φ1, s, G1, ρ, s1.ok, ev1, List.prefix_rfl, Ex.refl _, by rw [List.drop_zero]; exact hm1, p1, Nat.zero_le _, by simp⟩, ?_⟩
    rintro i n σ' H' ⟨φ', s', G', ρ', k', ev', pr, eg, hf, p', hl, hn⟩
    cases hd : src.items.drop i with
    | nil =>
      rw [hd] at hf
      unfold forL at hf
      split at hf
      · rename_i hok
        cases hf
        refine .inl ⟨(w1 φ' _ G' H' k' pr eg hok).2 i (by have := congrArg List.length hd; simp at this; omega), p' φ' G' H' σ' (Step.refl k') ev'⟩
      · cases hf
    | cons w ws =>
      rw [hd] at hf
      have hlt : i < src.items.length := by
        have := congrArg List.length hd
        simp at this
        omega
      have hw : src.items[i]? = some w := by
        have := congrArg List.head? hd
        rw [List.head?_drop] at this
        simpa using this
      have hd1 : src.items.drop (i + 1) = ws := by
        have := congrArg List.tail hd
        rw [List.tail_drop] at this
        simpa using this
      unfold forL at hf
      split at hf
      · rename_i hok
        cases eg1 : mg w ρ' s' with
        | none =>
          rw [eg1] at hf
          cases hf
        | some q1 =>
          obtain ⟨ρ1, s2⟩ := q1
          rw [eg1] at hf
          dsimp only at hf
          obtain ⟨hgo, hy⟩ := (w1 φ' s' G' H' k' pr eg hok).1 i w hw
          refine .inr ⟨hgo, fun σ3 H3 => ∃ φ3 s3 G3 ρ3, Ok φ3 s3 G3 H3 ∧ EnvOk φ3 G3 σ3 ρ3 ∧ φ1 <+: φ3 ∧ Ex G1 G3 ∧ forL src mg mb (src.items.drop (i + 1)) ρ3 s3 = some (r, st') ∧ SPost E D φ3 s3 G3 H3 st' r ∧ i + 1 ≤ src.items.length,
            fun σ3 H3 ⟨φ3, s3, G3, ρ3, a1, a2, a3, a4, a5, a6, a7⟩ => ⟨src.items.length - (i + 1), by omega, φ3, s3, G3, ρ3, a1, a2, a3, a4, a5, a6, a7, rfl⟩, fun x H2 y => ?_⟩
          obtain ⟨G2, t2, r2⟩ := hy x H2 y
          refine hg σ' ρ' φ' s' G2 H2 x w ρ1 s2 t2.ok (ev'.mono t2) r2 eg1 _ fun σ4 φ4 G4 H4 t4 ev4 _ => ?_
          have p4 := p'.after (t2.trans t4)
          have pr4 := pr.trans t4.pre
          have eg4 := (eg.trans t2.g).trans t4.g
          cases eb : mb ρ1 s2 with
          | none =>
            rw [eb] at hf
            cases hf
          | some q =>
            obtain ⟨q, s5⟩ := q
            rw [eb] at hf
            refine hb σ4 ρ1 φ4 s2 G4 H4 q s5 t4.ok ev4 eb _ ?_
            cases q with
            | nx ρ5 => exact fun φ5 G5 H5 σ5 t5 ev5 => ⟨φ5, s5, G5, ρ5, t5.ok, ev5, pr4.trans t5.pre, eg4.trans t5.g, by rw [hd1]; exact hf, p4.after t5, hlt⟩
            | ct ρ5 => exact fun φ5 G5 H5 σ5 t5 ev5 => ⟨φ5, s5, G5, ρ5, t5.ok, ev5, pr4.trans t5.pre, eg4.trans t5.g, by rw [hd1]; exact hf, p4.after t5, hlt⟩
            | bk ρ5 =>
              cases hf
              exact p4
            | rt w5 =>
              cases hf
              exact p4
            | ex e5 ρ5 =>
              cases hf
              exact p4
      · cases hf
end
end VS

namespace VS
open PySem PySem.Spec PyProof.Rows L2 Evl
open TL (tl len_tl ext_tl tl_append tl_mk mk_tl)
/-! ### comprehensions -/
def wipeV (ρ : Env) : List Nat → Env
  | [] => ρ
  | v :: vs => (wipeV ρ vs).set v none
theorem EnvOk.unset {φ : List Addr} {G : Hp} {σ : L2.St} {ρ : Env} (h : EnvOk φ G σ ρ) (i : Nat) : EnvOk φ G (σ.set i none) (ρ.set i none) := by
  refine ⟨by simp [h.1], fun j w e => ?_⟩
  by_cases z : i = j
  · subst z
    rw [List.getElem?_set] at e
    simp at e
  · rw [List.getElem?_set_ne z] at e
    obtain ⟨u, h1, h2⟩ := h.2 j w e
    exact ⟨u, by rw [List.getElem?_set_ne z]; exact h1, h2⟩
theorem EnvOk.wipe {φ : List Addr} {G : Hp} {σ : L2.St} {ρ : Env} (h : EnvOk φ G σ ρ) : ∀ vs : List Nat, EnvOk φ G (L2.wipe σ vs) (wipeV ρ vs)
  | [] => h
  | v :: vs => (h.wipe vs).unset v
theorem wipe_get (σ : L2.St) (i : Nat) : ∀ vs : List Nat, (L2.wipe σ vs)[i]? = if i ∈ vs ∧ i < σ.length then some none else σ[i]?
  | [] => by simp [L2.wipe]
  | v :: vs => by
    unfold L2.wipe
    rw [List.getElem?_set]
    by_cases z : v = i
    · subst z
      rw [if_pos rfl, wipe_length]
      by_cases l : v < σ.length
      · rw [if_pos l, if_pos ⟨List.mem_cons_self, l⟩]
      · rw [if_neg l, if_neg (fun q => l q.2), List.getElem?_eq_none (by omega)]
    · rw [if_neg z, wipe_get σ i vs]
      have : (i ∈ v :: vs) ↔ i ∈ vs := by
        rw [List.mem_cons]
        exact ⟨fun q => q.elim (fun q => absurd q.symm z) id, .inr⟩
      simp only [this]
theorem wipe_off {σ σ2 : L2.St} {vs : List Nat} (h : Off vs (L2.wipe σ vs) σ2) : L2.wipe σ2 vs = L2.wipe σ vs := by
  have hl : σ2.length = σ.length := h.1.trans (wipe_length σ vs)
  apply List.ext_getElem?
  intro i
  rw [wipe_get, wipe_get, hl]
  by_cases hi : i ∈ vs ∧ i < σ.length
  · rw [if_pos hi, if_pos hi]
  · rw [if_neg hi, if_neg hi]
    by_cases hm : i ∈ vs
    · have : ¬ i < σ.length := fun q => hi ⟨hm, q⟩
      rw [List.getElem?_eq_none (by omega), List.getElem?_eq_none (by omega)]
    · rw [h.2 i hm, wipe_get, if_neg hi]
open Classical in
noncomputable def lcL (src : Src) (g : VG) (t : M Bool) (e : M W) (ρ : Env) : List W → List W → Sto → Option (List W × Sto)
  | [], acc, st => if src.Ok st then some (acc, st) else none
  | w :: ws, acc, st => if src.Ok st then (match g w ρ st with
      | some (ρ1, s1) => match t ρ1 s1 with
        | some (.ok true, s2) => match e ρ1 s2 with
          | some (.ok y, s3) => if acc.length < LIM then lcL src g t e ρ ws (acc ++ [y]) s3 else none
          | _ => none
        | some (.ok false, s2) => lcL src g t e ρ ws acc s2
        | _ => none
      | none => none) else none
noncomputable def vLc (c : Bool) (vs : List Nat) (mi : M Src) (g : VG) (t : M Bool) (e : M W) : M W := fun ρ st => andR (mi ρ st) fun src s => (lcL src g t e (wipeV ρ vs) src.items [] s).map fun p => fin c (.nl p.1) p.2
def vYes : M Bool := fun _ st => some (.ok true, st)
abbrev EF : L2.St → XK := fun _ _ _ _ => False
theorem sim_yes {E : L2.St → XK} : SimT E tYes vYes := fun σ ρ φ st G H r st' k ev hm Q q x => by
  cases hm
  exact q _ _ φ G H rfl (Step.refl k) rfl
/-- the state, and a list under way at D -/
structure Cm (φ : List Addr) (st : Sto) (G H : Hp) (D : Addr) (φ' : List Addr) (st' : Sto) (G' H' : Hp) (o : HO) : Prop where
  s : Step φ st G H φ' st' G' H'
  g : G' D = none
  f : Free φ' st' D
  d : H' D = some o
  nt : isTup o = false
theorem Cm.step {φ φ' φ2 : List Addr} {st st' st2 : Sto} {G H G' H' G2 H2 : Hp} {D : Addr} {o : HO} (c : Cm φ st G H D φ' st' G' H' o) (t : Step φ' st' G' H' φ2 st2 G2 H2) : Cm φ st G H D φ2 st2 G2 H2 o := by
  obtain ⟨h1, h2⟩ := t.keep D o c.d c.f
  exact ⟨c.s.trans t, (h2.resolve_right (by rw [c.nt]; exact Bool.false_ne_true)).trans c.g, t.free c.d c.f, h1, c.nt⟩
theorem Cm.put {φ φ' : List Addr} {st st' : Sto} {G H G' H' : Hp} {D : Addr} {o o2 : HO} (c : Cm φ st G H D φ' st' G' H' o) (hD : H D = none) (nt : isTup o2 = false := by rfl) : Cm φ st G H D φ' st' G' (upd H' D o2) o2 := by
  have ne : ∀ {n a c'}, φ'[n]? = some a → st'[n]? = some (some c') → a ≠ D := fun {n a c'} h1 h2 z => by
    subst z
    rw [c.f n h1] at h2
    cases h2
  refine ⟨⟨c.s.g, ⟨Ex.mut c.s.ok.ex c.g, c.s.ok.len, fun n a c' h1 h2 => ?_, c.s.ok.inj⟩, c.s.pre, fun a u e f => ?_, fun a u e => ?_, c.s.new, c.s.dead⟩, c.g, c.f, upd_same, nt⟩
  · obtain ⟨h3, h4⟩ := c.s.ok.cell n a c' h1 h2
    exact ⟨cell_mono List.prefix_rfl (Ex.refl _) h3 (upd_ne (ne h1 h2)), h4⟩
  · obtain ⟨h3, h4⟩ := c.s.keep a u e f
    exact ⟨(upd_ne (ne_of_none e hD)).trans h3, h4⟩
  · obtain ⟨u2, h3⟩ := c.s.dom a u e
    exact ⟨u2, (upd_ne (ne_of_none e hD)).trans h3⟩
theorem Cm.new {φ : List Addr} {st : Sto} {G H : Hp} {D : Addr} {o : HO} (k : Ok φ st G H) (hD : H D = none) (nt : isTup o = false := by rfl) : Cm φ st G H D φ st G (upd H D o) o := by
  have fr : ∀ {n a c'}, φ[n]? = some a → st[n]? = some (some c') → a ≠ D := fun {n a c'} h1 h2 => by
    obtain ⟨u, hu, _⟩ := cell_some (k.cell n a c' h1 h2).1
    exact ne_of_none hu hD
  have f : Free φ st D := fun n hn => by
    have l : n < st.length := by
      rw [← k.len]
      exact (List.getElem?_eq_some_iff.mp hn).1
    cases e : st[n]? with
    | none =>
      rw [List.getElem?_eq_none_iff] at e
      omega
    | some c =>
      cases c with
      | none => rfl
      | some c => exact absurd rfl (fr hn e)
  refine ⟨⟨Ex.refl _, ⟨k.ex.trans (Ex.new hD), k.len, fun n a c' h1 h2 => ?_, k.inj⟩, List.prefix_rfl, fun a u e f => ⟨(upd_ne (ne_of_none e hD)).trans e, .inl rfl⟩, fun a u e => ⟨u, (upd_ne (ne_of_none e hD)).trans e⟩, fun n a e l => ?_, fun _ h => h⟩, fresh_back k.ex hD, f, upd_same, nt⟩
  · obtain ⟨h3, h4⟩ := k.cell n a c' h1 h2
    exact ⟨cell_mono List.prefix_rfl (Ex.refl _) h3 (upd_ne (fr h1 h2)), h4⟩
  · rw [List.getElem?_eq_none l] at e
    cases e
section
variable {E : L2.St → XK} {wi : TI} {mi : M Src} {g : TG} {mg : VG} {vs : List Nat} {tt : TT} {mt : M Bool} {te : TE} {me : M W} {c : Bool}
theorem sim_lc (hi : SimI E wi mi) (hg : SimG vs g mg) (ht : SimT EF tt mt) (he : SimE EF te me) : SimE E (tLc wi g tt te vs) (vLc c vs mi mg mt me) := fun σ ρ φ st G H r st' k ev hm Q q x =>
  hi.then_ k ev hm x fun src s J φ1 G1 H1 hm1 s1 w1 => by
    obtain ⟨⟨acc, s'⟩, hl, hf⟩ := Option.map_eq_some_iff.mp hm1
    intro D hD
    have ev0 := (ev.mono s1).wipe vs
    refine ⟨fun i n H' => ∃ φ' s2 G' xs ws, Cm φ1 s G1 H1 D φ' s2 G' H' (.lst xs) ∧ RpAll φ' G' xs ws ∧ lcL src mg mt me (wipeV ρ vs) (src.items.drop i) ws s2 = some (acc, s') ∧ i ≤ src.items.length ∧ n = src.items.length - i,
      ⟨src.items.length, φ1, s, G1, [], [], Cm.new s1.ok hD, .nil, by rw [List.drop_zero]; exact hl, Nat.zero_le _, by simp⟩, ?_⟩
    rintro i n H' ⟨φ', s2, G', xs, ws, cm, ra, hf2, hle, hn⟩
    have cm0 := cm
    cases hd : src.items.drop i with
    | nil =>
      rw [hd] at hf2
      unfold lcL at hf2
      split at hf2
      · rename_i hok
        cases hf2
        refine .inl ⟨(w1 φ' _ G' H' cm.s.ok cm.s.pre cm.s.g hok).2 i (by have := congrArg List.length hd; simp at this; omega), ?_⟩
        cases c with
        | false =>
          cases hf
          have a := Step.adoptF cm.s hD cm.g cm.f cm.d
          exact q _ _ _ _ _ rfl (s1.trans a) (.lst upd_same (ra_mono List.prefix_rfl (Ex.new cm.g) ra))
        | true =>
          cases hf
          have a := Step.adoptC (c := .l acc) cm.s hD cm.g cm.f ⟨xs, cm.d, ra⟩
          exact q _ _ _ _ _ rfl (s1.trans a) (.ref (by rw [← cm.s.ok.len]; simp))
      · cases hf2
    | cons w wr =>
      rw [hd] at hf2
      have hlt : i < src.items.length := by
        have := congrArg List.length hd
        simp at this
        omega
      have hw : src.items[i]? = some w := by
        have := congrArg List.head? hd
        rw [List.head?_drop] at this
        simpa using this
      have hd1 : src.items.drop (i + 1) = wr := by
        have := congrArg List.tail hd
        rw [List.tail_drop] at this
        simpa using this
      unfold lcL at hf2
      split at hf2
      · rename_i hok
        cases eg1 : mg w (wipeV ρ vs) s2 with
        | none =>
          rw [eg1] at hf2
          cases hf2
        | some q1 =>
          obtain ⟨ρ1, s3⟩ := q1
          rw [eg1] at hf2
          dsimp only at hf2
          obtain ⟨hgo, hy⟩ := (w1 φ' s2 G' H' cm.s.ok cm.s.pre cm.s.g hok).1 i w hw
          refine .inr ⟨hgo, fun H3 => ∃ φ3 s3 G3 xs ws, Cm φ1 s G1 H1 D φ3 s3 G3 H3 (.lst xs) ∧ RpAll φ3 G3 xs ws ∧ lcL src mg mt me (wipeV ρ vs) (src.items.drop (i + 1)) ws s3 = some (acc, s') ∧ i + 1 ≤ src.items.length,
            fun H3 ⟨φ3, s3, G3, xs, ws, a1, a2, a3, a4⟩ => ⟨src.items.length - (i + 1), by omega, φ3, s3, G3, xs, ws, a1, a2, a3, a4, rfl⟩, fun x2 H2 y => ?_⟩
          obtain ⟨G2, t2, r2⟩ := hy x2 H2 y
          have cm2 := cm.step t2
          refine hg (L2.wipe σ vs) (wipeV ρ vs) φ' s2 G2 H2 x2 w ρ1 s3 t2.ok (ev0.mono cm2.s) r2 eg1 _ fun σ4 φ4 G4 H4 t4 ev4 off => ⟨wipe_off off, ?_⟩
          have cm4 := cm2.step t4
          have ra4 := t4.ra (t2.ra ra)
          cases et : mt ρ1 s3 with
          | none =>
            rw [et] at hf2
            cases hf2
          | some q5 =>
            obtain ⟨q5, s5⟩ := q5
            rw [et] at hf2
            refine ht σ4 ρ1 φ4 s3 G4 H4 q5 s5 t4.ok ev4 et _ (fun b b' φ5 G5 H5 eb t5 r5 => ?_) (fun e' cls od φ5 G5 H5 eb _ _ => ?_)
            · subst eb
              subst r5
              have cm5 := cm4.step t5
              have ra5 := t5.ra ra4
              cases b' with
              | true =>
                dsimp only at hf2
                refine iteT ?_
                cases ee : me ρ1 s5 with
                | none =>
                  rw [ee] at hf2
                  cases hf2
                | some q6 =>
                  obtain ⟨q6, s6⟩ := q6
                  rw [ee] at hf2
                  refine he σ4 ρ1 φ5 s5 G5 H5 q6 s6 t5.ok (ev4.mono t5) ee _ (fun a b φ6 G6 H6 eb t6 r6 => ?_) (fun e' cls od φ5 G5 H5 eb _ _ => ?_)
                  · subst eb
                    dsimp only at hf2
                    split at hf2
                    · rename_i hz
                      have cm6 := cm5.step t6
                      exact ⟨xs, cm6.d, Nat.lt_of_lt_of_le (by rw [ra_len ra]; exact hz) (sz_le (Nat.le_refl _)), φ6, s6, G6, xs ++ [b], ws ++ [a], cm6.put hD, ra_app (t6.ra ra5) (ra_one r6), by rw [hd1]; exact hf2, hlt⟩
                    · cases hf2
                  · subst eb
                    cases hf2
              | false =>
                dsimp only at hf2
                exact iteF ⟨φ5, s5, G5, xs, ws, cm5, ra5, by rw [hd1]; exact hf2, hlt⟩
            · subst eb
              cases hf2
      · cases hf2
end
end VS

namespace VS
open PySem PySem.Spec PyProof.Rows L2 Evl
open TL (tl len_tl ext_tl tl_append tl_mk mk_tl)
/-! ### lists that change -/
def wrL (n : Nat) (st : Sto) (f : List W → Option (W × List W)) : Option (R W × Sto) := match st[n]? with
  | some (some (.l ws)) => match f ws with
    | some (w, ws') => some (.ok w, st.set n (some (.l ws')))
    | none => none
  | _ => none
/-- the receiver first, then the arguments -/
def vMut (f : List W → Sto → List W → Option (W × List W)) (a : M W) (r : M (List W)) : M W := fun ρ st => andR (a ρ st) fun x s => match x with
  | .ref n => match lstOf (.ref n) s with
    | some _ => andR (r ρ s) fun xs s2 => wrL n s2 (f xs s2)
    | none => none
  | _ => none
def mAppend (xs : List W) (_ : Sto) (l : List W) : Option (W × List W) := match xs with
  | [y] => if l.length < LIM then some (.non, l ++ [y]) else none
  | _ => none
def mPop0 (xs : List W) (_ : Sto) (l : List W) : Option (W × List W) := match xs with
  | [] => match l[l.length - 1]? with
    | some w => some (w, l.dropLast)
    | none => none
  | _ => none
def mClear (xs : List W) (_ : Sto) (_ : List W) : Option (W × List W) := match xs with
  | [] => some (.non, [])
  | _ => none
def vMut0 (f : List W → Sto → List W → Option (W × List W)) (a : M W) : M W := vMut f a vNil
def mExtend (xs : List W) (st : Sto) (l : List W) : Option (W × List W) := match xs with
  | [y] => match lstOf y st with
    | some zs => if l.length + zs.length ≤ LIM then some (.non, l ++ zs) else none
    | none => none
  | _ => none
section
variable {K : PySem.W.Frag} {E : L2.St → XK} {ta te : TE} {ma me : M W} {tr : TA} {mr : M (List W)} {φ : List Addr} {st : Sto} {G H : Hp}
/-- a method of a list, by its reading -/
def OpM (r : V → List V → Hp → VK → Prop) (f : List W → Sto → List W → Option (W × List W)) : Prop := ∀ (φ : List Addr) (st : Sto) (G H : Hp) (a : Addr) (xs : List V) (ws : List W) (vs : List V) (us : List W) (w : W) (ws' : List W), Ok φ st G H → H a = some (.lst xs) → RpAll φ G xs ws → RpAll φ G vs us → f us st ws = some (w, ws') →
  ∀ Q : VK, (∀ v xs', Rp φ G v w → RpAll φ G xs' ws' → Q v (upd H a (.lst xs'))) → r (.ref a) vs H Q
theorem wr_use {r : V → List V → Hp → VK → Prop} {f : List W → Sto → List W → Option (W × List W)} (o : OpM r f) (k : Ok φ st G H) {n : Nat} {a : Addr} (hn : φ[n]? = some a) {vs : List V} {us : List W} (ru : RpAll φ G vs us) {rr : R W} {st' : Sto} (h : wrL n st (f us st) = some (rr, st')) {Q : VK}
    (q : ∀ w v φ2 G2 H2, rr = .ok w → Step φ st G H φ2 st' G2 H2 → Rp φ2 G2 v w → Q v H2) : r (.ref a) vs H Q := by
  unfold wrL at h
  split at h
  · rename_i ws e
    split at h
    · rename_i w ws' ef
      cases h
      obtain ⟨⟨xs, h1, h2⟩, _⟩ := k.cell n a _ hn e
      refine o φ st G H a xs ws vs us w ws' k h1 h2 ru ef Q fun v xs' rv rx => ?_
      have s := Step.put (c := .l ws') (o := .lst xs') k hn e ⟨xs', upd_same, rx⟩
      exact q w v _ _ _ rfl s (s.rp rv)
    · cases h
  · cases h
theorem sim_mut {r : V → List V → Hp → VK → Prop} {f : List W → Sto → List W → Option (W × List W)} (o : OpM r f) (ha : SimE E ta ma) (h : SimA E tr mr) : SimE E (tBM K "list" r ta tr) (vMut f ma mr) := fun σ ρ φ st G H rr st' k ev hm Q q x =>
  ha.then_ k ev hm x fun w s v φ2 G2 H2 hm2 s1 r1 => by
    split at hm2
    · split at hm2
      · rename_i n _ _ e
        obtain ⟨a, xs, rfl, h1, h2⟩ := lst_rd s1.ok r1 e
        refine ⟨.inl ⟨rfl, xs, .inl (.inl h1)⟩, h.then_ s1.ok (ev.mono s1) hm2 (fun e cls od φ3 G3 H3 he s2 xa => x e cls od φ3 G3 H3 he (s1.trans s2) xa) fun us s' vs φ3 G3 H3 hm3 s2 r2 => ?_⟩
        cases r1 with
        | ref hn => exact wr_use o s2.ok (pre_get s2.pre hn) r2 hm3 fun w v φ4 G4 H4 e s3 r3 => q w v φ4 G4 H4 e ((s1.trans s2).trans s3) r3
      · cases hm2
    · cases hm2
theorem sim_mut0 {r : V → List V → Hp → VK → Prop} {f : List W → Sto → List W → Option (W × List W)} (o : OpM r f) (ha : SimE E ta ma) : SimE E (tBM0 K "list" r ta) (vMut0 f ma) := fun σ ρ φ st G H rr st' k ev hm Q q x =>
  ha.then_ k ev hm x fun w s v φ2 G2 H2 hm2 s1 r1 => by
    split at hm2
    · split at hm2
      · rename_i n _ _ e
        obtain ⟨a, xs, rfl, h1, h2⟩ := lst_rd s1.ok r1 e
        refine ⟨.inl ⟨rfl, xs, .inl (.inl h1)⟩, ?_⟩
        cases r1 with
        | ref hn => exact wr_use o s1.ok hn .nil hm2 fun w v φ4 G4 H4 e s3 r3 => q w v φ4 G4 H4 e (s1.trans s3) r3
      · cases hm2
    · cases hm2
theorem om_append : OpM rAppend mAppend := fun φ st G H a xs ws vs us w ws' k h rx ru hf Q q => by
  unfold mAppend at hf
  split at hf
  · split at hf
    · rename_i hl
      cases hf
      obtain ⟨v, rfl, h1⟩ := ra1 ru
      exact ⟨a, xs, v, rfl, rfl, h, Nat.lt_of_lt_of_le (by rw [ra_len rx]; exact hl) (sz_le (Nat.le_refl _)), q _ _ .non (ra_app rx (ra_one h1))⟩
    · cases hf
  · cases hf
theorem ra_dropLast {φ : List Addr} {G : Hp} {vs : List V} {ws : List W} (r : RpAll φ G vs ws) : RpAll φ G vs.dropLast ws.dropLast := by
  rw [List.dropLast_eq_take, List.dropLast_eq_take, ra_len r]
  exact ra_take _ r
theorem om_pop : OpM rPop mPop0 := fun φ st G H a xs ws vs us w ws' k h rx ru hf Q q => by
  unfold mPop0 at hf
  split at hf
  · split at hf
    · rename_i e
      cases hf
      cases ru
      obtain ⟨v, h1, h2⟩ := ra_get rx e
      exact ⟨a, xs, v, rfl, rfl, h, by rw [ra_len rx]; exact h1, q _ _ h2 (ra_dropLast rx)⟩
    · cases hf
  · cases hf
theorem om_clear : OpM rClear mClear := fun φ st G H a xs ws vs us w ws' k h rx ru hf Q q => by
  unfold mClear at hf
  split at hf
  · cases hf
    cases ru
    exact ⟨a, xs, rfl, rfl, h, q _ _ .non .nil⟩
  · cases hf
theorem om_extend : OpM rExtend mExtend := fun φ st G H a xs ws vs us w ws' k h rx ru hf Q q => by
  unfold mExtend at hf
  split at hf
  · split at hf
    · rename_i zs e
      split at hf
      · rename_i hl
        cases hf
        obtain ⟨v, rfl, h1⟩ := ra1 ru
        obtain ⟨b, ys, rfl, h3, h4⟩ := lst_rd k h1 e
        exact ⟨a, b, xs, ys, rfl, rfl, h, h3, by rw [ra_len rx, ra_len h4]; exact sz_le hl, q _ _ .non (ra_app rx h4)⟩
      · cases hf
    · cases hf
  · cases hf
/-! a[i] = v, of a list -/
def gPutL (a i : M W) : VG := fun w ρ st => match a ρ st with
  | some (.ok (.ref n), s) => match i ρ s with
    | some (.ok (.int j), s2) => match s2[n]? with
      | some (some (.l ws)) => match ixN ws.length j with
        | some m => some (ρ, s2.set n (some (.l (ws.set m w))))
        | none => none
      | _ => none
    | _ => none
  | _ => none
theorem sim_gput {vs : List Nat} {ti : TE} {mi : M W} (ha : SimE EF ta ma) (hi : SimE EF ti mi) : SimG vs (L2.gSub ta ti rSetL) (gPutL ma mi) := fun σ ρ φ st G H v w ρ' st' k ev r hm Q q => by
  unfold gPutL at hm
  split at hm
  · rename_i n s e1
    refine ha σ ρ φ st G H _ _ k ev e1 _ (fun a b φ2 G2 H2 ea s1 r1 => ?_) (fun _ _ _ _ _ _ z _ _ => nomatch z)
    cases ea
    split at hm
    · rename_i j s2 e2
      refine hi σ ρ φ2 s G2 H2 _ _ s1.ok (ev.mono s1) e2 _ (fun a' b' φ3 G3 H3 ea s3 r3 => ?_) (fun _ _ _ _ _ _ z _ _ => nomatch z)
      cases ea
      split at hm
      · rename_i ws e3
        split at hm
        · rename_i m e4
          cases hm
          have r1' := s3.rp r1
          cases r1' with
          | ref hn =>
            rename_i p
            obtain ⟨⟨xs, h1, h2⟩, _⟩ := s3.ok.cell n p _ hn e3
            refine ⟨p, xs, j, m, rfl, rp_int r3, h1, by rw [ra_len h2]; exact e4, ?_⟩
            have s4 := Step.put (c := .l (ws.set m w)) (o := .lst (xs.set m v)) s3.ok hn e3 ⟨_, upd_same, ra_set (s3.rp (s1.rp r)) m h2⟩
            exact q σ _ _ _ ((s1.trans s3).trans s4) (ev.mono ((s1.trans s3).trans s4)) ⟨rfl, fun _ _ => rfl⟩
        · cases hm
      · cases hm
    · cases hm
  · cases hm
/-! ### d[k] = v -/
def vDPut (d y v : M W) : S := fun ρ st => andS (v ρ st) ρ fun w s => andS (d ρ s) ρ fun x s2 => andS (y ρ s2) ρ fun kw s3 => match x with
  | .ref n => match s3[n]? with
    | some (some (.d t kvs)) => match keyW t kw with
      | some ky => if kvs.length < LIM then some (.nx ρ, s3.set n (some (.d t (kvPut kvs ky w)))) else none
      | none => none
    | _ => none
  | _ => none
theorem sim_dput {td ty tv : TE} {md my mv : M W} (hd : SimE E td md) (hy : SimE E ty my) (hv : SimE E tv mv) : SimS E (sDPut td ty tv) (vDPut md my mv) := fun σ ρ φ st G H r st' k ev hm D p =>
  hv.thenS k ev hm p fun w s v φ1 G1 H1 hm1 s1 ev1 p1 r1 => hd.thenS s1.ok ev1 hm1 p1 fun x s' b φ2 G2 H2 hm2 s2 ev2 p2 r2 => hy.thenS s2.ok ev2 hm2 p2 fun kw s3 y φ3 G3 H3 hm3 t3 ev3 p3 r3 => by
    split at hm3
    · rename_i n
      split at hm3
      · rename_i t kvs e
        split at hm3
        · rename_i ky ek
          split at hm3
          · rename_i hl
            cases hm3
            have r2' := t3.rp r2
            cases r2' with
            | ref hn =>
              rename_i a
              obtain ⟨⟨xs, h1, h2⟩, _⟩ := t3.ok.cell n a _ hn e
              have hk := key_rd t3.ok r3 ek
              have rv : Rp φ3 G3 v w := t3.rp (s2.rp r1)
              cases t with
              | true =>
                rw [if_pos rfl] at hk
                obtain ⟨l, h3, h4, h5⟩ := h1
                subst h5
                obtain ⟨ks, b, rfl, h6, rfl⟩ := hk
                have kr := kvR_of h4 h2
                refine ⟨a, _, rfl, .inr ⟨l, ks, b, h3, rfl, h6, Nat.lt_of_lt_of_le (by rw [kr.len]; exact hl) (sz_le (Nat.le_refl _)), rfl⟩, ?_⟩
                have kr2 := kr.put kyT_inj ks rv
                have s4 := Step.put (c := .d true (kvPut kvs (kyT ks) w)) (o := .dT (putK l ks v)) t3.ok hn e ⟨_, ⟨_, upd_same, kr2.keys, rfl⟩, kr2.vals⟩
                exact p3 _ _ _ σ s4 (ev3.mono s4)
              | false =>
                rw [if_neg Bool.false_ne_true] at hk
                obtain ⟨l, h3, h4, h5⟩ := h1
                subst h5
                obtain ⟨ks, rfl, rfl⟩ := hk
                have kr := kvR_of h4 h2
                refine ⟨a, _, rfl, .inl ⟨l, ks, h3, rfl, Nat.lt_of_lt_of_le (by rw [kr.len]; exact hl) (sz_le (Nat.le_refl _)), rfl⟩, ?_⟩
                have kr2 := kr.put kyK_inj ks rv
                have s4 := Step.put (c := .d false (kvPut kvs (kyK ks) w)) (o := .dK (putK l ks v)) t3.ok hn e ⟨_, ⟨_, upd_same, kr2.keys, rfl⟩, kr2.vals⟩
                exact p3 _ _ _ σ s4 (ev3.mono s4)
          · cases hm3
        · cases hm3
      · cases hm3
    · cases hm3
def vDNew (t : Bool) : M W := fun _ st => some (fin true (.nd t []) st)
theorem sim_dnewK : SimE E tDNewK (vDNew false) := fun σ ρ φ st G H r st' k ev hm Q q x => by
  obtain ⟨fr, e, p⟩ := finO_post (c := true) (x := some (.nd false [])) (Q := Q) k hm fun w v φ2 G2 H2 e s1 r1 => q w v φ2 G2 H2 e s1 r1
  cases e
  exact fun a ha => p a [] _ ha ⟨_, rfl⟩ ⟨[], upd_same, rfl, rfl⟩ .nil
theorem sim_dnewT : SimE E tDNewT (vDNew true) := fun σ ρ φ st G H r st' k ev hm Q q x => by
  obtain ⟨fr, e, p⟩ := finO_post (c := true) (x := some (.nd true [])) (Q := Q) k hm fun w v φ2 G2 H2 e s1 r1 => q w v φ2 G2 H2 e s1 r1
  cases e
  exact fun a ha => p a [] _ ha ⟨_, rfl⟩ ⟨[], upd_same, rfl, rfl⟩ .nil
/-! ### what becomes immutable -/
def frzAll (f : W → Sto → Option (W × Sto)) : List W → Sto → Option (List W × Sto)
  | [], st => some ([], st)
  | w :: ws, st => match f w st with
    | some (w', s) => match frzAll f ws s with
      | some (ws', s') => some (w' :: ws', s')
      | none => none
    | none => none
def frzN : Nat → W → Sto → Option (W × Sto)
  | 0, w, st => if w.free = true then some (w, st) else none
  | n + 1, w, st => match w with
    | .ref i => match st[i]? with
      | some (some (.l ws)) => match frzAll (frzN n) ws (st.set i none) with
        | some (ws', s) => some (.lst ws', s)
        | none => none
      | _ => none
    | .tup b ws => match frzAll (frzN n) ws st with
      | some (ws', s) => some (.tup b ws', s)
      | none => none
    | w => if w.free = true then some (w, st) else none
def vFrz (n : Nat) (m : M W) : M W := fun ρ st => andR (m ρ st) fun w s => (frzN n w s).map fun p => (.ok p.1, p.2)
def Frz (f : W → Sto → Option (W × Sto)) : Prop := ∀ (φ : List Addr) (st : Sto) (G H : Hp) (v : V) (w w' : W) (st' : Sto), Ok φ st G H → Rp φ G v w → f w st = some (w', st') → ∃ G2, Step φ st G H φ st' G2 H ∧ Rp φ G2 v w'
theorem frz_all {f : W → Sto → Option (W × Sto)} (hf : Frz f) : ∀ {vs : List V} {ws ws' : List W} {st st' : Sto} {G : Hp}, Ok φ st G H → RpAll φ G vs ws → frzAll f ws st = some (ws', st') → ∃ G2, Step φ st G H φ st' G2 H ∧ RpAll φ G2 vs ws'
  | _, _, _, _, _, G, k, .nil, h => by
    cases h
    exact ⟨G, Step.refl k, .nil⟩
  | _, _, _, _, _, G, k, .cons h1 h2, h => by
    unfold frzAll at h
    split at h
    · rename_i w' s e1
      split at h
      · rename_i ws' s' e2
        cases h
        obtain ⟨G2, s1, r1⟩ := hf _ _ _ _ _ _ _ _ k h1 e1
        obtain ⟨G3, s2, r2⟩ := frz_all hf s1.ok (s1.ra h2) e2
        exact ⟨G3, s1.trans s2, .cons (s2.rp r1) r2⟩
      · cases h
    · cases h
theorem frz_free {v : V} {w w' : W} {st' : Sto} (k : Ok φ st G H) (r : Rp φ G v w) (h : (if w.free = true then some (w, st) else none) = some (w', st')) : ∃ G2, Step φ st G H φ st' G2 H ∧ Rp φ G2 v w' := by
  split at h
  · cases h
    exact ⟨G, Step.refl k, r⟩
  · cases h
theorem frz_ok : ∀ n : Nat, Frz (frzN n)
  | 0 => fun φ st G H v w w' st' k r h => frz_free k r h
  | n + 1 => fun φ st G H v w w' st' k r h => by
    unfold frzN at h
    split at h
    · rename_i i
      split at h
      · rename_i ws e
        split at h
        · rename_i ws' s e2
          cases h
          cases r with
          | ref hn =>
            rename_i a
            obtain ⟨⟨xs, h1, h2⟩, _⟩ := k.cell i a _ hn e
            have s1 := Step.frz k hn e h1
            obtain ⟨G2, s2, r2⟩ := frz_all (frz_ok n) s1.ok (s1.ra h2) e2
            exact ⟨G2, s1.trans s2, .lst (s2.g _ _ upd_same) r2⟩
        · cases h
      · cases h
    · split at h
      · rename_i ws' s e2
        cases h
        cases r with
        | tup h1 h2 =>
          obtain ⟨G2, s2, r2⟩ := frz_all (frz_ok n) k h2 e2
          exact ⟨G2, s2, .tup (tp_mono s2.g h1) r2⟩
      · cases h
    · exact frz_free k r h
theorem sim_frz {n : Nat} (h : SimE E te me) : SimE E te (vFrz n me) := fun σ ρ φ st G H r st' k ev hm Q q x =>
  h.then_ k ev hm x fun w s v φ2 G2 H2 hm2 s1 r1 => by
    obtain ⟨⟨w', s'⟩, e, z⟩ := Option.map_eq_some_iff.mp hm2
    cases z
    obtain ⟨G3, s2, r2⟩ := frz_ok n φ2 s G2 H2 v w w' s' s1.ok r1 e
    exact q w' v φ2 G3 H2 rfl (s1.trans s2) r2
end
end VS

namespace VS
open PySem PySem.Spec PyProof.Rows L2 Evl
open TL (tl len_tl ext_tl tl_append tl_mk mk_tl)
/-! ### a dict that is locked for good -/
def tLk (te : TE) : TE := fun σ H Q => te σ H fun v H1 => ∃ d u, v = .ref d ∧ H1 d = some u ∧ Mut (some u) ∧ ∀ od, Q v (upd H1 d (.frz od u))
theorem pe_lk {X : Cx} {e : Expr} {t : TE} (h : PE X e t) : PE X e (tLk t) := by
  refine ⟨fun pins s σ H Q I hw => ?_⟩
  refine thn (h.run pins s σ H _ I hw) fun v s1 ⟨x, H1, I1, r, d, u, ex, hd, mu, q⟩ => ?_
  obtain ⟨od, I2⟩ := I1.lock hd mu
  exact ⟨x, _, I2, r, q od⟩
def frzVals (f : W → Sto → Option (W × Sto)) (kvs : List (Ky × W)) (st : Sto) : Option (List (Ky × W) × Sto) := match frzAll f (kvs.map fun p => p.2) st with
  | some (ws, s) => some ((kvs.map fun p => p.1).zip ws, s)
  | none => none
def vLk (n : Nat) (m : M W) : M W := fun ρ st => andR (m ρ st) fun w s => match w with
  | .ref i => match s[i]? with
    | some (some (.d t kvs)) => match frzVals (frzN n) kvs (s.set i none) with
      | some (kvs', s') => some (.ok (.dct t kvs'), s')
      | none => none
    | _ => none
  | _ => none
section
variable {K : PySem.W.Frag} {E : L2.St → XK} {ta te tb : TE} {ma me mb : M W} {tr : TA} {mr : M (List W)} {φ : List Addr} {st : Sto} {G H : Hp}
theorem Step.lock (k : Ok φ st G H) {n : Nat} {p : Addr} {o : HO} {c : Cell} (hp : φ[n]? = some p) (h : st[n]? = some (some c)) : Step φ st G H φ (st.set n none) (upd G p o) (upd H p o) := by
  have gp := (k.cell n p c hp h).2
  have ln : n < st.length := (List.getElem?_eq_some_iff.mp h).1
  have look : ∀ {m : Nat} {c' : Cell}, (st.set n none)[m]? = some (some c') → m ≠ n ∧ st[m]? = some (some c') := fun {m c'} h2 => by
    by_cases e : m = n
    · subst e
      rw [List.getElem?_set_self ln] at h2
      cases h2
    · rw [List.getElem?_set_ne (Ne.symm e)] at h2
      exact ⟨e, h2⟩
  have nf : ∀ a, Free φ st a → a ≠ p := fun a f z => by
    subst z
    rw [f n hp] at h
    cases h
  have live : ∀ {m : Nat} {a : Addr} {c' : Cell}, φ[m]? = some a → st[m]? = some (some c') → m ≠ n → a ≠ p := fun {m a c'} h1 h2 h3 z => h3 (k.inj m n a c' c h1 (by rw [z]; exact hp) h2 h)
  refine ⟨Ex.new gp, ⟨fun a u q => ?_, by simp [k.len], fun m a c' h1 h2 => ?_, fun m1 m2 a c1 c2 h1 h2 h3 h4 => k.inj m1 m2 a c1 c2 h1 h2 (look h3).2 (look h4).2⟩, List.prefix_rfl, fun a u e f => ⟨(upd_ne (nf a f)).trans e, .inl (upd_ne (nf a f))⟩, fun a u e => ?_, fun m a e l => ?_, fun m hm => ?_⟩
  · by_cases z : a = p
    · subst z
      rw [upd_same] at q ⊢
      exact q
    · rw [upd_ne z] at q ⊢
      exact k.ex a u q
  · obtain ⟨h3, h4⟩ := look h2
    obtain ⟨h5, h6⟩ := k.cell m a c' h1 h4
    exact ⟨cell_mono List.prefix_rfl (Ex.new gp) h5 (upd_ne (live h1 h4 h3)), (upd_ne (live h1 h4 h3)).trans h6⟩
  · by_cases z : a = p
    · exact ⟨o, by rw [z, upd_same]⟩
    · exact ⟨u, by rw [upd_ne z]; exact e⟩
  · rw [List.getElem?_eq_none l] at e
    cases e
  · by_cases z : m = n
    · subst z
      exact List.getElem?_set_self ln
    · rw [List.getElem?_set_ne (Ne.symm z)]
      exact hm
theorem frzAll_len {f : W → Sto → Option (W × Sto)} : ∀ {ws ws' : List W} {st st' : Sto}, frzAll f ws st = some (ws', st') → ws'.length = ws.length
  | [], _, _, _, h => by
    cases h
    rfl
  | w :: ws, _, _, _, h => by
    unfold frzAll at h
    split at h
    · split at h
      · rename_i e2
        cases h
        simp [frzAll_len e2]
      · cases h
    · cases h
theorem sim_lk {n : Nat} (h : SimE E te me) : SimE E (tLk te) (vLk n me) := fun σ ρ φ st G H r st' k ev hm Q q x =>
  h.then_ k ev hm x fun w s v φ2 G2 H2 hm2 s1 r1 => by
    split at hm2
    · rename_i i
      split at hm2
      · rename_i t kvs e
        unfold frzVals at hm2
        split at hm2
        · rename_i kvs' s' e2
          cases hm2
          split at e2
          · rename_i ws sx e3
            cases e2
            cases r1 with
            | ref hn =>
              rename_i a
              obtain ⟨⟨xs, h1, h2⟩, _⟩ := s1.ok.cell i a _ hn e
              have hl : ws.length = (kvs.map fun p => p.1).length := by rw [frzAll_len e3, List.length_map, List.length_map]
              have z1 : ((kvs.map fun p => p.1).zip ws).map (fun p => p.1) = kvs.map fun p => p.1 := List.map_fst_zip (by omega)
              have z2 : ((kvs.map fun p => p.1).zip ws).map (fun p => p.2) = ws := List.map_snd_zip (by omega)
              cases t with
              | true =>
                obtain ⟨l, h3, h4, h5⟩ := h1
                refine ⟨a, _, rfl, h3, True.intro, fun od => ?_⟩
                have s2 := Step.lock (o := .frz od (.dT l)) s1.ok hn e
                obtain ⟨G3, s3, r3⟩ := frz_all (frz_ok n) s2.ok (s2.ra h2) e3
                refine q _ _ _ _ _ rfl ((s1.trans s2).trans s3) (.dct (t := true) (xs := xs) ⟨od, l, s3.g _ _ upd_same, ?_, h5⟩ rfl ?_)
                · rw [z1]
                  exact h4
                · rw [z2]
                  exact r3
              | false =>
                obtain ⟨l, h3, h4, h5⟩ := h1
                refine ⟨a, _, rfl, h3, True.intro, fun od => ?_⟩
                have s2 := Step.lock (o := .frz od (.dK l)) s1.ok hn e
                obtain ⟨G3, s3, r3⟩ := frz_all (frz_ok n) s2.ok (s2.ra h2) e3
                refine q _ _ _ _ _ rfl ((s1.trans s2).trans s3) (.dct (t := false) (xs := xs) ⟨od, l, s3.g _ _ upd_same, ?_, h5⟩ rfl ?_)
                · rw [z1]
                  exact h4
                · rw [z2]
                  exact r3
          · cases e2
        · cases hm2
      · cases hm2
    · cases hm2
/-! ### texts -/
def strsW : List W → Option (List Str)
  | [] => some []
  | .str x :: ws => (strsW ws).map (x :: ·)
  | _ => none
theorem strsW_eq : ∀ {ws : List W} {ys : List Str}, strsW ws = some ys → ws = ys.map W.str
  | [], _, h => by
    cases h
    rfl
  | .str x :: ws, _, h => by
    obtain ⟨l, e, rfl⟩ := Option.map_eq_some_iff.mp h
    rw [strsW_eq e]
    rfl
  | .non :: _, _, h | .int _ :: _, _, h | .bl _ :: _, _, h | .tup _ _ :: _, _, h | .lst _ :: _, _, h | .dct _ _ :: _, _, h | .obj _ _ :: _, _, h | .ref _ :: _, _, h | .raw _ :: _, _, h => by cases h
theorem strsW_map (ys : List Str) : strsW (ys.map W.str) = some ys := by
  induction ys with
  | nil => rfl
  | cons y ys ih => simp [strsW, ih]
theorem ra_strs : ∀ {ys : List Str} {vs : List V}, RpAll φ G vs (ys.map W.str) → vs = ys.map V.str
  | [], _, h => by
    cases h
    rfl
  | y :: ys, _, h => by
    cases h with
    | cons h1 h2 => rw [rp_str h1, ra_strs h2]; rfl
theorem ra_of_strs : ∀ (ys : List Str), RpAll φ G (ys.map V.str) (ys.map W.str)
  | [] => .nil
  | y :: ys => .cons (.str y) (ra_of_strs ys)
/-- a method of a text with one argument -/
def vM1 (c : Bool) (f : Str → W → Sto → Option Fr) (a b : M W) : M W := fun ρ st => andR (a ρ st) fun x s => match x with
  | .str z => andR (b ρ s) fun y s2 => finO c (f z y s2) s2
  | _ => none
def OpS (r : V → List V → Hp → VK → Prop) (f : Str → W → Sto → Option Fr) : Prop := ∀ (φ : List Addr) (st : Sto) (G H : Hp) (z : Str) (v : V) (w : W) (fr : Fr), Ok φ st G H → Rp φ G v w → f z w st = some fr → ∀ Q : VK, FrPost φ G H Q fr → r (.str z) [v] H Q
theorem sim_m1 {c : Bool} {r : V → List V → Hp → VK → Prop} {f : Str → W → Sto → Option Fr} (o : OpS r f) (ha : SimE E ta ma) (hb : SimE E tb mb) : SimE E (tM1 r ta tb) (vM1 c f ma mb) := fun σ ρ φ st G H rr st' k ev hm Q q x =>
  ha.then_ k ev hm x fun w s v φ2 G2 H2 hm2 s1 r1 => by
    split at hm2
    · rename_i z
      cases r1
      refine ⟨⟨z, rfl⟩, hb.then_ s1.ok (ev.mono s1) hm2 (fun e cls od φ3 G3 H3 he s2 xa => x e cls od φ3 G3 H3 he (s1.trans s2) xa) fun y s' u φ3 G3 H3 hm3 s2 r2 => ?_⟩
      obtain ⟨fr, e1, p⟩ := finO_post (Q := Q) s2.ok hm3 fun w' v' φ4 G4 H4 e s3 r3 => q w' v' φ4 G4 H4 e ((s1.trans s2).trans s3) r3
      exact o φ3 s' G3 H3 z u y fr s2.ok r2 e1 Q p
    · cases hm2
def fJoin (a : Str) (w : W) (st : Sto) : Option Fr := match seqOf w st with
  | some ws => match strsW ws with
    | some ys => if (ys.map (fun y => y.length)).sum + ys.length * a.length ≤ 16777216 then some (.val (.str (Txt.join a ys))) else none
    | none => none
  | none => none
theorem os_join : OpS (Fw.rJoin K) fJoin := fun φ st G H z v w fr k r hf Q p => by
  unfold fJoin at hf
  split at hf
  · rename_i ws e
    split at hf
    · rename_i ys e2
      split at hf
      · rename_i hl
        cases hf
        obtain ⟨a, xs, rfl, h1, h2⟩ := seq_rd (K := K) k r e
        rw [strsW_eq e2] at h2
        rw [ra_strs h2] at h1
        exact ⟨z, a, ys, rfl, rfl, h1, hl, p _ (.str _)⟩
      · cases hf
    · cases hf
  · cases hf
def fSplit (a : Str) (w : W) (_ : Sto) : Option Fr := match w with
  | .str b => if (b.length == 0) = false ∧ a.length + 2 ≤ LIM then some (.nl ((Txt.split a b).map W.str)) else none
  | _ => none
theorem os_split : OpS Fw.rSplit fSplit := fun φ st G H z v w fr k r hf Q p => by
  unfold fSplit at hf
  split at hf
  · split at hf
    · rename_i hl
      cases hf
      cases r
      exact ⟨z, _, rfl, rfl, hl.1, sz_le hl.2, fun a ha => p a _ ha (ra_of_strs _)⟩
    · cases hf
  · cases hf
/-! f'..' -/
def fFmt (w : W) (_ : Sto) : Option Fr := match w with
  | .str x => if x.length ≤ LIM then some (.val (.str x)) else none
  | .int i => if i.natAbs.log2 < 1920 then some (.val (.str (toString i))) else none
  | _ => none
def vFmt (m : M W) : M W := vUn false fFmt m
theorem sim_fmt (h : SimE E te me) : SimE E (tFmt te) (vFmt me) := fun σ ρ φ st G H r st' k ev hm Q q x =>
  h.then_ k ev hm x fun w s v φ2 G2 H2 hm2 s1 r1 => by
    obtain ⟨fr, e1, p⟩ := finO_post (Q := Q) s1.ok hm2 fun w' v' φ4 G4 H4 e s3 r3 => q w' v' φ4 G4 H4 e (s1.trans s3) r3
    unfold fFmt at e1
    split at e1
    · split at e1
      · rename_i hl
        cases e1
        cases r1
        exact .inl ⟨_, rfl, sz_le hl, p _ (.str _)⟩
      · cases e1
    · split at e1
      · rename_i hl
        cases e1
        cases r1
        exact .inr ⟨_, rfl, hl, p _ (.str _)⟩
      · cases e1
    · cases e1
def vJs : List (M W) → Str → M Str
  | [], acc, _, st => some (.ok acc, st)
  | m :: ms, acc, ρ, st => andR (m ρ st) fun w s => match w with
    | .str y => if (acc ++ y).length ≤ LIM then vJs ms (acc ++ y) ρ s else none
    | _ => none
inductive SimJ (E : L2.St → XK) : List TE → List (M W) → Prop where
  | nil : SimJ E [] []
  | cons {t : TE} {m : M W} {ts : List TE} {ms : List (M W)} (h : SimE E t m) (hs : SimJ E ts ms) : SimJ E (t :: ts) (m :: ms)
def vJ (ms : List (M W)) : M W := fun ρ st => andR (vJs ms Str.empty ρ st) fun x s => some (.ok (.str x), s)
theorem sim_js {ts : List TE} {ms : List (M W)} (h : SimJ E ts ms) : ∀ acc : Str, @Sim Str Str (fun _ _ b c => b = c) E (tJs ts acc) (vJs ms acc) := by
  induction h with
  | nil =>
    intro acc σ ρ φ st G H r st' k ev hm Q q x
    cases hm
    exact q acc acc φ G H rfl (Step.refl k) rfl
  | cons h hs ih =>
      intro acc σ ρ φ st G H r st' k ev hm Q q x
      refine h.then_ k ev hm x fun w s v φ2 G2 H2 hm2 s1 r1 => ?_
      · split at hm2
        · split at hm2
          · rename_i hl
            exact ⟨_, rp_str r1, sz_le hl, ih _ σ ρ φ2 s G2 H2 r st' s1.ok (ev.mono s1) hm2 Q (fun a b φ3 G3 H3 e s2 r2 => q a b φ3 G3 H3 e (s1.trans s2) r2) fun e cls od φ3 G3 H3 he s2 xa => x e cls od φ3 G3 H3 he (s1.trans s2) xa⟩
          · cases hm2
        · cases hm2
theorem sim_joined {ts : List TE} {ms : List (M W)} (h : SimJ E ts ms) : SimE E (fun σ H Q => tJs ts Str.empty σ H fun out H1 => Q (.str out) H1) (vJ ms) := fun σ ρ φ st G H r st' k ev hm Q q x =>
  (sim_js h Str.empty).then_ k ev hm x fun w s v φ2 G2 H2 hm2 s1 r1 => by
    cases hm2
    subst r1
    exact q _ _ φ2 G2 H2 rfl s1 (.str _)
/-! ### isinstance -/
def tyW (w : W) (st : Sto) : Option String := match w with
  | .non => some "NoneType"
  | .bl _ => some "bool"
  | .int _ => some "int"
  | .str _ => some "str"
  | .tup _ _ => some "tuple"
  | w => (lstOf w st).map fun _ => "list"
theorem ty_rd (k : Ok φ st G H) {v : V} {w : W} {T : String} (r : Rp φ G v w) (h : tyW w st = some T) : TyX K H v (.type T) := by
  unfold tyW at h
  split at h
  · cases h; cases r; exact .base .non
  · cases h; cases r; exact .base (.bl _)
  · cases h; cases r; exact .base (.int _)
  · cases h; cases r; exact .base (.str _)
  · cases h
    cases r with
    | tup h1 h2 =>
      rename_i b _ _ _
      cases b with
      | true => exact .base (.tup (k.ex _ _ h1))
      | false =>
        obtain ⟨ob, _, h1⟩ := h1
        exact .fTuple (k.ex _ _ h1)
  · obtain ⟨ws, e, rfl⟩ := Option.map_eq_some_iff.mp h
    obtain ⟨a, xs, rfl, h1, h2⟩ := lst_rd k r e
    exact .base (.lst h1)
def fIsi (ws : List W) (st : Sto) : Option Fr := match ws with
  | [w, .raw (.ty T)] => (tyW w st).bind fun n => (kitB n T).map fun b => .val (.bl b)
  | _ => none
theorem o_isi : OpN (rIsi K) fIsi := fun φ st G H vs ws fr k r hf Q p => by
  unfold fIsi at hf
  split at hf
  · obtain ⟨n, e1, e2⟩ := Option.bind_eq_some_iff.mp hf
    obtain ⟨b, e3, rfl⟩ := Option.map_eq_some_iff.mp e2
    obtain ⟨v, u, rfl, h1, h2⟩ := ra2 r
    cases h2
    exact ⟨v, .ty _, .type n, .type _, b, rfl, .ty _, ty_rd k h1 e1, kit_ty e3, p _ (.bl _)⟩
  · cases hf
end
/-! ### t.index(x) -/
def rTIx (K : PySem.W.Frag) : V → List V → Hp → VK → Prop := fun x xs H Q => ∃ (a : Addr) (ys : List V) (y : V) (j : Nat) (z : V), x = V.ref a ∧ xs = [y] ∧ SqT K H a ys ∧ flatV y = true ∧ ys.all flatV = true ∧ ys[j]? = some z ∧ eqV z y = true ∧
  (∀ (m : Nat) (z' : V), m < j → ys[m]? = some z' → eqV z' y = false) ∧ Q (.int (j : Nat)) H
theorem mt_tix {X : Cx} : MtR X "tuple.index" (rTIx X.K) := by
  intro pins s σ H x xs v us Q I rx rxs h
  obtain ⟨a, ys, y, j, z, rfl, rfl, hs, fy, fys, hz, hzj, hno, q⟩ := h
  cases rx
  obtain ⟨uy, rfl, ry⟩ := vals1 rxs
  obtain ⟨its, rv, pl, hlen⟩ := I.tuple hs
  obtain ⟨⟨cls, dd, dt, sl⟩, ho, hc, n, hd⟩ := pl
  simp only at hc hd
  subst hc hd
  obtain ⟨u, hu, ru⟩ := rv.get hz
  obtain ⟨hjl, hje⟩ := List.getElem?_eq_some_iff.mp hu
  have hvl := rv.length
  have hj : j < its.toArray.size := by simpa using hjl
  refine call_meets PySem.F.slot_tuple_index ⟨_, ho, rfl⟩ PySem.F.entry_tuple_index (PySem.F.args_tuple_index_2 _ _) (TI.tuple_indexAt a its.toArray n dd sl uy (eqU y) j hj ?_ ?_)
    ⟨ho, fun w hw => mem_eqAt ry fy rv fys w (by simpa using hw), ⟨.int (j : Nat), H, I.tok _, ⟨_, rfl⟩, q⟩⟩
  · have e1 : its.toArray[j] = u := by simpa using hje
    rw [e1, eqU_of ru (flat_at fys hz)]
    exact hzj
  · intro m hm hmj
    have hml : m < its.length := by simpa using hm
    have hmy : m < ys.length := by omega
    have hy' : ys[m]? = some ys[m] := List.getElem?_eq_getElem hmy
    obtain ⟨u2, hu2, ru2⟩ := rv.get hy'
    obtain ⟨_, hme⟩ := List.getElem?_eq_some_iff.mp hu2
    have e1 : its.toArray[m] = u2 := by simpa using hme
    rw [e1, eqU_of ru2 (flat_at fys hy')]
    exact hno m _ hmj hy'
theorem k_tix {X : Cx} (K : PySem.W.Frag) (hK : X.K = K) {o e : Expr} {to te : TE} {apos cpos : Pos} (ho : PE X o to) (he : PE X e te) (hbase : attributeBase o "index" X.env (eval o X.env) = eval o X.env := by rfl)
    (hfew : ((backTo cpos (starEach [e] X.env)).all (fun x => !x.1) && (backToKw cpos (keywordEach [] X.env)).all (fun x => x.1.isSome) && decide ([e].length + ([] : List Keyword).length + (if ([] : List Keyword).isEmpty then 0 else 1) < 30)) = true := by rfl)
    (hline : (apos.endLine == cpos.line) = true := by rfl) (hs : starEach [e] X.env = (false, eval e X.env) :: starEach [] X.env := by rfl) (hplain : (backTo cpos (starEach [] X.env)).any (·.1) = false := by rfl) :
    PE X (.Call (.Attribute o "index" apos) [e] [] cpos) (tMG Fw.tyTup (rTIx K) to (tCons te tNil)) := by
  subst hK
  exact pe_mG Fw.ty_tup PySem.F.plainAttrs_tuple PySem.F.slot_tuple_index PySem.F.type_tuple_index mt_tix ho (pa_cons he pa_nil (hs := hs)) hbase hfew hline hs hplain
/-- where a value first stands -/
def fstW (x : W) : List W → Option Nat
  | [] => none
  | y :: ys => if eqV y.v x.v = true then some 0 else (fstW x ys).map (· + 1)
theorem fstW_at : ∀ {x : W} {ys : List W} {j : Nat}, fstW x ys = some j → (∃ z, (ys.map W.v)[j]? = some z ∧ eqV z x.v = true) ∧ ∀ (m : Nat) (z' : V), m < j → (ys.map W.v)[m]? = some z' → eqV z' x.v = false
  | x, [], _, h => by cases h
  | x, y :: ys, j, h => by
    unfold fstW at h
    split at h
    · rename_i he
      cases h
      exact ⟨⟨_, rfl, he⟩, fun m z' hm => absurd hm (Nat.not_lt_zero m)⟩
    · rename_i he
      obtain ⟨i, e, rfl⟩ := Option.map_eq_some_iff.mp h
      obtain ⟨⟨z, h1, h2⟩, h3⟩ := fstW_at e
      refine ⟨⟨z, h1, h2⟩, fun m z' hm hz => ?_⟩
      cases m with
      | zero =>
        cases hz
        exact Bool.eq_false_iff.mpr he
      | succ m => exact h3 m z' (by omega) hz
def vTIx (a b : M W) : M W := fun ρ st => andR (a ρ st) fun x s => match x with
  | .tup false ws => andR (b ρ s) fun y s2 => if y.flat = true ∧ ws.all W.flat = true then (fstW y ws).map fun j => (.ok (.int (j : Nat)), s2) else none
  | _ => none
theorem sim_tix {K : PySem.W.Frag} {E : L2.St → XK} {ta tb : TE} {ma mb : M W} (ha : SimE E ta ma) (hb : SimE E tb mb) : SimE E (tMG Fw.tyTup (rTIx K) ta (tCons tb tNil)) (vTIx ma mb) := fun σ ρ φ st G H rr st' k ev hm Q q x =>
  ha.then_ k ev hm x fun w s v φ2 G2 H2 hm2 s1 r1 => by
    split at hm2
    · have r1' := r1
      cases r1 with
      | tup h1 h2 =>
        rename_i ws a xs
        obtain ⟨ob, hd, hg⟩ := h1
        refine ⟨⟨a, xs, ob, rfl, s1.ok.ex _ _ hg, hd⟩, hb.then_ s1.ok (ev.mono s1) hm2 (fun e cls od φ3 G3 H3 he s2 xa => x e cls od φ3 G3 H3 he (s1.trans s2) xa) fun y s' u φ3 G3 H3 hm3 s2 r2 => ?_⟩
        split at hm3
        · rename_i hf
          obtain ⟨j, e, z⟩ := Option.map_eq_some_iff.mp hm3
          cases z
          obtain ⟨rfl, f1⟩ := flat_rp r2 hf.1
          obtain ⟨rfl, f2⟩ := flat_ra h2 hf.2
          obtain ⟨⟨z, h3, h4⟩, h5⟩ := fstW_at e
          exact ⟨a, _, y.v, j, z, rfl, rfl, .inl (.inr ⟨ob, s2.ok.ex _ _ (s2.g _ _ hg)⟩), f1, f2, h3, h4, h5, q _ _ φ3 G3 H3 rfl (s1.trans s2) (.int _)⟩
        · cases hm3
    · cases hm2
end VS

namespace VS
open PySem PySem.Spec PyProof.Rows L2 Evl
open TL (tl len_tl ext_tl tl_append tl_mk mk_tl)
/-! ### o.f = v -/
def putW (f : Str) (w : W) : List (Str × W) → List (Str × W)
  | [] => [(f, w)]
  | (g, x) :: r => if g = f then (g, w) :: r else (g, x) :: putW f w r
def vSetFld (C : Addr) (f : Str) (o v : M W) : S := fun ρ st => andS (v ρ st) ρ fun w s => andS (o ρ s) ρ fun x s2 => match x with
  | .ref n => match s2[n]? with
    | some (some (.o C' fs)) => if C' = C ∧ fs.length < 1000 then some (.nx ρ, s2.set n (some (.o C' (putW f w fs)))) else none
    | _ => none
  | _ => none
section
variable {K : PySem.W.Frag} {E : L2.St → XK} {ta te tb : TE} {ma me mb : M W} {tr tk : TA} {mr mk : M (List W)} {φ : List Addr} {st : Sto} {G H : Hp} {C : Addr}
theorem put_rd {f : Str} {v : V} {w : W} (r : Rp φ G v w) : ∀ {xs : List (Str × V)} {fs : List (Str × W)}, xs.map (fun p => p.1) = fs.map (fun p => p.1) → RpAll φ G (xs.map fun p => p.2) (fs.map fun p => p.2) →
    (putF f v xs).map (fun p => p.1) = (putW f w fs).map (fun p => p.1) ∧ RpAll φ G ((putF f v xs).map fun p => p.2) ((putW f w fs).map fun p => p.2)
  | [], [], _, _ => ⟨rfl, .cons r .nil⟩
  | [], _ :: _, h, _ => by simp at h
  | _ :: _, [], h, _ => by simp at h
  | (k, v1) :: l, (k', w1) :: l', h, rr => by
    simp only [List.map_cons, List.cons.injEq] at h
    obtain ⟨rfl, h2⟩ := h
    cases rr with
    | cons r1 r2 =>
      unfold putF putW
      by_cases e : k = f
      · rw [if_pos e, if_pos e]
        exact ⟨by simp only [List.map_cons]; rw [h2], .cons r r2⟩
      · rw [if_neg e, if_neg e]
        obtain ⟨h3, h4⟩ := put_rd r h2 r2
        exact ⟨by simp only [List.map_cons]; rw [h3], .cons r1 h4⟩
theorem sim_setfld {f : Str} (hc : Cls K C) (hn : NoAttr K C f) (ho : SimE E ta ma) (hv : SimE E te me) : SimS E (sFld K ta te f) (vSetFld C f ma me) := fun σ ρ φ st G H r st' k ev hm D p =>
  hv.thenS k ev hm p fun w s v φ1 G1 H1 hm1 s1 ev1 p1 r1 => ho.thenS s1.ok ev1 hm1 p1 fun x s' b φ2 G2 H2 hm2 s2 ev2 p2 r2 => by
    split at hm2
    · rename_i n
      split at hm2
      · rename_i C' fs e
        split at hm2
        · rename_i hl
          obtain ⟨rfl, hl⟩ := hl
          cases hm2
          cases r2 with
          | ref hn2 =>
            rename_i a
            obtain ⟨⟨dx, xs, h1, h2, h3⟩, _⟩ := s2.ok.cell n a _ hn2 e
            obtain ⟨h4, h5⟩ := put_rd (f := f) (s2.rp r1) h2 h3
            have hxl : xs.length < 1000 := by
              have := congrArg List.length h2
              simp at this
              omega
            refine ⟨a, C', dx, xs, rfl, h1, hc, hn, hxl, ?_⟩
            have s4 := Step.put (c := .o C' (putW f w fs)) (o := .ins C' dx (putF f v xs)) s2.ok hn2 e ⟨dx, _, upd_same, h4, h5⟩
            exact p2 _ _ _ σ s4 (ev2.mono s4)
        · cases hm2
      · cases hm2
    · cases hm2
/-! ### new objects -/
theorem Step.alloc (k : Ok φ st G H) {p : Addr} {o : HO} (h : H p = none) (nt : isTup o = false := by rfl) : Step φ st G H φ st G (upd H p o) := (Cm.new k h nt).s
theorem Step.pureM {x : Addr} {H1 : Hp} {c : Cell} {φc : List Addr} {stc : Sto} {G' H' : Hp} (k : Ok φ st G H1) (hx : H1 x = none) (he : ∀ a o, H1 a = some o → H a = some o) (s : Step [x] [some c] G H φc stc G' H') : Step φ st G H1 φ st G' H' := by
  have fr : ∀ a o, H1 a = some o → Free [x] [some c] a := fun a o e n h => by
    cases n with
    | zero =>
      have : x = a := by simpa using h
      subst this
      rw [hx] at e
      cases e
    | succ n => simp at h
  refine ⟨s.g, ⟨s.ok.ex, k.len, fun n a c h1 h2 => ?_, k.inj⟩, List.prefix_rfl, fun a o e f => s.keep a o (he a o e) (fr a o e), fun a o e => s.dom a o (he a o e), fun n a e l => ?_, fun n h => h⟩
  · obtain ⟨h3, h4⟩ := k.cell n a c h1 h2
    obtain ⟨o, ho, ht⟩ := cell_some h3
    obtain ⟨h5, h6⟩ := s.keep a o (he a o ho) (fr a o ho)
    exact ⟨cell_mono List.prefix_rfl s.g h3 (h5.trans ho.symm), (h6.resolve_right (by rw [ht]; exact Bool.false_ne_true)).trans h4⟩
  · rw [List.getElem?_eq_none l] at e
    cases e
/-- C(..), an object that nothing changes behind its __init__ -/
def makeP (C : Addr) (n : Nat) (mf : MF) (ws : List W) (st : Sto) : Option (R W × Sto) := if ws.length + 1 = n ∧ freeAll ws = true then (match mf (.ref 0 :: ws) [some (.o C [])] with
    | some (.ok .non, s) => match (s[(0 : Nat)]? : Option (Option Cell)) with
      | some (some (Cell.o C' fs)) => if C' = C ∧ freeF fs = true then some (.ok (.obj C fs), st) else none
      | _ => none
    | some (.ex e, _) => if exFree e = true then some (.ex e, st) else none
    | _ => none) else none
/-- C(..), an object that changes -/
def makeC (C : Addr) (n : Nat) (mf : MF) (ws : List W) (st : Sto) : Option (R W × Sto) := if ws.length + 1 = n then (match mf (.ref st.length :: ws) (st ++ [some (.o C [])]) with
    | some (.ok .non, s) => some (.ok (.ref st.length), s)
    | some (.ex e, s) => some (.ex e, s)
    | _ => none) else none
theorem makeP_use {n : Nat} {mf : MF} {vs : List V} {ws : List W} {r : R W} {st' : Sto} {Q : VK} {E' : XK} (k : Ok φ st G H) (ra : RpAll φ G vs ws) (h : makeP C n mf ws st = some (r, st'))
    (q : ∀ w v φ2 G2 H2, r = .ok w → Step φ st G H φ2 st' G2 H2 → Rp φ2 G2 v w → Q v H2) (x : ∀ e cls od φ2 G2 H2, r = .ex e → Step φ st G H φ2 st' G2 H2 → ExAt φ2 G2 H2 e cls od → E' cls od H2)
    {a dx : Addr} (ha : H a = none) (hdx : H dx = none) (ne : dx ≠ a) : spV n mf (.ref a :: vs) (upd (upd H dx (.own a)) a (.ins C dx [])) (fun v H3 => v = .non ∧ Q (.ref a) H3) E' := by
  unfold makeP at h
  split at h
  · rename_i hl
    have ga := fresh_back k.ex ha
    have ka : Ex G (upd (upd H dx (.own a)) a (.ins C dx [])) := (k.ex.trans (Ex.new hdx)).trans (Ex.new ((upd_ne (Ne.symm ne)).trans ha))
    have k0 : Ok [a] [some (.o C [])] G (upd (upd H dx (.own a)) a (.ins C dx [])) := by
      refine ⟨ka, rfl, fun m b c h1 h2 => ?_, fun m1 m2 b c d h1 h2 h3 h4 => ?_⟩
      · cases m with
        | zero =>
          have e1 : a = b := by simpa using h1
          have e2 : Cell.o C [] = c := by simpa using h2
          subst e1 e2
          exact ⟨⟨dx, [], upd_same, rfl, .nil⟩, ga⟩
        | succ m => simp at h1
      · cases m1 with
        | zero =>
          cases m2 with
          | zero => rfl
          | succ m => simp at h2
        | succ m => simp at h1
    have he : ∀ b o, H b = some o → upd (upd H dx (.own a)) a (.ins C dx []) b = some o := fun b o e => by
      rw [upd_ne (ne_of_none e ha), upd_ne (ne_of_none e hdx)]
      exact e
    refine ⟨by simp [ra_len ra, ← hl.1], [a], [some (.o C [])], G, .ref 0 :: ws, ?_⟩
    cases e : mf (.ref 0 :: ws) [some (.o C [])] with
    | none =>
      rw [e] at h
      cases h
    | some o =>
      obtain ⟨o, s⟩ := o
      rw [e] at h
      refine ⟨o, s, k0, .cons (.ref rfl) (ra_any ra hl.2), rfl, fun w v φ2 G2 H2 ew t r1 => ?_, fun e' cls od φ2 G2 H2 ee t xa => ?_⟩
      · subst ew
        cases w with
        | non =>
          dsimp only at h
          split at h
          · rename_i C' fs e0
            split at h
            · rename_i hf
              obtain ⟨rfl, hf⟩ := hf
              cases h
              refine ⟨rp_non r1, ?_⟩
              have h0 : φ2[0]? = some a := pre_get t.pre rfl
              obtain ⟨⟨dx2, xs, h1, h2, h3⟩, h4⟩ := t.ok.cell 0 a _ h0 e0
              have t1 := Step.pureM k ha he t
              have t2 := Step.adoptF (D := a) t1 ha h4 (fun n hn => by
                have l : n < st.length := by
                  rw [← k.len]
                  exact (List.getElem?_eq_some_iff.mp hn).1
                cases e9 : st[n]? with
                | none =>
                  rw [List.getElem?_eq_none_iff] at e9
                  omega
                | some c9 =>
                  cases c9 with
                  | none => rfl
                  | some c9 =>
                    obtain ⟨u, hu, _⟩ := cell_some (k.cell n a c9 hn e9).1
                    rw [ha] at hu
                    cases hu) h1
              refine q _ _ _ _ _ rfl t2 (.obj upd_same h2 rfl rfl ?_)
              exact ra_mono List.prefix_rfl (Ex.new h4) (ra_any h3 (by rw [← freeF_map]; exact hf))
            · cases h
          · cases h
        | _ => cases h
      · subst ee
        dsimp only at h
        split at h
        · rename_i hf
          cases h
          exact x e' cls od φ G2 H2 rfl (Step.pureM k ha he t) (ex_any xa hf)
        · cases h
  · cases h
theorem makeC_use {n : Nat} {mf : MF} {vs : List V} {ws : List W} {r : R W} {st' : Sto} {Q : VK} {E' : XK} (k : Ok φ st G H) (ra : RpAll φ G vs ws) (h : makeC C n mf ws st = some (r, st'))
    (q : ∀ w v φ2 G2 H2, r = .ok w → Step φ st G H φ2 st' G2 H2 → Rp φ2 G2 v w → Q v H2) (x : ∀ e cls od φ2 G2 H2, r = .ex e → Step φ st G H φ2 st' G2 H2 → ExAt φ2 G2 H2 e cls od → E' cls od H2)
    {a dx : Addr} (ha : H a = none) (hdx : H dx = none) (ne : dx ≠ a) : spV n mf (.ref a :: vs) (upd (upd H dx (.own a)) a (.ins C dx [])) (fun v H3 => v = .non ∧ Q (.ref a) H3) E' := by
  unfold makeC at h
  split at h
  · rename_i hl
    have s1 := Step.alloc (o := .own a) k hdx
    have s2 := Step.cell (o := .ins C dx []) (c := .o C []) s1.ok ((upd_ne (Ne.symm ne)).trans ha) ⟨dx, [], upd_same, rfl, .nil⟩
    have s3 := s1.trans s2
    refine ⟨by simp [ra_len ra, ← hl], φ ++ [a], st ++ [some (.o C [])], G, .ref st.length :: ws, ?_⟩
    cases e : mf (.ref st.length :: ws) (st ++ [some (.o C [])]) with
    | none =>
      rw [e] at h
      cases h
    | some o =>
      obtain ⟨o, s⟩ := o
      rw [e] at h
      refine ⟨o, s, s2.ok, .cons (.ref (by rw [← k.len]; simp)) (s3.ra ra), rfl, fun w v φ2 G2 H2 ew t r1 => ?_, fun e' cls od φ2 G2 H2 ee t xa => ?_⟩
      · subst ew
        cases w with
        | non =>
          cases h
          exact ⟨rp_non r1, q _ _ _ _ _ rfl (s3.trans t) (.ref (pre_get t.pre (by rw [← k.len]; simp)))⟩
        | _ => cases h
      · subst ee
        cases h
        exact x e' cls od φ2 G2 H2 rfl (s3.trans t) xa
  · cases h
def makeF (p : Bool) (C : Addr) (n : Nat) (mf : MF) (ws : List W) (st : Sto) : Option (R W × Sto) := if p = true then makeP C n mf ws st else makeC C n mf ws st
def vMake (p : Bool) (C : Addr) (n : Nat) (mf : MF) (m : M (List W)) : M W := fun ρ st => andR (m ρ st) fun ws s => makeF p C n mf ws s
/-- by keywords: how the arguments come to the parameters -/
def vMakeK (p : Bool) (C : Addr) (i j n : Nat) (mf : MF) (g : List W → List W → List W) (m mk : M (List W)) : M W := fun ρ st => andR (m ρ st) fun ws s => andR (mk ρ s) fun us s2 => if ws.length = i ∧ us.length = j then makeF p C n mf (g ws us) s2 else none
theorem make_use {p : Bool} {n : Nat} {mf : MF} {vs : List V} {ws : List W} {r : R W} {st' : Sto} {Q : VK} {E' : XK} (k : Ok φ st G H) (ra : RpAll φ G vs ws) (h : makeF p C n mf ws st = some (r, st'))
    (q : ∀ w v φ2 G2 H2, r = .ok w → Step φ st G H φ2 st' G2 H2 → Rp φ2 G2 v w → Q v H2) (x : ∀ e cls od φ2 G2 H2, r = .ex e → Step φ st G H φ2 st' G2 H2 → ExAt φ2 G2 H2 e cls od → E' cls od H2)
    {a dx : Addr} (ha : H a = none) (hdx : H dx = none) (ne : dx ≠ a) : spV n mf (.ref a :: vs) (upd (upd H dx (.own a)) a (.ins C dx [])) (fun v H3 => v = .non ∧ Q (.ref a) H3) E' := by
  cases p with
  | true => exact makeP_use k ra h q x ha hdx ne
  | false => exact makeC_use k ra h q x ha hdx ne
theorem sim_make {p : Bool} {n : Nat} {mf : MF} {E' : XK} (hE : ∀ σ cls od H, E σ cls od H → E' cls od H) (h : SimA E tr mr) : SimE E (tMake C (spV n mf) [] E' tr) (vMake p C n mf mr) := fun σ ρ φ st G H r st' k ev hm Q q x =>
  h.then_ k ev hm x fun ws s vs φ2 G2 H2 hm2 s1 r1 a dx ha hdx ne => by
    rw [List.append_nil]
    exact make_use s1.ok r1 hm2 (fun w v φ3 G3 H3 e s2 r2 => q w v φ3 G3 H3 e (s1.trans s2) r2) (fun e cls od φ3 G3 H3 he s2 xa => hE σ _ _ _ (x e cls od φ3 G3 H3 he (s1.trans s2) xa)) ha hdx ne
/-- gV on values and gW on ours, the receiver ahead -/
def KwR (gV : List V → List V → List V) (gW : List W → List W → List W) (i j : Nat) : Prop := ∀ (φ : List Addr) (G : Hp) (v : V) (vs zs : List V) (ws us : List W), RpAll φ G vs ws → RpAll φ G zs us → ws.length = i → us.length = j → ∃ ys, gV (v :: vs) zs = v :: ys ∧ RpAll φ G ys (gW ws us)
theorem sim_makeK {p : Bool} {n i j : Nat} {mf : MF} {E' : XK} {gV : List V → List V → List V} {gW : List W → List W → List W} (hE : ∀ σ cls od H, E σ cls od H → E' cls od H) (hg : KwR gV gW i j) (h : SimA E tr mr) (hk : SimA E tk mk) :
    SimE E (tMakeK C i j (spV n mf) gV E' tr tk) (vMakeK p C i j n mf gW mr mk) := fun σ ρ φ st G H r st' k ev hm Q q x =>
  h.then_ k ev hm x fun ws s vs φ2 G2 H2 hm2 s1 r1 => hk.then_ s1.ok (ev.mono s1) hm2 (fun e cls od φ3 G3 H3 he s2 xa => x e cls od φ3 G3 H3 he (s1.trans s2) xa) fun us s' zs φ3 G3 H3 hm3 s2 r2 => by
    split at hm3
    · rename_i hl
      refine ⟨(ra_len r1).trans hl.1, (ra_len r2).trans hl.2, fun a dx ha hdx ne => ?_⟩
      obtain ⟨ys, e, r3⟩ := hg φ3 G3 (.ref a) vs zs ws us (s2.ra r1) r2 hl.1 hl.2
      rw [e]
      exact make_use s2.ok r3 hm3 (fun w v φ4 G4 H4 e s3 r3 => q w v φ4 G4 H4 e ((s1.trans s2).trans s3) r3) (fun e cls od φ4 G4 H4 he s3 xa => hE σ _ _ _ (x e cls od φ4 G4 H4 he ((s1.trans s2).trans s3) xa)) ha hdx ne
    · cases hm3
/-! ### errors -/
def vRaise (C : Addr) (m : M W) : S := fun ρ st => andS (m ρ st) ρ fun _ s => some (.ex (C, []) ρ, s)
def vRaise0 (C : Addr) : S := fun ρ st => some (.ex (C, []) ρ, st)
theorem sim_raise {Wx : WX} (hE : ∀ σ cls od H, E σ cls od H → Wx cls od σ H) (h : SimE E te me) : SimS E (fun _ σ H => te σ H fun _ H1 => Wx (.ref C) none σ H1) (vRaise C me) := fun σ ρ φ st G H r st' k ev hm D p =>
  h.thenS k ev hm p fun w s v φ1 G1 H1 hm1 s1 ev1 p1 r1 => by
    cases hm1
    exact hE _ _ _ _ (p1 φ1 G1 H1 σ (.ref C) none (Step.refl s1.ok) ev1 ⟨rfl, .inl ⟨rfl, rfl⟩⟩)
theorem sim_raise0 {Wx : WX} (hE : ∀ σ cls od H, E σ cls od H → Wx cls od σ H) : SimS E (fun _ σ H => Wx (.ref C) none σ H) (vRaise0 C) := fun σ ρ φ st G H r st' k ev hm D p => by
  cases hm
  exact hE _ _ _ _ (p φ G H σ (.ref C) none (Step.refl k) ev ⟨rfl, .inl ⟨rfl, rfl⟩⟩)
/-- which errors a clause takes -/
def vTry (cat : Addr → Option Bool) (b s : S) : S := fun ρ st => match b ρ st with
  | some (.ex e ρ', st') => match cat e.1 with
    | some true => match s ρ' st' with
      | some (.ex _ _, _) => none
      | o => o
    | some false => some (.ex e ρ', st')
    | none => none
  | o => o
theorem sim_try {tbw : WX → TS} {ts : Addr → Value → Option Addr → TS} {Wout : WX} {c : Value} {cat : Addr → Option Bool} {mb ms : S} (hE : ∀ σ cls od H, E σ cls od H → Wout cls od σ H) (hc : ∀ A b, cat A = some b → PySem.W.exmOne K (.ref A) c = some b)
    (hb : ∀ Wx : WX, SimS (fun σ cls od H => Wx cls od σ H) (tbw Wx) mb) (hs : ∀ a cls d, SimS EF (ts a cls d) ms) : SimS E (fun D σ H => tbw (wOnly K c ts Wout D) D σ H) (vTry cat mb ms) := fun σ ρ φ st G H r st' k ev hm D p => by
  unfold vTry at hm
  cases e : mb ρ st with
  | none =>
    rw [e] at hm
    cases hm
  | some q =>
    obtain ⟨q, s⟩ := q
    rw [e] at hm
    refine hb (wOnly K c ts Wout D) σ ρ φ st G H q s k ev e D ?_
    cases q with
    | nx ρ' =>
      cases hm
      exact p
    | rt w =>
      cases hm
      exact p
    | bk ρ' =>
      cases hm
      exact p
    | ct ρ' =>
      cases hm
      exact p
    | ex e' ρ' =>
      intro φ2 G2 H2 σ' cls od s1 ev1 xa
      have hcls := xa.1
      subst hcls
      dsimp only at hm
      cases ec : cat e'.1 with
      | none =>
        rw [ec] at hm
        cases hm
      | some b =>
        rw [ec] at hm
        refine ⟨b, hc _ _ ec, fun hb a ha => ?_, fun hb => ?_⟩
        · subst hb
          dsimp only at hm
          cases es : ms ρ' s with
          | none =>
            rw [es] at hm
            cases hm
          | some q2 =>
            obtain ⟨q2, s2⟩ := q2
            rw [es] at hm
            have p2 := p.after s1
            refine hs a _ od σ' ρ' φ2 s G2 H2 q2 s2 s1.ok ev1 es D ?_
            cases q2 with
            | ex _ _ => cases hm
            | nx ρ' =>
              cases hm
              exact p2
            | rt w =>
              cases hm
              exact p2
            | bk ρ' =>
              cases hm
              exact p2
            | ct ρ' =>
              cases hm
              exact p2
        · subst hb
          cases hm
          exact hE _ _ _ _ (p φ2 G2 H2 σ' _ od s1 ev1 xa)
end
end VS

namespace VS
open PySem PySem.Spec PyProof.Rows L2 Evl
open TL (tl len_tl ext_tl tl_append tl_mk mk_tl)
def kW : Key → W
  | .inl i => .int i
  | .inr x => .str x
def tkW : Tk → W
  | .i n => .int n
  | .s x => .str x
  | _ => .non
def kyW : Ky → W
  | [t] => tkW t
  | .op :: r => .tup true (r.dropLast.map tkW)
  | _ => .non
theorem kyW_K : ∀ k : Key, kyW (kyK k) = kW k
  | .inl _ => rfl
  | .inr _ => rfl
theorem kyK_one (ks : List Key) : (ks.flatMap kyK).map tkW = ks.map kW := by
  induction ks with
  | nil => rfl
  | cons k ks ih =>
    rw [List.flatMap_cons, List.map_append, ih]
    cases k <;> rfl
theorem kyW_T (ks : List Key) : kyW (kyT ks) = .tup true (ks.map kW) := by
  unfold kyT
  cases e : ks.flatMap kyK ++ [Tk.cl] with
  | nil => simp at e
  | cons t r =>
    show W.tup true ((t :: r).dropLast.map tkW) = _
    rw [← e, List.dropLast_concat, kyK_one]
section
variable {K : PySem.W.Frag} {E : L2.St → XK} {ta te tb : TE} {ma me mb : M W} {tr tk : TA} {mr mk : M (List W)} {φ : List Addr} {st : Sto} {G H : Hp} {C : Addr}
theorem Step.adoptT (k : Ok φ st G H) {q : Addr} {xs : List V} (h : H q = some (.tup xs)) : ∃ G2, Step φ st G H φ st G2 H ∧ G2 q = some (.tup xs) := by
  cases e : G q with
  | some o =>
    have := k.ex _ _ e
    rw [h] at this
    cases this
    exact ⟨G, Step.refl k, e⟩
  | none =>
    refine ⟨upd G q (.tup xs), ⟨Ex.new e, ⟨fun a u z => ?_, k.len, fun n a c h1 h2 => ?_, k.inj⟩, List.prefix_rfl, fun a u z f => ⟨z, ?_⟩, fun a u z => ⟨u, z⟩, fun n a z l => ?_, fun _ h => h⟩, upd_same⟩
    · by_cases hq : a = q
      · subst hq
        rw [upd_same] at z
        cases z
        exact h
      · rw [upd_ne hq] at z
        exact k.ex a u z
    · obtain ⟨h3, h4⟩ := k.cell n a c h1 h2
      obtain ⟨o, ho, ht⟩ := cell_some h3
      have hq : a ≠ q := fun z => by
        subst z
        rw [h] at ho
        cases ho
        cases ht
      exact ⟨cell_mono List.prefix_rfl (Ex.new e) h3 rfl, (upd_ne hq).trans h4⟩
    · by_cases hq : a = q
      · subst hq
        rw [h] at z
        cases z
        exact .inr rfl
      · exact .inl (upd_ne hq)
    · rw [List.getElem?_eq_none l] at z
      cases z
theorem rp_key : ∀ k : Key, Rp φ G (kV k) (kW k)
  | .inl i => .int i
  | .inr x => .str x
theorem ra_keys : ∀ ks : List Key, RpAll φ G (ks.map kV) (ks.map kW)
  | [] => .nil
  | k :: ks => .cons (rp_key k) (ra_keys ks)
/-- for k in d, an immutable dict -/
def vKeys (m : M W) : M Src := fun ρ st => andR (m ρ st) fun w s => match w with
  | .dct _ kvs => some (.ok ⟨kvs.map fun p => kyW p.1, []⟩, s)
  | _ => none
theorem sim_keys (h : SimE E te me) : SimI E (iKeys te) (vKeys me) := fun σ ρ φ st G H r st' k ev hm Q q x =>
  h.then_ k ev hm x fun w s v φ2 G2 H2 hm2 s1 r1 => by
    split at hm2
    · rename_i t kvs
      cases hm2
      cases r1 with
      | dct h1 hw h2 =>
        rename_i d xs ws
        cases t with
        | true =>
          obtain ⟨o, l, h3, h4, h5⟩ := h1
          refine ⟨d, o, rfl, .inr ⟨l, s1.ok.ex _ _ h3, q _ _ φ2 G2 H2 rfl s1 fun φ3 st3 G3 H3 k3 p e _ => ?_⟩⟩
          have hh := k3.ex _ _ (e _ _ h3)
          have hlen : kvs.length = l.length := by
            have := congrArg List.length h4
            simpa using this.symm
          refine ⟨fun i w hi => ?_, fun i hi => ⟨hh, by simpa [hlen] using hi⟩⟩
          have hil : i < l.length := by
            have := (List.getElem?_eq_some_iff.mp hi).1
            rw [List.length_map] at this
            omega
          refine ⟨⟨hh, hil⟩, fun y H' yy => ?_⟩
          obtain ⟨rfl, ks, v, b, e1, rfl, e2⟩ := yy
          have hkey : (kvs.map fun p => p.1)[i]? = some (kyT ks) := by
            rw [← h4, List.getElem?_map, e1]
            rfl
          have hw2 : w = .tup true (ks.map kW) := by
            rw [List.getElem?_map] at hi hkey
            obtain ⟨p, hp, rfl⟩ := Option.map_eq_some_iff.mp hi
            rw [hp] at hkey
            have : p.1 = kyT ks := Option.some.inj hkey
            rw [this, kyW_T]
          subst hw2
          obtain ⟨G4, s4, h6⟩ := Step.adoptT k3 e2
          exact ⟨G4, s4, .tup (k := true) h6 (ra_keys ks)⟩
        | false =>
          obtain ⟨o, l, h3, h4, h5⟩ := h1
          refine ⟨d, o, rfl, .inl ⟨l, s1.ok.ex _ _ h3, q _ _ φ2 G2 H2 rfl s1 fun φ3 st3 G3 H3 k3 p e _ => ?_⟩⟩
          have hh := k3.ex _ _ (e _ _ h3)
          have hlen : kvs.length = l.length := by
            have := congrArg List.length h4
            simpa using this.symm
          refine ⟨fun i w hi => ?_, fun i hi => ⟨hh, by simpa [hlen] using hi⟩⟩
          have hil : i < l.length := by
            have := (List.getElem?_eq_some_iff.mp hi).1
            rw [List.length_map] at this
            omega
          refine ⟨⟨hh, hil⟩, fun y H' yy => ?_⟩
          obtain ⟨rfl, ks, v, e1, rfl⟩ := yy
          have hkey : (kvs.map fun p => p.1)[i]? = some (kyK ks) := by
            rw [← h4, List.getElem?_map, e1]
            rfl
          have hw2 : w = kW ks := by
            rw [List.getElem?_map] at hi hkey
            obtain ⟨p, hp, rfl⟩ := Option.map_eq_some_iff.mp hi
            rw [hp] at hkey
            have : p.1 = kyK ks := Option.some.inj hkey
            rw [this, kyW_K]
          subst hw2
          exact ⟨G3, Step.refl k3, rp_key ks⟩
    · cases hm2
/-! ### enumerate(list), zip(list, list) -/
def enumW : Nat → List W → List W
  | _, [] => []
  | i, w :: ws => .tup true [.int (i : Nat), w] :: enumW (i + 1) ws
theorem enumW_get : ∀ {ws : List W} {j i : Nat}, (enumW j ws)[i]? = (ws[i]?).map fun w => .tup true [.int ((j + i : Nat) : Int), w]
  | [], j, i => by simp [enumW]
  | w :: ws, j, 0 => by simp [enumW]
  | w :: ws, j, i + 1 => by
    rw [enumW, List.getElem?_cons_succ, List.getElem?_cons_succ, enumW_get (ws := ws) (j := j + 1) (i := i)]
    have : j + 1 + i = j + (i + 1) := by omega
    rw [this]
theorem enumW_len : ∀ {ws : List W} {j : Nat}, (enumW j ws).length = ws.length
  | [], _ => rfl
  | w :: ws, j => by simp [enumW, enumW_len]
/-- a list, frozen or a cell, as it is walked -/
theorem lst_src (k : Ok φ st G H) {v : V} {w : W} {src : Src} {ws : List W} (r : Rp φ G v w) (h : srcOf w st = some src) (hl : lstOf w st = some ws) : ∃ a, v = .ref a ∧ src.items = ws ∧ (∃ xs, H a = some (.lst xs)) ∧
    ∀ φ2 st2 G2 H2, Ok φ2 st2 G2 H2 → φ <+: φ2 → Ex G G2 → src.Ok st2 → ∃ xs, H2 a = some (.lst xs) ∧ RpAll φ2 G2 xs ws := by
  cases r with
  | lst h1 h2 =>
    cases h
    cases hl
    exact ⟨_, rfl, rfl, ⟨_, k.ex _ _ h1⟩, fun φ2 st2 G2 H2 k2 p e _ => ⟨_, k2.ex _ _ (e _ _ h1), ra_mono p e h2⟩⟩
  | ref h1 =>
    simp only [srcOf] at h
    split at h
    · rename_i ws' e2
      cases h
      rw [lstOf_ref e2] at hl
      cases hl
      obtain ⟨⟨xs, h3, h4⟩, _⟩ := k.cell _ _ _ h1 e2
      refine ⟨_, rfl, rfl, ⟨xs, h3⟩, fun φ2 st2 G2 H2 k2 p e c => ?_⟩
      obtain ⟨⟨ys, h5, h6⟩, _⟩ := k2.cell _ _ _ (pre_get p h1) (c _ (List.mem_singleton.mpr rfl))
      exact ⟨ys, h5, h6⟩
    · cases h
  | tup _ _ => cases hl
  | _ => cases h
def vEnum (m : M (List W)) : M Src := fun ρ st => andR (m ρ st) fun ws s => match ws with
  | [w] => match srcOf w s, lstOf w s with
    | some src, some l => some (.ok ⟨enumW 0 l, src.cells⟩, s)
    | _, _ => none
  | _ => none
theorem sim_enum (h : SimA E tr mr) : SimI E (iEnum K tr) (vEnum mr) := fun σ ρ φ st G H r st' k ev hm Q q x =>
  h.then_ k ev hm x fun ws s vs φ2 G2 H2 hm2 s1 r1 => by
    split at hm2
    · rename_i w
      split at hm2
      · rename_i src l e1 e2
        cases hm2
        obtain ⟨v, rfl, r2⟩ := ra1 r1
        obtain ⟨a, rfl, h3, ⟨xs, h4⟩, h5⟩ := lst_src s1.ok r2 e1 e2
        refine ⟨a, xs, rfl, .inl (.inl h4), q _ _ φ2 G2 H2 rfl s1 fun φ3 st3 G3 H3 k3 p e c => ?_⟩
        obtain ⟨ys, h6, h7⟩ := h5 φ3 st3 G3 H3 k3 p e c
        refine ⟨fun i w hi => ?_, fun i hi => ⟨ys, .inl (.inl h6), by rw [ra_len h7]; simpa [enumW_len] using hi⟩⟩
        rw [enumW_get] at hi
        obtain ⟨u, hu, rfl⟩ := Option.map_eq_some_iff.mp hi
        obtain ⟨z, hz, rz⟩ := ra_get h7 hu
        refine ⟨⟨ys, z, .inl (.inl h6), hz⟩, fun y H' yy => ?_⟩
        obtain ⟨T, z2, rfl, hT, rfl, hall⟩ := yy
        have := hall ys (.inl (.inl h6))
        rw [hz] at this
        cases this
        have s3 := Step.new1 (o := .tup [.int (i : Nat), z]) k3 hT
        refine ⟨_, s3, .tup (k := true) upd_same (.cons ?_ (.cons (s3.rp rz) .nil))⟩
        rw [Nat.zero_add]
        exact .int _
      · cases hm2
    · cases hm2
def zipW : List W → List W → List W
  | a :: as, b :: bs => .tup true [a, b] :: zipW as bs
  | _, _ => []
theorem zipW_get : ∀ {as bs : List W} {i : Nat} {w : W}, (zipW as bs)[i]? = some w → ∃ a b, as[i]? = some a ∧ bs[i]? = some b ∧ w = .tup true [a, b]
  | [], _, i, w, h => by simp [zipW] at h
  | _ :: _, [], i, w, h => by simp [zipW] at h
  | a :: as, b :: bs, 0, w, h => by
    simp [zipW] at h
    exact ⟨a, b, rfl, rfl, h.symm⟩
  | a :: as, b :: bs, i + 1, w, h => by
    simp only [zipW, List.getElem?_cons_succ] at h ⊢
    exact zipW_get h
theorem zipW_len : ∀ {as bs : List W}, (zipW as bs).length = min as.length bs.length
  | [], _ => by simp [zipW]
  | _ :: _, [] => by simp [zipW]
  | a :: as, b :: bs => by simp [zipW, zipW_len, Nat.succ_min_succ]
def vZip (m : M (List W)) : M Src := fun ρ st => andR (m ρ st) fun ws s => match ws with
  | [w, u] => match srcOf w s, lstOf w s, srcOf u s, lstOf u s with
    | some src, some l, some src2, some l2 => some (.ok ⟨zipW l l2, src.cells ++ src2.cells⟩, s)
    | _, _, _, _ => none
  | _ => none
theorem sim_zip (h : SimA E tr mr) : SimI E (iZip K tr) (vZip mr) := fun σ ρ φ st G H r st' k ev hm Q q x =>
  h.then_ k ev hm x fun ws s vs φ2 G2 H2 hm2 s1 r1 => by
    split at hm2
    · rename_i w u
      split at hm2
      · rename_i src l src2 l2 e1 e2 e3 e4
        cases hm2
        obtain ⟨v, v2, rfl, r2, r3⟩ := ra2 r1
        obtain ⟨a, rfl, h3, ⟨xs, h4⟩, h5⟩ := lst_src s1.ok r2 e1 e2
        obtain ⟨b, rfl, h3b, ⟨xsb, h4b⟩, h5b⟩ := lst_src s1.ok r3 e3 e4
        refine ⟨a, b, xs, xsb, rfl, .inl (.inl h4), .inl (.inl h4b), q _ _ φ2 G2 H2 rfl s1 fun φ3 st3 G3 H3 k3 p e c => ?_⟩
        obtain ⟨ys, h6, h7⟩ := h5 φ3 st3 G3 H3 k3 p e fun z hz => c z (List.mem_append_left _ hz)
        obtain ⟨zs, h8, h9⟩ := h5b φ3 st3 G3 H3 k3 p e fun z hz => c z (List.mem_append_right _ hz)
        refine ⟨fun i w hi => ?_, fun i hi => ⟨ys, zs, .inl (.inl h6), .inl (.inl h8), by
          rw [ra_len h7, ra_len h9]
          have hi : (zipW l l2).length ≤ i := hi
          rw [zipW_len] at hi
          omega⟩⟩
        obtain ⟨a1, b1, ha1, hb1, rfl⟩ := zipW_get hi
        obtain ⟨z1, hz1, rz1⟩ := ra_get h7 ha1
        obtain ⟨z2, hz2, rz2⟩ := ra_get h9 hb1
        refine ⟨⟨ys, zs, z1, z2, .inl (.inl h6), .inl (.inl h8), hz1, hz2⟩, fun y H' yy => ?_⟩
        obtain ⟨T, y1, y2, rfl, hT, rfl, hall1, hall2⟩ := yy
        have e5 := hall1 ys (.inl (.inl h6))
        rw [hz1] at e5
        cases e5
        have e6 := hall2 zs (.inl (.inl h8))
        rw [hz2] at e6
        cases e6
        have s3 := Step.new1 (o := .tup [z1, z2]) k3 hT
        exact ⟨_, s3, .tup (k := true) upd_same (.cons (s3.rp rz1) (.cons (s3.rp rz2) .nil))⟩
      · cases hm2
    · cases hm2
/-! ### f(a, k=b) -/
def vCallK (p : Bool) (i j n : Nat) (mf : MF) (g : List W → List W → List W) (m mk : M (List W)) : M W := fun ρ st => andR (m ρ st) fun ws s => andR (mk ρ s) fun us s2 => if ws.length = i ∧ us.length = j then callF p n mf (g ws us) s2 else none
def KwC (gV : List V → List V → List V) (gW : List W → List W → List W) (i j : Nat) : Prop := ∀ (φ : List Addr) (G : Hp) (vs zs : List V) (ws us : List W), RpAll φ G vs ws → RpAll φ G zs us → ws.length = i → us.length = j → RpAll φ G (gV vs zs) (gW ws us)
theorem sim_callK {p : Bool} {n i j : Nat} {mf : MF} {E' : XK} {gV : List V → List V → List V} {gW : List W → List W → List W} (hE : ∀ σ cls od H, E σ cls od H → E' cls od H) (hg : KwC gV gW i j) (h : SimA E tr mr) (hk : SimA E tk mk) :
    SimE E (tCallK (spV n mf) gV E' tr tk) (vCallK p i j n mf gW mr mk) := fun σ ρ φ st G H r st' k ev hm Q q x =>
  h.then_ k ev hm x fun ws s vs φ2 G2 H2 hm2 s1 r1 => hk.then_ s1.ok (ev.mono s1) hm2 (fun e cls od φ3 G3 H3 he s2 xa => x e cls od φ3 G3 H3 he (s1.trans s2) xa) fun us s' zs φ3 G3 H3 hm3 s2 r2 => by
    split at hm3
    · rename_i hl
      exact sp_use s2.ok (hg φ3 G3 vs zs ws us (s2.ra r1) r2 hl.1 hl.2) hm3 (fun w v φ4 G4 H4 e s3 r3 => q w v φ4 G4 H4 e ((s1.trans s2).trans s3) r3) fun e cls od φ4 G4 H4 he s3 xa => hE σ _ _ _ (x e cls od φ4 G4 H4 he ((s1.trans s2).trans s3) xa)
    · cases hm3
/-- f(a), the rest by defaults -/
def vCallD (p : Bool) (n : Nat) (mf : MF) (dws : List W) (m : M (List W)) : M W := fun ρ st => andR (m ρ st) fun ws s => callF p n mf (ws ++ dws) s
theorem sim_callD {p : Bool} {n : Nat} {mf : MF} {E' : XK} {dvs : List V} {dws : List W} (hE : ∀ σ cls od H, E σ cls od H → E' cls od H) (hd : ∀ φ G, RpAll φ G dvs dws) (h : SimA E tr mr) : SimE E (tCall (spV n mf) dvs E' tr) (vCallD p n mf dws mr) := fun σ ρ φ st G H r st' k ev hm Q q x =>
  h.then_ k ev hm x fun ws s vs φ2 G2 H2 hm2 s1 r1 => sp_use s1.ok (ra_app r1 (hd _ _)) hm2 (fun w v φ3 G3 H3 e s2 r2 => q w v φ3 G3 H3 e (s1.trans s2) r2) fun e cls od φ3 G3 H3 he s2 xa => hE σ _ _ _ (x e cls od φ3 G3 H3 he (s1.trans s2) xa)
end
/-! ### dict comprehensions -/
open Classical in
noncomputable def dcL (src : Src) (g : VG) (t : M Bool) (ek ev : M W) (ρ : Env) : List W → List (Ky × W) → Sto → Option (List (Ky × W) × Sto)
  | [], acc, st => if src.Ok st then some (acc, st) else none
  | w :: ws, acc, st => if src.Ok st then (match g w ρ st with
      | some (ρ1, s1) => match t ρ1 s1 with
        | some (.ok true, s2) => match ek ρ1 s2 with
          | some (.ok y, s3) => match ev ρ1 s3 with
            | some (.ok z, s4) => match keyW false y with
              | some ky => if acc.length < LIM then dcL src g t ek ev ρ ws (kvPut acc ky z) s4 else none
              | none => none
            | _ => none
          | _ => none
        | some (.ok false, s2) => dcL src g t ek ev ρ ws acc s2
        | _ => none
      | none => none) else none
noncomputable def vDc (vs : List Nat) (mi : M Src) (g : VG) (t : M Bool) (ek ev : M W) : M W := fun ρ st => andR (mi ρ st) fun src s => (dcL src g t ek ev (wipeV ρ vs) src.items [] s).map fun p => fin true (.nd false p.1) p.2
section
variable {E : L2.St → XK} {wi : TI} {mi : M Src} {g : TG} {mg : VG} {vs : List Nat} {tt : TT} {mt : M Bool} {tk tv : TE} {mk mv : M W}
theorem sim_dc (hi : SimI E wi mi) (hg : SimG vs g mg) (ht : SimT EF tt mt) (hk : SimE EF tk mk) (hv : SimE EF tv mv) : SimE E (tDc wi g tt tk tv vs) (vDc vs mi mg mt mk mv) := fun σ ρ φ st G H r st' k ev hm Q q x =>
  hi.then_ k ev hm x fun src s J φ1 G1 H1 hm1 s1 w1 => by
    obtain ⟨⟨acc, s'⟩, hl, hf⟩ := Option.map_eq_some_iff.mp hm1
    intro D hD
    have ev0 := (ev.mono s1).wipe vs
    refine ⟨fun i n H' => ∃ φ' s2 G' xs ws, Cm φ1 s G1 H1 D φ' s2 G' H' (.dK xs) ∧ KvR kyK φ' G' xs ws ∧ dcL src mg mt mk mv (wipeV ρ vs) (src.items.drop i) ws s2 = some (acc, s') ∧ i ≤ src.items.length ∧ n = src.items.length - i,
      ⟨src.items.length, φ1, s, G1, [], [], Cm.new s1.ok hD, .nil, by rw [List.drop_zero]; exact hl, Nat.zero_le _, by simp⟩, ?_⟩
    rintro i n H' ⟨φ', s2, G', xs, ws, cm, ra, hf2, hle, hn⟩
    cases hd : src.items.drop i with
    | nil =>
      rw [hd] at hf2
      unfold dcL at hf2
      split at hf2
      · rename_i hok
        cases hf2
        refine .inl ⟨(w1 φ' _ G' H' cm.s.ok cm.s.pre cm.s.g hok).2 i (by have := congrArg List.length hd; simp at this; omega), ?_⟩
        cases hf
        have a := Step.adoptC (c := .d false acc) cm.s hD cm.g cm.f ⟨_, ⟨xs, cm.d, ra.keys, rfl⟩, ra.vals⟩
        exact q _ _ _ _ _ rfl (s1.trans a) (.ref (by rw [← cm.s.ok.len]; simp))
      · cases hf2
    | cons w wr =>
      rw [hd] at hf2
      have hlt : i < src.items.length := by
        have := congrArg List.length hd
        simp at this
        omega
      have hw : src.items[i]? = some w := by
        have := congrArg List.head? hd
        rw [List.head?_drop] at this
        simpa using this
      have hd1 : src.items.drop (i + 1) = wr := by
        have := congrArg List.tail hd
        rw [List.tail_drop] at this
        simpa using this
      unfold dcL at hf2
      split at hf2
      · rename_i hok
        cases eg1 : mg w (wipeV ρ vs) s2 with
        | none =>
          rw [eg1] at hf2
          cases hf2
        | some q1 =>
          obtain ⟨ρ1, s3⟩ := q1
          rw [eg1] at hf2
          dsimp only at hf2
          obtain ⟨hgo, hy⟩ := (w1 φ' s2 G' H' cm.s.ok cm.s.pre cm.s.g hok).1 i w hw
          refine .inr ⟨hgo, fun H3 => ∃ φ3 s3 G3 xs ws, Cm φ1 s G1 H1 D φ3 s3 G3 H3 (.dK xs) ∧ KvR kyK φ3 G3 xs ws ∧ dcL src mg mt mk mv (wipeV ρ vs) (src.items.drop (i + 1)) ws s3 = some (acc, s') ∧ i + 1 ≤ src.items.length,
            fun H3 ⟨φ3, s3, G3, xs, ws, a1, a2, a3, a4⟩ => ⟨src.items.length - (i + 1), by omega, φ3, s3, G3, xs, ws, a1, a2, a3, a4, rfl⟩, fun x2 H2 y => ?_⟩
          obtain ⟨G2, t2, r2⟩ := hy x2 H2 y
          have cm2 := cm.step t2
          have kmono : ∀ {φa φb : List Addr} {Ga Gb : Hp} {l : List (Key × V)} {l' : List (Ky × W)}, φa <+: φb → Ex Ga Gb → KvR kyK φa Ga l l' → KvR kyK φb Gb l l' := fun p e h => by
            induction h with
            | nil => exact .nil
            | cons r _ ih => exact .cons (rp_mono p e r) ih
          refine hg (L2.wipe σ vs) (wipeV ρ vs) φ' s2 G2 H2 x2 w ρ1 s3 t2.ok (ev0.mono cm2.s) r2 eg1 _ fun σ4 φ4 G4 H4 t4 ev4 off => ⟨wipe_off off, ?_⟩
          have cm4 := cm2.step t4
          have ra4 := kmono t4.pre t4.g (kmono t2.pre t2.g ra)
          cases et : mt ρ1 s3 with
          | none =>
            rw [et] at hf2
            cases hf2
          | some q5 =>
            obtain ⟨q5, s5⟩ := q5
            rw [et] at hf2
            refine ht σ4 ρ1 φ4 s3 G4 H4 q5 s5 t4.ok ev4 et _ (fun b b' φ5 G5 H5 eb t5 r5 => ?_) (fun e' cls od φ5 G5 H5 eb _ _ => ?_)
            · subst eb
              subst r5
              have cm5 := cm4.step t5
              have ra5 := kmono t5.pre t5.g ra4
              cases b' with
              | true =>
                dsimp only at hf2
                refine iteT ?_
                cases ee : mk ρ1 s5 with
                | none =>
                  rw [ee] at hf2
                  cases hf2
                | some q6 =>
                  obtain ⟨q6, s6⟩ := q6
                  rw [ee] at hf2
                  refine hk σ4 ρ1 φ5 s5 G5 H5 q6 s6 t5.ok (ev4.mono t5) ee _ (fun a b φ6 G6 H6 eb t6 r6 => ?_) (fun e' cls od φ5 G5 H5 eb _ _ => ?_)
                  · subst eb
                    dsimp only at hf2
                    have cm6 := cm5.step t6
                    have ra6 := kmono t6.pre t6.g ra5
                    cases ee2 : mv ρ1 s6 with
                    | none =>
                      rw [ee2] at hf2
                      cases hf2
                    | some q7 =>
                      obtain ⟨q7, s7⟩ := q7
                      rw [ee2] at hf2
                      refine hv σ4 ρ1 φ6 s6 G6 H6 q7 s7 t6.ok ((ev4.mono t5).mono t6) ee2 _ (fun a2 b2 φ7 G7 H7 eb t7 r7 => ?_) (fun e' cls od φ5 G5 H5 eb _ _ => ?_)
                      · subst eb
                        dsimp only at hf2
                        cases ek : keyW false a with
                        | none =>
                          rw [ek] at hf2
                          cases hf2
                        | some ky =>
                          rw [ek] at hf2
                          dsimp only at hf2
                          split at hf2
                          · rename_i hz
                            have cm7 := cm6.step t7
                            have ra7 := kmono t7.pre t7.g ra6
                            have hk2 := key_rd t6.ok r6 ek
                            rw [if_neg Bool.false_ne_true] at hk2
                            obtain ⟨key, rfl, rfl⟩ := hk2
                            exact ⟨xs, key, rfl, cm7.d, Nat.lt_of_lt_of_le (by rw [ra.len]; exact hz) (sz_le (Nat.le_refl _)), φ7, s7, G7, _, kvPut ws (kyK key) a2, cm7.put hD, ra7.put kyK_inj key r7, by rw [hd1]; exact hf2, hlt⟩
                          · cases hf2
                      · subst eb
                        cases hf2
                  · subst eb
                    cases hf2
              | false =>
                dsimp only at hf2
                exact iteF ⟨φ5, s5, G5, xs, ws, cm5, ra5, by rw [hd1]; exact hf2, hlt⟩
            · subst eb
              cases hf2
      · cases hf2
end
end VS

namespace VS
open PySem PySem.Spec PyProof.Rows L2 Evl
open TL (tl len_tl ext_tl tl_append tl_mk mk_tl)
abbrev XT : XK := fun _ _ _ => True
abbrev XF : XK := fun _ _ _ => False
theorem passT {X : Cx} {E : XK} : Passes CX0 X E := fun _ _ _ _ _ _ _ h => h.elim
theorem passF {X : Cx} : Passes (L2.CX X.prog X.w) X XF := fun _ _ _ _ _ _ _ h => by
  obtain ⟨_, _, _, _, _, _, _, _, _, _, _, _, h⟩ := h
  exact h.elim
theorem hu65 {A : Around} {k : Nat} (hr : Room k A) : A.units + 65 < cLine := by
  have := hr.un
  omega
theorem k_rev {X : Cx} (K : PySem.W.Frag) (hK : X.K = K) {e : Expr} {te : TE} {k : Nat} {p1 p2 p3 pos : Pos} (he : PE X e te) : PE X (.Subscript e (.Slice none none (some (.UnaryOp .USub (.Constant (.int 1) k p1) p2)) p3) pos) (tRevL K te) := hK ▸ pe_revL he
theorem k_zip {X : Cx} (K : PySem.W.Frag) (hK : X.K = K) {e e2 : Expr} {ta : TA} {p pos tpos : Pos} {elts : List Expr} {kk : Nat} (hg : Gl X "zip") (hm : X.mg "zip" = none) (ha : PA X [e, e2] ta)
    (hs : starEach [e, e2] X.env = (false, eval e X.env) :: starEach [e2] X.env := by rfl) (hpl : (backTo pos (starEach [e2] X.env)).any (·.1) = false := by rfl) : PI X (.Tuple elts kk tpos) (.Call (.Name "zip" p) [e, e2] [] pos) (iZip K ta) := hK ▸ pi_zip hg hm ha hs hpl
def fNeg (a : W) (_ : Sto) : Option Fr := match a with
  | .int i => some (.val (.int (-i)))
  | _ => none
def vRev (c : Bool) (m : M W) : M W := fun ρ st => andR (m ρ st) fun w s => finO c ((lstOf w s).map fun ws => .nl ws.reverse) s
def vLIx (a b : M W) : M W := fun ρ st => andR (a ρ st) fun x s => match lstOf x s with
  | some _ => andR (b ρ s) fun y s2 => match lstOf x s2 with
    | some ws => if y.flat = true ∧ ws.all W.flat = true then (fstW y ws).map fun j => (.ok (.int (j : Nat)), s2) else none
    | none => none
  | none => none
def fIntS (ws : List W) (_ : Sto) : Option Fr := match ws with
  | [.str a] => if a.length ≤ 640 then (PySem.intText? a).map fun n => .val (.int n) else none
  | _ => none
section
variable {K : PySem.W.Frag} {E : L2.St → XK} {ta te tb td ty tz : TE} {ma me mb md my mz : M W} {tr tk : TA} {mr mk : M (List W)} {φ : List Addr} {st : Sto} {G H : Hp} {C : Addr} {c : Bool}
theorem o_neg : Op1 (rU fun i => .int (-i)) fNeg := fun φ st G H v w fr k r hf Q p => by
  unfold fNeg at hf
  split at hf
  · cases hf
    exact ⟨_, rp_int r, p _ (.int _)⟩
  · cases hf
theorem sim_rev (h : SimE E te me) : SimE E (tRevL K te) (vRev c me) := fun σ ρ φ st G H r st' k ev hm Q q x =>
  h.then_ k ev hm x fun w s v φ2 G2 H2 hm2 s1 r1 => by
    obtain ⟨fr, e1, p⟩ := finO_post (Q := Q) s1.ok hm2 fun w' v' φ4 G4 H4 e s3 r3 => q w' v' φ4 G4 H4 e (s1.trans s3) r3
    obtain ⟨ws, e2, rfl⟩ := Option.map_eq_some_iff.mp e1
    obtain ⟨a, xs, rfl, h1, h2⟩ := lst_rd s1.ok r1 e2
    exact ⟨a, xs, rfl, .inl (.inl h1), fun b hb => p b _ hb (ra_rev h2)⟩
theorem sim_lix (ha : SimE E ta ma) (hb : SimE E tb mb) : SimE E (tBM K "list" (rIndex K) ta (tCons tb tNil)) (vLIx ma mb) := fun σ ρ φ st G H rr st' k ev hm Q q x =>
  ha.then_ k ev hm x fun w s v φ2 G2 H2 hm2 s1 r1 => by
    split at hm2
    · rename_i e0
      obtain ⟨a, xs, rfl, h1, h2⟩ := lst_rd s1.ok r1 e0
      refine ⟨.inl ⟨rfl, xs, .inl (.inl h1)⟩, hb.then_ s1.ok (ev.mono s1) hm2 (fun e cls od φ3 G3 H3 he s2 xa => x e cls od φ3 G3 H3 he (s1.trans s2) xa) fun y s' u φ3 G3 H3 hm3 s2 r2 => ?_⟩
      split at hm3
      · rename_i ws e4
        split at hm3
        · rename_i hf
          obtain ⟨j, e, z⟩ := Option.map_eq_some_iff.mp hm3
          cases z
          obtain ⟨a', ys, e5, h3, h4⟩ := lst_rd s2.ok (s2.rp r1) e4
          cases e5
          obtain ⟨rfl, f1⟩ := flat_rp r2 hf.1
          obtain ⟨rfl, f2⟩ := flat_ra h4 hf.2
          obtain ⟨⟨z, h5, h6⟩, h7⟩ := fstW_at e
          exact ⟨a, _, y.v, j, z, rfl, rfl, .inl (.inl h3), f1, f2, h5, h6, h7, q _ _ φ3 G3 H3 rfl (s1.trans s2) (.int _)⟩
        · cases hm3
      · cases hm3
    · cases hm2
theorem o_intS : OpN Fw.rIntS fIntS := fun φ st G H vs ws fr k r hf Q p => by
  unfold fIntS at hf
  split at hf
  · split at hf
    · rename_i hl
      obtain ⟨n, e, rfl⟩ := Option.map_eq_some_iff.mp hf
      obtain ⟨v, rfl, h1⟩ := ra1 r
      cases h1
      exact ⟨_, n, rfl, e, hl, p _ (.int _)⟩
    · cases hf
  · cases hf
theorem kwR_app {j : Nat} : KwR (fun us ws => us ++ ws) (fun us ws => us ++ ws) 0 j := fun φ G v vs zs ws us r1 r2 h1 h2 => by
  cases r1 with
  | nil => exact ⟨zs, rfl, r2⟩
  | cons _ _ => cases h1
theorem sim_neverF : SimS E Fw.tNever vNever := fun σ ρ φ st G H r st' k ev hm D p => by cases hm
/-- list(range(..)), tuple(range(..)) -/
def rgW (a b : Int) : List W := (List.range (b - a).toNat).map fun i => .int (a + (i : Nat))
theorem ra_rg (a b : Int) : RpAll φ G (rgV a b) (rgW a b) := by
  unfold rgV rgW
  induction List.range (b - a).toNat with
  | nil => exact .nil
  | cons i l ih => exact .cons (.int _) ih
def rgB (a b : Int) : Bool := decide (-100000 ≤ a ∧ a ≤ 100000 ∧ -100000 ≤ b ∧ b ≤ 100000)
theorem rgB_ok {a b : Int} (h : rgB a b = true) : RgOk a b := by
  have := of_decide_eq_true h
  refine ⟨?_, ?_, ?_, ?_, ?_⟩ <;> omega
def vLstRg1 (c : Bool) (m : M W) : M W := fun ρ st => andR (m ρ st) fun w s => match w with
  | .int n => if rgB 0 n = true then finO c (some (.nl (rgW 0 n))) s else none
  | _ => none
def vLstRg2 (c : Bool) (m n : M W) : M W := fun ρ st => andR (m ρ st) fun w s => andR (n ρ s) fun u s2 => match w, u with
  | .int i, .int j => if rgB i j = true then finO c (some (.nl (rgW i j))) s2 else none
  | _, _ => none
theorem sim_lstRg1 (h : SimE E ta ma) : SimE E (tLstRg (tRg1 ta)) (vLstRg1 c ma) := fun σ ρ φ st G H r st' k ev hm Q q x =>
  h.then_ k ev hm x fun w s v φ2 G2 H2 hm2 s1 r1 => by
    split at hm2
    · split at hm2
      · rename_i hb
        obtain ⟨fr, e1, p⟩ := finO_post (Q := Q) s1.ok hm2 fun w' v' φ4 G4 H4 e s3 r3 => q w' v' φ4 G4 H4 e (s1.trans s3) r3
        cases e1
        exact ⟨_, rp_int r1, rgB_ok hb, fun b hb => p b _ hb (ra_rg _ _)⟩
      · cases hm2
    · cases hm2
theorem sim_lstRg2 (h : SimE E ta ma) (h2 : SimE E tb mb) : SimE E (tLstRg (tRg2 ta tb)) (vLstRg2 c ma mb) := fun σ ρ φ st G H r st' k ev hm Q q x =>
  h.then_ k ev hm x fun w s v φ2 G2 H2 hm2 s1 r1 => h2.then_ s1.ok (ev.mono s1) hm2 (fun e cls od φ3 G3 H3 he s2 xa => x e cls od φ3 G3 H3 he (s1.trans s2) xa) fun u s' v2 φ3 G3 H3 hm3 s2 r2 => by
    split at hm3
    · split at hm3
      · rename_i hb
        obtain ⟨fr, e1, p⟩ := finO_post (Q := Q) s2.ok hm3 fun w' v' φ4 G4 H4 e s3 r3 => q w' v' φ4 G4 H4 e ((s1.trans s2).trans s3) r3
        cases e1
        exact ⟨_, _, rp_int r1, rp_int r2, rgB_ok hb, fun b hb => p b _ hb (ra_rg _ _)⟩
      · cases hm3
    · cases hm3
/-- a, b = x, y -/
def vPar (i j : Nat) (m : M (List W)) : S := fun ρ st => andS (m ρ st) ρ fun ws s => match ws with
  | [v, w] => some (.nx ((ρ.set i (some v)).set j (some w)), s)
  | _ => none
theorem sim_par {i j : Nat} (h : SimA E tr mr) : SimS E (tPar i j tr) (vPar i j mr) := fun σ ρ φ st G H r st' k ev hm D p =>
  h.thenS k ev hm p fun ws s vs φ2 G2 H2 hm2 s1 ev1 p1 r1 => by
    split at hm2
    · cases hm2
      obtain ⟨v, w, rfl, h1, h2⟩ := ra2 r1
      exact ⟨v, w, rfl, p1 φ2 G2 H2 _ (Step.refl s1.ok) ((ev1.set h1 i).set h2 j)⟩
    · cases hm2
end
end VS

namespace VS
open PySem PySem.Spec PyProof.Rows L2 Evl
open TL (tl len_tl ext_tl tl_append tl_mk mk_tl)
section
variable {K : PySem.W.Frag} {E : L2.St → XK} {ta te tb td ty tz : TE} {ma me mb md my mz : M W} {tr tk : TA} {mr mk : M (List W)} {φ : List Addr} {st : Sto} {G H : Hp} {C : Addr} {c : Bool}
/-! ### x op= e -/
def vAug (i : Nat) (f : W → W → Sto → Option Fr) (m : M W) : S := fun ρ st => match ρ[i]? with
  | some (some x) => andS (m ρ st) ρ fun w s => match finO false (f x w s) s with
    | some (.ok z, s2) => some (.nx (ρ.set i (some z)), s2)
    | _ => none
  | _ => none
def OpI (t : TIp) (f : W → W → Sto → Option Fr) : Prop := ∀ (φ : List Addr) (st : Sto) (G H : Hp) (v1 v2 : V) (w1 w2 : W) (fr : Fr), Ok φ st G H → Rp φ G v1 w1 → Rp φ G v2 w2 → f w1 w2 st = some fr → ∀ Q : VK, FrPost φ G H Q fr → t v1 v2 H Q
theorem sim_aug {i : Nat} {t : TIp} {f : W → W → Sto → Option Fr} (o : OpI t f) (h : SimE E te me) : SimS E (tAug i te t) (vAug i f me) := fun σ ρ φ st G H r st' k ev hm D p => by
  unfold vAug at hm
  split at hm
  · rename_i x e0
    obtain ⟨v, h1, h2⟩ := ev.2 i x e0
    refine ⟨v, h1, h.thenS k ev hm p fun w s u φ2 G2 H2 hm2 s1 ev1 p1 r1 => ?_⟩
    split at hm2
    · rename_i z s2 e1
      cases hm2
      obtain ⟨fr, e2, q⟩ := finO_post (Q := fun y H3 => D.nx (σ.set i (some y)) H3) s1.ok e1 fun w' v' φ4 G4 H4 e s3 r3 => by
        cases e
        exact p1 φ4 G4 H4 _ s3 ((ev1.mono s3).set r3 i)
      exact o φ2 s G2 H2 v u x w fr s1.ok (s1.rp h2) r1 e2 _ q
    · cases hm2
  · cases hm
theorem oi_add : OpI (ipI fun i j => i + j) (fI fun i j => some (.int (i + j))) := fun φ st G H v1 v2 w1 w2 fr k r1 r2 hf Q p => by
  unfold fI at hf
  split at hf
  · cases hf
    exact ⟨_, _, rp_int r1, rp_int r2, p _ (.int _)⟩
  · cases hf
theorem oi_sub : OpI (ipI fun i j => i - j) (fI fun i j => some (.int (i - j))) := fun φ st G H v1 v2 w1 w2 fr k r1 r2 hf Q p => by
  unfold fI at hf
  split at hf
  · cases hf
    exact ⟨_, _, rp_int r1, rp_int r2, p _ (.int _)⟩
  · cases hf
/-! ### list(dict) -/
def fListU (ws : List W) (st : Sto) : Option Fr := match ws with
  | [w] => match dctOf w st with
    | some (_, kvs) => some (.nl (kvs.map fun p => kyW p.1))
    | none => (seqOf w st).map .nl
  | _ => none
/-- list(..) of a list, a tuple, a dict -/
def rListDT : List V → Hp → VK → Prop := fun xs H Q => ∃ d kvs, xs = [V.ref d] ∧ Rd H d (.dT kvs) ∧ ∀ p bs, H p = none → IsKeys H kvs bs → Q (.ref p) (upd H p (.lst (bs.map V.ref)))
def rListV (K : PySem.W.Frag) : List V → Hp → VK → Prop := fun xs H Q => Fw.rListU K xs H Q ∨ rListD xs H Q ∨ rListDT xs H Q
theorem k_listV {X : Cx} (K : PySem.W.Frag) (hK : X.K = K) (hc : X.calm = true) : CallR X (.type "list") (rListV K) := by
  subst hK
  intro pins s σ H xs us Q I r h
  rcases h with h | h | h
  · exact Fw.c_list pins s σ H xs us Q I r h
  · exact call_list_dK hc pins s σ H xs us Q I r h
  · exact call_list_dT hc pins s σ H xs us Q I r h
theorem keys_K {l : List (Key × V)} {kvs : List (Ky × W)} (h : KvR kyK φ G l kvs) : RpAll φ G (l.map fun kv => kV kv.1) (kvs.map fun p => kyW p.1) := by
  induction h with
  | nil => exact .nil
  | cons r h ih =>
    rw [List.map_cons, List.map_cons, kyW_K]
    exact .cons (rp_key _) ih
def fListV (ws : List W) (st : Sto) : Option Fr := match ws with
  | [.ref n] => match st[n]? with
    | some (some (.d false kvs)) => some (.nl (kvs.map fun p => kyW p.1))
    | some (some (.l l)) => some (.nl l)
    | _ => none
  | _ => fList ws st
theorem o_listV : OpN (rListV K) fListV := fun φ st G H vs ws fr k r hf Q p => by
  unfold fListV at hf
  split at hf
  · rename_i n
    split at hf
    · rename_i kvs e
      cases hf
      obtain ⟨v, rfl, h1⟩ := ra1 r
      have hd : dctOf (.ref n) st = some (false, kvs) := by simp only [dctOf, e]
      cases h1 with
      | ref hn =>
        rename_i a
        obtain ⟨⟨xs, h3, h4⟩, _⟩ := k.cell n a _ hn e
        obtain ⟨l, h5, h6, h7⟩ := h3
        subst h7
        exact .inr (.inl ⟨a, l, rfl, h5, fun q hq => p q _ hq (keys_K (kvR_of h6 h4))⟩)
    · rename_i l e
      cases hf
      exact .inl (o_list φ st G H vs [.ref n] _ k r (by simp only [fList, seqOf_ref, lstOf_ref e, Option.map_some]) Q p)
    · cases hf
  · exact .inl (o_list φ st G H vs ws fr k r hf Q p)
/-! ### repr -/
def fRepr (ws : List W) (st : Sto) : Option Fr := match ws with
  | [w] => match w with
    | .tup _ _ | .lst _ | .ref _ => match pyOf st w with
      | some d => if SeqAt.shaped d = true ∧ d.showable = true ∧ d.shown.length ≤ LIM then some (.val (.str d.shown)) else none
      | none => none
    | _ => none
  | _ => none
theorem o_repr : OpN (Fw.rRepr K) fRepr := fun φ st G H vs ws fr k r hf Q p => by
  have key : ∀ {w : W} {v : V} {d : PyData}, Rp φ G v w → pyOf st w = some d → (∃ a, v = .ref a) → SeqAt.shaped d = true ∧ d.showable = true ∧ d.shown.length ≤ LIM → FrPost φ G H Q (.val (.str d.shown)) → Fw.rRepr K [v] H Q := fun {w v d} h1 h2 h3 h4 p => by
    obtain ⟨a, rfl⟩ := h3
    exact ⟨a, d, rfl, py_dp k 20 h1 h2, h4.1, h4.2.1, Nat.le_trans h4.2.2 (by decide), p _ (.str _)⟩
  unfold fRepr at hf
  split at hf
  · obtain ⟨v, rfl, h1⟩ := ra1 r
    split at hf
    all_goals first
      | (split at hf
         · split at hf
           · rename_i e hs
             cases hf
             refine key h1 e ?_ hs p
             cases h1 <;> exact ⟨_, rfl⟩
           · cases hf
         · cases hf)
      | cases hf
  · cases hf
end
/-! ### the law's first statement -/
def spLawV (K : PySem.W.Frag) : Sp := fun vs H Q _ => ∃ (a : Addr) (ns : List Int), vs = [.ref a] ∧ SqL K H a (ns.map V.int) ∧ ns.length ≤ 63 ∧ ∀ H', Q (.bl true) H'
def intsW (ns : List Int) : W := .lst (ns.map W.int)
theorem ra_intsW {φ : List Addr} {G : Hp} : ∀ ns : List Int, RpAll φ G (ns.map V.int) (ns.map W.int)
  | [] => .nil
  | n :: ns => .cons (.int n) (ra_intsW ns)
end VS
namespace VS
open PySem PySem.Spec PyProof.Rows L2 Evl
theorem hu80 {A : Around} {k : Nat} (hr : Room k A) : A.units + 80 < cLine := by
  have := hr.un
  omega
theorem k_repr {X : Cx} (K : PySem.W.Frag) (hK : X.K = K) (hg : X.A.guards = some []) (hu : X.A.units + 80 < cLine) : CallR X (.builtin "repr") (Fw.rRepr K) := hK ▸ Fw.call_reprD hg hu
end VS
namespace VS
open PySem PySem.Spec PyProof.Rows L2 Evl
/-! ### x = {k: v for ..} -/
theorem ps_setDc {X : Cx} {j : Nat} {z : Str} {pz : Pos} {kx vx tg iter : Expr} {ifs : List Expr} {scope : Scope} {own : List (Str × Nat)} {pos pst : Pos} {wi : TI} {g : TG} {tt : TT} {tk tv : TE}
    (calm : X.calm = true) (nodup : X.N.Nodup) (hz : X.N[j]? = some z) (hzl : X.env.scope.names.lookup z = some .local)
    (hsw : swapsWith (.DictComp kx vx [⟨tg, iter, ifs, 0⟩] scope pos) (some (.Name z pz)) pst.line X.env = pure true) (hi : PI X tg iter wi) (ok : BlkOk X.N X.env.scope scope own)
    (hg : ∀ (t : Shared) (Y : Hp) (B : Addr) (cl : List (Str × Addr)) (fp : List Addr), PG (X.blk t Y scope (compEnvC scope cl B X.env) fp) tg g)
    (ht : ∀ (t : Shared) (Y : Hp) (B : Addr) (cl : List (Str × Addr)) (fp : List Addr), PTs (X.blk t Y scope (compEnvC scope cl B X.env) fp) ifs tt)
    (hk : ∀ (t : Shared) (Y : Hp) (B : Addr) (cl : List (Str × Addr)) (fp : List Addr), PE (X.blk t Y scope (compEnvC scope cl B X.env) fp) kx tk)
    (hv : ∀ (t : Shared) (Y : Hp) (B : Addr) (cl : List (Str × Addr)) (fp : List Addr), PE (X.blk t Y scope (compEnvC scope cl B X.env) fp) vx tv)
    (hf : ∀ y, foldedSetIterable iter X.env y = pure y := by intro _; rfl) :
    PS X (.Assign [.Name z pz] (.DictComp kx vx [⟨tg, iter, ifs, 0⟩] scope pos) pst) (tAsg (tDc wi g tt tk tv (own.map (·.2))) (gName j)) := by
  constructor
  intro pins t τ Y D J hq
  rw [exec_Assign_Name_used _ _ _ _ hsw]
  refine wpAny_bind (wpAny_standAt (wpAny_bind ?_))
  show wpAny _ X.A (do let _ ← comprehension (.DictComp kx vx [⟨tg, iter, ifs, 0⟩] scope pos) scope X.env (firstIterPos [⟨tg, iter, ifs, 0⟩] pos) newDict false (eval iter X.env) (some (assign (.Name z pz) X.env))) _ _ t
  have hq2 : tDc wi g tt tk tv (own.map (·.2)) τ Y (fun y Y1 => gName j y τ Y1 D.nx) := hq
  refine wpAny_bind (thn (dc_core (Qf := fun _ t' => SP X pins D .next t') calm nodup J hi ok hg ht hk hv hf hq2 fun L B t' m Y' J' q hn f => ?_) fun _ t' hq => wpAny_pure (wpAny_pure hq))
  show wpAny _ _ (assign (.Name z pz) X.env (.ref L)) _ _ _
  refine wpAny_assign_Name (store_ok2 (v := V.ref L) J' nodup hz (.inl hzl) rfl (fun t2 J2 ⟨a, sb, ha⟩ => ?_) (.inr hzl))
  obtain ⟨u0, u1, u2, u3, u4, u5⟩ := f
  have ne : B ≠ a := by
    rcases ha with e | e
    · rw [e]
      exact u1
    · exact fun e2 => u4 z a e e2.symm
  exact ⟨m, hn.sameBut sb ne, fun h3 sb3 => ⟨_, Y', J2.turned (t' := t2.toks) (fun b o hb e => (sb3.2 b hb).trans e) u0 u1 u3 u4 u5, q⟩⟩
theorem sw_trueD {kx vx : Expr} {gs : List Comprehension} {scope : Scope} {pos pz : Pos} {z : Str} {l : Nat} {env : PySem.Env} (hk : env.scope.kind = .function) (hz : env.scope.names.lookup z = some .local) (hl : (pz.line == pos.line) = true)
    (ha : (scope.names.any fun (n, k) => n == z && (k == .local || k == .cell)) = false) : swapsWith (.DictComp kx vx gs scope pos) (some (.Name z pz)) l env = pure true := by
  have kz : env.kindOf z = some .local := hz
  have bk : env.blockKind = .function := by
    unfold PySem.Env.blockKind
    rw [hk]
    rfl
  simp only [swapsWith, bk, kz, ha, Expr.pos, hl]
  rfl
end VS
namespace VS
open PySem PySem.Spec PyProof.Rows L2 Evl
/-! ### behind a statement a name's value becomes immutable -/
def vThenFrz (i n : Nat) (m : S) : S := fun ρ st => match m ρ st with
  | some (.nx ρ', s) => match ρ'[i]? with
    | some (some w) => (frzN n w s).map fun p => (.nx (ρ'.set i (some p.1)), p.2)
    | _ => none
  | o => o
theorem EnvOk.put {φ : List Addr} {G : Hp} {σ : L2.St} {ρ : Env} (h : EnvOk φ G σ ρ) {i : Nat} {v : V} {w : W} (hs : σ[i]? = some (some v)) (r : Rp φ G v w) : EnvOk φ G σ (ρ.set i (some w)) := by
  refine ⟨by simp [h.1], fun j w' e => ?_⟩
  by_cases z : i = j
  · subst z
    have l : i < ρ.length := by
      rcases Nat.lt_or_ge i ρ.length with l | l
      · exact l
      · rw [List.getElem?_eq_none (by simpa using l)] at e
        cases e
    rw [List.getElem?_set_self l] at e
    cases e
    exact ⟨v, hs, r⟩
  · rw [List.getElem?_set_ne z] at e
    exact h.2 j w' e
theorem sim_thenFrz {E : L2.St → XK} {ts : TS} {ms : S} {i n : Nat} (h : SimS E ts ms) : SimS E ts (vThenFrz i n ms) := fun σ ρ φ st G H r st' k ev hm D p => by
  unfold vThenFrz at hm
  cases e : ms ρ st with
  | none =>
    rw [e] at hm
    cases hm
  | some q =>
    obtain ⟨q, s⟩ := q
    rw [e] at hm
    cases q with
    | nx ρ' =>
      refine h σ ρ φ st G H _ s k ev e D fun φ2 G2 H2 σ' s1 ev1 => ?_
      dsimp only at hm
      split at hm
      · rename_i w hw
        obtain ⟨⟨w', s'⟩, ef, z⟩ := Option.map_eq_some_iff.mp hm
        cases z
        obtain ⟨v, h1, h2⟩ := ev1.2 i w hw
        obtain ⟨G3, s2, r2⟩ := frz_ok n φ2 s G2 H2 v w w' s' s1.ok h2 ef
        exact p φ2 G3 H2 σ' (s1.trans s2) ((ev1.mono s2).put h1 r2)
      · cases hm
    | rt w =>
      cases hm
      exact h σ ρ φ st G H _ _ k ev e D p
    | bk w =>
      cases hm
      exact h σ ρ φ st G H _ _ k ev e D p
    | ct w =>
      cases hm
      exact h σ ρ φ st G H _ _ k ev e D p
    | ex w x =>
      cases hm
      exact h σ ρ φ st G H _ _ k ev e D p
end VS
namespace VS
open PySem PySem.Spec PyProof.Rows L2 Evl
theorem k_lix {X : Cx} (K : PySem.W.Frag) (hK : X.K = K) {o e : Expr} {to te : TE} {apos cpos : Pos} (ho : PE X o to) (he : PE X e te) (hbase : attributeBase o "index" X.env (eval o X.env) = eval o X.env := by rfl)
    (hfew : ((backTo cpos (starEach [e] X.env)).all (fun x => !x.1) && (backToKw cpos (keywordEach [] X.env)).all (fun x => x.1.isSome) && decide ([e].length + ([] : List Keyword).length + (if ([] : List Keyword).isEmpty then 0 else 1) < 30)) = true := by rfl)
    (hline : (apos.endLine == cpos.line) = true := by rfl) (hs : starEach [e] X.env = (false, eval e X.env) :: starEach [] X.env := by rfl) (hplain : (backTo cpos (starEach [] X.env)).any (·.1) = false := by rfl) :
    PE X (.Call (.Attribute o "index" apos) [e] [] cpos) (tBM K "list" (rIndex K) to (tCons te tNil)) := by
  subst hK
  exact pe_bm PySem.F.plainAttrs_list PySem.F.slot_list_index PySem.F.type_list_index mt_index ho (pa_cons he pa_nil (hs := hs)) hbase hfew hline hs hplain
end VS

/-! what the readings give: equations, loops -/
namespace VS
open PySem PySem.Spec PyProof.Rows L2 Evl
open TL (tl len_tl ext_tl tl_append tl_mk mk_tl)
section
variable {ρ : Env} {st : Sto}
@[simp] theorem e_var {i : Nat} : vVar i ρ st = (match ρ[i]? with
  | some (some w) => some (.ok w, st)
  | _ => none) := rfl
@[simp] theorem e_c {w : W} : vC w ρ st = some (.ok w, st) := rfl
@[simp] theorem e_nil : vNil ρ st = some (.ok [], st) := rfl
@[simp] theorem e_cons {a : M W} {r : M (List W)} : vCons a r ρ st = andR (a ρ st) fun w s => andR (r ρ s) fun ws s2 => some (.ok (w :: ws), s2) := rfl
@[simp] theorem e_op {c : Bool} {f : W → W → Sto → Option Fr} {a b : M W} : vOp c f a b ρ st = andR (a ρ st) fun x s => andR (b ρ s) fun y s2 => finO c (f x y s2) s2 := rfl
@[simp] theorem e_un {c : Bool} {f : W → Sto → Option Fr} {a : M W} : vUn c f a ρ st = andR (a ρ st) fun x s => finO c (f x s) s := rfl
@[simp] theorem e_cb {c : Bool} {f : List W → Sto → Option Fr} {a : M (List W)} : vCB c f a ρ st = andR (a ρ st) fun xs s => finO c (f xs s) s := rfl
@[simp] theorem e_tup {a : M (List W)} : vTup a ρ st = andR (a ρ st) fun ws s => if ws.length ≤ 100000 then some (.ok (.tup true ws), s) else none := by
  show andR _ _ = _
  congr 1
  funext ws s
  dsimp only
  split <;> rfl
@[simp] theorem e_tupF {a : M (List W)} : vTupF a ρ st = andR (a ρ st) fun ws s => if ws.length ≤ 100000 then some (.ok (.tup false ws), s) else none := by
  show andR _ _ = _
  congr 1
  funext ws s
  dsimp only
  split <;> rfl
@[simp] theorem e_lst {a : M (List W)} : vLst false a ρ st = andR (a ρ st) fun ws s => if ws.length ≤ 100000 then some (.ok (.lst ws), s) else none := by
  show andR _ _ = _
  congr 1
  funext ws s
  dsimp only
  split <;> rfl
@[simp] theorem e_lstC {a : M (List W)} : vLst true a ρ st = andR (a ρ st) fun ws s => if ws.length ≤ 100000 then some (.ok (.ref s.length), s ++ [some (.l ws)]) else none := by
  show andR _ _ = _
  congr 1
  funext ws s
  dsimp only
  split <;> rfl
@[simp] theorem e_b {m : M W} : vB m ρ st = andR (m ρ st) fun w s => (match w with
  | .bl b => some (.ok b, s)
  | _ => none) := rfl
@[simp] theorem e_and {a b : M Bool} : vAnd a b ρ st = andR (a ρ st) fun c s => if c = true then b ρ s else some (.ok false, s) := rfl
@[simp] theorem e_or {a b : M Bool} : vOr a b ρ st = andR (a ρ st) fun c s => if c = true then some (.ok true, s) else b ρ s := rfl
@[simp] theorem e_not {a : M Bool} : vNot a ρ st = andR (a ρ st) fun c s => some (.ok (!c), s) := rfl
@[simp] theorem e_andV {a b : M W} : vAndV a b ρ st = andR (a ρ st) fun w s => (match w with
  | .bl c => if c = true then b ρ s else some (.ok (.bl false), s)
  | _ => none) := rfl
@[simp] theorem e_orV {a b : M W} : vOrV a b ρ st = andR (a ρ st) fun w s => (match w with
  | .bl c => if c = true then some (.ok (.bl true), s) else b ρ s
  | _ => none) := rfl
@[simp] theorem e_notV {a : M W} : vNotV a ρ st = andR (a ρ st) fun w s => (match w with
  | .bl c => some (.ok (.bl (!c)), s)
  | _ => none) := rfl
@[simp] theorem e_if {c : M Bool} {a b : M W} : vIf c a b ρ st = andR (c ρ st) fun c s => if c = true then a ρ s else b ρ s := rfl
@[simp] theorem e_chain {f f' : W → W → Sto → Option Fr} {a b c : M W} : vChain f f' a b c ρ st = andR (a ρ st) fun x s => andR (b ρ s) fun y s2 => (match f x y s2 with
  | some (.val (.bl k)) => if k = true then andR (c ρ s2) fun z s3 => finO false (f' y z s3) s3 else some (.ok (.bl false), s2)
  | _ => none) := rfl
@[simp] theorem e_tru {m : M W} : vTru m ρ st = andR (m ρ st) fun w s => (truW w s).map fun b => (.ok b, s) := rfl
@[simp] theorem e_yes : vYes ρ st = some (.ok true, st) := rfl
@[simp] theorem e_dget {d y : M W} : vDGet d y ρ st = andR (d ρ st) fun x s => andR (y ρ s) fun k s2 => (match dGetW x k s2 with
  | some (some w) => some (.ok w, s2)
  | _ => none) := rfl
@[simp] theorem e_din {neg : Bool} {y d : M W} : vDIn neg y d ρ st = andR (y ρ st) fun k s => andR (d ρ s) fun x s2 => (dGetW x k s2).map fun o => (.ok (.bl (if neg then !o.isSome else o.isSome)), s2) := rfl
@[simp] theorem e_fld {C : Addr} {f : Str} {m : M W} : vFld C f m ρ st = andR (m ρ st) fun w s => (fldW C f w s).map fun u => (.ok u, s) := rfl
@[simp] theorem e_call {p : Bool} {n : Nat} {mf : MF} {m : M (List W)} : vCall p n mf m ρ st = andR (m ρ st) fun ws s => callF p n mf ws s := rfl
@[simp] theorem e_callK {p : Bool} {i j n : Nat} {mf : MF} {g : List W → List W → List W} {m mk : M (List W)} : vCallK p i j n mf g m mk ρ st = andR (m ρ st) fun ws s => andR (mk ρ s) fun us s2 => if ws.length = i ∧ us.length = j then callF p n mf (g ws us) s2 else none := rfl
@[simp] theorem e_meth {p : Bool} {C : Addr} {m : Str} {n : Nat} {mf : MF} {a : M W} {r : M (List W)} : vMeth p C m n mf a r ρ st = andR (a ρ st) fun w s => (match objOf w s with
  | some (C', fs) => if C' = C ∧ fs.lookup m = none then andR (r ρ s) fun ws s2 => callF p n mf (w :: ws) s2 else none
  | none => none) := rfl
@[simp] theorem e_makeK {p : Bool} {C : Addr} {i j n : Nat} {mf : MF} {g : List W → List W → List W} {m mk : M (List W)} : vMakeK p C i j n mf g m mk ρ st = andR (m ρ st) fun ws s => andR (mk ρ s) fun us s2 => if ws.length = i ∧ us.length = j then makeF p C n mf (g ws us) s2 else none := rfl
@[simp] theorem e_noPart : vNoPart ρ st = some (.ok none, st) := rfl
@[simp] theorem e_part {m : M W} : vPart m ρ st = andR (m ρ st) fun w s => (match w with
  | .int i => some (.ok (some i), s)
  | _ => none) := rfl
@[simp] theorem e_sl {c : Bool} {a : M W} {lo hi : M (Option Int)} : vSl c a lo hi ρ st = andR (a ρ st) fun x s => andR (lo ρ s) fun l s2 => andR (hi ρ s2) fun h s3 => finO c (fSl x l h s3) s3 := rfl
@[simp] theorem e_rev {c : Bool} {m : M W} : vRev c m ρ st = andR (m ρ st) fun w s => finO c ((lstOf w s).map fun ws => .nl ws.reverse) s := rfl
@[simp] theorem e_m1 {c : Bool} {f : Str → W → Sto → Option Fr} {a b : M W} : vM1 c f a b ρ st = andR (a ρ st) fun x s => (match x with
  | .str z => andR (b ρ s) fun y s2 => finO c (f z y s2) s2
  | _ => none) := rfl
@[simp] theorem e_fmt {m : M W} : vFmt m ρ st = andR (m ρ st) fun x s => finO false (fFmt x s) s := rfl
@[simp] theorem e_j {ms : List (M W)} : vJ ms ρ st = andR (vJs ms Str.empty ρ st) fun x s => some (.ok (.str x), s) := rfl
@[simp] theorem e_js0 {acc : Str} : vJs [] acc ρ st = some (.ok acc, st) := rfl
@[simp] theorem e_js1 {m : M W} {ms : List (M W)} {acc : Str} : vJs (m :: ms) acc ρ st = andR (m ρ st) fun w s => (match w with
    | .str y => if (acc ++ y).length ≤ LIM then vJs ms (acc ++ y) ρ s else none
    | _ => none) := rfl
@[simp] theorem e_src {m : M W} : vSrc m ρ st = andR (m ρ st) fun w s => optR (srcOf w s) s := rfl
@[simp] theorem e_rng1 {m : M (List W)} : vRng1 m ρ st = andR (m ρ st) fun ws s => (match ws with
  | [.int j] => if -100000 ≤ j ∧ j ≤ 100000 then some (.ok (rngW 0 j), s) else none
  | _ => none) := rfl
@[simp] theorem e_rng2 {m : M (List W)} : vRng2 m ρ st = andR (m ρ st) fun ws s => (match ws with
  | [.int i, .int j] => if (-100000 ≤ i ∧ i ≤ 100000) ∧ -100000 ≤ j ∧ j ≤ 100000 then some (.ok (rngW i j), s) else none
  | _ => none) := rfl
@[simp] theorem e_strI {m : M W} : vStrI m ρ st = andR (m ρ st) fun w s => (match w with
  | .str x => some (.ok ⟨(tl x).map fun c => .str ⟨#[c]⟩, []⟩, s)
  | _ => none) := rfl
@[simp] theorem e_keys {m : M W} : vKeys m ρ st = andR (m ρ st) fun w s => (match w with
  | .dct _ kvs => some (.ok ⟨kvs.map fun p => kyW p.1, []⟩, s)
  | _ => none) := rfl
@[simp] theorem e_enum {m : M (List W)} : vEnum m ρ st = andR (m ρ st) fun ws s => (match ws with
  | [w] => match srcOf w s, lstOf w s with
    | some src, some l => some (.ok ⟨enumW 0 l, src.cells⟩, s)
    | _, _ => none
  | _ => none) := rfl
@[simp] theorem e_zip {m : M (List W)} : vZip m ρ st = andR (m ρ st) fun ws s => (match ws with
  | [w, u] => match srcOf w s, lstOf w s, srcOf u s, lstOf u s with
    | some src, some l, some src2, some l2 => some (.ok ⟨zipW l l2, src.cells ++ src2.cells⟩, s)
    | _, _, _, _ => none
  | _ => none) := rfl
@[simp] theorem e_tix {a b : M W} : vTIx a b ρ st = andR (a ρ st) fun x s => (match x with
  | .tup false ws => andR (b ρ s) fun y s2 => if y.flat = true ∧ ws.all W.flat = true then (fstW y ws).map fun j => (.ok (.int (j : Nat)), s2) else none
  | _ => none) := rfl
@[simp] theorem e_lix {a b : M W} : vLIx a b ρ st = andR (a ρ st) fun x s => (match lstOf x s with
  | some _ => andR (b ρ s) fun y s2 => match lstOf x s2 with
    | some ws => if y.flat = true ∧ ws.all W.flat = true then (fstW y ws).map fun j => (.ok (.int (j : Nat)), s2) else none
    | none => none
  | none => none) := rfl
@[simp] theorem e_mut {f : List W → Sto → List W → Option (W × List W)} {a : M W} {r : M (List W)} : vMut f a r ρ st = andR (a ρ st) fun x s => (match x with
  | .ref n => match lstOf (.ref n) s with
    | some _ => andR (r ρ s) fun xs s2 => wrL n s2 (f xs s2)
    | none => none
  | _ => none) := rfl
@[simp] theorem e_frz {n : Nat} {m : M W} : vFrz n m ρ st = andR (m ρ st) fun w s => (frzN n w s).map fun p => (.ok p.1, p.2) := rfl
@[simp] theorem e_lk {n : Nat} {m : M W} : vLk n m ρ st = andR (m ρ st) fun w s => (match w with
  | .ref i => match s[i]? with
    | some (some (.d t kvs)) => match frzVals (frzN n) kvs (s.set i none) with
      | some (kvs', s') => some (.ok (.dct t kvs'), s')
      | none => none
    | _ => none
  | _ => none) := rfl
@[simp] theorem e_dnew {t : Bool} : vDNew t ρ st = some (.ok (.ref st.length), st ++ [some (.d t [])]) := rfl
@[simp] theorem e_lstRg1 {c : Bool} {m : M W} : vLstRg1 c m ρ st = andR (m ρ st) fun w s => (match w with
  | .int n => if rgB 0 n = true then finO c (some (.nl (rgW 0 n))) s else none
  | _ => none) := rfl
@[simp] theorem e_lstRg2 {c : Bool} {m n : M W} : vLstRg2 c m n ρ st = andR (m ρ st) fun w s => andR (n ρ s) fun u s2 => (match w, u with
  | .int i, .int j => if rgB i j = true then finO c (some (.nl (rgW i j))) s2 else none
  | _, _ => none) := rfl
/-! statements -/
@[simp] theorem e_seq {a b : S} : vSeq a b ρ st = (match a ρ st with
  | some (.nx ρ', s) => b ρ' s
  | o => o) := rfl
@[simp] theorem e_next : vNext ρ st = some (.nx ρ, st) := rfl
@[simp] theorem e_never : vNever ρ st = none := rfl
@[simp] theorem e_break : vBreak ρ st = some (.bk ρ, st) := rfl
@[simp] theorem e_cont : vCont ρ st = some (.ct ρ, st) := rfl
@[simp] theorem e_expr {m : M W} : vExpr m ρ st = andS (m ρ st) ρ fun _ s => some (.nx ρ, s) := rfl
@[simp] theorem e_ret {m : M W} : vRet m ρ st = andS (m ρ st) ρ fun w s => some (.rt w, s) := rfl
@[simp] theorem e_retN : vRetN ρ st = some (.rt .non, st) := rfl
@[simp] theorem e_set {i : Nat} {m : M W} : vSet i m ρ st = andS (m ρ st) ρ fun w s => some (.nx (ρ.set i (some w)), s) := rfl
@[simp] theorem e_asg {m : M W} {g : VG} : vAsg m g ρ st = andS (m ρ st) ρ fun w s => (g w ρ s).map fun p => (.nx p.1, p.2) := rfl
@[simp] theorem e_ifS {c : M Bool} {a b : S} : vIfS c a b ρ st = andS (c ρ st) ρ fun c s => if c = true then a ρ s else b ρ s := rfl
@[simp] theorem e_par {i j : Nat} {m : M (List W)} : vPar i j m ρ st = andS (m ρ st) ρ fun ws s => (match ws with
  | [v, w] => some (.nx ((ρ.set i (some v)).set j (some w)), s)
  | _ => none) := rfl
@[simp] theorem e_for {mi : M Src} {g : VG} {b : S} : vFor mi g b ρ st = andS (mi ρ st) ρ fun src s => forL src g b src.items ρ s := rfl
@[simp] theorem e_dput {d y v : M W} : vDPut d y v ρ st = andS (v ρ st) ρ fun w s => andS (d ρ s) ρ fun x s2 => andS (y ρ s2) ρ fun kw s3 => (match x with
  | .ref n => match s3[n]? with
    | some (some (.d t kvs)) => match keyW t kw with
      | some ky => if kvs.length < LIM then some (.nx ρ, s3.set n (some (.d t (kvPut kvs ky w)))) else none
      | none => none
    | _ => none
  | _ => none) := rfl
@[simp] theorem e_setfld {C : Addr} {f : Str} {o v : M W} : vSetFld C f o v ρ st = andS (v ρ st) ρ fun w s => andS (o ρ s) ρ fun x s2 => (match x with
  | .ref n => match s2[n]? with
    | some (some (.o C' fs)) => if C' = C ∧ fs.length < 1000 then some (.nx ρ, s2.set n (some (.o C' (putW f w fs)))) else none
    | _ => none
  | _ => none) := rfl
@[simp] theorem e_thenFrz {i n : Nat} {m : S} : vThenFrz i n m ρ st = (match m ρ st with
  | some (.nx ρ', s) => (match ρ'[i]? with
    | some (some w) => (frzN n w s).map fun p => (.nx (ρ'.set i (some p.1)), p.2)
    | _ => none)
  | o => o) := rfl
@[simp] theorem e_lc {c : Bool} {vs : List Nat} {mi : M Src} {g : VG} {t : M Bool} {e : M W} : vLc c vs mi g t e ρ st = andR (mi ρ st) fun src s => (lcL src g t e (wipeV ρ vs) src.items [] s).map fun p => fin c (.nl p.1) p.2 := rfl
@[simp] theorem e_dc {vs : List Nat} {mi : M Src} {g : VG} {t : M Bool} {ek ev : M W} : vDc vs mi g t ek ev ρ st = andR (mi ρ st) fun src s => (dcL src g t ek ev (wipeV ρ vs) src.items [] s).map fun p => fin true (.nd false p.1) p.2 := rfl
@[simp] theorem e_gN {i : Nat} {w : W} : gN i w ρ st = some (ρ.set i (some w), st) := rfl
@[simp] theorem e_gsNil : gsNil [] ρ st = some (ρ, st) := rfl
@[simp] theorem e_gsCons {g : VG} {gs : VGs} {w : W} {r : List W} : gsCons g gs (w :: r) ρ st = (match g w ρ st with
    | some (ρ1, s1) => gs r ρ1 s1
    | none => none) := rfl
@[simp] theorem e_gT {n : Nat} {gs : VGs} {b : Bool} {ws : List W} : gT n gs (.tup b ws) ρ st = if ws.length = n then gs ws ρ st else none := rfl
@[simp] theorem wipeV_nil : wipeV ρ [] = ρ := rfl
@[simp] theorem wipeV_cons {v : Nat} {vs : List Nat} : wipeV ρ (v :: vs) = (wipeV ρ vs).set v none := rfl
@[simp] theorem fInt1_int {i : Int} : fInt1 [.int i] st = some (.val (.int i)) := rfl
@[simp] theorem fAdd_int {i j : Int} : fAdd (.int i) (.int j) st = some (.val (.int (i + j))) := rfl
theorem fAdd_str {x y : Str} (h : x.length + y.length ≤ LIM) : fAdd (.str x) (.str y) st = some (.val (.str (x ++ y))) := by
  show (if _ then _ else _) = _
  rw [if_pos h]
@[simp] theorem fI_int {g : Int → Int → Option W} {i j : Int} : fI g (.int i) (.int j) st = (g i j).map .val := rfl
@[simp] theorem gSub_e {i j : Int} : gSub i j = some (.int (i - j)) := rfl
@[simp] theorem gLt_e {i j : Int} : gLt i j = some (.bl (decide (i < j))) := rfl
@[simp] theorem gLe_e {i j : Int} : gLe i j = some (.bl (decide (i ≤ j))) := rfl
@[simp] theorem gGt_e {i j : Int} : gGt i j = some (.bl (decide (j < i))) := rfl
@[simp] theorem gGe_e {i j : Int} : gGe i j = some (.bl (decide (j ≤ i))) := rfl
theorem gMod_e {i j : Int} (h : 0 < j) : gMod i j = some (.int (i % j)) := by
  unfold gMod
  rw [if_pos h]
theorem gDiv_e {i j : Int} (h : 0 < j ∧ j < 1073741824) : gDiv i j = some (.int (i / j)) := by
  unfold gDiv
  rw [if_pos h]
theorem gMul_e {i j : Int} (h : (-(2 ^ 64) < i ∧ i < 2 ^ 64) ∨ (-(2 ^ 64) < j ∧ j < 2 ^ 64)) : gMul i j = some (.int (i * j)) := by
  unfold gMul
  rw [if_pos h]
@[simp] theorem fMin2_e {i j : Int} : fMin2 [.int i, .int j] st = some (.val (.int (if j < i then j else i))) := rfl
@[simp] theorem fMax2_e {i j : Int} : fMax2 [.int i, .int j] st = some (.val (.int (if j > i then j else i))) := rfl
/-- == of ints -/
@[simp] theorem fEq_int {neg : Bool} {i j : Int} : fEq neg (.int i) (.int j) st = some (.val (.bl (if neg then !decide (i = j) else decide (i = j)))) := by
  have e : PyData.eqv (.int i) (.int j) = decide (i = j) := by
    show (i == j) = _
    exact (Bool.beq_eq_decide_eq i j)
  unfold fEq
  simp only [pyOf, pyN, e]
  rfl
theorem callF_ok {n : Nat} {mf : MF} {ws : List W} {w : W} {s : Sto} (h : mf ws [] = some (.ok w, s)) (hl : ws.length = n) (hf : freeAll ws = true) (hw : w.free = true) : callF true n mf ws st = some (.ok w, st) := by
  unfold callF
  rw [if_pos hl, if_pos rfl, if_pos hf]
  unfold pure1
  rw [h]
  exact if_pos hw
end
/-! ### loops whose source stands still -/
theorem srcOk_nil {l : List W} {st : Sto} : Src.Ok ⟨l, []⟩ st := fun p hp => by cases hp
theorem forL_nil {l : List W} {g : VG} {b : S} {ρ : Env} {st : Sto} : forL ⟨l, []⟩ g b [] ρ st = some (.nx ρ, st) := by
  unfold forL
  exact if_pos srcOk_nil
theorem forL_cons {l : List W} {g : VG} {b : S} {w : W} {ws : List W} {ρ : Env} {st : Sto} : forL ⟨l, []⟩ g b (w :: ws) ρ st = (match g w ρ st with
      | some (ρ1, s1) => match b ρ1 s1 with
        | some (.nx ρ', s') => forL ⟨l, []⟩ g b ws ρ' s'
        | some (.ct ρ', s') => forL ⟨l, []⟩ g b ws ρ' s'
        | some (.bk ρ', s') => some (.nx ρ', s')
        | o => o
      | none => none) := by
  rw [forL]
  exact if_pos srcOk_nil
theorem lcL_nil {l : List W} {g : VG} {t : M Bool} {e : M W} {ρ : Env} {acc : List W} {st : Sto} : lcL ⟨l, []⟩ g t e ρ [] acc st = some (acc, st) := by
  unfold lcL
  exact if_pos srcOk_nil
theorem lcL_cons {l : List W} {g : VG} {t : M Bool} {e : M W} {ρ : Env} {w : W} {ws acc : List W} {st : Sto} : lcL ⟨l, []⟩ g t e ρ (w :: ws) acc st = (match g w ρ st with
      | some (ρ1, s1) => match t ρ1 s1 with
        | some (.ok true, s2) => match e ρ1 s2 with
          | some (.ok y, s3) => if acc.length < LIM then lcL ⟨l, []⟩ g t e ρ ws (acc ++ [y]) s3 else none
          | _ => none
        | some (.ok false, s2) => lcL ⟨l, []⟩ g t e ρ ws acc s2
        | _ => none
      | none => none) := by
  rw [lcL]
  exact if_pos srcOk_nil
theorem dcL_nil {l : List W} {g : VG} {t : M Bool} {ek ev : M W} {ρ : Env} {acc : List (Ky × W)} {st : Sto} : dcL ⟨l, []⟩ g t ek ev ρ [] acc st = some (acc, st) := by
  unfold dcL
  exact if_pos srcOk_nil
/-- a loop: the state behind what is done -/
theorem forL_run {α : Type} {f : α → W} {l : List W} {g : VG} {b : S} (P : List α → Env × Sto) (all : List α)
    (step : ∀ done a rest, all = done ++ a :: rest → ∃ ρ1 s1, g (f a) (P done).1 (P done).2 = some (ρ1, s1) ∧ (b ρ1 s1 = some (.nx (P (done ++ [a])).1, (P (done ++ [a])).2) ∨ b ρ1 s1 = some (.ct (P (done ++ [a])).1, (P (done ++ [a])).2))) :
    ∀ rest done, all = done ++ rest → forL ⟨l, []⟩ g b (rest.map f) (P done).1 (P done).2 = some (.nx (P all).1, (P all).2)
  | [], done, e => by
    rw [List.append_nil] at e
    subst e
    exact forL_nil
  | a :: rest, done, e => by
    obtain ⟨ρ1, s1, h1, h2⟩ := step done a rest e
    have ih := forL_run (f := f) (l := l) P all step rest (done ++ [a]) (by rw [e]; simp)
    rw [List.map_cons, forL_cons, h1]
    rcases h2 with h2 | h2 <;> (dsimp only; rw [h2]; exact ih)
/-- a comprehension -/
theorem lcL_run {α : Type} {f : α → W} {l : List W} {g : VG} {t : M Bool} {e : M W} {ρ : Env} {st : Sto} (c : α → Bool) (y : α → W) :
    ∀ (as : List α) (acc : List W), (∀ a ∈ as, ∃ ρ1, g (f a) ρ st = some (ρ1, st) ∧ t ρ1 st = some (.ok (c a), st) ∧ (c a = true → e ρ1 st = some (.ok (y a), st))) → acc.length + as.length ≤ LIM →
      lcL ⟨l, []⟩ g t e ρ (as.map f) acc st = some (acc ++ (as.filter c).map y, st)
  | [], acc, _, _ => by
    rw [List.map_nil, lcL_nil]
    simp
  | a :: as, acc, h, hl => by
    obtain ⟨ρ1, h1, h2, h3⟩ := h a List.mem_cons_self
    have hl' : acc.length + as.length + 1 ≤ LIM := by simpa [Nat.add_assoc] using hl
    rw [List.map_cons, lcL_cons, h1]
    dsimp only
    rw [h2]
    cases hc : c a with
    | true =>
      dsimp only
      rw [h3 hc]
      dsimp only
      rw [if_pos (by omega), lcL_run c y as (acc ++ [y a]) (fun b hb => h b (List.mem_cons_of_mem _ hb)) (by simp; omega), List.filter_cons_of_pos hc]
      simp
    | false =>
      dsimp only
      rw [lcL_run c y as acc (fun b hb => h b (List.mem_cons_of_mem _ hb)) (by omega), List.filter_cons_of_neg (by rw [hc]; exact Bool.false_ne_true)]
/-- without a test -/
theorem lcL_map {α : Type} {f : α → W} {l : List W} {g : VG} {e : M W} {ρ : Env} {st : Sto} (y : α → W) (as : List α) (h : ∀ a ∈ as, ∃ ρ1, g (f a) ρ st = some (ρ1, st) ∧ e ρ1 st = some (.ok (y a), st)) (hl : as.length ≤ LIM) :
    lcL ⟨l, []⟩ g vYes e ρ (as.map f) [] st = some (as.map y, st) := by
  have := lcL_run (f := f) (l := l) (g := g) (t := vYes) (e := e) (ρ := ρ) (st := st) (fun _ => true) y as [] (fun a ha => by
    obtain ⟨ρ1, h1, h2⟩ := h a ha
    exact ⟨ρ1, h1, rfl, fun _ => h2⟩) (by simpa using hl)
  rw [this, List.filter_eq_self.mpr (fun _ _ => rfl)]
  rfl
end VS

/-! lists of texts; data; a loop by what holds -/
namespace VS
open PySem PySem.Spec PyProof.Rows L2 Evl
open TL (tl len_tl ext_tl tl_append tl_mk mk_tl)
open Fw (fstAt fst_at fst_lt okS okD)
theorem eqS (a b : Str) : eqV (V.str a) (V.str b) = decide (a = b) := by
  show (a == b) = _
  exact Bool.beq_eq_decide_eq a b
def strW (ys : List Str) : List W := ys.map W.str
theorem strW_flat (ys : List Str) : (ys.map W.str).all W.flat = true := by
  induction ys with
  | nil => rfl
  | cons y ys ih => simp [W.flat, ih]
theorem inW_strs (x : Str) (ys : List Str) : inW (.str x) (ys.map W.str) = decide (x ∈ ys) := by
  unfold inW
  induction ys with
  | nil => rfl
  | cons y ys ih =>
    rw [List.map_cons, List.any_cons, ih]
    show (eqV (V.str y) (V.str x) || _) = _
    rw [eqS]
    by_cases h : x = y
    · subst h; simp
    · have h' : ¬ y = x := fun e => h e.symm
      simp [h, h']
theorem fIn_strs {neg : Bool} {x : Str} {w : W} {ys : List Str} {st : Sto} (h : lstOf w st = some (ys.map W.str)) : fIn neg (.str x) w st = some (.val (.bl (if neg then !decide (x ∈ ys) else decide (x ∈ ys)))) := by
  have hs : seqOf w st = some (ys.map W.str) := by
    cases w <;> first | exact h | (cases h)
  have hn : ∀ z, w ≠ .str z := fun z e => by
    subst e
    cases h
  unfold fIn
  split
  · exact absurd rfl (hn _)
  · rw [hs]
    dsimp only
    rw [if_pos ⟨rfl, strW_flat ys⟩, inW_strs]
theorem fstW_strs {x : Str} : ∀ {ys : List Str}, x ∈ ys → fstW (.str x) (ys.map W.str) = some (fstAt ys x)
  | [], h => by cases h
  | y :: ys, h => by
    rw [List.map_cons]
    unfold fstW fstAt
    show (if eqV (V.str y) (V.str x) = true then _ else _) = _
    rw [eqS]
    by_cases e : y = x
    · rw [if_pos (decide_eq_true e), if_pos e]
    · rw [if_neg (by simpa using e), if_neg e, fstW_strs ((List.mem_cons.mp h).elim (fun z => absurd z.symm e) id)]
      rfl
/-! ### the first of each -/
def putS (acc : List Str) (x : Str) : List Str := if x ∈ acc then acc else acc ++ [x]
def firsts (xs : List Str) : List Str := xs.foldl putS []
theorem firsts_snoc (xs : List Str) (x : Str) : firsts (xs ++ [x]) = putS (firsts xs) x := by
  unfold firsts
  rw [List.foldl_append]
  rfl
theorem putS_mem (acc : List Str) (x : Str) : x ∈ putS acc x := by
  unfold putS
  split
  · assumption
  · simp
theorem putS_pre (acc : List Str) (x : Str) : acc <+: putS acc x := by
  unfold putS
  split
  · exact List.prefix_rfl
  · exact List.prefix_append _ _
theorem fold_pre : ∀ (xs acc : List Str), acc <+: xs.foldl putS acc
  | [], acc => List.prefix_rfl
  | x :: xs, acc => (putS_pre acc x).trans (fold_pre xs _)
theorem firsts_pre (xs ys : List Str) : firsts xs <+: firsts (xs ++ ys) := by
  unfold firsts
  rw [List.foldl_append]
  exact fold_pre _ _
theorem mem_putS {acc : List Str} {x y : Str} (h : y ∈ putS acc x) : y ∈ acc ∨ y = x := by
  unfold putS at h
  split at h
  · exact .inl h
  · simpa using h
theorem fold_sub : ∀ (xs acc : List Str) (y : Str), y ∈ xs.foldl putS acc → y ∈ acc ∨ y ∈ xs
  | [], acc, y, h => .inl h
  | x :: xs, acc, y, h => by
    rcases fold_sub xs _ y h with h | h
    · rcases mem_putS h with h | h
      · exact .inl h
      · exact .inr (h ▸ List.mem_cons_self)
    · exact .inr (List.mem_cons_of_mem _ h)
theorem firsts_sub {xs : List Str} {y : Str} (h : y ∈ firsts xs) : y ∈ xs := by
  rcases fold_sub xs [] y h with h | h
  · cases h
  · exact h
theorem firsts_mem : ∀ {xs : List Str} {y : Str}, y ∈ xs → y ∈ firsts xs := fun {xs y} h => by
  obtain ⟨a, b, rfl⟩ := List.append_of_mem h
  have : a ++ y :: b = (a ++ [y]) ++ b := by simp
  rw [this]
  refine (firsts_pre _ b).subset ?_
  rw [firsts_snoc]
  exact putS_mem _ _
theorem putS_nodup {acc : List Str} {x : Str} (h : acc.Nodup) : (putS acc x).Nodup := by
  unfold putS
  split
  · exact h
  · rename_i hx
    refine List.nodup_append.mpr ⟨h, by simp, fun a ha b hb => ?_⟩
    rw [List.mem_singleton.mp hb]
    exact fun e => hx (e ▸ ha)
theorem fold_nodup : ∀ (xs acc : List Str), acc.Nodup → (xs.foldl putS acc).Nodup
  | [], acc, h => h
  | x :: xs, acc, h => fold_nodup xs _ (putS_nodup h)
theorem firsts_nodup (xs : List Str) : (firsts xs).Nodup := fold_nodup xs [] List.nodup_nil
theorem putS_len (acc : List Str) (x : Str) : (putS acc x).length ≤ acc.length + 1 := by
  unfold putS
  split <;> simp
theorem fold_len : ∀ (xs acc : List Str), (xs.foldl putS acc).length ≤ acc.length + xs.length
  | [], acc => Nat.le_refl _
  | x :: xs, acc => by
    have h1 := fold_len xs (putS acc x)
    have h2 := putS_len acc x
    simp only [List.foldl_cons, List.length_cons]
    omega
theorem firsts_len (xs : List Str) : (firsts xs).length ≤ xs.length := by
  have h := fold_len xs []
  rw [List.length_nil, Nat.zero_add] at h
  exact h
theorem fst_pre {xs ys : List Str} {x : Str} (p : xs <+: ys) (h : x ∈ xs) : fstAt ys x = fstAt xs x := by
  obtain ⟨t, rfl⟩ := p
  induction xs with
  | nil => cases h
  | cons y xs ih =>
    rw [List.cons_append]
    unfold fstAt
    by_cases e : y = x
    · rw [if_pos e, if_pos e]
    · rw [if_neg e, if_neg e, ih ((List.mem_cons.mp h).elim (fun z => absurd z.symm e) id)]
/-! ### loops by what holds -/
theorem forL_inv {α : Type} {f : α → W} {l : List W} {g : VG} {b : S} (I : List α → Env → Sto → Prop) (all : List α)
    (step : ∀ done a rest ρ st, all = done ++ a :: rest → I done ρ st → ∃ ρ1 s1, g (f a) ρ st = some (ρ1, s1) ∧ ∃ ρ2 s2, (b ρ1 s1 = some (.nx ρ2, s2) ∨ b ρ1 s1 = some (.ct ρ2, s2)) ∧ I (done ++ [a]) ρ2 s2) :
    ∀ rest done ρ st, all = done ++ rest → I done ρ st → ∃ ρ' st', forL ⟨l, []⟩ g b (rest.map f) ρ st = some (.nx ρ', st') ∧ I all ρ' st'
  | [], done, ρ, st, e, h => by
    rw [List.append_nil] at e
    subst e
    exact ⟨ρ, st, forL_nil, h⟩
  | a :: rest, done, ρ, st, e, h => by
    obtain ⟨ρ1, s1, h1, ρ2, s2, h2, h3⟩ := step done a rest ρ st e h
    obtain ⟨ρ', st', h4, h5⟩ := forL_inv (f := f) (l := l) I all step rest (done ++ [a]) ρ2 s2 (by rw [e]; simp) h3
    refine ⟨ρ', st', ?_, h5⟩
    rw [List.map_cons, forL_cons, h1]
    rcases h2 with h2 | h2 <;> (dsimp only; rw [h2]; exact h4)
theorem dcL_cons {l : List W} {g : VG} {t : M Bool} {ek ev : M W} {ρ ρ1 : Env} {w y z : W} {ws : List W} {acc : List (Ky × W)} {ky : Ky} {st : Sto} (h1 : g w ρ st = some (ρ1, st)) (h2 : t ρ1 st = some (.ok true, st)) (h3 : ek ρ1 st = some (.ok y, st)) (h4 : ev ρ1 st = some (.ok z, st)) (h5 : keyW false y = some ky) (h6 : acc.length < LIM) :
    dcL ⟨l, []⟩ g t ek ev ρ (w :: ws) acc st = dcL ⟨l, []⟩ g t ek ev ρ ws (kvPut acc ky z) st := by
  rw [dcL, if_pos srcOk_nil, h1]
  dsimp only
  rw [h2]
  dsimp only
  rw [h3]
  dsimp only
  rw [h4]
  dsimp only
  rw [h5]
  dsimp only
  rw [if_pos h6]
/-- keys that are texts -/
theorem dcL_run {α : Type} {f : α → W} {l : List W} {g : VG} {ek ev : M W} {ρ : Env} {st : Sto} (x : α → Str) (y : α → W) : ∀ (as : List α) (acc : List (Ky × W)), (∀ a ∈ as, ∃ ρ1, g (f a) ρ st = some (ρ1, st) ∧ ek ρ1 st = some (.ok (.str (x a)), st) ∧ ev ρ1 st = some (.ok (y a), st)) → acc.length + as.length ≤ LIM →
    dcL ⟨l, []⟩ g vYes ek ev ρ (as.map f) acc st = some (as.foldl (fun acc a => kvPut acc [.s (x a)] (y a)) acc, st)
  | [], acc, _, _ => dcL_nil
  | a :: as, acc, h, hl => by
    obtain ⟨ρ1, h1, h2, h3⟩ := h a List.mem_cons_self
    simp only [List.length_cons] at hl
    have hk : (kvPut acc [.s (x a)] (y a)).length ≤ acc.length + 1 := by
      unfold kvPut
      split <;> simp
    rw [List.map_cons, dcL_cons h1 rfl h2 h3 (ky := [.s (x a)]) rfl (by omega), dcL_run x y as _ (fun b hb => h b (List.mem_cons_of_mem _ hb)) (by omega)]
    rfl
theorem kvPut_new {acc : List (Ky × W)} {k : Ky} {w : W} (h : k ∉ acc.map fun p => p.1) : kvPut acc k w = acc ++ [(k, w)] := by
  unfold kvPut
  rw [if_neg]
  intro e
  obtain ⟨p, hp, hk⟩ := List.any_eq_true.mp e
  exact h (List.mem_map.mpr ⟨p, hp, of_decide_eq_true hk⟩)
/-- a dict whose values are all alike -/
theorem kvPut_same {xs : List Str} {x : Str} {w : W} : kvPut (xs.map fun y => (([Tk.s y] : Ky), w)) [.s x] w = (putS xs x).map fun y => (([Tk.s y] : Ky), w) := by
  unfold putS
  by_cases h : x ∈ xs
  · rw [if_pos h]
    unfold kvPut
    rw [if_pos (List.any_eq_true.mpr ⟨_, List.mem_map.mpr ⟨x, h, rfl⟩, by simp⟩), List.map_map]
    refine List.map_congr_left fun y _ => ?_
    show (if _ then _ else _) = _
    split <;> rfl
  · rw [if_neg h, kvPut_new (by simpa using h)]
    simp
theorem kv_same {α : Type} (x : α → Str) (w : W) : ∀ (as : List α) (xs : List Str), as.foldl (fun acc a => kvPut acc [.s (x a)] w) (xs.map fun y => (([Tk.s y] : Ky), w)) = ((as.map x).foldl putS xs).map fun y => (([Tk.s y] : Ky), w)
  | [], xs => rfl
  | a :: as, xs => by
    rw [List.foldl_cons, kvPut_same, kv_same x w as]
    rfl
/-- a dict with keys that are all different -/
theorem kv_nodup {α : Type} (x : α → Str) (y : α → W) : ∀ (as : List α) (acc : List (Ky × W)), (as.map x).Nodup → (∀ a ∈ as, ([Tk.s (x a)] : Ky) ∉ acc.map fun p => p.1) → as.foldl (fun acc a => kvPut acc [.s (x a)] (y a)) acc = acc ++ as.map fun a => (([Tk.s (x a)] : Ky), y a)
  | [], acc, _, _ => by simp
  | a :: as, acc, hn, h => by
    rw [List.map_cons, List.nodup_cons] at hn
    rw [List.foldl_cons, kvPut_new (h a List.mem_cons_self), kv_nodup x y as _ hn.2 fun b hb => ?_]
    · simp
    · rw [List.map_append, List.mem_append]
      rintro (z | z)
      · exact h b (List.mem_cons_of_mem _ hb) z
      · simp at z
        exact hn.1 (z ▸ List.mem_map_of_mem hb)
/-! ### data -/
theorem pyL_map {α : Type} {f : W → Option PyData} {g : α → W} {h : α → PyData} : ∀ (as : List α), (∀ a ∈ as, f (g a) = some (h a)) → pyL f (as.map g) = some (as.map h)
  | [], _ => rfl
  | a :: as, e => by
    show (match f (g a), pyL f (as.map g) with
      | some d, some ds => some (d :: ds)
      | _, _ => none) = _
    rw [e a List.mem_cons_self, pyL_map as fun b hb => e b (List.mem_cons_of_mem _ hb)]
    rfl
theorem fEq_data {neg : Bool} {a b : W} {d e : PyData} {st : Sto} (h1 : pyOf st a = some d) (h2 : pyOf st b = some e) (h3 : SeqAt.shaped d = true) (h4 : SeqAt.shaped e = true) : fEq neg a b st = some (.val (.bl (if neg then !PyData.eqv d e else PyData.eqv d e))) := by
  unfold fEq
  rw [h1, h2]
  exact if_pos ⟨h3, h4⟩
theorem tupT_len (ts : List Str) : (tupleText ts).length ≤ piled ts + 3 := by
  unfold tupleText
  rw [strLen_append, strLen_append]
  have e1 : (("(" : String) : Str).length = 1 := rfl
  have e3 : (((if ts.length == 1 then ",)" else ")" : String) : Str)).length ≤ 2 := by split <;> decide
  have e2 : (Str.join ", " ts).length ≤ piled ts := by
    cases ts with
    | nil => exact Nat.zero_le _
    | cons t ts =>
      have := join_length_add (t :: ts) (by simp)
      omega
  rw [e1]
  omega
theorem shownAll_map {α : Type} (f : α → PyData) : ∀ as : List α, PyData.shownAll (as.map f) = as.map fun a => (f a).shown
  | [] => by rw [List.map_nil, List.map_nil, PyData.shownAll]
  | a :: as => by rw [List.map_cons, List.map_cons, PyData.shownAll, shownAll_map f as]
theorem showAll {ds : List PyData} (h : ∀ d ∈ ds, d.showable = true) : PyData.showableAll ds = true := by
  induction ds with
  | nil => rw [PyData.showableAll]
  | cons d ds ih => rw [PyData.showableAll, h d List.mem_cons_self, ih fun e he => h e (List.mem_cons_of_mem _ he)]; rfl
theorem sum_leB {α : Type} {f : α → Nat} {c : Nat} : ∀ {as : List α}, (∀ a ∈ as, f a ≤ c) → (as.map f).sum ≤ as.length * c
  | [], _ => Nat.zero_le _
  | a :: as, h => by
    have h1 := h a List.mem_cons_self
    have h2 := sum_leB (f := f) (c := c) (as := as) fun b hb => h b (List.mem_cons_of_mem _ hb)
    rw [List.map_cons, List.sum_cons, List.length_cons, Nat.succ_mul]
    omega
theorem shown_list {α : Type} {f : α → PyData} {c : Nat} {as : List α} (h : ∀ a ∈ as, (f a).shown.length ≤ c) : (PyData.list (as.map f)).shown.length ≤ as.length * c + 2 * as.length + 3 := by
  rw [PyData.shown, shownAll_map]
  have h1 := listText_len_le (as.map fun a => (f a).shown)
  rw [List.map_map, List.length_map] at h1
  have h2 := sum_leB (f := fun a => (f a).shown.length) h
  have h3 : (as.map ((fun x : Str => x.length) ∘ fun a => (f a).shown)) = as.map fun a => (f a).shown.length := rfl
  rw [h3] at h1
  omega
theorem shown_strL {x : Str} (h : okS x) : (PyData.str x).shown.length ≤ 10 * x.length + 2 := by
  rw [PyData.shown]
  exact StrLaws.reprText_len x fun c hc => Nat.lt_trans (h c hc) (by decide)
theorem shown_two {x y : Str} (hx : okS x) (hy : okS y) : (PyData.tuple [.str x, .str y]).shown.length ≤ 10 * x.length + 10 * y.length + 11 := by
  rw [PyData.shown]
  have h1 := tupT_len (PyData.shownAll [.str x, .str y])
  have h2 := shown_strL hx
  have h3 := shown_strL hy
  simp only [PyData.shownAll, piled_cons, piled_nil] at h1 ⊢
  omega
/-! ### pairs of texts -/
def pW (p : Str × Str) : W := .tup true [.str p.1, .str p.2]
def rowW (r : List (Str × Str)) : W := .lst (r.map pW)
def pD (p : Str × Str) : PyData := .tuple [.str p.1, .str p.2]
def rowD (r : List (Str × Str)) : PyData := .list (r.map pD)
theorem rowW_py (n : Nat) (r : List (Str × Str)) (st : Sto) : pyN (n + 3) st (rowW r) = some (rowD r) := by
  show ((pyL (pyN (n + 2) st) (r.map pW)).map PyData.list) = _
  rw [pyL_map (h := pD) r fun a _ => rfl]
  rfl
theorem strsW_py (n : Nat) (ys : List Str) (st : Sto) : pyN (n + 2) st (.lst (ys.map W.str)) = some (.list (ys.map PyData.str)) := by
  show ((pyL (pyN (n + 1) st) (ys.map W.str)).map PyData.list) = _
  rw [pyL_map (h := PyData.str) ys fun a _ => rfl]
  rfl
theorem rowW_free (r : List (Str × Str)) : (rowW r).free = true := by
  unfold rowW
  rw [W.free]
  exact freeAll_iff.mpr fun w hw => by
    obtain ⟨p, _, rfl⟩ := List.mem_map.mp hw
    rfl
theorem strs_free (ys : List Str) : (W.lst (ys.map W.str)).free = true := by
  rw [W.free]
  exact freeAll_iff.mpr fun w hw => by
    obtain ⟨p, _, rfl⟩ := List.mem_map.mp hw
    rfl
def rowOkS (r : List (Str × Str)) : Prop := ∀ p ∈ r, okS p.1 ∧ okS p.2
theorem rowD_ok {r : List (Str × Str)} (h : rowOkS r) : okD 2 (rowD r) := by
  show ∀ d ∈ r.map pD, okD 1 d
  intro d hd
  obtain ⟨p, hp, rfl⟩ := List.mem_map.mp hd
  show ∀ d ∈ [PyData.str p.1, PyData.str p.2], okD 0 d
  intro d hd
  simp only [List.mem_cons, List.not_mem_nil, or_false] at hd
  rcases hd with rfl | rfl
  · exact (h p hp).1
  · exact (h p hp).2
theorem strsD_ok {ys : List Str} (h : ∀ y ∈ ys, okS y) : okD 1 (.list (ys.map PyData.str)) := by
  show ∀ d ∈ ys.map PyData.str, okD 0 d
  intro d hd
  obtain ⟨p, hp, rfl⟩ := List.mem_map.mp hd
  exact h p hp
theorem rowD_show (r : List (Str × Str)) : (rowD r).showable = true := by
  unfold rowD
  rw [PyData.showable]
  refine showAll fun d hd => ?_
  obtain ⟨p, _, rfl⟩ := List.mem_map.mp hd
  unfold pD
  rw [PyData.showable]
  exact showAll fun d hd => by
    simp only [List.mem_cons, List.not_mem_nil, or_false] at hd
    rcases hd with rfl | rfl <;> rw [PyData.showable]
theorem fRepr_row {r : List (Str × Str)} {st : Sto} (h : rowOkS r) (hl : ∀ p ∈ r, p.1.length ≤ 20 ∧ p.2.length ≤ 40) (hn : r.length ≤ 60) : fRepr [rowW r] st = some (.val (.str (rowD r).shown)) := by
  have h1 : (rowD r).shown.length ≤ LIM := by
    refine Nat.le_trans (shown_list (f := pD) (c := 611) fun p hp => ?_) ?_
    · have := shown_two (h p hp).1 (h p hp).2
      have := hl p hp
      unfold pD
      omega
    · have : LIM = 100000 := rfl
      omega
  show (match pyOf st (rowW r) with
    | some d => if SeqAt.shaped d = true ∧ d.showable = true ∧ d.shown.length ≤ LIM then some (Fr.val (.str d.shown)) else none
    | none => none) = _
  rw [show pyOf st (rowW r) = some (rowD r) from rowW_py 17 r st]
  dsimp only
  rw [if_pos ⟨(rowD_ok h).shaped (by decide), rowD_show r, h1⟩]
/-! ### names -/
def inT (c : Nat) (z : Str) : Bool := decide (c ∈ tl z)
def isNm (l : List Nat) : Bool := (decide (1 ≤ l.length) && decide (l.length ≤ 12)) && (match l with
  | [] => false
  | c :: _ => inT c "abcdefghijklmnopqrstuvwxyz") && l.all fun c => inT c "abcdefghijklmnopqrstuvwxyz0123456789"
theorem isi_str (x : Str) (st : Sto) : fIsi [.str x, .raw (.ty "str")] st = some (.val (.bl true)) := by
  have h : kitB "str" "str" = some true := by decide +kernel
  unfold fIsi
  simp [tyW, h]
theorem isi_bool (b : Bool) (st : Sto) : fIsi [.bl b, .raw (.ty "bool")] st = some (.val (.bl true)) := by
  have h : kitB "bool" "bool" = some true := by decide +kernel
  unfold fIsi
  simp [tyW, h]
theorem fIn_chr {neg : Bool} {c : Nat} {z : Str} {st : Sto} : fIn neg (.str ⟨#[c]⟩) (.str z) st = some (.val (.bl (if neg then !inT c z else inT c z))) := rfl
theorem atI_zero {α : Type} {c : α} {r : List α} : atI (c :: r) 0 = some c := by
  unfold atI
  simp [ixN]
theorem bls_map {α : Type} (f : α → Bool) : ∀ l : List α, bls (l.map fun c => W.bl (f c)) = some (l.map f)
  | [] => rfl
  | a :: l => by
    rw [List.map_cons, bls, bls_map f l]
    rfl
theorem vDef_rt {N : Nat} {b : S} {ws : List W} {st s : Sto} {w : W} (h : b (startV N ws) st = some (.rt w, s)) : vDef N b ws st = some (.ok w, s) := by
  unfold vDef
  rw [h]
theorem vDef_nx {N : Nat} {b : S} {ws : List W} {st s : Sto} {ρ : Env} (h : b (startV N ws) st = some (.nx ρ, s)) : vDef N b ws st = some (.ok .non, s) := by
  unfold vDef
  rw [h]
/-! ### kinds -/
def told (i : Nat) : Str := ("a" : Str) ++ Str.ofString (toString ((i : Int) + 1))
theorem enumW_map : ∀ (ys : List Str) (k : Nat), enumW k (ys.map W.str) = (ys.zipIdx k).map fun p => .tup true [.int (p.2 : Nat), .str p.1]
  | [], k => rfl
  | y :: ys, k => by
    rw [List.map_cons, enumW, enumW_map ys (k + 1), List.zipIdx_cons]
    rfl
theorem kvGet_zip (w : Nat → W) : ∀ (ys : List Str) (k : Nat) {x : Str}, x ∈ ys → kvGet ((ys.zipIdx k).map fun p => (([Tk.s p.1] : Ky), w p.2)) [.s x] = some (w (k + fstAt ys x))
  | [], k, x, h => by cases h
  | y :: ys, k, x, h => by
    rw [List.zipIdx_cons, List.map_cons]
    unfold kvGet fstAt
    by_cases e : y = x
    · subst e
      simp
    · have ih := kvGet_zip w ys (k + 1) ((List.mem_cons.mp h).elim (fun z => absurd z.symm e) id)
      unfold kvGet at ih
      rw [List.find?_cons_of_neg (by simpa using e), ih, if_neg e]
      congr 2
      omega
def kinds (r : List (Str × Str)) : List (Str × Str) := r.map fun p => (p.1, told (fstAt (firsts (r.map (·.2))) p.2))
theorem str_num (i : Nat) (h : i ≤ 100) : (Str.ofString (toString ((i : Int) + 1))).length ≤ 3 ∧ ∀ c ∈ tl (Str.ofString (toString ((i : Int) + 1))), c < 128 := by
  have h1 : (List.range 101).all (fun i => decide ((Str.ofString (toString ((i : Int) + 1))).length ≤ 3) && (tl (Str.ofString (toString ((i : Int) + 1)))).all fun c => decide (c < 128)) = true := by decide +kernel
  have h2 := List.all_eq_true.mp h1 i (List.mem_range.mpr (by omega))
  rw [Bool.and_eq_true, decide_eq_true_eq] at h2
  exact ⟨h2.1, fun c hc => of_decide_eq_true (List.all_eq_true.mp h2.2 c hc)⟩
theorem told_len (i : Nat) (h : i ≤ 100) : (told i).length ≤ 4 := by
  unfold told
  rw [strLen_append]
  have := (str_num i h).1
  have e : (("a" : String) : Str).length = 1 := rfl
  omega
theorem okS_lt {x : Str} (h : ∀ c ∈ tl x, c < 128) : okS x := fun c hc => Nat.lt_trans (h c hc) (by decide)
theorem told_ok (i : Nat) (h : i ≤ 100) : okS (told i) := by
  refine okS_lt fun c hc => ?_
  unfold told at hc
  rw [tl_append] at hc
  rcases List.mem_append.mp hc with z | z
  · have h1 : (tl (("a" : String) : Str)).all (fun c => decide (c < 128)) = true := by decide +kernel
    exact of_decide_eq_true (List.all_eq_true.mp h1 c z)
  · exact (str_num i h).2 c z
theorem log_num (i : Nat) (h : i ≤ 100) : ((i : Int) + 1).natAbs.log2 < 1920 := by
  have h1 : (List.range 101).all (fun i => decide (((i : Int) + 1).natAbs.log2 < 1920)) = true := by decide +kernel
  exact of_decide_eq_true (List.all_eq_true.mp h1 i (List.mem_range.mpr (by omega)))
theorem frz_frees : ∀ {ws : List W} {st : Sto}, freeAll ws = true → frzAll (frzN 0) ws st = some (ws, st)
  | [], _, _ => rfl
  | w :: ws, st, h => by
    rw [freeAll, Bool.and_eq_true] at h
    have h1 : frzN 0 w st = some (w, st) := by
      rw [frzN, if_pos h.1]
    rw [frzAll, h1]
    dsimp only
    rw [frz_frees h.2]
theorem frz1_ref {i : Nat} {ws : List W} {st : Sto} (h : st[i]? = some (some (.l ws))) (hf : freeAll ws = true) : frzN 1 (.ref i) st = some (.lst ws, st.set i none) := by
  rw [frzN]
  simp only [h]
  rw [frz_frees hf]
theorem frz2_ref {i : Nat} {ws : List W} {st : Sto} (h : st[i]? = some (some (.l ws))) (hf : frzAll (frzN 1) ws (st.set i none) = some (ws, st.set i none)) : frzN 2 (.ref i) st = some (.lst ws, st.set i none) := by
  rw [frzN]
  simp only [h]
  rw [hf]
theorem frz1_free {w : W} {st : Sto} (h : w.flat = true) : frzN 1 w st = some (w, st) := by
  cases w <;> first | rfl | (cases h)
theorem frz1_p (p : Str × Str) (st : Sto) : frzN 1 (pW p) st = some (pW p, st) := rfl
theorem frz_map {α : Type} {f : W → Sto → Option (W × Sto)} {g : α → W} {st : Sto} : ∀ (as : List α), (∀ a ∈ as, f (g a) st = some (g a, st)) → frzAll f (as.map g) st = some (as.map g, st)
  | [], _ => rfl
  | a :: as, h => by
    rw [List.map_cons, frzAll, h a List.mem_cons_self]
    dsimp only
    rw [frz_map as fun b hb => h b (List.mem_cons_of_mem _ hb)]
/-! ### texts made of signs -/
abbrev SIGs : Str := "abcdefghijklmnopqrstuvwxyz0123456789"
abbrev LETs : Str := "abcdefghijklmnopqrstuvwxyz"
def sg (q : Int) : Nat := (tl SIGs).getD q.toNat 0
theorem sig_36 : (tl SIGs).length = 36 := by decide +kernel
theorem sg_in {q : Int} (h : q < 36) : inT (sg q) SIGs = true := by
  have h1 : (List.range 36).all (fun n => inT ((tl SIGs).getD n 0) SIGs) = true := by decide +kernel
  exact List.all_eq_true.mp h1 q.toNat (List.mem_range.mpr (by omega))
theorem sg_let {q : Int} (h : q < 26) : inT (sg q) LETs = true := by
  have h1 : (List.range 26).all (fun n => inT ((tl SIGs).getD n 0) LETs) = true := by decide +kernel
  exact List.all_eq_true.mp h1 q.toNat (List.mem_range.mpr (by omega))
theorem let_in {c : Nat} (h : inT c LETs = true) : inT c SIGs = true := by
  have h1 : (tl LETs).all (fun c => inT c SIGs) = true := by decide +kernel
  exact List.all_eq_true.mp h1 c (of_decide_eq_true h)
theorem in_128 {c : Nat} (h : inT c SIGs = true) : c < 128 := by
  have h1 : (tl SIGs).all (fun c => decide (c < 128)) = true := by decide +kernel
  exact of_decide_eq_true (List.all_eq_true.mp h1 c (of_decide_eq_true h))
theorem ix_sig {q : Int} (h0 : 0 ≤ q) (h : q < 36) (st : Sto) : fIx (.str SIGs) (.int q) st = some (.val (.str ⟨#[sg q]⟩)) := by
  have hl : SIGs.length ≤ LIM := by decide +kernel
  unfold fIx
  dsimp only
  rw [if_pos hl, Fw.atI_chr h0 (by rw [sig_36]; exact h)]
  rfl
def Sgs (y : Str) : Prop := ∀ c ∈ tl y, inT c SIGs = true
theorem cut_len (y : Str) (a b : Option Int) : (cutS y a b).length ≤ y.length := by
  rw [len_tl, len_tl, Fw.tl_cut, List.length_take, List.length_drop]
  omega
theorem cut_sgs {y : Str} (h : Sgs y) (a b : Option Int) : Sgs (cutS y a b) := fun c hc => by
  rw [Fw.tl_cut] at hc
  exact h c (List.mem_of_mem_drop (List.mem_of_mem_take hc))
theorem app_sgs {x y : Str} (h : Sgs x) (k : Sgs y) : Sgs (x ++ y) := fun c hc => by
  rw [tl_append] at hc
  exact (List.mem_append.mp hc).elim (h c) (k c)
theorem one_sgs {c : Nat} (h : inT c SIGs = true) : Sgs ⟨#[c]⟩ := fun d hd => by
  rw [show d = c from List.mem_singleton.mp hd]
  exact h
theorem sgs_ok {y : Str} (h : Sgs y) : okS y := okS_lt fun c hc => in_128 (h c hc)
theorem len_one (c : Nat) : (⟨#[c]⟩ : Str).length = 1 := rfl
theorem isNm_mk {c : Nat} {y : Str} (hc : inT c LETs = true) (hy : Sgs y) (hl : y.length ≤ 11) : isNm (tl ((⟨#[c]⟩ : Str) ++ y)) = true := by
  have e : tl ((⟨#[c]⟩ : Str) ++ y) = c :: tl y := by
    rw [tl_append]
    rfl
  rw [e]
  rw [len_tl] at hl
  have h2 : ((c :: tl y).all fun c => inT c SIGs) = true := List.all_eq_true.mpr fun d hd => (List.mem_cons.mp hd).elim (fun z => by rw [z]; exact let_in hc) (hy d)
  unfold isNm
  rw [h2, decide_eq_true (by simp : 1 ≤ (c :: tl y).length), decide_eq_true (by simp only [List.length_cons]; omega : (c :: tl y).length ≤ 12)]
  show ((true && true) && inT c LETs) && true = true
  rw [hc]
  rfl
theorem isNm_sgs {x : Str} (h : isNm (tl x) = true) : Sgs x ∧ x.length ≤ 12 := by
  unfold isNm at h
  rw [Bool.and_eq_true, Bool.and_eq_true, Bool.and_eq_true, decide_eq_true_eq, decide_eq_true_eq] at h
  exact ⟨fun c hc => List.all_eq_true.mp h.2 c hc, by rw [len_tl]; exact h.1.1.2⟩
theorem str_assoc (x y z : Str) : x ++ y ++ z = x ++ (y ++ z) := TL.ext_tl (by rw [tl_append, tl_append, tl_append, tl_append, List.append_assoc])
theorem join_len : ∀ (l : List Nat), (Txt.join "" (l.map fun c => (⟨#[c]⟩ : Str))).length = l.length ∧ ∀ d ∈ tl (Txt.join "" (l.map fun c => (⟨#[c]⟩ : Str))), d ∈ l := by
  intro l
  have e : Txt.join "" (l.map fun c => (⟨#[c]⟩ : Str)) = Str.join "" (l.map fun c => (⟨#[c]⟩ : Str)) := StrLaws.glued_eq_join "" _
  rw [e]
  clear e
  induction l with
  | nil => exact ⟨rfl, fun d hd => by cases hd⟩
  | cons c l ih =>
    cases l with
    | nil => exact ⟨rfl, fun d hd => hd⟩
    | cons b l =>
      have e2 : Str.join "" ((c :: b :: l).map fun c => (⟨#[c]⟩ : Str)) = (⟨#[c]⟩ : Str) ++ "" ++ Str.join "" ((b :: l).map fun c => (⟨#[c]⟩ : Str)) := rfl
      rw [e2]
      refine ⟨?_, fun d hd => ?_⟩
      · rw [strLen_append, strLen_append, ih.1]
        show 1 + 0 + _ = _
        simp only [List.length_cons]
        omega
      · rw [tl_append, tl_append] at hd
        rcases List.mem_append.mp hd with z | z
        · rcases List.mem_append.mp z with z | z
          · exact List.mem_cons.mpr (.inl (List.mem_singleton.mp z))
          · have h1 : tl ("" : Str) = [] := by decide +kernel
            rw [h1] at z
            cases z
        · exact List.mem_cons_of_mem _ (ih.2 d z)
/-! ### what repr tells is plain -/
def Asc (x : Str) : Prop := ∀ c ∈ tl x, c < 128
theorem app_asc {x y : Str} (h : Asc x) (k : Asc y) : Asc (x ++ y) := fun c hc => by
  rw [tl_append] at hc
  exact (List.mem_append.mp hc).elim (h c) (k c)
theorem repr_chars : (List.range 128).all (fun c => ((Builtin.Str.reprChar 39 c).all fun d => decide (d < 128)) && (Builtin.Str.reprChar 34 c).all fun d => decide (d < 128)) = true := by decide +kernel
theorem repr_fold {q : Nat} (hq : q = 39 ∨ q = 34) : ∀ (l : List Nat) (acc : Array Nat), (∀ c ∈ l, c < 128) → (∀ c ∈ acc.toList, c < 128) → ∀ c ∈ (l.foldl (fun out c => out ++ (Builtin.Str.reprChar q c).toArray) acc).toList, c < 128
  | [], acc, _, h, c, hc => h c hc
  | a :: l, acc, hl, h, c, hc => by
    refine repr_fold hq l (acc ++ (Builtin.Str.reprChar q a).toArray) (fun d hd => hl d (List.mem_cons_of_mem _ hd)) (fun d hd => ?_) c hc
    rw [Array.toList_append] at hd
    rcases List.mem_append.mp hd with z | z
    · exact h d z
    · have h1 := List.all_eq_true.mp repr_chars a (List.mem_range.mpr (hl a List.mem_cons_self))
      rw [Bool.and_eq_true] at h1
      rcases hq with rfl | rfl
      · exact of_decide_eq_true (List.all_eq_true.mp h1.1 d z)
      · exact of_decide_eq_true (List.all_eq_true.mp h1.2 d z)
theorem repr_asc {x : Str} (h : Asc x) : Asc (reprText x) := by
  have hq : reprQuote x = 39 ∨ reprQuote x = 34 := by
    unfold reprQuote
    split
    · exact .inr rfl
    · exact .inl rfl
  have hq2 : reprQuote x < 128 := by rcases hq with e | e <;> rw [e] <;> decide
  intro c hc
  have hc' : c ∈ ((x.cps.foldl (fun out c => out ++ (Builtin.Str.reprChar (reprQuote x) c).toArray) #[reprQuote x]).push (reprQuote x)).toList := hc
  rw [Array.toList_push, ← Array.foldl_toList] at hc'
  rcases List.mem_append.mp hc' with z | z
  · refine repr_fold hq x.cps.toList #[reprQuote x] h (fun d hd => ?_) c z
    rw [List.mem_singleton.mp hd]
    exact hq2
  · rw [List.mem_singleton.mp z]
    exact hq2
theorem lit_asc (s : String) (h : (tl (s : Str)).all (fun c => decide (c < 128)) = true) : Asc (s : Str) := fun c hc => of_decide_eq_true (List.all_eq_true.mp h c hc)
theorem from_asc : ∀ (ts : List Str) (k : Nat) (acc : Str), Asc acc → (∀ t ∈ ts, Asc t) → Asc (textFrom k acc ts)
  | [], k, acc, h, _ => h
  | t :: ts, k, acc, h, ht => by
    refine from_asc ts (k + 1) (acc ++ (if k > 0 then ", " else "" : String) ++ t) (app_asc (app_asc h ?_) (ht t List.mem_cons_self)) fun u hu => ht u (List.mem_cons_of_mem _ hu)
    split
    · exact lit_asc _ (by decide +kernel)
    · exact lit_asc _ (by decide +kernel)
theorem list_asc {ts : List Str} (h : ∀ t ∈ ts, Asc t) : Asc (listText ts) := app_asc (from_asc ts 0 _ (lit_asc _ (by decide +kernel)) h) (lit_asc _ (by decide +kernel))
theorem sjoin_asc : ∀ {ts : List Str}, (∀ t ∈ ts, Asc t) → Asc (Str.join ", " ts)
  | [], _ => lit_asc "" (by decide +kernel)
  | [x], h => h x List.mem_cons_self
  | x :: y :: r, h => by
    show Asc (x ++ ", " ++ Str.join ", " (y :: r))
    exact app_asc (app_asc (h x List.mem_cons_self) (lit_asc _ (by decide +kernel))) (sjoin_asc fun t ht => h t (List.mem_cons_of_mem _ ht))
theorem tup_asc {ts : List Str} (h : ∀ t ∈ ts, Asc t) : Asc (tupleText ts) := by
  refine app_asc (app_asc (lit_asc _ (by decide +kernel)) (sjoin_asc h)) ?_
  split
  · exact lit_asc _ (by decide +kernel)
  · exact lit_asc _ (by decide +kernel)
theorem row_asc {r : List (Str × Str)} (h : ∀ p ∈ r, Asc p.1 ∧ Asc p.2) : Asc (rowD r).shown := by
  unfold rowD
  rw [PyData.shown, shownAll_map]
  refine list_asc fun t ht => ?_
  obtain ⟨p, hp, rfl⟩ := List.mem_map.mp ht
  unfold pD
  rw [PyData.shown]
  refine tup_asc fun t ht => ?_
  simp only [PyData.shownAll, List.mem_cons, List.not_mem_nil, or_false] at ht
  rcases ht with rfl | rfl
  · rw [PyData.shown]
    exact repr_asc (h p hp).1
  · rw [PyData.shown]
    exact repr_asc (h p hp).2
theorem asc_ok {x : Str} (h : Asc x) : okS x := okS_lt h
theorem told_asc (i : Nat) (h : i ≤ 100) : Asc (told i) := by
  intro c hc
  unfold told at hc
  rw [tl_append] at hc
  rcases List.mem_append.mp hc with z | z
  · exact lit_asc "a" (by decide +kernel) c z
  · exact (str_num i h).2 c z
theorem fEq_same {neg : Bool} {a b : W} {d : PyData} {n : Nat} {st : Sto} (h1 : pyOf st a = some d) (h2 : pyOf st b = some d) (h3 : okD n d) (hn : n ≤ 63) : fEq neg a b st = some (.val (.bl (!neg))) := by
  rw [fEq_data h1 h2 (h3.shaped hn) (h3.shaped hn), Fw.eqv_same h3]
  cases neg <;> rfl
theorem atI_map {α : Type} {f : α → W} {l : List α} {i : Int} (h0 : 0 ≤ i) (h1 : i < l.length) (d : α) : atI (l.map f) i = some (f (l.getD i.toNat d)) := by
  obtain ⟨n, rfl⟩ : ∃ n : Nat, i = n := ⟨i.toNat, (Int.toNat_of_nonneg h0).symm⟩
  have h : n < l.length := by omega
  unfold atI
  simp [ixN, h]
theorem getD_in {α : Type} {l : List α} {i : Int} (h0 : 0 ≤ i) (h1 : i < l.length) (d : α) : l.getD i.toNat d ∈ l := by
  rw [List.getD_eq_getElem?_getD, List.getElem?_eq_getElem (by omega)]
  exact List.getElem_mem _
/-! ### numbers -/
theorem atI_int {ns : List Int} {i : Int} (h0 : 0 ≤ i) (h1 : i < ns.length) : atI (ns.map W.int) i = some (.int (ns.getD i.toNat 0)) := by
  obtain ⟨n, rfl⟩ : ∃ n : Nat, i = n := ⟨i.toNat, (Int.toNat_of_nonneg h0).symm⟩
  have h : n < ns.length := by omega
  unfold atI
  simp [ixN, h]
end VS

/-! small steps of readings -/
namespace VS
open PySem PySem.Spec PyProof.Rows L2 Evl
open TL (tl len_tl ext_tl tl_append tl_mk mk_tl)
open Fw (fstAt fst_at fst_lt okS okD)
theorem sq_nx {a b : S} {ρ ρ' : Env} {st s : Sto} (h : a ρ st = some (.nx ρ', s)) : vSeq a b ρ st = b ρ' s := by
  unfold vSeq
  rw [h]
theorem set_ok {i : Nat} {m : M W} {ρ : Env} {st s : Sto} {w : W} (h : m ρ st = some (.ok w, s)) : vSet i m ρ st = some (.nx (ρ.set i (some w)), s) := by
  rw [e_set, h]
  rfl
theorem hmul {j : Nat} (hj : j < 12) : gMul 7 j = some (.int (7 * j)) ∧ gMul (7 * (j : Int)) j = some (.int (7 * j * j)) ∧ gMul 3 j = some (.int (3 * j)) ∧ gMul 5 j = some (.int (5 * j)) ∧ gMul 31 j = some (.int (31 * j)) :=
    ⟨gMul_e (.inl (by omega)), gMul_e (.inr (by omega)), gMul_e (.inl (by omega)), gMul_e (.inl (by omega)), gMul_e (.inl (by omega))⟩
theorem m36 (q : Int) : 0 ≤ q % 36 ∧ q % 36 < 36 := ⟨Int.emod_nonneg _ (by decide), Int.emod_lt_of_pos _ (by decide)⟩
theorem m26 (q : Int) : 0 ≤ q % 26 ∧ q % 26 < 26 := ⟨Int.emod_nonneg _ (by decide), Int.emod_lt_of_pos _ (by decide)⟩
def IxZ (Z : Str) : Prop := ∀ (q : Int) (st : Sto), 0 ≤ q → q < 36 → fIx (.str Z) (.int q) st = some (.val (.str ⟨#[sg q]⟩))
theorem hmod (q m : Int) (h : 0 < m) : gMod q m = some (.int (q % m)) := gMod_e h
theorem base_one {Z : Str} {n0 : Int} {kk j : Nat} {d : Nat} {a1 : Option W} (gm : Int → Int → Option W) (e1 : gm 7 j = some (.int (7 * j))) (e2 : gm (7 * (j : Int)) j = some (.int (7 * j * j))) (hmod : ∀ q m : Int, 0 < m → gMod q m = some (.int (q % m)))
  (e3 : fIx (.str Z) (.int ((n0 + 7 * j * j) % 36)) [] = some (.val (.str ⟨#[d]⟩))) : vOp false fIx (vVar 2) (vOp false (fI gMod) (vCB false fInt1 (vCons (vOp false fAdd (vVar 0) (vOp false (fI gm) (vOp false (fI gm) (vC (.int 7)) (vVar 5)) (vVar 5))) vNil)) (vC (.int 36))) [some (.int n0), a1, some (.str Z), some (.int kk), none, some (.int (j : Int)), none, none, none, none, none] [] = some (.ok (.str ⟨#[d]⟩), []) := by
  simp [finO, e1, e2, hmod, e3]
theorem cond_ok {ρ : Env} {st : Sto} {a : Int} {x : M W} (hx : x ρ st = some (.ok (.int a), st)) {m r : Int} (hm : 0 < m) : vB (vOp false (fEq false) (vOp false (fI gMod) (vCB false fInt1 (vCons x vNil)) (vC (.int m))) (vC (.int r))) ρ st = some (.ok (decide (a % m = r)), st) := by
  simp [hx, hmod, hm, finO]
theorem modv_ok {ρ : Env} {st : Sto} {a : Int} {x : M W} (hx : x ρ st = some (.ok (.int a), st)) {m : Int} (hm : 0 < m) : vOp false (fI gMod) (vCB false fInt1 (vCons x vNil)) (vC (.int m)) ρ st = some (.ok (.int (a % m)), st) := by
  simp [hx, hmod, hm, finO]
theorem div_ok {ρ : Env} {st : Sto} {i : Nat} {a m : Int} (h : ρ[i]? = some (some (.int a))) (hm : 0 < m ∧ m < 1073741824) : vOp false (fI gDiv) (vVar i) (vC (.int m)) ρ st = some (.ok (.int (a / m)), st) := by
  have := gDiv_e (i := a) hm
  simp [h, this, finO]
theorem var_ok {ρ : Env} {st : Sto} {i : Nat} {w : W} (h : ρ[i]? = some (some w)) : vVar i ρ st = some (.ok w, st) := by
  rw [e_var, h]
theorem add_ok {ρ : Env} {st : Sto} {a b : Int} {x y : M W} (hx : x ρ st = some (.ok (.int a), st)) (hy : y ρ st = some (.ok (.int b), st)) : vOp false fAdd x y ρ st = some (.ok (.int (a + b)), st) := by
  simp [hx, hy, finO]
theorem if_ok {ρ ρ' : Env} {st s : Sto} {c : M Bool} {b : Bool} {p q : S} (hc : c ρ st = some (.ok b, st)) (h1 : b = true → p ρ st = some (.nx ρ', s)) (h2 : b = false → q ρ st = some (.nx ρ', s)) : vIfS c p q ρ st = some (.nx ρ', s) := by
  rw [e_ifS, hc]
  cases b with
  | true => exact h1 rfl
  | false => exact h2 rfl
theorem rng_nat (k : Nat) : rngW 0 k = ⟨(List.range k).map fun i : Nat => .int (i : Int), []⟩ := by
  unfold rngW
  simp
theorem rng_ok {ρ : Env} {st : Sto} {k : Nat} {x : M (List W)} (hx : x ρ st = some (.ok [.int (k : Int)], st)) (h : k ≤ 100) : vRng1 x ρ st = some (.ok ⟨(List.range k).map fun i : Nat => .int (i : Int), []⟩, st) := by
  rw [e_rng1, hx, andR_ok]
  dsimp only
  rw [if_pos (by omega), rng_nat]
theorem one_ok {ρ : Env} {st : Sto} {x : M W} {w : W} (h : x ρ st = some (.ok w, st)) : vCons x vNil ρ st = some (.ok [w], st) := by
  rw [e_cons, h, andR_ok]
  rfl
theorem for_ok {mi : M Src} {g : VG} {b : S} {ρ : Env} {st : Sto} {src : Src} (h : mi ρ st = some (.ok src, st)) : vFor mi g b ρ st = forL src g b src.items ρ st := by
  rw [e_for, h]
  rfl
theorem frz_strs {ys : List Str} : frzN 2 (.ref 0) [some (.l (ys.map W.str))] = some (.lst (ys.map W.str), [none]) :=
  frz2_ref rfl (frz_map ys fun a _ => frz1_free rfl)
theorem mod2_ok {ρ : Env} {st : Sto} {a b : Int} {x y : M W} (hx : x ρ st = some (.ok (.int a), st)) (hy : y ρ st = some (.ok (.int b), st)) (hb : 0 < b) : vOp false (fI gMod) (vCB false fInt1 (vCons x vNil)) y ρ st = some (.ok (.int (a % b)), st) := by
  simp [hx, hy, hmod, hb, finO]
theorem c_ok {ρ : Env} {st : Sto} {w : W} : vC w ρ st = some (.ok w, st) := rfl
theorem ixz : IxZ SIGs := fun q st h0 h1 => ix_sig h0 h1 st
theorem ixn_ok {ρ : Env} {st : Sto} {nm : List Int} {x y : M W} {i : Int} (hx : x ρ st = some (.ok (intsW nm), st)) (hy : y ρ st = some (.ok (.int i), st)) (h0 : 0 ≤ i) (h1 : i < nm.length) : vOp false fIx x y ρ st = some (.ok (.int (nm.getD i.toNat 0)), st) := by
  have e : fIx (intsW nm) (.int i) st = some (.val (.int (nm.getD i.toNat 0))) := by
    show ((some (nm.map W.int)).bind fun ws => (atI ws i).map Fr.val) = _
    rw [Option.bind_some, atI_map h0 h1 0]
    rfl
  rw [e_op, hx, andR_ok, hy, andR_ok, e]
  rfl
theorem ixl_ok {ρ : Env} {st : Sto} {α : Type} {f : α → W} {l : List α} {x y : M W} {i : Int} (d : α) (hx : x ρ st = some (.ok (.lst (l.map f)), st)) (hy : y ρ st = some (.ok (.int i), st)) (h0 : 0 ≤ i) (h1 : i < l.length) : vOp false fIx x y ρ st = some (.ok (f (l.getD i.toNat d)), st) := by
  have e : fIx (.lst (l.map f)) (.int i) st = some (.val (f (l.getD i.toNat d))) := by
    show ((some (l.map f)).bind fun ws => (atI ws i).map Fr.val) = _
    rw [Option.bind_some, atI_map h0 h1 d]
    rfl
  rw [e_op, hx, andR_ok, hy, andR_ok, e]
  rfl
theorem mul_ok {ρ : Env} {st : Sto} {c : Int} {y : M W} {j : Int} (hy : y ρ st = some (.ok (.int j), st)) (hc : -(2 ^ 64) < c ∧ c < 2 ^ 64) : vOp false (fI gMul) (vC (.int c)) y ρ st = some (.ok (.int (c * j)), st) := by
  have e := gMul_e (i := c) (j := j) (.inl hc)
  rw [e_op, e_c, andR_ok, hy, andR_ok, fI_int, e]
  rfl
theorem cons_ok {ρ : Env} {st : Sto} {x : M W} {r : M (List W)} {w : W} {ws : List W} (h : x ρ st = some (.ok w, st)) (hr : r ρ st = some (.ok ws, st)) : vCons x r ρ st = some (.ok (w :: ws), st) := by
  rw [e_cons, h, andR_ok, hr, andR_ok]
theorem tup2_ok {ρ : Env} {st : Sto} {x y : M W} {w u : W} (h : x ρ st = some (.ok w, st)) (hr : y ρ st = some (.ok u, st)) : vTup (vCons x (vCons y vNil)) ρ st = some (.ok (.tup true [w, u]), st) := by
  rw [e_tup, cons_ok h (one_ok hr), andR_ok]
  exact if_pos (by simp)
theorem lst2_ok {ρ : Env} {st : Sto} {x y : M W} {w u : W} (h : x ρ st = some (.ok w, st)) (hr : y ρ st = some (.ok u, st)) : vLst false (vCons x (vCons y vNil)) ρ st = some (.ok (.lst [w, u]), st) := by
  rw [e_lst, cons_ok h (one_ok hr), andR_ok]
  exact if_pos (by simp)
theorem call_ok {ρ : Env} {st : Sto} {n : Nat} {mf : MF} {m : M (List W)} {ws : List W} {w : W} (h : m ρ st = some (.ok ws, st)) (hc : callF true n mf ws st = some (.ok w, st)) : vCall true n mf m ρ st = some (.ok w, st) := by
  rw [e_call, h, andR_ok, hc]
theorem cutW_map {α : Type} {f : α → W} {l : List α} {lo hi : Option Int} {a b : Nat} (h1 : HT.sIx l.length 0 lo = a) (h2 : HT.sIx l.length l.length hi = b) : cutW (l.map f) lo hi = ((l.drop a).take (b - a)).map f := by
  unfold cutW
  rw [List.length_map, h1, h2, List.map_take, List.map_drop]
theorem sl_ok {ρ : Env} {st : Sto} {α : Type} {f : α → W} {l : List α} {x : M W} {lo hi : M (Option Int)} {lv hv : Option Int} {a b : Nat} (hx : x ρ st = some (.ok (.lst (l.map f)), st)) (hl : lo ρ st = some (.ok lv, st)) (hh : hi ρ st = some (.ok hv, st)) (h1 : HT.sIx l.length 0 lv = a) (h2 : HT.sIx l.length l.length hv = b) : vSl false x lo hi ρ st = some (.ok (.lst (((l.drop a).take (b - a)).map f)), st) := by
  have e : fSl (.lst (l.map f)) lv hv st = some (.nl (cutW (l.map f) lv hv)) := rfl
  rw [e_sl, hx, andR_ok, hl, andR_ok, hh, andR_ok, e, cutW_map h1 h2]
  rfl
theorem nm_asc {x : Str} (h : isNm (tl x) = true) : Asc x := fun c hc => in_128 ((isNm_sgs h).1 c hc)
theorem or_ff {ρ : Env} {st : Sto} {a b : M Bool} (h1 : a ρ st = some (.ok false, st)) (h2 : b ρ st = some (.ok false, st)) : vOr a b ρ st = some (.ok false, st) := by
  rw [e_or, h1, andR_ok]
  exact h2
theorem eqb_ok {ρ : Env} {st : Sto} {neg : Bool} {x y : M W} {w u : W} {b : Bool} (hx : x ρ st = some (.ok w, st)) (hy : y ρ st = some (.ok u, st)) (e : fEq neg w u st = some (.val (.bl b))) : vOp false (fEq neg) x y ρ st = some (.ok (.bl b), st) := by
  rw [e_op, hx, andR_ok, hy, andR_ok, e]
  rfl
theorem b_ok {ρ : Env} {st : Sto} {x : M W} {b : Bool} (hx : x ρ st = some (.ok (.bl b), st)) : vB x ρ st = some (.ok b, st) := by
  rw [e_b, hx, andR_ok]
theorem repr_ok {ρ : Env} {st : Sto} {x : M W} {w : W} {s : Str} (hx : x ρ st = some (.ok w, st)) (e : fRepr [w] st = some (.val (.str s))) : vCB false fRepr (vCons x vNil) ρ st = some (.ok (.str s), st) := by
  rw [e_cb, one_ok hx, andR_ok, e]
  rfl
theorem ix_one {a b : W} {st : Sto} : fIx (.tup true [a, b]) (.int 1) st = some (.val b) := by
  show ((some [a, b]).bind fun ws => (atI ws 1).map Fr.val) = _
  rfl
end VS

/-! names that a law draws -/
namespace VS
open PySem PySem.Spec PyProof.Rows L2 Evl
open TL (tl len_tl ext_tl tl_append tl_mk mk_tl)
open Fw (fstAt fst_at fst_lt okS okD)
def baseS (n0 : Int) (kk : Nat) : Str := Txt.join "" (((List.range kk).map fun j : Nat => sg ((n0 + 7 * j * j) % 36)).map fun c => (⟨#[c]⟩ : Str))
def ownS (n0 : Int) (base : Str) (i : Nat) : Str := if (n0 / 121 + (i : Int)) % 3 = 0 then cutS base (some 1) none else base
def stepM (n0 : Int) : Int := if (n0 / 363) % 2 = 1 then 31 else 5
def nmw (y : Str) (v9 : Int) (d1 d2 : Nat) : Str := (⟨#[d1]⟩ : Str) ++ cutS y none (some v9) ++ (⟨#[d2]⟩ : Str) ++ cutS y (some v9) none
def nmz (n0 : Int) (base : Str) (v6 : Int) (i : Nat) : Str := nmw (ownS n0 base i) (if ((ownS n0 base i).length : Int) < v6 then ((ownS n0 base i).length : Int) else v6) (sg ((n0 + 3 * i) % 26)) (sg ((n0 + stepM n0 * i) % 36))
theorem names_base {Z : Str} (hZ : IxZ Z) {n0 : Int} {kk : Nat} {a1 : Option W} (hk10 : kk ≤ 10) (z : Env) (hz : z = [some (.int n0), a1, some (.str Z), some (.int kk), none, none, none, none, none, none, none]) : (baseS n0 kk).length = kk ∧ Sgs (baseS n0 kk) ∧
      vM1 false fJoin (vC (.str "")) (vLc false [5] (vRng1 (vCons (vVar 3) vNil)) (gN 5) vYes (vOp false fIx (vVar 2) (vOp false (fI gMod) (vCB false fInt1 (vCons (vOp false fAdd (vVar 0) (vOp false (fI gMul) (vOp false (fI gMul) (vC (.int 7)) (vVar 5)) (vVar 5))) vNil)) (vC (.int 36))))) z [] = some (.ok (.str (baseS n0 kk)), []) := by
  have hL : LIM = 100000 := rfl
  unfold baseS
  refine ⟨by rw [(join_len _).1]; simp, fun c hc => ?_, ?_⟩
  · obtain ⟨j, _, rfl⟩ := List.mem_map.mp ((join_len _).2 c hc)
    exact sg_in (m36 _).2
  · subst hz
    have hs : ∀ l : List Nat, strsW (l.map fun c => W.str ⟨#[c]⟩) = some (l.map fun c => (⟨#[c]⟩ : Str)) := fun l => by
      rw [← strsW_map, List.map_map]
      rfl
    have hc : lcL ⟨(List.range kk).map fun i : Nat => W.int (i : Int), []⟩ (gN 5) vYes (vOp false fIx (vVar 2) (vOp false (fI gMod) (vCB false fInt1 (vCons (vOp false fAdd (vVar 0) (vOp false (fI gMul) (vOp false (fI gMul) (vC (.int 7)) (vVar 5)) (vVar 5))) vNil)) (vC (.int 36)))) [some (.int n0), a1, some (.str Z), some (.int kk), none, none, none, none, none, none, none] ((List.range kk).map fun i : Nat => W.int (i : Int)) [] [] = some (((List.range kk).map fun j : Nat => sg ((n0 + 7 * j * j) % 36)).map fun c => W.str ⟨#[c]⟩, []) := by
      rw [lcL_map (f := fun i : Nat => W.int (i : Int)) (fun j : Nat => W.str ⟨#[sg ((n0 + 7 * j * j) % 36)]⟩) (List.range kk) (fun j hj => ?_) (by rw [List.length_range]; omega), List.map_map]
      · rfl
      · have hj' := List.mem_range.mp hj
        obtain ⟨e1, e2, _⟩ := hmul (j := j) (by omega)
        have e3 := hZ ((n0 + 7 * j * j) % 36) [] (m36 _).1 (m36 _).2
        exact ⟨_, rfl, base_one gMul e1 e2 hmod e3⟩
    have hr : rngW 0 kk = ⟨(List.range kk).map fun i : Nat => .int (i : Int), []⟩ := by
      unfold rngW
      simp
    have hle : (-100000 : Int) ≤ (kk : Int) ∧ (kk : Int) ≤ 100000 := by omega
    have hj : fJoin "" (.lst (((List.range kk).map fun j : Nat => sg ((n0 + 7 * j * j) % 36)).map fun c => W.str ⟨#[c]⟩)) ([] : Sto) = some (.val (.str (Txt.join "" (((List.range kk).map fun j : Nat => sg ((n0 + 7 * j * j) % 36)).map fun c => (⟨#[c]⟩ : Str))))) := by
      unfold fJoin
      rw [seqOf_lst]
      dsimp only
      rw [hs]
      dsimp only
      refine if_pos ?_
      rw [List.map_map]
      have h2 := sum_leB (f := fun c : Nat => (⟨#[c]⟩ : Str).length) (c := 1) (as := (List.range kk).map fun j : Nat => sg ((n0 + 7 * j * j) % 36)) (fun _ _ => Nat.le_refl _)
      simp only [List.length_map, List.length_range] at h2 ⊢
      have h3 : ((fun y : Str => y.length) ∘ fun c : Nat => (⟨#[c]⟩ : Str)) = fun c : Nat => (⟨#[c]⟩ : Str).length := rfl
      rw [h3]
      have h4 : ("" : Str).length = 0 := rfl
      rw [h4]
      omega
    simp only [e_m1, e_c, andR_ok, e_lc, e_rng1, e_cons, e_var, e_nil, wipeV_cons, wipeV_nil, List.getElem?_cons_succ, List.getElem?_cons_zero, List.set_cons_succ, List.set_cons_zero, if_pos hle, hr, hc, Option.map_some, fin_nl, finO, hj, fin_val]
theorem names_add {Z : Str} (hZ : IxZ Z) {n0 : Int} (h0 : 0 ≤ n0) (h1 : n0 < 1009) {i : Nat} (hi : i < 12) {y : Str} (hy : Sgs y) (hl : y.length ≤ 10) {v6 : Int} (h6 : 0 ≤ v6) {M : Int} (hM : gMul M i = some (.int (M * i))) {ys : List Str} (hys : ys.length < 12) (a1 a3 a4 : Option W) (st : Sto) (hst : st = [some (.l (ys.map W.str))]) (v9 : Int) (h9 : v9 = if (y.length : Int) < v6 then (y.length : Int) else v6) :
    isNm (tl (nmw y v9 (sg ((n0 + 3 * i) % 26)) (sg ((n0 + M * i) % 36)))) = true ∧ vExpr (vMut mAppend (vVar 7) (vCons (vOp false fAdd (vOp false fAdd (vOp false fAdd (vOp false fIx (vVar 2) (vOp false (fI gMod) (vCB false fInt1 (vCons (vOp false fAdd (vVar 0) (vOp false (fI gMul) (vC (.int 3)) (vVar 5))) vNil)) (vC (.int 26)))) (vSl false (vVar 8) vNoPart (vPart (vVar 9)))) (vOp false fIx (vVar 2) (vOp false (fI gMod) (vCB false fInt1 (vCons (vOp false fAdd (vVar 0) (vOp false (fI gMul) (vVar 10) (vVar 5))) vNil)) (vC (.int 36))))) (vSl false (vVar 8) (vPart (vVar 9)) vNoPart)) vNil))
      [some (.int n0), a1, some (.str Z), a3, a4, some (.int i), some (.int v6), some (.ref 0), some (.str y), some (.int v9), some (.int M)] st = some (.nx [some (.int n0), a1, some (.str Z), a3, a4, some (.int i), some (.int v6), some (.ref 0), some (.str y), some (.int v9), some (.int M)], [some (.l ((ys ++ [nmw y v9 (sg ((n0 + 3 * i) % 26)) (sg ((n0 + M * i) % 36))]).map W.str))]) := by
  have hL : LIM = 100000 := rfl
  subst hst
  have c1 : ((cutS y none (some v9)) : Str).length ≤ 10 := Nat.le_trans (cut_len _ _ _) hl
  have c2 : ((cutS y (some v9) none) : Str).length ≤ 10 := Nat.le_trans (cut_len _ _ _) hl
  obtain ⟨p, hp⟩ : ∃ p : Nat, v9 = p := ⟨v9.toNat, by split at h9 <;> omega⟩
  have hpl : p ≤ (tl y).length := by
    rw [← len_tl]
    split at h9 <;> omega
  have hsum : (cutS y none (some v9)).length + (cutS y (some v9) none).length = y.length := by
    subst hp
    have e1 : HT.sIx (tl y).length 0 (some (p : Int)) = p := (HT.sIx_nat _ _ p).trans (Nat.min_eq_left hpl)
    have e2 : HT.sIx (tl y).length (tl y).length (some (p : Int)) = p := (HT.sIx_nat _ _ p).trans (Nat.min_eq_left hpl)
    rw [len_tl, len_tl, len_tl, Fw.tl_cut, Fw.tl_cut, HT.sIx_none, HT.sIx_none, e1, e2, List.length_take, List.length_take, List.length_drop, List.length_drop]
    omega
  have hsl1 : ∀ st : Sto, fSl (.str y) none (some v9) st = some (.val (.str (cutS y none (some v9)))) := fun st => if_pos (by omega)
  have hsl2 : ∀ st : Sto, fSl (.str y) (some v9) none st = some (.val (.str (cutS y (some v9) none))) := fun st => if_pos (by omega)
  have g1 := cut_sgs hy none (some v9)
  have g2 := cut_sgs hy (some v9) none
  have hl3 := hsum
  unfold nmw
  generalize cutS y none (some v9) = u1 at *
  generalize cutS y (some v9) none = u2 at *
  obtain ⟨_, _, e3, _⟩ := hmul hi
  have i1 := hZ ((n0 + 3 * i) % 26) [some (.l (ys.map W.str))] (m26 _).1 (by have := (m26 (n0 + 3 * i)).2; omega)
  have i2 := hZ ((n0 + M * i) % 36) [some (.l (ys.map W.str))] (m36 _).1 (m36 _).2
  have s1 := sg_let (m26 (n0 + 3 * i)).2
  have s2 := sg_in (m36 (n0 + M * i)).2
  generalize sg ((n0 + 3 * i) % 26) = d1 at i1 s1 ⊢
  generalize sg ((n0 + M * i) % 36) = d2 at i2 s2 ⊢
  have f1 : ∀ st : Sto, fAdd (.str ⟨#[d1]⟩) (.str u1) st = some (.val (.str ((⟨#[d1]⟩ : Str) ++ u1))) := fun st => fAdd_str (by rw [len_one]; omega)
  have f2 : ∀ st : Sto, fAdd (.str ((⟨#[d1]⟩ : Str) ++ u1)) (.str ⟨#[d2]⟩) st = some (.val (.str ((⟨#[d1]⟩ : Str) ++ u1 ++ (⟨#[d2]⟩ : Str)))) := fun st => fAdd_str (by rw [strLen_append, len_one, len_one]; omega)
  have f3 : ∀ st : Sto, fAdd (.str ((⟨#[d1]⟩ : Str) ++ u1 ++ (⟨#[d2]⟩ : Str))) (.str u2) st = some (.val (.str ((⟨#[d1]⟩ : Str) ++ u1 ++ (⟨#[d2]⟩ : Str) ++ u2))) := fun st => fAdd_str (by rw [strLen_append, strLen_append, len_one, len_one]; omega)
  refine ⟨?_, ?_⟩
  · rw [str_assoc, str_assoc]
    refine isNm_mk s1 (app_sgs g1 (app_sgs (one_sgs s2) g2)) ?_
    rw [strLen_append, strLen_append, len_one]
    omega
  · generalize (⟨#[d1]⟩ : Str) ++ u1 ++ (⟨#[d2]⟩ : Str) ++ u2 = z at *
    generalize (⟨#[d1]⟩ : Str) ++ u1 ++ (⟨#[d2]⟩ : Str) = z2 at *
    generalize (⟨#[d1]⟩ : Str) ++ u1 = z1 at *
    have hz : ys.length < LIM := by omega
    simp [finO, e3, hM, hmod, i1, i2, f1, f2, f3, hsl1, hsl2, vMut, lstOf, wrL, mAppend, hz]
theorem names_step {Z : Str} (hZ : IxZ Z) {n0 : Int} (h0 : 0 ≤ n0) (h1 : n0 < 1009) {i : Nat} (hi : i < 12) {base : Str} (hy : Sgs base) (hl : base.length ≤ 10) {v6 : Int} (h6 : 0 ≤ v6) {ys : List Str} (hys : ys.length < 12) (a1 a3 z8 z9 z10 : Option W) :
    ∃ y8 y9 y10, isNm (tl (nmz n0 base v6 i)) = true ∧ (vSeq (vSet 8 (vVar 4))
  (vSeq (vIfS (vB (vOp false (fEq false) (vOp false (fI gMod) (vCB false fInt1 (vCons (vOp false fAdd (vOp false (fI gDiv) (vVar 0) (vC (.int 121))) (vVar 5)) vNil)) (vC (.int 3))) (vC (.int 0)))) (vSet 8 (vSl false (vVar 4) (vPart (vC (.int 1))) vNoPart)) vNext)
  (vSeq (vSet 9 (vCB false fMin2 (vCons (vVar 6) (vCons (vCB false fLen (vCons (vVar 8) vNil)) vNil))))
  (vSeq (vSet 10 (vC (.int 5)))
  (vSeq (vIfS (vB (vOp false (fEq false) (vOp false (fI gMod) (vCB false fInt1 (vCons (vOp false (fI gDiv) (vVar 0) (vC (.int 363))) vNil)) (vC (.int 2))) (vC (.int 1)))) (vSet 10 (vC (.int 31))) vNext)
  (vExpr (vMut mAppend (vVar 7) (vCons (vOp false fAdd (vOp false fAdd (vOp false fAdd (vOp false fIx (vVar 2) (vOp false (fI gMod) (vCB false fInt1 (vCons (vOp false fAdd (vVar 0) (vOp false (fI gMul) (vC (.int 3)) (vVar 5))) vNil)) (vC (.int 26)))) (vSl false (vVar 8) vNoPart (vPart (vVar 9)))) (vOp false fIx (vVar 2) (vOp false (fI gMod) (vCB false fInt1 (vCons (vOp false fAdd (vVar 0) (vOp false (fI gMul) (vVar 10) (vVar 5))) vNil)) (vC (.int 36))))) (vSl false (vVar 8) (vPart (vVar 9)) vNoPart)) vNil)))))))) [some (.int n0), a1, some (.str Z), a3, some (.str base), some (.int i), some (.int v6), some (.ref 0), z8, z9, z10] [some (.l (ys.map W.str))] = some (.nx [some (.int n0), a1, some (.str Z), a3, some (.str base), some (.int i), some (.int v6), some (.ref 0), y8, y9, y10], [some (.l ((ys ++ [nmz n0 base v6 i]).map W.str))]) := by
  have hL : LIM = 100000 := rfl
  obtain ⟨y, hyo, hy1, hy2, hst⟩ : ∃ y : Str, ownS n0 base i = y ∧ Sgs y ∧ y.length ≤ 10 ∧ vIfS (vB (vOp false (fEq false) (vOp false (fI gMod) (vCB false fInt1 (vCons (vOp false fAdd (vOp false (fI gDiv) (vVar 0) (vC (.int 121))) (vVar 5)) vNil)) (vC (.int 3))) (vC (.int 0)))) (vSet 8 (vSl false (vVar 4) (vPart (vC (.int 1))) vNoPart)) vNext [some (.int n0), a1, some (.str Z), a3, some (.str base), some (.int i), some (.int v6), some (.ref 0), some (.str base), z9, z10] [some (.l (ys.map W.str))] = some (.nx [some (.int n0), a1, some (.str Z), a3, some (.str base), some (.int i), some (.int v6), some (.ref 0), some (.str y), z9, z10], [some (.l (ys.map W.str))]) := by
    have hc := cond_ok (ρ := [some (.int n0), a1, some (.str Z), a3, some (.str base), some (.int i), some (.int v6), some (.ref 0), some (.str base), z9, z10]) (st := [some (.l (ys.map W.str))]) (m := 3) (r := 0) (add_ok (div_ok (i := 0) (m := 121) rfl (by omega)) (var_ok (i := 5) rfl)) (by omega)
    by_cases hb : (n0 / 121 + (i : Int)) % 3 = 0
    · refine ⟨cutS base (some 1) none, if_pos hb, cut_sgs hy _ _, Nat.le_trans (cut_len _ _ _) hl, if_ok hc (fun _ => ?_) fun e => absurd hb (of_decide_eq_false e)⟩
      have hs : ∀ st : Sto, fSl (.str base) (some 1) none st = some (.val (.str (cutS base (some 1) none))) := fun st => if_pos (by omega)
      refine set_ok (ρ := [some (.int n0), a1, some (.str Z), a3, some (.str base), some (.int i), some (.int v6), some (.ref 0), some (.str base), z9, z10]) ?_
      simp [hs, finO]
    · exact ⟨base, if_neg hb, hy, hl, if_ok hc (fun e => absurd (of_decide_eq_true e) hb) fun _ => rfl⟩
  have h9 : ∀ a10, vSet 9 (vCB false fMin2 (vCons (vVar 6) (vCons (vCB false fLen (vCons (vVar 8) vNil)) vNil))) [some (.int n0), a1, some (.str Z), a3, some (.str base), some (.int i), some (.int v6), some (.ref 0), some (.str y), z9, a10] [some (.l (ys.map W.str))] = some (.nx [some (.int n0), a1, some (.str Z), a3, some (.str base), some (.int i), some (.int v6), some (.ref 0), some (.str y), some (.int (if (y.length : Int) < v6 then (y.length : Int) else v6)), a10], [some (.l (ys.map W.str))]) := fun a10 => by
    have hlen : ∀ st : Sto, fLen [.str y] st = some (.val (.int y.length)) := fun st => if_pos (by omega)
    refine set_ok (ρ := [some (.int n0), a1, some (.str Z), a3, some (.str base), some (.int i), some (.int v6), some (.ref 0), some (.str y), z9, a10]) ?_
    simp [hlen, finO]
  obtain ⟨M, hMs, hM, hst2⟩ : ∃ M : Int, stepM n0 = M ∧ gMul M i = some (.int (M * i)) ∧ ∀ v9, vIfS (vB (vOp false (fEq false) (vOp false (fI gMod) (vCB false fInt1 (vCons (vOp false (fI gDiv) (vVar 0) (vC (.int 363))) vNil)) (vC (.int 2))) (vC (.int 1)))) (vSet 10 (vC (.int 31))) vNext [some (.int n0), a1, some (.str Z), a3, some (.str base), some (.int i), some (.int v6), some (.ref 0), some (.str y), v9, some (.int 5)] [some (.l (ys.map W.str))] = some (.nx [some (.int n0), a1, some (.str Z), a3, some (.str base), some (.int i), some (.int v6), some (.ref 0), some (.str y), v9, some (.int M)], [some (.l (ys.map W.str))]) := by
    obtain ⟨_, _, _, e5, e31⟩ := hmul hi
    by_cases hb : (n0 / 363) % 2 = 1
    · exact ⟨31, if_pos hb, e31, fun v9 => if_ok (cond_ok (div_ok rfl (by omega)) (by omega)) (fun _ => set_ok rfl) fun e => absurd hb (of_decide_eq_false e)⟩
    · exact ⟨5, if_neg hb, e5, fun v9 => if_ok (cond_ok (div_ok rfl (by omega)) (by omega)) (fun e => absurd (of_decide_eq_true e) hb) fun _ => rfl⟩
  have hzz : nmz n0 base v6 i = nmw y (if (y.length : Int) < v6 then (y.length : Int) else v6) (sg ((n0 + 3 * i) % 26)) (sg ((n0 + M * i) % 36)) := by
    unfold nmz
    rw [hyo, hMs]
  obtain ⟨hz, hadd⟩ := names_add hZ h0 h1 hi hy1 hy2 h6 hM hys a1 a3 (some (.str base)) _ rfl _ rfl
  rw [hzz]
  refine ⟨some (.str y), some (.int (if (y.length : Int) < v6 then (y.length : Int) else v6)), some (.int M), hz, ?_⟩
  rw [sq_nx (set_ok (var_ok (w := .str base) rfl))]
  dsimp only [List.set]
  rw [sq_nx hst, sq_nx (h9 z10), sq_nx (set_ok (w := .int 5) rfl)]
  dsimp only [List.set]
  rw [sq_nx (hst2 _)]
  exact hadd
noncomputable def namesZ (Z : Str) : S := (vSeq (vSet 2 (vC (.str Z)))
  (vSeq (vSet 3 (vOp false (fI gMod) (vCB false fInt1 (vCons (vVar 0) vNil)) (vC (.int 11))))
  (vSeq (vSet 4 (vM1 false fJoin (vC (.str "")) (vLc false [5] (vRng1 (vCons (vVar 3) vNil)) (gN 5) vYes (vOp false fIx (vVar 2) (vOp false (fI gMod) (vCB false fInt1 (vCons (vOp false fAdd (vVar 0) (vOp false (fI gMul) (vOp false (fI gMul) (vC (.int 7)) (vVar 5)) (vVar 5))) vNil)) (vC (.int 36)))))))
  (vSeq (vSet 6 (vOp false (fI gMod) (vCB false fInt1 (vCons (vOp false (fI gDiv) (vVar 0) (vC (.int 11))) vNil)) (vOp false fAdd (vVar 3) (vC (.int 1)))))
  (vSeq (vSet 7 (vLst true vNil))
  (vSeq (vFor (vRng1 (vCons (vVar 1) vNil)) (gN 5) (vSeq (vSet 8 (vVar 4))
  (vSeq (vIfS (vB (vOp false (fEq false) (vOp false (fI gMod) (vCB false fInt1 (vCons (vOp false fAdd (vOp false (fI gDiv) (vVar 0) (vC (.int 121))) (vVar 5)) vNil)) (vC (.int 3))) (vC (.int 0)))) (vSet 8 (vSl false (vVar 4) (vPart (vC (.int 1))) vNoPart)) vNext)
  (vSeq (vSet 9 (vCB false fMin2 (vCons (vVar 6) (vCons (vCB false fLen (vCons (vVar 8) vNil)) vNil))))
  (vSeq (vSet 10 (vC (.int 5)))
  (vSeq (vIfS (vB (vOp false (fEq false) (vOp false (fI gMod) (vCB false fInt1 (vCons (vOp false (fI gDiv) (vVar 0) (vC (.int 363))) vNil)) (vC (.int 2))) (vC (.int 1)))) (vSet 10 (vC (.int 31))) vNext)
  (vExpr (vMut mAppend (vVar 7) (vCons (vOp false fAdd (vOp false fAdd (vOp false fAdd (vOp false fIx (vVar 2) (vOp false (fI gMod) (vCB false fInt1 (vCons (vOp false fAdd (vVar 0) (vOp false (fI gMul) (vC (.int 3)) (vVar 5))) vNil)) (vC (.int 26)))) (vSl false (vVar 8) vNoPart (vPart (vVar 9)))) (vOp false fIx (vVar 2) (vOp false (fI gMod) (vCB false fInt1 (vCons (vOp false fAdd (vVar 0) (vOp false (fI gMul) (vVar 10) (vVar 5))) vNil)) (vC (.int 36))))) (vSl false (vVar 8) (vPart (vVar 9)) vNoPart)) vNil)))))))))
  (vRet (vFrz 2 (vVar 7)))))))))
def nmAt (n0 : Int) (i : Nat) : Str := nmz n0 (baseS n0 (n0 % 11).toNat) ((n0 / 11) % (((n0 % 11).toNat : Int) + 1)) i
def namesOf (n0 : Int) (m : Nat) : List Str := (List.range m).map (nmAt n0)
theorem names_run {Z : Str} (hZ : IxZ Z) {n0 : Int} (h0 : 0 ≤ n0) (h1 : n0 < 1009) {m : Nat} (hm : m ≤ 12) : (∀ y ∈ namesOf n0 m, isNm (tl y) = true) ∧ namesZ Z [some (.int n0), some (.int (m : Int)), none, none, none, none, none, none, none, none, none] [] = some (.rt (.lst ((namesOf n0 m).map W.str)), [none]) := by
  obtain ⟨kk, hkk⟩ : ∃ kk : Nat, n0 % 11 = kk := ⟨(n0 % 11).toNat, by omega⟩
  have hk10 : kk ≤ 10 := by omega
  have hkt : (n0 % 11).toNat = kk := by omega
  obtain ⟨hb1, hb2, hb3⟩ := names_base hZ (n0 := n0) hk10 _ rfl
  obtain ⟨v6, h6, hv6⟩ : ∃ v6 : Int, 0 ≤ v6 ∧ (n0 / 11) % ((kk : Int) + 1) = v6 := ⟨_, Int.emod_nonneg _ (by omega), rfl⟩
  have hat : ∀ i, nmAt n0 i = nmz n0 (baseS n0 kk) v6 i := fun i => by
    unfold nmAt
    rw [hkt, hv6]
  unfold namesOf
  rw [show (List.range m).map (nmAt n0) = (List.range m).map (nmz n0 (baseS n0 kk) v6) from List.map_congr_left fun i _ => hat i]
  generalize hbase : baseS n0 kk = base at hb1 hb2 hb3 ⊢
  obtain ⟨ρ', st', hf, z5, z8, z9, z10, hn, rfl, rfl⟩ := forL_inv (f := fun i : Nat => W.int (i : Int)) (l := (List.range m).map fun i : Nat => W.int (i : Int)) (g := gN 5) (b :=  (vSeq (vSet 8 (vVar 4))
  (vSeq (vIfS (vB (vOp false (fEq false) (vOp false (fI gMod) (vCB false fInt1 (vCons (vOp false fAdd (vOp false (fI gDiv) (vVar 0) (vC (.int 121))) (vVar 5)) vNil)) (vC (.int 3))) (vC (.int 0)))) (vSet 8 (vSl false (vVar 4) (vPart (vC (.int 1))) vNoPart)) vNext)
  (vSeq (vSet 9 (vCB false fMin2 (vCons (vVar 6) (vCons (vCB false fLen (vCons (vVar 8) vNil)) vNil))))
  (vSeq (vSet 10 (vC (.int 5)))
  (vSeq (vIfS (vB (vOp false (fEq false) (vOp false (fI gMod) (vCB false fInt1 (vCons (vOp false (fI gDiv) (vVar 0) (vC (.int 363))) vNil)) (vC (.int 2))) (vC (.int 1)))) (vSet 10 (vC (.int 31))) vNext)
  (vExpr (vMut mAppend (vVar 7) (vCons (vOp false fAdd (vOp false fAdd (vOp false fAdd (vOp false fIx (vVar 2) (vOp false (fI gMod) (vCB false fInt1 (vCons (vOp false fAdd (vVar 0) (vOp false (fI gMul) (vC (.int 3)) (vVar 5))) vNil)) (vC (.int 26)))) (vSl false (vVar 8) vNoPart (vPart (vVar 9)))) (vOp false fIx (vVar 2) (vOp false (fI gMod) (vCB false fInt1 (vCons (vOp false fAdd (vVar 0) (vOp false (fI gMul) (vVar 10) (vVar 5))) vNil)) (vC (.int 36))))) (vSl false (vVar 8) (vPart (vVar 9)) vNoPart)) vNil))))))))) (fun done ρ st => ∃ (z5 z8 z9 z10 : Option W), (∀ y ∈ done.map (nmz n0 base v6), isNm (tl y) = true) ∧ ρ = [some (.int n0), some (.int (m : Int)), some (.str Z), some (.int kk), some (.str base), z5, some (.int v6), some (.ref 0), z8, z9, z10] ∧ st = [some (.l ((done.map (nmz n0 base v6)).map W.str))]) (List.range m) (fun done i rest ρ st e hi => by
      obtain ⟨z5, z8, z9, z10, hn, rfl, rfl⟩ := hi
      have hi12 : i < 12 := by
        have : i < m := List.mem_range.mp (by rw [e]; simp)
        omega
      have hd : (done.map (nmz n0 base v6)).length < 12 := by
        have := congrArg List.length e
        rw [List.length_range, List.length_append, List.length_cons] at this
        rw [List.length_map]
        omega
      obtain ⟨y8, y9, y10, hz, hs⟩ := names_step hZ h0 h1 hi12 hb2 (by omega) h6 hd (some (.int (m : Int))) (some (.int kk)) z8 z9 z10
      refine ⟨_, _, rfl, _, _, .inl hs, _, _, _, _, fun y hy => ?_, rfl, by rw [List.map_append (f := nmz n0 base v6) (l₁ := done)]; rfl⟩
      rw [List.map_append] at hy
      rcases List.mem_append.mp hy with h | h
      · exact hn y h
      · rw [List.mem_singleton.mp h]
        exact hz) (List.range m) [] [some (.int n0), some (.int (m : Int)), some (.str Z), some (.int kk), some (.str base), none, some (.int v6), some (.ref 0), none, none, none] [some (.l [])] rfl ⟨none, none, none, none, (fun _ h => by cases h), rfl, rfl⟩
  refine ⟨hn, ?_⟩
  unfold namesZ
  rw [sq_nx (set_ok (w := .str Z) rfl)]
  dsimp only [List.set]
  rw [sq_nx (set_ok (modv_ok (a := n0) (var_ok rfl) (by decide))), hkk]
  dsimp only [List.set]
  rw [sq_nx (set_ok hb3)]
  dsimp only [List.set]
  rw [sq_nx (set_ok (mod2_ok (div_ok (i := 0) (a := n0) rfl (by decide)) (add_ok (a := kk) (var_ok rfl) c_ok) (by omega))), hv6]
  dsimp only [List.set]
  rw [sq_nx (set_ok (w := .ref 0) (s := [some (.l [])]) rfl)]
  dsimp only [List.set]
  rw [sq_nx ((for_ok (rng_ok (k := m) (one_ok (var_ok rfl)) (by omega))).trans hf), e_ret]
  unfold vFrz
  rw [var_ok (w := .ref 0) rfl, andR_ok, frz_strs]
  rfl
end VS

/-! repr of anything flat, too -/
namespace VS
open PySem PySem.Spec PyProof.Rows L2 Evl
open TL (tl len_tl ext_tl tl_append tl_mk mk_tl)
def rReprF : List V → Hp → VK → Prop := fun xs H Q => (∃ b, xs = [V.bl b] ∧ Q (.str (if b = true then Str.ofString "True" else Str.ofString "False")) H) ∨ (∃ i : Int, xs = [V.int i] ∧ i.natAbs.log2 < 1920 ∧ Q (.str (Str.ofString (toString i))) H) ∨ (∃ x, xs = [V.str x] ∧ (reprText x).length ≤ sizeLine ∧ Q (.str (reprText x)) H) ∨ (xs = [V.non] ∧ Q (.str ("None" : String)) H)
theorem call_reprF {X : Cx} : CallR X (.builtin "repr") rReprF := by
  intro pins s σ H xs us Q I r h
  rcases h with ⟨b, rfl, q⟩ | ⟨i, rfl, hi, q⟩ | ⟨x, rfl, hx, q⟩ | ⟨rfl, q⟩
  · obtain ⟨u, rfl, ru⟩ := vals1 r
    obtain rfl : u = Value.bool b := ru
    exact P.repr_of_bool ⟨.str _, H, I.kept (t' := s.toks + 1) (fun _ _ e => e), ⟨_, rfl⟩, q⟩
  · obtain ⟨u, rfl, ru⟩ := vals1 r
    obtain ⟨t, rfl⟩ := ru
    exact P.repr_of_int hi ⟨.str _, H, I.kept (t' := s.toks + 1) (fun _ _ e => e), ⟨_, rfl⟩, q⟩
  · obtain ⟨u, rfl, ru⟩ := vals1 r
    obtain ⟨t, rfl⟩ := ru
    exact P.repr_of_str ⟨.str _, H, I.kept (t' := s.toks + 1) (fun _ _ e => e), ⟨_, rfl⟩, q⟩ hx
  · obtain ⟨u, rfl, ru⟩ := vals1 r
    obtain rfl : u = Value.none := ru
    exact P.repr_of_none ⟨.str _, H, I.kept (t' := s.toks + 1) (fun _ _ e => e), ⟨_, rfl⟩, q⟩
def rReprV (K : PySem.W.Frag) : List V → Hp → VK → Prop := fun xs H Q => Fw.rRepr K xs H Q ∨ rReprF xs H Q
theorem k_reprV {X : Cx} (K : PySem.W.Frag) (hK : X.K = K) (hg : X.A.guards = some []) (hu : X.A.units + 80 < cLine) : CallR X (.builtin "repr") (rReprV K) := fun pins s σ H xs us Q I r h => h.elim (fun h => k_repr K hK hg hu pins s σ H xs us Q I r h) fun h => call_reprF pins s σ H xs us Q I r h
def fReprV (ws : List W) (st : Sto) : Option Fr := match ws with
  | [.bl b] => some (.val (.str (if b = true then Str.ofString "True" else Str.ofString "False")))
  | [.int i] => if i.natAbs.log2 < 1920 then some (.val (.str (Str.ofString (toString i)))) else none
  | [.str x] => if (reprText x).length ≤ LIM then some (.val (.str (reprText x))) else none
  | [.non] => some (.val (.str ("None" : String)))
  | ws => fRepr ws st
theorem o_reprV {K : PySem.W.Frag} : OpN (rReprV K) fReprV := fun φ st G H vs ws fr k r hf Q p => by
  unfold fReprV at hf
  split at hf
  · cases hf
    obtain ⟨v, rfl, h1⟩ := ra1 r
    exact .inr (.inl ⟨_, by rw [rp_bl h1], p _ (.str _)⟩)
  · split at hf
    · rename_i hl
      cases hf
      obtain ⟨v, rfl, h1⟩ := ra1 r
      exact .inr (.inr (.inl ⟨_, by rw [rp_int h1], hl, p _ (.str _)⟩))
    · cases hf
  · split at hf
    · rename_i hl
      cases hf
      obtain ⟨v, rfl, h1⟩ := ra1 r
      exact .inr (.inr (.inr (.inl ⟨_, by rw [rp_str h1], sz_le hl, p _ (.str _)⟩)))
    · cases hf
  · cases hf
    obtain ⟨v, rfl, h1⟩ := ra1 r
    exact .inr (.inr (.inr (.inr ⟨by rw [rp_non h1], p _ (.str _)⟩)))
  · exact .inl (o_repr φ st G H vs ws fr k r hf Q p)
end VS

/-! the names of a law are different; rules that a law draws -/
namespace VS
open PySem PySem.Spec PyProof.Rows L2 Evl
open TL (tl len_tl ext_tl tl_append tl_mk mk_tl)
open Fw (fstAt fst_at fst_lt okS okD)
theorem sg_inj {a b : Int} (ha : 0 ≤ a ∧ a < 36) (hb : 0 ≤ b ∧ b < 36) (h : sg a = sg b) : a = b := by
  have h1 : (List.range 36).all (fun i => (List.range 36).all fun j => decide ((tl SIGs).getD i 0 = (tl SIGs).getD j 0 → i = j)) = true := by decide +kernel
  have := of_decide_eq_true (List.all_eq_true.mp (List.all_eq_true.mp h1 a.toNat (List.mem_range.mpr (by omega))) b.toNat (List.mem_range.mpr (by omega))) h
  omega
theorem nmw_tl {y : Str} {p : Nat} (h : p ≤ (tl y).length) (d1 d2 : Nat) : tl (nmw y (p : Int) d1 d2) = d1 :: ((tl y).take p ++ d2 :: (tl y).drop p) := by
  have e1 : HT.sIx (tl y).length 0 (some (p : Int)) = p := (HT.sIx_nat _ _ p).trans (Nat.min_eq_left h)
  have e2 : HT.sIx (tl y).length (tl y).length (some (p : Int)) = p := (HT.sIx_nat _ _ p).trans (Nat.min_eq_left h)
  unfold nmw
  rw [tl_append, tl_append, tl_append, Fw.tl_cut, Fw.tl_cut, HT.sIx_none, HT.sIx_none, e1, e2, List.drop_zero, Nat.sub_zero, List.take_of_length_le (i := (tl y).length - p) (by rw [List.length_drop]; exact Nat.le_refl _)]
  show ([d1] ++ (tl y).take p) ++ [d2] ++ (tl y).drop p = _
  simp
theorem cut_one (y : Str) : tl (cutS y (some 1) none) = (tl y).drop 1 := by
  rw [Fw.tl_cut, HT.sIx_none]
  have e1 : HT.sIx (tl y).length 0 (some ((1 : Nat) : Int)) = min 1 (tl y).length := HT.sIx_nat _ _ 1
  rw [show (some (1 : Int)) = some ((1 : Nat) : Int) from rfl, e1]
  rw [List.take_of_length_le (by rw [List.length_drop]; exact Nat.le_refl _)]
  cases tl y with
  | nil => rfl
  | cons c l => simp
theorem own_len {n0 : Int} {base : Str} {i j : Nat} (h : (tl (ownS n0 base i)).length = (tl (ownS n0 base j)).length) : ownS n0 base i = ownS n0 base j := by
  unfold ownS at h ⊢
  split at h <;> split at h
  · rename_i h1 h2
    rw [if_pos h1, if_pos h2]
  · rename_i h1 h2
    rw [if_pos h1, if_neg h2]
    rw [cut_one, List.length_drop] at h
    exact ext_tl (by rw [cut_one]; cases e : tl base with
      | nil => rfl
      | cons c l => rw [e] at h; simp at h)
  · rename_i h1 h2
    rw [if_neg h1, if_pos h2]
    rw [cut_one, List.length_drop] at h
    exact ext_tl (by rw [cut_one]; cases e : tl base with
      | nil => rfl
      | cons c l => rw [e] at h; simp at h)
  · rename_i h1 h2
    rw [if_neg h1, if_neg h2]
theorem nmz_inj {n0 : Int} {base : Str} {v6 : Int} (h6 : 0 ≤ v6) {i j : Nat} (hi : i < 12) (hj : j < 12) (h : nmz n0 base v6 i = nmz n0 base v6 j) : i = j := by
  unfold nmz at h
  have key : ∀ (y : Str), ∃ p : Nat, (if (y.length : Int) < v6 then (y.length : Int) else v6) = p ∧ p ≤ (tl y).length := fun y => by
    rw [len_tl]
    split
    · exact ⟨(tl y).length, rfl, Nat.le_refl _⟩
    · exact ⟨v6.toNat, by omega, by omega⟩
  obtain ⟨p, hp, hpl⟩ := key (ownS n0 base i)
  obtain ⟨q, hq, hql⟩ := key (ownS n0 base j)
  have e : tl (ownS n0 base i) = tl (ownS n0 base j) ∧ p = q → i = j := by
    rintro ⟨e1, rfl⟩
    rw [hp, hq] at h
    have h2 := congrArg tl h
    rw [nmw_tl hpl, nmw_tl hql, e1] at h2
    injection h2 with _ h3
    have h4 := List.append_cancel_left h3
    injection h4 with h5 _
    have h7 := sg_inj (m36 _) (m36 _) h5
    unfold stepM at h7
    split at h7 <;> omega
  refine e ?_
  have hlen := congrArg (fun s => (tl s).length) h
  rw [hp, hq] at hlen
  have hlen2 : (tl (nmw (ownS n0 base i) (p : Int) (sg ((n0 + 3 * i) % 26)) (sg ((n0 + stepM n0 * i) % 36)))).length = (tl (nmw (ownS n0 base j) (q : Int) (sg ((n0 + 3 * j) % 26)) (sg ((n0 + stepM n0 * j) % 36)))).length := hlen
  rw [nmw_tl hpl, nmw_tl hql] at hlen2
  simp only [List.length_cons, List.length_append, List.length_take, List.length_drop] at hlen2
  have hl : (tl (ownS n0 base i)).length = (tl (ownS n0 base j)).length := by omega
  have ho := own_len hl
  refine ⟨by rw [ho], ?_⟩
  rw [ho] at hp
  omega
theorem namesOf_nodup {n0 : Int} (h0 : 0 ≤ n0) {m : Nat} (hm : m ≤ 12) : (namesOf n0 m).Nodup := by
  unfold namesOf
  refine List.pairwise_map.mpr (List.Pairwise.imp_of_mem (fun {a b} ha hb hab e => hab ?_) List.nodup_range)
  have := List.mem_range.mp ha
  have := List.mem_range.mp hb
  unfold nmAt at e
  exact nmz_inj (Int.emod_nonneg _ (by omega)) (by omega) (by omega) e
end VS

/-! rules that a law draws -/
namespace VS
open PySem PySem.Spec PyProof.Rows L2 Evl
open TL (tl len_tl ext_tl tl_append tl_mk mk_tl)
open Fw (fstAt fst_at fst_lt okS okD)
structure Pl where
  n : Str
  s : Nat
  y : Bool
def plW (p : Pl) : W := .tup true [.str p.n, .int (p.s : Nat), .bl p.y]
theorem lstrg_ok {ρ : Env} {st : Sto} {x y : M W} {a b : Int} (hx : x ρ st = some (.ok (.int a), st)) (hy : y ρ st = some (.ok (.int b), st)) (h : rgB a b = true) : vLstRg2 false x y ρ st = some (.ok (.lst (rgW a b)), st) := by
  unfold vLstRg2
  rw [hx, andR_ok, hy, andR_ok]
  simp [h]
theorem addl_ok {ρ : Env} {st : Sto} {α : Type} {f : α → W} {a b : List α} {x y : M W} (hx : x ρ st = some (.ok (.lst (a.map f)), st)) (hy : y ρ st = some (.ok (.lst (b.map f)), st)) (h : a.length + b.length ≤ LIM) : vOp false fAdd x y ρ st = some (.ok (.lst ((a ++ b).map f)), st) := by
  have e : fAdd (.lst (a.map f)) (.lst (b.map f)) st = some (.nl (a.map f ++ b.map f)) := by
    show (if (a.map f).length + (b.map f).length ≤ LIM then _ else _) = _
    rw [List.length_map, List.length_map, if_pos h]
  rw [e_op, hx, andR_ok, hy, andR_ok, e, List.map_append]
  rfl
theorem len_ok {ρ : Env} {st : Sto} {α : Type} {f : α → W} {a : List α} {x : M W} (hx : x ρ st = some (.ok (.lst (a.map f)), st)) : vCB false fLen (vCons x vNil) ρ st = some (.ok (.int (a.length : Nat)), st) := by
  have e : fLen [.lst (a.map f)] st = some (.val (.int ((a.map f).length : Nat))) := rfl
  rw [e_cb, one_ok hx, andR_ok, e, List.length_map]
  rfl
theorem rev_ok {ρ : Env} {st : Sto} {α : Type} {f : α → W} {a : List α} {x : M W} (hx : x ρ st = some (.ok (.lst (a.map f)), st)) : vRev false x ρ st = some (.ok (.lst (a.reverse.map f)), st) := by
  rw [e_rev, hx, andR_ok, lstOf_lst, List.map_reverse]
  rfl
theorem take_ok {ρ : Env} {st : Sto} {α : Type} {f : α → W} {l : List α} {x : M W} {hi : M (Option Int)} {n : Nat} (hx : x ρ st = some (.ok (.lst (l.map f)), st)) (hh : hi ρ st = some (.ok (some (n : Int)), st)) : vSl false x vNoPart hi ρ st = some (.ok (.lst ((l.take n).map f)), st) := by
  rw [sl_ok (lo := vNoPart) (lv := none) (hv := some (n : Int)) hx rfl hh (HT.sIx_none _ _) (HT.sIx_nat _ _ n), List.drop_zero, Nat.sub_zero]
  rcases Nat.le_total n l.length with h | h
  · rw [Nat.min_eq_left h]
  · rw [Nat.min_eq_right h, List.take_length, List.take_of_length_le h]
theorem drop_ok {ρ : Env} {st : Sto} {α : Type} {f : α → W} {l : List α} {x : M W} {lo : M (Option Int)} {n : Nat} (hx : x ρ st = some (.ok (.lst (l.map f)), st)) (hh : lo ρ st = some (.ok (some (n : Int)), st)) : vSl false x lo vNoPart ρ st = some (.ok (.lst ((l.drop n).map f)), st) := by
  rw [sl_ok (hi := vNoPart) (lv := some (n : Int)) (hv := none) hx hh rfl (HT.sIx_nat _ _ n) (HT.sIx_none _ _), List.take_of_length_le (by rw [List.length_drop]; omega)]
  rcases Nat.le_total n l.length with h | h
  · rw [Nat.min_eq_left h]
  · rw [Nat.min_eq_right h, List.drop_of_length_le h, List.drop_length]
theorem part_ok {ρ : Env} {st : Sto} {x : M W} {i : Int} (hx : x ρ st = some (.ok (.int i), st)) : vPart x ρ st = some (.ok (some i), st) := by
  rw [e_part, hx, andR_ok]
theorem tupf_ok {ρ : Env} {st : Sto} {l : List W} {x : M W} (hx : x ρ st = some (.ok (.lst l), st)) : vCB false fTupF (vCons x vNil) ρ st = some (.ok (.tup false l), st) := by
  rw [e_cb, one_ok hx, andR_ok]
  rfl
/-- part k of a tuple -/
theorem ixt_ok {ρ : Env} {st : Sto} {b : Bool} {ws : List W} {x : M W} {i : Int} {w : W} (hx : x ρ st = some (.ok (.tup b ws), st)) (h : ws[i.toNat]? = some w) (h0 : 0 ≤ i) : vOp false fIx x (vC (.int i)) ρ st = some (.ok w, st) := by
  obtain ⟨k, rfl⟩ : ∃ k : Nat, i = k := ⟨i.toNat, (Int.toNat_of_nonneg h0).symm⟩
  rw [Int.toNat_natCast] at h
  have hk : k < ws.length := by
    rcases Nat.lt_or_ge k ws.length with l | l
    · exact l
    · rw [List.getElem?_eq_none l] at h
      cases h
  have e : fIx (.tup b ws) (.int (k : Int)) st = some (.val w) := by
    show ((some ws).bind fun ws => (atI ws (k : Int)).map Fr.val) = _
    rw [Option.bind_some]
    have : atI ws (k : Int) = some w := by
      unfold atI
      simp [ixN, hk] at h ⊢
      exact h
    rw [this]
    rfl
  rw [e_op, hx, andR_ok, e_c, andR_ok, e]
  rfl
noncomputable def ruleS : S := (vSeq (vSet 5 (vLstRg2 false (vC (.int 1)) (vOp false fAdd (vVar 3) (vC (.int 1)))))
  (vSeq (vIfS (vB (vOp false (fEq false) (vVar 4) (vC (.int 0)))) (vSet 5 (vOp false fAdd (vLst false (vCons (vC (.int 0)) vNil)) (vVar 5))) vNext)
  (vSeq (vSet 6 (vLc false [7] (vSrc (vVar 2)) (gN 7) (vB (vOp false (fI gLe) (vOp false fIx (vVar 7) (vC (.int 1))) (vCB false fLen (vCons (vVar 5) vNil)))) (vVar 7)))
  (vSeq (vSet 8 (vOp false fIx (vVar 6) (vOp false (fI gMod) (vCB false fInt1 (vCons (vVar 0) vNil)) (vCB false fLen (vCons (vVar 6) vNil)))))
  (vSeq (vSet 9 (vOp false (fI gMod) (vCB false fInt1 (vCons (vVar 1) vNil)) (vCB false fMax2 (vCons (vC (.int 1)) (vCons (vCB false fLen (vCons (vVar 5) vNil)) vNil)))))
  (vSeq (vSet 5 (vOp false fAdd (vSl false (vVar 5) (vPart (vVar 9)) vNoPart) (vSl false (vVar 5) vNoPart (vPart (vVar 9)))))
  (vSeq (vIfS (vB (vOp false (fEq false) (vOp false (fI gMod) (vCB false fInt1 (vCons (vOp false (fI gDiv) (vVar 1) (vC (.int 7))) vNil)) (vC (.int 2))) (vC (.int 1)))) (vSet 5 (vRev false (vVar 5))) vNext)
  (vRet (vTup (vCons (vOp false fIx (vVar 8) (vC (.int 0))) (vCons (vCB false fTupF (vCons (vSl false (vVar 5) vNoPart (vPart (vOp false fIx (vVar 8) (vC (.int 1))))) vNil)) vNil)))))))))))
/-- rotated, turned round or not -/
def turnL (l : List Int) (t : Nat) (r : Bool) : List Int := if r = true then (l.drop t ++ l.take t).reverse else l.drop t ++ l.take t
theorem turn_perm (l : List Int) (t : Nat) (r : Bool) : (turnL l t r).Perm l := by
  have h : (l.drop t ++ l.take t).Perm l := by
    have := (List.perm_append_comm (l₁ := l.drop t) (l₂ := l.take t))
    rwa [List.take_append_drop] at this
  unfold turnL
  split
  · exact (List.reverse_perm _).trans h
  · exact h
def optsL (slots : Nat) (case : Nat) : List Int := if case = 0 then 0 :: (List.range slots).map (fun i : Nat => 1 + (i : Int)) else (List.range slots).map (fun i : Nat => 1 + (i : Int))
theorem opts_ok (slots case : Nat) : (optsL slots case).Nodup ∧ (∀ x ∈ optsL slots case, (0 ≤ x ∧ x ≤ slots) ∧ (x = 0 → case = 0)) ∧ (optsL slots case).length ≤ slots + 1 := by
  have h1 : ((List.range slots).map (fun i : Nat => 1 + (i : Int))).Nodup := List.pairwise_map.mpr (List.Pairwise.imp (fun {a b} hab e => hab (by omega)) List.nodup_range)
  have h2 : ∀ x ∈ (List.range slots).map (fun i : Nat => 1 + (i : Int)), 1 ≤ x ∧ x ≤ slots := fun x hx => by
    obtain ⟨i, hi, rfl⟩ := List.mem_map.mp hx
    have := List.mem_range.mp hi
    omega
  unfold optsL
  split
  · rename_i hc
    refine ⟨List.nodup_cons.mpr ⟨fun h => ?_, h1⟩, fun x hx => ?_, by simp⟩
    · have := h2 0 h
      omega
    · rcases List.mem_cons.mp hx with rfl | h
      · exact ⟨⟨by omega, by omega⟩, fun _ => hc⟩
      · have := h2 x h
        exact ⟨⟨by omega, by omega⟩, fun _ => hc⟩
  · refine ⟨h1, fun x hx => ?_, by simp⟩
    have := h2 x hx
    exact ⟨⟨by omega, by omega⟩, fun e => by omega⟩
def RuleIn (pls : List Pl) (slots case : Nat) (g : Pl) (src : List Int) : Prop := g ∈ pls ∧ src.length = g.s ∧ src.Nodup ∧ ∀ x ∈ src, (0 ≤ x ∧ x ≤ slots) ∧ (x = 0 → case = 0)
theorem rule_run {pls : List Pl} (hp : ∃ p ∈ pls, p.s = 0) (hpl : pls.length ≤ 60) {slots case : Nat} (hs : slots ≤ 10) {a b : Int} (ha : 0 ≤ a) (hb : 0 ≤ b) : ∃ g src, RuleIn pls slots case g src ∧ ruleS [some (.int a), some (.int b), some (.lst (pls.map plW)), some (.int (slots : Nat)), some (.int (case : Nat)), none, none, none, none, none] [] = some (.rt (.tup true [.str g.n, .tup false (src.map W.int)]), []) := by
  have hL : LIM = 100000 := rfl
  obtain ⟨on, om, ol⟩ := opts_ok slots case
  -- options
  have s1 : vSet 5 (vLstRg2 false (vC (.int 1)) (vOp false fAdd (vVar 3) (vC (.int 1)))) [some (.int a), some (.int b), some (.lst (pls.map plW)), some (.int (slots : Nat)), some (.int (case : Nat)), none, none, none, none, none] [] = some (.nx [some (.int a), some (.int b), some (.lst (pls.map plW)), some (.int (slots : Nat)), some (.int (case : Nat)), some (.lst (((List.range slots).map (fun i : Nat => 1 + (i : Int))).map W.int)), none, none, none, none], []) := by
    have e : rgW 1 ((slots : Nat) + 1) = ((List.range slots).map (fun i : Nat => 1 + (i : Int))).map W.int := by
      unfold rgW
      rw [List.map_map, show (((slots : Nat) : Int) + 1 - 1).toNat = slots by omega]
      rfl
    have := lstrg_ok (ρ := [some (.int a), some (.int b), some (.lst (pls.map plW)), some (.int (slots : Nat)), some (.int (case : Nat)), none, none, none, none, none]) (st := []) (c_ok (w := .int 1)) (add_ok (var_ok (i := 3) (w := .int (slots : Nat)) rfl) (c_ok (w := .int 1))) (by unfold rgB; exact decide_eq_true (by omega))
    rw [e] at this
    exact set_ok this
  have s2 : vIfS (vB (vOp false (fEq false) (vVar 4) (vC (.int 0)))) (vSet 5 (vOp false fAdd (vLst false (vCons (vC (.int 0)) vNil)) (vVar 5))) vNext [some (.int a), some (.int b), some (.lst (pls.map plW)), some (.int (slots : Nat)), some (.int (case : Nat)), some (.lst (((List.range slots).map (fun i : Nat => 1 + (i : Int))).map W.int)), none, none, none, none] [] = some (.nx [some (.int a), some (.int b), some (.lst (pls.map plW)), some (.int (slots : Nat)), some (.int (case : Nat)), some (.lst ((optsL slots case).map W.int)), none, none, none, none], []) := by
    have c0 := b_ok (eqb_ok (ρ := [some (.int a), some (.int b), some (.lst (pls.map plW)), some (.int (slots : Nat)), some (.int (case : Nat)), some (.lst (((List.range slots).map (fun i : Nat => 1 + (i : Int))).map W.int)), none, none, none, none]) (st := []) (var_ok (i := 4) (w := .int (case : Nat)) rfl) (c_ok (w := .int 0)) (fEq_int (neg := false)))
    rw [if_neg Bool.false_ne_true] at c0
    unfold optsL
    by_cases hc : case = 0
    · rw [if_pos hc]
      refine if_ok c0 (fun _ => ?_) fun e => absurd (by omega : (case : Int) = 0) (of_decide_eq_false e)
      exact set_ok (addl_ok (a := [0]) (by
        rw [e_lst, one_ok c_ok, andR_ok]
        rfl) (var_ok rfl) (by simp; omega))
    · rw [if_neg hc]
      exact if_ok c0 (fun e => absurd (of_decide_eq_true e) (by omega)) fun _ => rfl
  generalize optsL slots case = opts at on om ol s2
  -- goals
  obtain ⟨goals, hg0, hgs, s3⟩ : ∃ goals : List Pl, goals ≠ [] ∧ (∀ g ∈ goals, g ∈ pls ∧ g.s ≤ opts.length) ∧ vSet 6 (vLc false [7] (vSrc (vVar 2)) (gN 7) (vB (vOp false (fI gLe) (vOp false fIx (vVar 7) (vC (.int 1))) (vCB false fLen (vCons (vVar 5) vNil)))) (vVar 7)) [some (.int a), some (.int b), some (.lst (pls.map plW)), some (.int (slots : Nat)), some (.int (case : Nat)), some (.lst (opts.map W.int)), none, none, none, none] [] = some (.nx [some (.int a), some (.int b), some (.lst (pls.map plW)), some (.int (slots : Nat)), some (.int (case : Nat)), some (.lst (opts.map W.int)), some (.lst (goals.map plW)), none, none, none], []) := by
    refine ⟨pls.filter fun p => decide (p.s ≤ opts.length), fun e => ?_, fun g hg => ?_, set_ok ?_⟩
    · obtain ⟨p, h1, h2⟩ := hp
      have : p ∈ pls.filter fun p => decide (p.s ≤ opts.length) := List.mem_filter.mpr ⟨h1, decide_eq_true (by omega)⟩
      rw [e] at this
      cases this
    · have := List.mem_filter.mp hg
      exact ⟨this.1, of_decide_eq_true this.2⟩
    · have hc := lcL_run (f := plW) (l := pls.map plW) (g := gN 7) (t := vB (vOp false (fI gLe) (vOp false fIx (vVar 7) (vC (.int 1))) (vCB false fLen (vCons (vVar 5) vNil)))) (e := vVar 7) (ρ := [some (.int a), some (.int b), some (.lst (pls.map plW)), some (.int (slots : Nat)), some (.int (case : Nat)), some (.lst (opts.map W.int)), none, none, none, none]) (st := []) (fun p => decide (p.s ≤ opts.length)) plW pls [] (fun p _ => by
        refine ⟨[some (.int a), some (.int b), some (.lst (pls.map plW)), some (.int (slots : Nat)), some (.int (case : Nat)), some (.lst (opts.map W.int)), none, some (plW p), none, none], rfl, ?_, fun _ => var_ok rfl⟩
        refine b_ok ?_
        rw [e_op, ixt_ok (w := .int (p.s : Nat)) (var_ok (i := 7) (w := plW p) rfl) rfl (by decide), andR_ok, len_ok (var_ok (i := 5) rfl), andR_ok, fI_int, gLe_e]
        show some (R.ok (W.bl (decide ((p.s : Int) ≤ (opts.length : Int)))), ([] : Sto)) = _
        rw [show decide ((p.s : Int) ≤ (opts.length : Int)) = decide (p.s ≤ opts.length) from decide_eq_decide.mpr Int.ofNat_le]) (by simp only [List.length_nil]; omega)
      rw [e_lc, e_src, var_ok (i := 2) (w := .lst (pls.map plW)) rfl, andR_ok, srcOf_lst, optR_some, andR_ok]
      rw [show wipeV [some (.int a), some (.int b), some (.lst (pls.map plW)), some (.int (slots : Nat)), some (.int (case : Nat)), some (.lst (opts.map W.int)), none, none, none, none] [7] = [some (.int a), some (.int b), some (.lst (pls.map plW)), some (.int (slots : Nat)), some (.int (case : Nat)), some (.lst (opts.map W.int)), none, none, none, none] from rfl, hc]
      rfl
  have hgl : 0 < goals.length := List.length_pos_iff.mpr hg0
  obtain ⟨gi, hgi⟩ : ∃ gi : Int, gi = a % (goals.length : Nat) := ⟨_, rfl⟩
  have gi0 : 0 ≤ gi := hgi ▸ Int.emod_nonneg _ (by omega)
  have gi1 : gi < (goals.length : Nat) := hgi ▸ Int.emod_lt_of_pos _ (by omega)
  obtain ⟨hgm, hgsz⟩ := hgs _ (getD_in gi0 gi1 (⟨"", 0, false⟩ : Pl))
  have s4 : vSet 8 (vOp false fIx (vVar 6) (vOp false (fI gMod) (vCB false fInt1 (vCons (vVar 0) vNil)) (vCB false fLen (vCons (vVar 6) vNil)))) [some (.int a), some (.int b), some (.lst (pls.map plW)), some (.int (slots : Nat)), some (.int (case : Nat)), some (.lst (opts.map W.int)), some (.lst (goals.map plW)), none, none, none] [] = some (.nx [some (.int a), some (.int b), some (.lst (pls.map plW)), some (.int (slots : Nat)), some (.int (case : Nat)), some (.lst (opts.map W.int)), some (.lst (goals.map plW)), none, some (plW (goals.getD gi.toNat ⟨"", 0, false⟩)), none], []) := by
    have hm := mod2_ok (ρ := [some (.int a), some (.int b), some (.lst (pls.map plW)), some (.int (slots : Nat)), some (.int (case : Nat)), some (.lst (opts.map W.int)), some (.lst (goals.map plW)), none, none, none]) (st := []) (var_ok (i := 0) (w := .int a) rfl) (len_ok (f := plW) (a := goals) (var_ok (i := 6) rfl)) (by omega)
    rw [← hgi] at hm
    exact set_ok (ixl_ok (f := plW) (l := goals) ⟨"", 0, false⟩ (var_ok rfl) hm gi0 gi1)
  generalize goals.getD gi.toNat ⟨"", 0, false⟩ = g at hgm hgsz s4
  -- turned
  obtain ⟨t, ht⟩ : ∃ t : Nat, b % (if ((opts.length : Nat) : Int) > 1 then ((opts.length : Nat) : Int) else 1) = (t : Int) := by
    have hpos : 0 < (if ((opts.length : Nat) : Int) > 1 then ((opts.length : Nat) : Int) else 1) := by split <;> omega
    have := Int.emod_nonneg b (show (if ((opts.length : Nat) : Int) > 1 then ((opts.length : Nat) : Int) else 1) ≠ 0 by omega)
    exact ⟨(b % (if ((opts.length : Nat) : Int) > 1 then ((opts.length : Nat) : Int) else 1)).toNat, by omega⟩
  have s5 : vSet 9 (vOp false (fI gMod) (vCB false fInt1 (vCons (vVar 1) vNil)) (vCB false fMax2 (vCons (vC (.int 1)) (vCons (vCB false fLen (vCons (vVar 5) vNil)) vNil)))) [some (.int a), some (.int b), some (.lst (pls.map plW)), some (.int (slots : Nat)), some (.int (case : Nat)), some (.lst (opts.map W.int)), some (.lst (goals.map plW)), none, some (plW g), none] [] = some (.nx [some (.int a), some (.int b), some (.lst (pls.map plW)), some (.int (slots : Nat)), some (.int (case : Nat)), some (.lst (opts.map W.int)), some (.lst (goals.map plW)), none, some (plW g), some (.int (t : Nat))], []) := by
    have hmax : vCB false fMax2 (vCons (vC (.int 1)) (vCons (vCB false fLen (vCons (vVar 5) vNil)) vNil)) [some (.int a), some (.int b), some (.lst (pls.map plW)), some (.int (slots : Nat)), some (.int (case : Nat)), some (.lst (opts.map W.int)), some (.lst (goals.map plW)), none, some (plW g), none] [] = some (.ok (.int (if ((opts.length : Nat) : Int) > 1 then ((opts.length : Nat) : Int) else 1)), []) := by
      rw [e_cb, cons_ok c_ok (one_ok (len_ok (f := W.int) (a := opts) (var_ok (i := 5) rfl))), andR_ok, fMax2_e]
      rfl
    have hm := mod2_ok (x := vVar 1) (a := b) (var_ok rfl) hmax (by split <;> omega)
    rw [ht] at hm
    exact set_ok hm
  have s6 : vSet 5 (vOp false fAdd (vSl false (vVar 5) (vPart (vVar 9)) vNoPart) (vSl false (vVar 5) vNoPart (vPart (vVar 9)))) [some (.int a), some (.int b), some (.lst (pls.map plW)), some (.int (slots : Nat)), some (.int (case : Nat)), some (.lst (opts.map W.int)), some (.lst (goals.map plW)), none, some (plW g), some (.int (t : Nat))] [] = some (.nx [some (.int a), some (.int b), some (.lst (pls.map plW)), some (.int (slots : Nat)), some (.int (case : Nat)), some (.lst ((opts.drop t ++ opts.take t).map W.int)), some (.lst (goals.map plW)), none, some (plW g), some (.int (t : Nat))], []) := by
    refine set_ok (ρ := [some (.int a), some (.int b), some (.lst (pls.map plW)), some (.int (slots : Nat)), some (.int (case : Nat)), some (.lst (opts.map W.int)), some (.lst (goals.map plW)), none, some (plW g), some (.int (t : Nat))]) ?_
    refine addl_ok (drop_ok (var_ok rfl) (part_ok (var_ok rfl))) (take_ok (var_ok rfl) (part_ok (var_ok rfl))) ?_
    rw [List.length_drop, List.length_take]
    omega
  obtain ⟨r, s7⟩ : ∃ r : Bool, vIfS (vB (vOp false (fEq false) (vOp false (fI gMod) (vCB false fInt1 (vCons (vOp false (fI gDiv) (vVar 1) (vC (.int 7))) vNil)) (vC (.int 2))) (vC (.int 1)))) (vSet 5 (vRev false (vVar 5))) vNext [some (.int a), some (.int b), some (.lst (pls.map plW)), some (.int (slots : Nat)), some (.int (case : Nat)), some (.lst ((opts.drop t ++ opts.take t).map W.int)), some (.lst (goals.map plW)), none, some (plW g), some (.int (t : Nat))] [] = some (.nx [some (.int a), some (.int b), some (.lst (pls.map plW)), some (.int (slots : Nat)), some (.int (case : Nat)), some (.lst ((turnL opts t r).map W.int)), some (.lst (goals.map plW)), none, some (plW g), some (.int (t : Nat))], []) := by
    have hc := cond_ok (ρ := [some (.int a), some (.int b), some (.lst (pls.map plW)), some (.int (slots : Nat)), some (.int (case : Nat)), some (.lst ((opts.drop t ++ opts.take t).map W.int)), some (.lst (goals.map plW)), none, some (plW g), some (.int (t : Nat))]) (st := []) (m := 2) (r := 1) (div_ok (i := 1) (a := b) (m := 7) rfl (by decide)) (by decide)
    by_cases h : b / 7 % 2 = 1
    · exact ⟨true, if_ok hc (fun _ => set_ok (rev_ok (var_ok rfl))) fun e => absurd h (of_decide_eq_false e)⟩
    · exact ⟨false, if_ok hc (fun e => absurd (of_decide_eq_true e) h) fun _ => rfl⟩
  have pm := turn_perm opts t r
  generalize turnL opts t r = opts2 at pm s7
  refine ⟨g, opts2.take g.s, ⟨hgm, by rw [List.length_take, pm.length_eq]; omega, (List.take_sublist _ _).nodup (pm.nodup_iff.mpr on), fun x hx => om x (pm.mem_iff.mp (List.mem_of_mem_take hx))⟩, ?_⟩
  unfold ruleS
  rw [sq_nx s1, sq_nx s2, sq_nx s3, sq_nx s4, sq_nx s5, sq_nx s6, sq_nx s7, e_ret]
  rw [tup2_ok (ixt_ok (w := .str g.n) (var_ok (w := plW g) rfl) rfl (by decide)) (tupf_ok (take_ok (f := W.int) (l := opts2) (n := g.s) (var_ok (i := 5) rfl) (part_ok (ixt_ok (w := .int (g.s : Nat)) (var_ok (w := plW g) rfl) rfl (by decide)))))]
  rfl
end VS

/-! the rules of a book that a law draws -/
namespace VS
open PySem PySem.Spec PyProof.Rows L2 Evl
open TL (tl len_tl ext_tl tl_append tl_mk mk_tl)
open Fw (fstAt fst_at fst_lt okS okD)
abbrev Rk := Pl × Str × Nat
abbrev Rl := Rk × (Pl × List Int)
def kyR (k : Rk) : Ky := kyT [.inr k.1.n, .inr k.2.1, .inl (k.2.2 : Nat)]
def keyR (k : Rk) : W := .tup true [.str k.1.n, .str k.2.1, .int (k.2.2 : Nat)]
def ruleW (v : Pl × List Int) : W := .tup true [.str v.1.n, .tup false (v.2.map W.int)]
def encR (e : Rl) : Ky × W := (kyR e.1, ruleW e.2)
def rowK (p : Pl) (w : Str) : List Rk := (List.range (p.s + 1)).map fun c => (p, w, c)
def plK (ws : List Str) (p : Pl) : List Rk := ws.flatMap (rowK p)
def prodK (pls : List Pl) (ws : List Str) : List Rk := pls.flatMap (plK ws)
theorem keyW_R (k : Rk) : keyW true (keyR k) = some (kyR k) := rfl
theorem kyR_inj {k l : Rk} (h : kyR k = kyR l) : k.1.n = l.1.n ∧ k.2.1 = l.2.1 ∧ k.2.2 = l.2.2 := by
  have := kyT_inj h
  simp at this
  exact ⟨this.1, this.2.1, by omega⟩
def RlOk (pls : List Pl) (rl : List Rl) : Prop := ∀ e ∈ rl, RuleIn pls e.1.1.s e.1.2.2 e.2.1 e.2.2
theorem dput_ok {ρ : Env} {st : Sto} {d y v : M W} {n : Nat} {t : Bool} {kvs : List (Ky × W)} {kw w : W} {ky : Ky} (hv : v ρ st = some (.ok w, st)) (hd : d ρ st = some (.ok (.ref n), st)) (hy : y ρ st = some (.ok kw, st)) (hs : st[n]? = some (some (.d t kvs))) (hk : keyW t kw = some ky) (hl : kvs.length < LIM) : vDPut d y v ρ st = some (.nx ρ, st.set n (some (.d t (kvPut kvs ky w)))) := by
  rw [e_dput, hv, andS_ok, hd, andS_ok, hy, andS_ok]
  dsimp only
  rw [hs]
  dsimp only
  rw [hk]
  dsimp only
  rw [if_pos hl]
theorem tup3_ok {ρ : Env} {st : Sto} {x y z : M W} {w u v : W} (h : x ρ st = some (.ok w, st)) (hr : y ρ st = some (.ok u, st)) (hz : z ρ st = some (.ok v, st)) : vTup (vCons x (vCons y (vCons z vNil))) ρ st = some (.ok (.tup true [w, u, v]), st) := by
  rw [e_tup, cons_ok h (cons_ok hr (one_ok hz)), andR_ok]
  exact if_pos (by simp)
theorem src_ok {ρ : Env} {st : Sto} {x : M W} {l : List W} (hx : x ρ st = some (.ok (.lst l), st)) : vSrc x ρ st = some (.ok ⟨l, []⟩, st) := by
  rw [e_src, hx, andR_ok]
  rfl
noncomputable def oneS (mR : MF) : S := (vSeq (vDPut (vVar 7) (vTup (vCons (vVar 9) (vCons (vVar 11) (vCons (vVar 12) vNil)))) (vCall true 5 mR (vCons (vOp false fIx (vVar 0) (vVar 8)) (vCons (vOp false fIx (vVar 0) (vOp false fAdd (vVar 8) (vC (.int 1)))) (vCons (vVar 4) (vCons (vVar 6) (vCons (vVar 12) vNil)))))))
  (vSet 8 (vOp false fAdd (vVar 8) (vC (.int 2)))))
noncomputable def fillS (mR : MF) : S := (vFor (vSrc (vVar 4)) (gT 3 (gsCons (gN 9) (gsCons (gN 6) (gsCons (gN 10) gsNil)))) (vFor (vSrc (vVar 2)) (gN 11) (vFor (vRng1 (vCons (vOp false fAdd (vVar 6) (vC (.int 1))) vNil)) (gN 12) (oneS mR))))
section
variable {mR : MF} {pls : List Pl} {ws ns : List Str} {nm : List Int} {at_ : Nat} {z5 : Option W}
def fillE (pls : List Pl) (ws ns : List Str) (nm : List Int) (at_ : Nat) (z5 z6 : Option W) (rl : List Rl) (z9 z10 z11 z12 : Option W) : Env := [some (intsW nm), some (.int (at_ : Nat)), some (.lst (ws.map W.str)), some (.lst (ns.map W.str)), some (.lst (pls.map plW)), z5, z6, some (.ref 1), some (.int ((at_ + 8 + 2 * rl.length : Nat) : Int)), z9, z10, z11, z12]
def fillT (rl : List Rl) : Sto := [none, some (.d true (rl.map encR))]
theorem one_run (sm : Fw.Sm nm) (hR : ∀ p ∈ pls, ∀ c ≤ p.s, ∀ a b : Int, 0 ≤ a → 0 ≤ b → ∀ st, ∃ g src, RuleIn pls p.s c g src ∧ callF true 5 mR [.int a, .int b, .lst (pls.map plW), .int (p.s : Nat), .int (c : Nat)] st = some (.ok (ruleW (g, src)), st))
    {rl : List Rl} {p : Pl} {w : Str} {c : Nat} (hp : p ∈ pls) (hc : c ≤ p.s) (hn : at_ + 8 + 2 * (rl.length + 1) ≤ nm.length) (hl : nm.length ≤ 1000) (hok : RlOk pls rl) (hnew : kyR (p, w, c) ∉ rl.map fun e => kyR e.1) (z10 : Option W) :
    ∃ v, RlOk pls (rl ++ [((p, w, c), v)]) ∧ oneS mR (fillE pls ws ns nm at_ z5 (some (.int (p.s : Nat))) rl (some (.str p.n)) z10 (some (.str w)) (some (.int (c : Nat)))) (fillT rl) = some (.nx (fillE pls ws ns nm at_ z5 (some (.int (p.s : Nat))) (rl ++ [((p, w, c), v)]) (some (.str p.n)) z10 (some (.str w)) (some (.int (c : Nat)))), fillT (rl ++ [((p, w, c), v)])) := by
  have hL : LIM = 100000 := rfl
  obtain ⟨g, src, hin, hcall⟩ := hR p hp c hc (nm.getD (((at_ + 8 + 2 * rl.length : Nat) : Int)).toNat 0) (nm.getD (((at_ + 8 + 2 * rl.length : Nat) : Int) + 1).toNat 0) (sm.getD _).1 (sm.getD _).1 (fillT rl)
  refine ⟨(g, src), fun e he => ?_, ?_⟩
  · rcases List.mem_append.mp he with h | h
    · exact hok e h
    · rw [List.mem_singleton.mp h]
      exact hin
  · have hspot : vVar 8 (fillE pls ws ns nm at_ z5 (some (.int (p.s : Nat))) rl (some (.str p.n)) z10 (some (.str w)) (some (.int (c : Nat)))) (fillT rl) = some (.ok (.int ((at_ + 8 + 2 * rl.length : Nat) : Int)), fillT rl) := var_ok rfl
    have h1 : vDPut (vVar 7) (vTup (vCons (vVar 9) (vCons (vVar 11) (vCons (vVar 12) vNil)))) (vCall true 5 mR (vCons (vOp false fIx (vVar 0) (vVar 8)) (vCons (vOp false fIx (vVar 0) (vOp false fAdd (vVar 8) (vC (.int 1)))) (vCons (vVar 4) (vCons (vVar 6) (vCons (vVar 12) vNil)))))) (fillE pls ws ns nm at_ z5 (some (.int (p.s : Nat))) rl (some (.str p.n)) z10 (some (.str w)) (some (.int (c : Nat)))) (fillT rl) = some (.nx (fillE pls ws ns nm at_ z5 (some (.int (p.s : Nat))) rl (some (.str p.n)) z10 (some (.str w)) (some (.int (c : Nat)))), fillT (rl ++ [((p, w, c), (g, src))])) := by
      rw [dput_ok (n := 1) (t := true) (kvs := rl.map encR) (kw := keyR (p, w, c)) (ky := kyR (p, w, c))
        (call_ok (cons_ok (ixn_ok (var_ok rfl) hspot (by omega) (by omega)) (cons_ok (ixn_ok (var_ok rfl) (add_ok hspot c_ok) (by omega) (by omega)) (cons_ok (var_ok rfl) (cons_ok (var_ok rfl) (one_ok (var_ok rfl)))))) hcall)
        (var_ok rfl) (tup3_ok (var_ok rfl) (var_ok rfl) (var_ok rfl)) rfl rfl (by rw [List.length_map]; omega)]
      rw [kvPut_new (by rw [List.map_map]; exact hnew)]
      unfold fillT
      rw [List.map_append]
      rfl
    unfold oneS
    rw [sq_nx h1, set_ok (add_ok (a := ((at_ + 8 + 2 * rl.length : Nat) : Int)) (b := 2) (var_ok rfl) c_ok)]
    have hs : (((at_ + 8 + 2 * rl.length : Nat) : Int) + 2) = ((at_ + 8 + 2 * (rl ++ [((p, w, c), (g, src))]).length : Nat) : Int) := by
      rw [List.length_append, List.length_singleton]
      omega
    rw [hs]
    rfl
theorem fill_run (sm : Fw.Sm nm) (hR : ∀ p ∈ pls, ∀ c ≤ p.s, ∀ a b : Int, 0 ≤ a → 0 ≤ b → ∀ st, ∃ g src, RuleIn pls p.s c g src ∧ callF true 5 mR [.int a, .int b, .lst (pls.map plW), .int (p.s : Nat), .int (c : Nat)] st = some (.ok (ruleW (g, src)), st))
    (hnd : (pls.map fun p => p.n).Nodup) (hwd : ws.Nodup) (hs : ∀ p ∈ pls, p.s ≤ 20) (hn : at_ + 8 + 2 * (prodK pls ws).length ≤ nm.length) (hl : nm.length ≤ 1000) (z6 z9 z10 z11 z12 : Option W) :
    ∃ rl y6 y9 y10 y11 y12, rl.map (fun e => e.1) = prodK pls ws ∧ RlOk pls rl ∧ fillS mR (fillE pls ws ns nm at_ z5 z6 [] z9 z10 z11 z12) (fillT []) = some (.nx (fillE pls ws ns nm at_ z5 y6 rl y9 y10 y11 y12), fillT rl) := by
  obtain ⟨ρ', st', hf, rl, y6, y9, y10, y11, y12, h1, h2, rfl, rfl⟩ := forL_inv (f := plW) (l := pls.map plW) (g := gT 3 (gsCons (gN 9) (gsCons (gN 6) (gsCons (gN 10) gsNil)))) (b := vFor (vSrc (vVar 2)) (gN 11) (vFor (vRng1 (vCons (vOp false fAdd (vVar 6) (vC (.int 1))) vNil)) (gN 12) (oneS mR))) (fun dp ρ st => ∃ rl y6 y9 y10 y11 y12, rl.map (fun e => e.1) = prodK dp ws ∧ RlOk pls rl ∧ ρ = fillE pls ws ns nm at_ z5 y6 rl y9 y10 y11 y12 ∧ st = fillT rl) pls (fun dp p rp ρ st e hi => by
    obtain ⟨rl0, y6, y9, y10, y11, y12, h1, h2, rfl, rfl⟩ := hi
    have hp : p ∈ pls := by rw [e]; simp
    have hfresh : ∀ q ∈ dp, q.n ≠ p.n := fun q hq z => by
      rw [e, List.map_append, List.map_cons] at hnd
      exact (List.nodup_append.mp hnd).2.2 q.n (List.mem_map_of_mem hq) p.n List.mem_cons_self z
    refine ⟨fillE pls ws ns nm at_ z5 (some (.int (p.s : Nat))) rl0 (some (.str p.n)) (some (.bl p.y)) y11 y12, fillT rl0, rfl, ?_⟩
    obtain ⟨ρ2, st2, hf2, rl, z11, z12, k1, k2, rfl, rfl⟩ := forL_inv (f := W.str) (l := ws.map W.str) (g := gN 11) (b := vFor (vRng1 (vCons (vOp false fAdd (vVar 6) (vC (.int 1))) vNil)) (gN 12) (oneS mR)) (fun dw ρ st => ∃ rl z11 z12, rl.map (fun e => e.1) = prodK dp ws ++ dw.flatMap (rowK p) ∧ RlOk pls rl ∧ ρ = fillE pls ws ns nm at_ z5 (some (.int (p.s : Nat))) rl (some (.str p.n)) (some (.bl p.y)) z11 z12 ∧ st = fillT rl) ws (fun dw w rw_ ρ st e2 hi => by
      obtain ⟨rl1, y11, y12, k1, k2, rfl, rfl⟩ := hi
      have hwfresh : w ∉ dw := fun z => by
        rw [e2] at hwd
        exact (List.nodup_append.mp hwd).2.2 w z w List.mem_cons_self rfl
      refine ⟨fillE pls ws ns nm at_ z5 (some (.int (p.s : Nat))) rl1 (some (.str p.n)) (some (.bl p.y)) (some (.str w)) y12, fillT rl1, rfl, ?_⟩
      obtain ⟨ρ3, st3, hf3, rl, z12, l1, l2, rfl, rfl⟩ := forL_inv (f := fun i : Nat => W.int (i : Int)) (l := (List.range (p.s + 1)).map fun i : Nat => W.int (i : Int)) (g := gN 12) (b := oneS mR) (fun dc ρ st => ∃ rl z12, rl.map (fun e => e.1) = prodK dp ws ++ dw.flatMap (rowK p) ++ dc.map (fun c => (p, w, c)) ∧ RlOk pls rl ∧ ρ = fillE pls ws ns nm at_ z5 (some (.int (p.s : Nat))) rl (some (.str p.n)) (some (.bl p.y)) (some (.str w)) z12 ∧ st = fillT rl) (List.range (p.s + 1)) (fun dc c rc ρ st e3 hi => by
        obtain ⟨rl2, y12, l1, l2, rfl, rfl⟩ := hi
        have hc : c ≤ p.s := by
          have : c ∈ List.range (p.s + 1) := by rw [e3]; simp
          have := List.mem_range.mp this
          omega
        have hcfresh : c ∉ dc := fun z => by
          have hd : (List.range (p.s + 1)).Nodup := List.nodup_range
          rw [e3] at hd
          exact (List.nodup_append.mp hd).2.2 c z c List.mem_cons_self rfl
        have hall : prodK pls ws = (prodK dp ws ++ dw.flatMap (rowK p) ++ dc.map (fun c => (p, w, c))) ++ ((p, w, c) :: (rc.map (fun c => (p, w, c)) ++ rw_.flatMap (rowK p) ++ prodK rp ws)) := by
          have a1 : prodK pls ws = prodK dp ws ++ (plK ws p ++ prodK rp ws) := by
            rw [e]
            unfold prodK
            rw [List.flatMap_append, List.flatMap_cons]
          have a2 : plK ws p = dw.flatMap (rowK p) ++ (rowK p w ++ rw_.flatMap (rowK p)) := by
            unfold plK
            rw [e2, List.flatMap_append, List.flatMap_cons]
          have a3 : rowK p w = dc.map (fun c => (p, w, c)) ++ ((p, w, c) :: rc.map (fun c => (p, w, c))) := by
            unfold rowK
            rw [e3, List.map_append, List.map_cons]
          rw [a1, a2, a3]
          simp
        have hlen : rl2.length + 1 ≤ (prodK pls ws).length := by
          have := congrArg List.length hall
          rw [List.length_append, List.length_cons, ← l1, List.length_map] at this
          omega
        have hnew : kyR (p, w, c) ∉ rl2.map fun e => kyR e.1 := fun z => by
          obtain ⟨e0, he0, hk⟩ := List.mem_map.mp z
          obtain ⟨q1, q2, q3⟩ := kyR_inj hk
          have hm : e0.1 ∈ rl2.map (fun e => e.1) := List.mem_map_of_mem he0
          rw [l1] at hm
          rcases List.mem_append.mp hm with hm | hm
          · rcases List.mem_append.mp hm with hm | hm
            · obtain ⟨q, hq, hm⟩ := List.mem_flatMap.mp hm
              obtain ⟨v, hv, hm⟩ := List.mem_flatMap.mp hm
              obtain ⟨d, _, hm⟩ := List.mem_map.mp hm
              rw [← hm] at q1
              exact hfresh q hq q1
            · obtain ⟨v, hv, hm⟩ := List.mem_flatMap.mp hm
              obtain ⟨d, _, hm⟩ := List.mem_map.mp hm
              rw [← hm] at q2
              have q2' : v = w := q2
              exact hwfresh (q2' ▸ hv)
          · obtain ⟨d, hd, hm⟩ := List.mem_map.mp hm
            rw [← hm] at q3
            have q3' : d = c := q3
            exact hcfresh (q3' ▸ hd)
        obtain ⟨v, hv1, hv2⟩ := one_run (ws := ws) (ns := ns) (z5 := z5) sm hR hp hc (at_ := at_) (rl := rl2) (by omega) hl l2 hnew (some (.bl p.y))
        exact ⟨_, _, rfl, _, _, .inl hv2, rl2 ++ [((p, w, c), v)], _, by rw [List.map_append, l1, List.map_append (f := fun c => (p, w, c))]; simp, hv1, rfl, rfl⟩) (List.range (p.s + 1)) [] (fillE pls ws ns nm at_ z5 (some (.int (p.s : Nat))) rl1 (some (.str p.n)) (some (.bl p.y)) (some (.str w)) y12) (fillT rl1) rfl ⟨rl1, y12, by simpa using k1, k2, rfl, rfl⟩
      refine ⟨_, _, .inl ((for_ok (rng_ok (k := p.s + 1) (one_ok (add_ok (a := (p.s : Nat)) (b := 1) (var_ok rfl) c_ok)) (by have := hs p hp; omega))).trans hf3), rl, _, _, ?_, l2, rfl, rfl⟩
      rw [l1, List.flatMap_append]
      simp [rowK]) ws [] (fillE pls ws ns nm at_ z5 (some (.int (p.s : Nat))) rl0 (some (.str p.n)) (some (.bl p.y)) y11 y12) (fillT rl0) rfl ⟨rl0, y11, y12, by simpa using h1, h2, rfl, rfl⟩
    refine ⟨_, _, .inl ((for_ok (src_ok (var_ok rfl))).trans hf2), rl, _, _, _, _, _, ?_, k2, rfl, rfl⟩
    rw [k1]
    unfold prodK
    rw [List.flatMap_append]
    simp [plK]) pls [] (fillE pls ws ns nm at_ z5 z6 [] z9 z10 z11 z12) (fillT []) rfl ⟨[], z6, z9, z10, z11, z12, rfl, (fun _ h => by cases h), rfl, rfl⟩
  refine ⟨rl, y6, y9, y10, y11, y12, h1, h2, ?_⟩
  unfold fillS
  exact (for_ok (src_ok (var_ok rfl))).trans hf
end
end VS

/-! the parts of a book that a law draws -/
namespace VS
open PySem PySem.Spec PyProof.Rows L2 Evl
open TL (tl len_tl ext_tl tl_append tl_mk mk_tl)
open Fw (fstAt fst_at fst_lt okS okD)
theorem frz_rule (v : Pl × List Int) (st : Sto) : frzN 2 (ruleW v) st = some (ruleW v, st) := by
  have h1 : frzN 1 (.tup false (v.2.map W.int)) st = some (.tup false (v.2.map W.int), st) := by
    show (match frzAll (frzN 0) (v.2.map W.int) st with
      | some (ws', s) => some (W.tup false ws', s)
      | none => none) = _
    rw [frz_map v.2 fun a _ => rfl]
  show (match frzAll (frzN 1) [.str v.1.n, .tup false (v.2.map W.int)] st with
      | some (ws', s) => some (W.tup true ws', s)
      | none => none) = _
  have h0 : frzN 1 (.str v.1.n) st = some (.str v.1.n, st) := rfl
  rw [frzAll, h0]
  dsimp only
  rw [frzAll, h1]
  rfl
theorem lk_ok {ρ : Env} {rl : List Rl} {x : M W} (hx : x ρ (fillT rl) = some (.ok (.ref 1), fillT rl)) : vLk 2 x ρ (fillT rl) = some (.ok (.dct true (rl.map encR)), [none, none]) := by
  unfold vLk
  rw [hx, andR_ok]
  have h1 : (rl.map encR).map (fun p => p.2) = rl.map fun e => ruleW e.2 := by
    rw [List.map_map]
    rfl
  have h2 : (rl.map encR).map (fun p => p.1) = rl.map fun e => kyR e.1 := by
    rw [List.map_map]
    rfl
  have h3 : ((rl.map fun e => kyR e.1).zip (rl.map fun e => ruleW e.2)) = rl.map encR := by
    rw [List.zip_map']
    rfl
  show (match frzVals (frzN 2) (rl.map encR) ((fillT rl).set 1 none) with
    | some (kvs', s') => some (R.ok (W.dct true kvs'), s')
    | none => none) = _
  unfold frzVals
  rw [h1, frz_map rl (fun e _ => frz_rule e.2 _)]
  dsimp only
  rw [h2, h3]
  rfl
def partsW (ws : List Str) (pls : List Pl) (start : Str) (rl : List Rl) : W := .lst [.tup false (ws.map W.str), .tup false (pls.map plW), .str start, .dct true (rl.map encR)]
noncomputable def growS : S := (vSeq (vSet 6 (vOp false fIx (vTup (vCons (vC (.int 1)) (vCons (vC (.int 2)) (vCons (vC (.int 1)) (vCons (vC (.int 0)) (vCons (vC (.int 2)) (vCons (vC (.int 1)) (vCons (vC (.int 2)) (vCons (vC (.int 3)) vNil))))))))) (vOp false (fI gMod) (vCB false fInt1 (vCons (vOp false fIx (vVar 0) (vOp false fAdd (vOp false fAdd (vVar 1) (vC (.int 2))) (vVar 5))) vNil)) (vC (.int 8)))))
  (vExpr (vMut mAppend (vVar 4) (vCons (vTup (vCons (vOp false fIx (vVar 3) (vVar 5)) (vCons (vVar 6) (vCons (vOp false (fEq false) (vOp false (fI gMod) (vCB false fInt1 (vCons (vOp false (fI gDiv) (vOp false fIx (vVar 0) (vOp false fAdd (vOp false fAdd (vVar 1) (vC (.int 2))) (vVar 5))) (vC (.int 8))) vNil)) (vC (.int 2))) (vC (.int 1))) vNil)))) vNil))))
noncomputable def partsS (mN mR : MF) : S := (vSeq (vSet 3 (vCall true 2 mN (vCons (vOp false fIx (vVar 0) (vVar 1)) (vCons (vC (.int 4)) vNil))))
  (vSeq (vSet 4 (vLst true (vCons (vTup (vCons (vOp false fIx (vVar 3) (vC (.int 0))) (vCons (vC (.int 0)) (vCons (vOp false (fEq false) (vOp false (fI gMod) (vCB false fInt1 (vCons (vOp false fIx (vVar 0) (vOp false fAdd (vVar 1) (vC (.int 1)))) vNil)) (vC (.int 2))) (vC (.int 1))) vNil)))) vNil)))
  (vSeq (vThenFrz 4 2 (vFor (vRng2 (vCons (vC (.int 1)) (vCons (vOp false fAdd (vC (.int 2)) (vOp false (fI gMod) (vCB false fInt1 (vCons (vOp false fIx (vVar 0) (vOp false fAdd (vVar 1) (vC (.int 2)))) vNil)) (vC (.int 3)))) vNil))) (gN 5) growS))
  (vSeq (vSet 7 (vDNew true))
  (vSeq (vSet 8 (vOp false fAdd (vVar 1) (vC (.int 8))))
  (vSeq (fillS mR)
  (vRet (vLst false (vCons (vCB false fTupF (vCons (vVar 2) vNil)) (vCons (vCB false fTupF (vCons (vVar 4) vNil)) (vCons (vOp false fIx (vVar 3) (vC (.int 0))) (vCons (vLk 2 (vVar 7)) vNil))))))))))))
theorem rng2_ok {ρ : Env} {st : Sto} {a b : Int} {k : Nat} {x : M (List W)} (hx : x ρ st = some (.ok [.int a, .int b], st)) (ha : -1000 ≤ a ∧ a ≤ 1000) (hk : b = a + k) (hk2 : k ≤ 1000) : vRng2 x ρ st = some (.ok ⟨(List.range k).map fun i : Nat => .int (a + (i : Int)), []⟩, st) := by
  rw [e_rng2, hx, andR_ok]
  dsimp only
  rw [if_pos (by omega)]
  unfold rngW
  rw [show (b - a).toNat = k by omega]
theorem lst4_ok {ρ : Env} {st s : Sto} {x y z u : M W} {a b c d : W} (h1 : x ρ st = some (.ok a, st)) (h2 : y ρ st = some (.ok b, st)) (h3 : z ρ st = some (.ok c, st)) (h4 : u ρ st = some (.ok d, s)) : vLst false (vCons x (vCons y (vCons z (vCons u vNil)))) ρ st = some (.ok (.lst [a, b, c, d]), s) := by
  rw [e_lst, e_cons, h1, andR_ok, e_cons, h2, andR_ok, e_cons, h3, andR_ok, e_cons, h4, andR_ok]
  rfl
theorem frz_pl (p : Pl) (st : Sto) : frzN 1 (plW p) st = some (plW p, st) := rfl
theorem thenFrz_ok {i n : Nat} {m : S} {ρ ρ' : Env} {st s s' : Sto} {w w' : W} (h : m ρ st = some (.nx ρ', s)) (hi : ρ'[i]? = some (some w)) (hf : frzN n w s = some (w', s')) : vThenFrz i n m ρ st = some (.nx (ρ'.set i (some w')), s') := by
  unfold vThenFrz
  rw [h]
  dsimp only
  rw [hi]
  dsimp only
  rw [hf]
  rfl
/-- a place more -/
theorem grow_run {nm : List Int} {at_ : Nat} {ns : List Str} {ws : List Str} {pls : List Pl} (hns : ns.length = 4) {k : Nat} (hk : 1 ≤ k ∧ k ≤ 3) (hn : at_ + 10 ≤ nm.length) (hpl : pls.length ≤ 10) (z5 z6 : Option W) :
    ∃ q y6, q.n = ns.getD k "" ∧ q.s ≤ 3 ∧ growS [some (intsW nm), some (.int (at_ : Nat)), some (.lst (ws.map W.str)), some (.lst (ns.map W.str)), some (.ref 0), some (.int (k : Nat)), z6, none, none, none, none, none, none] [some (.l (pls.map plW))] = some (.nx [some (intsW nm), some (.int (at_ : Nat)), some (.lst (ws.map W.str)), some (.lst (ns.map W.str)), some (.ref 0), some (.int (k : Nat)), y6, none, none, none, none, none, none], [some (.l ((pls ++ [q]).map plW))]) := by
  have hL : LIM = 100000 := rfl
  have hnum : ∀ z6 : Option W, vOp false fIx (vVar 0) (vOp false fAdd (vOp false fAdd (vVar 1) (vC (.int 2))) (vVar 5)) [some (intsW nm), some (.int (at_ : Nat)), some (.lst (ws.map W.str)), some (.lst (ns.map W.str)), some (.ref 0), some (.int (k : Nat)), z6, none, none, none, none, none, none] [some (.l (pls.map plW))] = some (.ok (.int (nm.getD ((at_ : Int) + 2 + (k : Int)).toNat 0)), [some (.l (pls.map plW))]) := fun z6 => ixn_ok (var_ok rfl) (add_ok (add_ok (a := (at_ : Nat)) (b := 2) (var_ok rfl) c_ok) (var_ok rfl)) (by omega) (by omega)
  generalize nm.getD ((at_ : Int) + 2 + (k : Int)).toNat 0 = v at hnum
  obtain ⟨s, hs, hpick⟩ : ∃ s : Nat, s ≤ 3 ∧ vOp false fIx (vTup (vCons (vC (.int 1)) (vCons (vC (.int 2)) (vCons (vC (.int 1)) (vCons (vC (.int 0)) (vCons (vC (.int 2)) (vCons (vC (.int 1)) (vCons (vC (.int 2)) (vCons (vC (.int 3)) vNil))))))))) (vOp false (fI gMod) (vCB false fInt1 (vCons (vOp false fIx (vVar 0) (vOp false fAdd (vOp false fAdd (vVar 1) (vC (.int 2))) (vVar 5))) vNil)) (vC (.int 8))) [some (intsW nm), some (.int (at_ : Nat)), some (.lst (ws.map W.str)), some (.lst (ns.map W.str)), some (.ref 0), some (.int (k : Nat)), z6, none, none, none, none, none, none] [some (.l (pls.map plW))] = some (.ok (.int (s : Nat)), [some (.l (pls.map plW))]) := by
    have hm := modv_ok (hnum z6) (m := 8) (by decide)
    have q1 := Int.emod_nonneg v (show (8 : Int) ≠ 0 by decide)
    have q2 := Int.emod_lt_of_pos v (show (0 : Int) < 8 by decide)
    generalize v % 8 = m at q1 q2 hm
    have ht : vTup (vCons (vC (.int 1)) (vCons (vC (.int 2)) (vCons (vC (.int 1)) (vCons (vC (.int 0)) (vCons (vC (.int 2)) (vCons (vC (.int 1)) (vCons (vC (.int 2)) (vCons (vC (.int 3)) vNil)))))))) [some (intsW nm), some (.int (at_ : Nat)), some (.lst (ws.map W.str)), some (.lst (ns.map W.str)), some (.ref 0), some (.int (k : Nat)), z6, none, none, none, none, none, none] [some (.l (pls.map plW))] = some (.ok (.tup true ([1, 2, 1, 0, 2, 1, 2, 3].map W.int)), [some (.l (pls.map plW))]) := rfl
    obtain rfl | rfl | rfl | rfl | rfl | rfl | rfl | rfl : m = 0 ∨ m = 1 ∨ m = 2 ∨ m = 3 ∨ m = 4 ∨ m = 5 ∨ m = 6 ∨ m = 7 := by omega
    all_goals (rw [e_op, ht, andR_ok, hm, andR_ok])
    · exact ⟨1, by decide, rfl⟩
    · exact ⟨2, by decide, rfl⟩
    · exact ⟨1, by decide, rfl⟩
    · exact ⟨0, by decide, rfl⟩
    · exact ⟨2, by decide, rfl⟩
    · exact ⟨1, by decide, rfl⟩
    · exact ⟨2, by decide, rfl⟩
    · exact ⟨3, by decide, rfl⟩
  obtain ⟨y, hy⟩ : ∃ y : Bool, vOp false (fEq false) (vOp false (fI gMod) (vCB false fInt1 (vCons (vOp false (fI gDiv) (vOp false fIx (vVar 0) (vOp false fAdd (vOp false fAdd (vVar 1) (vC (.int 2))) (vVar 5))) (vC (.int 8))) vNil)) (vC (.int 2))) (vC (.int 1)) [some (intsW nm), some (.int (at_ : Nat)), some (.lst (ws.map W.str)), some (.lst (ns.map W.str)), some (.ref 0), some (.int (k : Nat)), some (.int (s : Nat)), none, none, none, none, none, none] [some (.l (pls.map plW))] = some (.ok (.bl y), [some (.l (pls.map plW))]) := by
    have hd : vOp false (fI gDiv) (vOp false fIx (vVar 0) (vOp false fAdd (vOp false fAdd (vVar 1) (vC (.int 2))) (vVar 5))) (vC (.int 8)) [some (intsW nm), some (.int (at_ : Nat)), some (.lst (ws.map W.str)), some (.lst (ns.map W.str)), some (.ref 0), some (.int (k : Nat)), some (.int (s : Nat)), none, none, none, none, none, none] [some (.l (pls.map plW))] = some (.ok (.int (v / 8)), [some (.l (pls.map plW))]) := by
      rw [e_op, hnum, andR_ok, e_c, andR_ok, fI_int, gDiv_e (by decide)]
      rfl
    exact ⟨_, eqb_ok (modv_ok hd (m := 2) (by decide)) c_ok fEq_int⟩
  refine ⟨⟨ns.getD k "", s, y⟩, some (.int (s : Nat)), rfl, hs, ?_⟩
  unfold growS
  rw [sq_nx (set_ok hpick)]
  dsimp only [List.set]
  have ht := tup3_ok (ρ := [some (intsW nm), some (.int (at_ : Nat)), some (.lst (ws.map W.str)), some (.lst (ns.map W.str)), some (.ref 0), some (.int (k : Nat)), some (.int (s : Nat)), none, none, none, none, none, none]) (ixl_ok (x := vVar 3) (y := vVar 5) (i := (k : Nat)) (f := W.str) (l := ns) "" (var_ok rfl) (var_ok rfl) (by omega) (by omega)) (var_ok (i := 6) (w := .int (s : Nat)) rfl) hy
  have hlt : (pls.map plW).length < LIM := by
    rw [List.length_map]
    omega
  have hmut : vMut mAppend (vVar 4) (vCons (vTup (vCons (vOp false fIx (vVar 3) (vVar 5)) (vCons (vVar 6) (vCons (vOp false (fEq false) (vOp false (fI gMod) (vCB false fInt1 (vCons (vOp false (fI gDiv) (vOp false fIx (vVar 0) (vOp false fAdd (vOp false fAdd (vVar 1) (vC (.int 2))) (vVar 5))) (vC (.int 8))) vNil)) (vC (.int 2))) (vC (.int 1))) vNil)))) vNil) [some (intsW nm), some (.int (at_ : Nat)), some (.lst (ws.map W.str)), some (.lst (ns.map W.str)), some (.ref 0), some (.int (k : Nat)), some (.int (s : Nat)), none, none, none, none, none, none] [some (.l (pls.map plW))] = some (.ok .non, [some (.l (pls.map plW ++ [plW ⟨ns.getD k "", s, y⟩]))]) := by
    unfold vMut
    rw [var_ok (w := .ref 0) rfl, andR_ok]
    show andR (vCons _ vNil _ _) _ = _
    rw [one_ok ht, andR_ok]
    show (match (if (pls.map plW).length < LIM then some (W.non, pls.map plW ++ [plW ⟨ns.getD k "", s, y⟩]) else none) with
      | some (w, ws') => some (R.ok w, [some (Cell.l ws')])
      | none => none) = _
    rw [if_pos hlt]
  rw [e_expr, hmut, List.map_append]
  rfl
end VS

/-! the parts of a book that a law draws, whole -/
namespace VS
open PySem PySem.Spec PyProof.Rows L2 Evl
open TL (tl len_tl ext_tl tl_append tl_mk mk_tl)
open Fw (fstAt fst_at fst_lt okS okD)
structure PartsOk (ws ns : List Str) (pls : List Pl) (rl : List Rl) : Prop where
  fst : ∃ p0 r, pls = p0 :: r ∧ p0.s = 0 ∧ p0.n = ns.getD 0 ""
  len : 2 ≤ pls.length ∧ pls.length ≤ 4
  nms : pls.map (fun p => p.n) = ns.take pls.length
  sl : ∀ p ∈ pls, p.s ≤ 3
  keys : rl.map (fun e => e.1) = prodK pls ws
  ok : RlOk pls rl
theorem plK_len (ws : List Str) (p : Pl) : (plK ws p).length = ws.length * (p.s + 1) := by
  unfold plK
  induction ws with
  | nil => simp
  | cons w ws ih =>
    rw [List.flatMap_cons, List.length_append, ih]
    simp [rowK, Nat.succ_mul, Nat.add_comm]
theorem prodK_len (ws : List Str) (m : Nat) : ∀ pls : List Pl, (∀ p ∈ pls, p.s ≤ m) → (prodK pls ws).length ≤ pls.length * (ws.length * (m + 1))
  | [], _ => by simp [prodK]
  | p :: pls, h => by
    have h1 := prodK_len ws m pls fun q hq => h q (List.mem_cons_of_mem _ hq)
    have h2 := h p List.mem_cons_self
    have h3 : (prodK (p :: pls) ws).length = (plK ws p).length + (prodK pls ws).length := by
      unfold prodK
      rw [List.flatMap_cons, List.length_append]
    rw [h3, plK_len, List.length_cons, Nat.succ_mul]
    have := Nat.mul_le_mul_left ws.length (show p.s + 1 ≤ m + 1 by omega)
    omega
theorem ints_free (nm : List Int) : (intsW nm).free = true := by
  unfold intsW
  rw [W.free]
  exact freeAll_iff.mpr fun w hw => by
    obtain ⟨p, _, rfl⟩ := List.mem_map.mp hw
    rfl
theorem pls_free (pls : List Pl) : (W.lst (pls.map plW)).free = true := by
  rw [W.free]
  exact freeAll_iff.mpr fun w hw => by
    obtain ⟨p, _, rfl⟩ := List.mem_map.mp hw
    rfl
theorem rule_free (v : Pl × List Int) : (ruleW v).free = true := by
  have : freeAll (v.2.map W.int) = true := freeAll_iff.mpr fun w hw => by
    obtain ⟨p, _, rfl⟩ := List.mem_map.mp hw
    rfl
  unfold ruleW
  rw [W.free, freeAll, freeAll, W.free, this]
  rfl
theorem c_rule {mR : MF} (e : mR = vDef 10 ruleS) {pls : List Pl} (hp : ∃ p ∈ pls, p.s = 0) (hpl : pls.length ≤ 60) {s c : Nat} (hs : s ≤ 10) {a b : Int} (ha : 0 ≤ a) (hb : 0 ≤ b) (st : Sto) : ∃ g src, RuleIn pls s c g src ∧ callF true 5 mR [.int a, .int b, .lst (pls.map plW), .int (s : Nat), .int (c : Nat)] st = some (.ok (ruleW (g, src)), st) := by
  obtain ⟨g, src, h1, h2⟩ := rule_run (slots := s) (case := c) hp hpl hs ha hb
  exact ⟨g, src, h1, by
    rw [e]
    exact callF_ok (vDef_rt h2) rfl (by
      rw [freeAll, freeAll, freeAll, pls_free]
      rfl) (rule_free (g, src))⟩
theorem parts_run {mN mR : MF} (eR : mR = vDef 10 ruleS) {nm : List Int} (sm : Fw.Sm nm) {at_ : Nat} {ws ns : List Str} (hwd : ws.Nodup) (hw : ws.length ≤ 3) (hns : ns.length = 4) (hnd : ns.Nodup) (hn : at_ + 8 + 26 * ws.length ≤ nm.length) (hn2 : at_ + 10 ≤ nm.length) (hl : nm.length ≤ 1000)
    (hN : ∀ st, callF true 2 mN [.int (nm.getD at_ 0), .int 4] st = some (.ok (.lst (ns.map W.str)), st)) :
    ∃ pls rl, PartsOk ws ns pls rl ∧ partsS mN mR [some (intsW nm), some (.int (at_ : Nat)), some (.lst (ws.map W.str)), none, none, none, none, none, none, none, none, none, none] [] = some (.rt (partsW ws pls (ns.getD 0 "") rl), [none, none]) := by
  have hL : LIM = 100000 := rfl
  -- the first place
  obtain ⟨y0, s2⟩ : ∃ y0 : Bool, vSet 4 (vLst true (vCons (vTup (vCons (vOp false fIx (vVar 3) (vC (.int 0))) (vCons (vC (.int 0)) (vCons (vOp false (fEq false) (vOp false (fI gMod) (vCB false fInt1 (vCons (vOp false fIx (vVar 0) (vOp false fAdd (vVar 1) (vC (.int 1)))) vNil)) (vC (.int 2))) (vC (.int 1))) vNil)))) vNil)) [some (intsW nm), some (.int (at_ : Nat)), some (.lst (ws.map W.str)), some (.lst (ns.map W.str)), none, none, none, none, none, none, none, none, none] [] = some (.nx [some (intsW nm), some (.int (at_ : Nat)), some (.lst (ws.map W.str)), some (.lst (ns.map W.str)), some (.ref 0), none, none, none, none, none, none, none, none], [some (.l ([(⟨ns.getD 0 "", 0, y0⟩ : Pl)].map plW))]) := by
    have hv := ixn_ok (ρ := [some (intsW nm), some (.int (at_ : Nat)), some (.lst (ws.map W.str)), some (.lst (ns.map W.str)), none, none, none, none, none, none, none, none, none]) (st := []) (nm := nm) (x := vVar 0) (var_ok rfl) (add_ok (a := (at_ : Nat)) (b := 1) (x := vVar 1) (var_ok rfl) c_ok) (by omega) (by omega)
    have hy := eqb_ok (modv_ok hv (m := 2) (by decide)) (c_ok (w := .int 1)) (fEq_int (neg := false))
    rw [if_neg Bool.false_ne_true] at hy
    refine ⟨decide (nm.getD (((at_ : Nat) : Int) + 1).toNat 0 % 2 = 1), set_ok (ρ := [some (intsW nm), some (.int (at_ : Nat)), some (.lst (ws.map W.str)), some (.lst (ns.map W.str)), none, none, none, none, none, none, none, none, none]) ?_⟩
    rw [e_lstC, one_ok (tup3_ok (ixl_ok (x := vVar 3) (i := 0) (f := W.str) (l := ns) "" (var_ok rfl) c_ok (by decide) (by omega)) (c_ok (w := .int 0)) hy), andR_ok]
    rfl
  -- the others
  obtain ⟨m, hm3, hm⟩ : ∃ m : Nat, m ≤ 2 ∧ nm.getD (((at_ : Nat) : Int) + 2).toNat 0 % 3 = (m : Int) := by
    have q1 := Int.emod_nonneg (nm.getD (((at_ : Nat) : Int) + 2).toNat 0) (show (3 : Int) ≠ 0 by decide)
    have q2 := Int.emod_lt_of_pos (nm.getD (((at_ : Nat) : Int) + 2).toNat 0) (show (0 : Int) < 3 by decide)
    exact ⟨(nm.getD (((at_ : Nat) : Int) + 2).toNat 0 % 3).toNat, by omega, by omega⟩
  obtain ⟨ρ', st', hf, pls, z5, z6, k1, k2, k3, k4, rfl, rfl⟩ := forL_inv (f := fun i : Nat => W.int ((i + 1 : Nat) : Int)) (l := (List.range (m + 1)).map fun i : Nat => W.int ((i + 1 : Nat) : Int)) (g := gN 5) (b := growS) (fun done ρ st => ∃ pls z5 z6, pls.map (fun p : Pl => p.n) = ns.take (done.length + 1) ∧ pls.length = done.length + 1 ∧ (∀ p ∈ pls, p.s ≤ 3) ∧ (∃ p0 r, pls = p0 :: r ∧ p0.s = 0 ∧ p0.n = ns.getD 0 "") ∧ ρ = [some (intsW nm), some (.int (at_ : Nat)), some (.lst (ws.map W.str)), some (.lst (ns.map W.str)), some (.ref 0), z5, z6, none, none, none, none, none, none] ∧ st = [some (.l (pls.map plW))]) (List.range (m + 1)) (fun done i rest ρ st e hi => by
    obtain ⟨pls, z5, z6, k1, k2, k3, k4, rfl, rfl⟩ := hi
    have hid : i = done.length := by
      have h1 : (List.range (m + 1))[done.length]? = some i := by rw [e]; simp
      have hlt : done.length < m + 1 := by
        have := congrArg List.length e
        rw [List.length_range, List.length_append, List.length_cons] at this
        omega
      rw [List.getElem?_range hlt] at h1
      exact (Option.some.inj h1).symm
    have hlt : done.length < m + 1 := by
      have := congrArg List.length e
      rw [List.length_range, List.length_append, List.length_cons] at this
      omega
    obtain ⟨q, y6, q1, q2, q3⟩ := grow_run (ws := ws) (pls := pls) hns (k := i + 1) (by omega) hn2 (by omega) (some (.int ((i + 1 : Nat) : Int))) z6
    refine ⟨_, _, rfl, _, _, .inl q3, pls ++ [q], _, _, ?_, by simp [k2], fun p hp => ?_, ?_, rfl, rfl⟩
    · rw [List.map_append, k1, List.length_append, List.length_singleton, List.take_add_one (i := done.length + 1)]
      have : ns[done.length + 1]? = some q.n := by
        rw [q1, hid, List.getD_eq_getElem?_getD, List.getElem?_eq_getElem (by omega)]
        rfl
      rw [this]
      rfl
    · rcases List.mem_append.mp hp with h | h
      · exact k3 p h
      · rw [List.mem_singleton.mp h]
        exact q2
    · obtain ⟨p0, r, rfl, h1, h2⟩ := k4
      exact ⟨p0, r ++ [q], rfl, h1, h2⟩) (List.range (m + 1)) [] [some (intsW nm), some (.int (at_ : Nat)), some (.lst (ws.map W.str)), some (.lst (ns.map W.str)), some (.ref 0), none, none, none, none, none, none, none, none] [some (.l ([(⟨ns.getD 0 "", 0, y0⟩ : Pl)].map plW))] rfl ⟨[⟨ns.getD 0 "", 0, y0⟩], none, none, by
      match ns, hns with
      | [a, b, c, d], _ => rfl, rfl, fun p hp => by
      rw [List.mem_singleton.mp hp]
      exact Nat.zero_le _, ⟨_, _, rfl, rfl, rfl⟩, rfl, rfl⟩
  rw [List.length_range] at k1 k2
  have hnames : pls.map (fun p => p.n) = ns.take pls.length := by rw [k1, k2]
  obtain ⟨p0, r, hp0, hp1, hp2⟩ := k4
  have hex : ∃ p ∈ pls, p.s = 0 := ⟨p0, by rw [hp0]; exact List.mem_cons_self, hp1⟩
  have hcount : (prodK pls ws).length ≤ 13 * ws.length := by
    have h1 : (prodK pls ws).length = (plK ws p0).length + (prodK r ws).length := by
      rw [hp0]
      unfold prodK
      rw [List.flatMap_cons, List.length_append]
    have h2 := prodK_len ws 3 r fun q hq => k3 q (by rw [hp0]; exact List.mem_cons_of_mem _ hq)
    rw [plK_len, hp1] at h1
    have h3 : r.length ≤ 3 := by
      have := congrArg List.length hp0
      rw [List.length_cons] at this
      omega
    have h4 : r.length * (ws.length * (3 + 1)) ≤ 3 * (ws.length * 4) := Nat.mul_le_mul_right _ h3
    omega
  obtain ⟨rl, y6, y9, y10, y11, y12, r1, r2, hfill⟩ := fill_run (mR := mR) (pls := pls) (ws := ws) (ns := ns) (nm := nm) (at_ := at_) (z5 := z5) sm (fun p hp c hc a b ha hb st => c_rule eR hex (by omega) (by have := k3 p hp; omega) ha hb st) (by
    rw [hnames]
    exact (List.take_sublist _ _).nodup hnd) hwd (fun p hp => by have := k3 p hp; omega) (by omega) hl z6 none none none none
  refine ⟨pls, rl, ⟨⟨p0, r, hp0, hp1, hp2⟩, by omega, hnames, k3, r1, r2⟩, ?_⟩
  unfold partsS
  rw [sq_nx (set_ok (call_ok (cons_ok (ixn_ok (nm := nm) (i := (at_ : Nat)) (var_ok rfl) (var_ok rfl) (by omega) (by omega)) (one_ok c_ok)) (hN _)))]
  dsimp only [List.set]
  rw [sq_nx s2]
  have hr : vRng2 (vCons (vC (.int 1)) (vCons (vOp false fAdd (vC (.int 2)) (vOp false (fI gMod) (vCB false fInt1 (vCons (vOp false fIx (vVar 0) (vOp false fAdd (vVar 1) (vC (.int 2)))) vNil)) (vC (.int 3)))) vNil)) [some (intsW nm), some (.int (at_ : Nat)), some (.lst (ws.map W.str)), some (.lst (ns.map W.str)), some (.ref 0), none, none, none, none, none, none, none, none] [some (.l ([(⟨ns.getD 0 "", 0, y0⟩ : Pl)].map plW))] = some (.ok ⟨(List.range (m + 1)).map fun i : Nat => W.int ((i + 1 : Nat) : Int), []⟩, [some (.l ([(⟨ns.getD 0 "", 0, y0⟩ : Pl)].map plW))]) := by
    have hv := modv_ok (ρ := [some (intsW nm), some (.int (at_ : Nat)), some (.lst (ws.map W.str)), some (.lst (ns.map W.str)), some (.ref 0), none, none, none, none, none, none, none, none]) (st := [some (.l ([(⟨ns.getD 0 "", 0, y0⟩ : Pl)].map plW))]) (ixn_ok (nm := nm) (x := vVar 0) (var_ok rfl) (add_ok (a := (at_ : Nat)) (b := 2) (x := vVar 1) (var_ok rfl) c_ok) (by omega) (by omega)) (m := 3) (by decide)
    rw [hm] at hv
    rw [rng2_ok (a := 1) (b := 2 + (m : Int)) (k := m + 1) (cons_ok c_ok (one_ok (add_ok c_ok hv))) (by decide) (by omega) (by omega)]
    congr 3
    rw [show (fun i : Nat => W.int (1 + (i : Int))) = fun i : Nat => W.int ((i + 1 : Nat) : Int) from funext fun i => by rw [show (1 + (i : Int)) = ((i + 1 : Nat) : Int) by omega]]
  have hz : frzN 2 (.ref 0) [some (.l (pls.map plW))] = some (.lst (pls.map plW), [none]) := frz2_ref rfl (frz_map pls fun p _ => frz_pl p _)
  rw [sq_nx (thenFrz_ok ((for_ok hr).trans hf) rfl hz)]
  dsimp only [List.set]
  rw [sq_nx (set_ok (w := .ref 1) (s := [none, some (.d true [])]) rfl)]
  dsimp only [List.set]
  rw [sq_nx (set_ok (add_ok (a := (at_ : Nat)) (b := 8) (x := vVar 1) (var_ok rfl) c_ok))]
  dsimp only [List.set]
  have hfill' : fillS mR [some (intsW nm), some (.int (at_ : Nat)), some (.lst (ws.map W.str)), some (.lst (ns.map W.str)), some (.lst (pls.map plW)), z5, z6, some (.ref 1), some (.int (((at_ : Nat) : Int) + 8)), none, none, none, none] [none, some (.d true [])] = some (.nx (fillE pls ws ns nm at_ z5 y6 rl y9 y10 y11 y12), fillT rl) := hfill
  rw [sq_nx hfill', e_ret]
  rw [lst4_ok (tupf_ok (var_ok (i := 2) (w := .lst (ws.map W.str)) rfl)) (tupf_ok (var_ok (i := 4) (w := .lst (pls.map plW)) rfl)) (ixl_ok (x := vVar 3) (i := 0) (f := W.str) (l := ns) "" (var_ok rfl) c_ok (by decide) (by omega)) (lk_ok (var_ok rfl))]
  rfl
end VS

/-! small steps of readings that serve every law without a book (K11's own files have the same names: not both) -/
namespace VS
open PySem PySem.Spec PyProof.Rows L2 Evl
open TL (tl len_tl ext_tl tl_append tl_mk mk_tl)
open Fw (fstAt fst_at fst_lt okS okD)
theorem kvGet_none {kvs : List (Ky × W)} {k : Ky} (h : k ∉ kvs.map fun p => p.1) : kvGet kvs k = none := by
  unfold kvGet
  rw [List.find?_eq_none.mpr fun p hp e => h (List.mem_map.mpr ⟨p, hp, of_decide_eq_true e⟩)]
  rfl
theorem din_ok {ρ : Env} {st : Sto} {y d : M W} {kw dw : W} {t : Bool} {kvs : List (Ky × W)} {ky : Ky} {b : Bool} {neg : Bool} (hy : y ρ st = some (.ok kw, st)) (hd : d ρ st = some (.ok dw, st)) (hs : dctOf dw st = some (t, kvs)) (hk : keyW t kw = some ky) (hb : (kvGet kvs ky).isSome = b) : vDIn neg y d ρ st = some (.ok (.bl (if neg then !b else b)), st) := by
  have e : dGetW dw kw st = some (kvGet kvs ky) := by
    unfold dGetW
    rw [hs]
    dsimp only
    rw [hk]
    rfl
  rw [e_din, hy, andR_ok, hd, andR_ok, e, ← hb]
  rfl
theorem not_ok {ρ : Env} {st : Sto} {m : M Bool} {b : Bool} (h : m ρ st = some (.ok b, st)) : vNot m ρ st = some (.ok (!b), st) := by
  rw [e_not, h, andR_ok]
theorem pass_ok {ρ : Env} {st : Sto} {m : M Bool} {a : S} (h : m ρ st = some (.ok false, st)) : vIfS m a vNext ρ st = some (.nx ρ, st) := if_ok h (fun e => by cases e) fun _ => rfl
theorem chain_ok {ρ : Env} {st : Sto} {x : M W} {lo v hi : Int} (hx : x ρ st = some (.ok (.int v), st)) (h1 : lo ≤ v) (h2 : v ≤ hi) : vChain (fI gLe) (fI gLe) (vC (.int lo)) x (vC (.int hi)) ρ st = some (.ok (.bl true), st) := by
  rw [e_chain, e_c, andR_ok, hx, andR_ok, fI_int, gLe_e, decide_eq_true h1]
  rw [Option.map_some]
  dsimp only
  rw [if_pos rfl, e_c, andR_ok, fI_int, gLe_e, decide_eq_true h2]
  rfl
theorem tup_free (b : Bool) (ys : List Str) : (W.tup b (ys.map W.str)).free = true := strs_free ys
theorem isi_int (v : Int) (st : Sto) : fIsi [.int v, .raw (.ty "int")] st = some (.val (.bl true)) ∧ fIsi [.int v, .raw (.ty "bool")] st = some (.val (.bl false)) := by
  have h1 : kitB "int" "int" = some true := by decide +kernel
  have h2 : kitB "int" "bool" = some false := by decide +kernel
  unfold fIsi
  simp [tyW, h1, h2]
theorem lent_ok {ρ : Env} {st : Sto} {b : Bool} {l : List W} {x : M W} (hx : x ρ st = some (.ok (.tup b l), st)) : vCB false fLen (vCons x vNil) ρ st = some (.ok (.int (l.length : Nat)), st) := by
  have e : fLen [.tup b l] st = some (.val (.int (l.length : Nat))) := rfl
  rw [e_cb, one_ok hx, andR_ok, e]
  rfl
theorem eqi_ok {ρ : Env} {st : Sto} {x y : M W} {i j : Int} {neg : Bool} (hx : x ρ st = some (.ok (.int i), st)) (hy : y ρ st = some (.ok (.int j), st)) : vB (vOp false (fEq neg) x y) ρ st = some (.ok (if neg = true then !decide (i = j) else decide (i = j)), st) := b_ok (eqb_ok hx hy fEq_int)
theorem ne_ff {ρ : Env} {st : Sto} {x y : M W} {i j : Int} (hx : x ρ st = some (.ok (.int i), st)) (hy : y ρ st = some (.ok (.int j), st)) (h : i = j) : vB (vOp false (fEq true) x y) ρ st = some (.ok false, st) := by
  rw [eqi_ok hx hy, if_pos rfl, decide_eq_true h]
  rfl
theorem expr_ok {ρ : Env} {st s : Sto} {m : M W} {w : W} (h : m ρ st = some (.ok w, s)) : vExpr m ρ st = some (.nx ρ, s) := by
  rw [e_expr, h]
  rfl
theorem ret_ok {ρ : Env} {st s : Sto} {m : M W} {w : W} (h : m ρ st = some (.ok w, s)) : vRet m ρ st = some (.rt w, s) := by
  rw [e_ret, h]
  rfl
theorem asg_ok {ρ ρ' : Env} {st s s' : Sto} {m : M W} {w : W} {g : VG} (h : m ρ st = some (.ok w, s)) (hg : g w ρ s = some (ρ', s')) : vAsg m g ρ st = some (.nx ρ', s') := by
  rw [e_asg, h, andS_ok, hg]
  rfl
theorem lc_ok {ρ : Env} {st : Sto} {vs : List Nat} {mi : M Src} {g : VG} {t : M Bool} {e : M W} {l r : List W} (hi : mi ρ st = some (.ok ⟨l, []⟩, st)) (hc : lcL ⟨l, []⟩ g t e (wipeV ρ vs) l [] st = some (r, st)) : vLc false vs mi g t e ρ st = some (.ok (.lst r), st) := by
  rw [e_lc, hi, andR_ok, hc]
  rfl
theorem andv_t {ρ : Env} {st : Sto} {a b : M W} {r : Option (R W × Sto)} (h1 : a ρ st = some (.ok (.bl true), st)) (h2 : b ρ st = r) : vAndV a b ρ st = r := by
  rw [e_andV, h1, andR_ok]
  exact h2
theorem orv_ok {ρ : Env} {st : Sto} {a b : M W} {p q : Bool} (h1 : a ρ st = some (.ok (.bl p), st)) (h2 : b ρ st = some (.ok (.bl q), st)) : vOrV a b ρ st = some (.ok (.bl (p || q)), st) := by
  rw [e_orV, h1, andR_ok]
  cases p
  · exact h2
  · rfl
theorem eqv_ok {ρ : Env} {st : Sto} {x y : M W} {i j : Int} {neg : Bool} (hx : x ρ st = some (.ok (.int i), st)) (hy : y ρ st = some (.ok (.int j), st)) : vOp false (fEq neg) x y ρ st = some (.ok (.bl (if neg = true then !decide (i = j) else decide (i = j))), st) := eqb_ok hx hy fEq_int
theorem listt_ok {ρ : Env} {st : Sto} {b : Bool} {l : List W} {x : M W} (hx : x ρ st = some (.ok (.tup b l), st)) : vCB false fListV (vCons x vNil) ρ st = some (.ok (.lst l), st) := by
  have e : fListV [.tup b l] st = some (.nl l) := rfl
  rw [e_cb, one_ok hx, andR_ok, e]
  rfl
theorem look_none {f : Str} : ∀ {fs : List (Str × W)}, f ∉ fs.map (fun p => p.1) → fs.lookup f = none
  | [], _ => rfl
  | (g, x) :: r, h => by
    rw [List.map_cons, List.mem_cons] at h
    rw [List.lookup_cons]
    have : (f == g) = false := by simpa using fun e => h (.inl e)
    rw [this]
    exact look_none (fun z => h (.inr z))
theorem truI_ok {ρ : Env} {st : Sto} {x : M W} {i : Int} (hx : x ρ st = some (.ok (.int i), st)) : vTru x ρ st = some (.ok (i != 0), st) := by
  rw [e_tru, hx, andR_ok]
  rfl
theorem sub_ok {ρ : Env} {st : Sto} {a b : Int} {x y : M W} (hx : x ρ st = some (.ok (.int a), st)) (hy : y ρ st = some (.ok (.int b), st)) : vOp false (fI gSub) x y ρ st = some (.ok (.int (a - b)), st) := by
  simp [hx, hy, finO]
theorem ixtm_ok {ρ : Env} {st : Sto} {α : Type} {f : α → W} {l : List α} {b : Bool} {x y : M W} {i : Int} (d : α) (hx : x ρ st = some (.ok (.tup b (l.map f)), st)) (hy : y ρ st = some (.ok (.int i), st)) (h0 : 0 ≤ i) (h1 : i < l.length) : vOp false fIx x y ρ st = some (.ok (f (l.getD i.toNat d)), st) := by
  have e : fIx (.tup b (l.map f)) (.int i) st = some (.val (f (l.getD i.toNat d))) := by
    show ((some (l.map f)).bind fun ws => (atI ws i).map Fr.val) = _
    rw [Option.bind_some, atI_map h0 h1 d]
    rfl
  rw [e_op, hx, andR_ok, hy, andR_ok, e]
  rfl
theorem free_row1 (r : List (Str × Str)) : freeAll [rowW r] = true := by
  rw [freeAll, rowW_free]
  rfl
theorem take_done {α : Type} {r done rest : List α} {a : α} (e : r = done ++ a :: rest) : r.take done.length = done ∧ r.take (done.length + 1) = done ++ [a] := by
  rw [e]
  constructor
  · simp
  · rw [show done ++ a :: rest = (done ++ [a]) ++ rest by simp]
    exact List.take_left' (by simp)
theorem app_get {c : Option Cell} (st : Sto) : (st ++ [c])[st.length]? = some c := by simp
theorem app_set {c d : Option Cell} (st : Sto) : (st ++ [c]).set st.length d = st ++ [d] := by simp
theorem mut_app {ρ : Env} {st : Sto} {a x : M W} {l : List W} {w : W} (ha : a ρ (st ++ [some (.l l)]) = some (.ok (.ref st.length), st ++ [some (.l l)])) (hx : x ρ (st ++ [some (.l l)]) = some (.ok w, st ++ [some (.l l)])) (hl : l.length < LIM) : vExpr (vMut mAppend a (vCons x vNil)) ρ (st ++ [some (.l l)]) = some (.nx ρ, st ++ [some (.l (l ++ [w]))]) := by
  refine expr_ok (w := .non) ?_
  have hg := app_get (c := some (.l l)) st
  have hlo : lstOf (.ref st.length) (st ++ [some (.l l)]) = some l := lstOf_ref hg
  unfold vMut
  rw [ha, andR_ok]
  dsimp only
  rw [hlo]
  dsimp only
  rw [one_ok hx, andR_ok]
  unfold wrL mAppend
  rw [hg]
  dsimp only
  rw [if_pos hl]
  dsimp only
  rw [app_set]
theorem lcS_map {α : Type} {f : α → W} {src : Src} {g : VG} {e : M W} {ρ : Env} {st : Sto} (hs : src.Ok st) (y : α → W) : ∀ (as : List α) (acc : List W), (∀ a ∈ as, ∃ ρ1, g (f a) ρ st = some (ρ1, st) ∧ e ρ1 st = some (.ok (y a), st)) → acc.length + as.length ≤ LIM → lcL src g vYes e ρ (as.map f) acc st = some (acc ++ as.map y, st)
  | [], acc, _, _ => by
    rw [List.map_nil, lcL, if_pos hs]
    simp
  | a :: as, acc, h, hl => by
    obtain ⟨ρ1, h1, h2⟩ := h a List.mem_cons_self
    simp only [List.length_cons] at hl
    rw [List.map_cons, lcL, if_pos hs, h1]
    dsimp only
    rw [e_yes]
    dsimp only
    rw [h2]
    dsimp only
    rw [if_pos (by omega), lcS_map hs y as (acc ++ [y a]) (fun b hb => h b (List.mem_cons_of_mem _ hb)) (by simp; omega)]
    simp
theorem zip_same {α : Type} (f g : α → W) (B : List W) : ∀ l : List α, zipW (l.map f ++ B) (l.map g) = l.map fun a => .tup true [f a, g a]
  | [] => by cases B <;> rfl
  | a :: l => by
    rw [List.map_cons, List.map_cons, List.cons_append, zipW, zip_same f g B l, List.map_cons]
theorem map_range {α β : Type} (f : α → β) (d : α) (r : List α) : r.map f = (List.range r.length).map fun n => f (r.getD n d) := by
  refine List.ext_getElem? fun i => ?_
  rw [List.getElem?_map, List.getElem?_map]
  rcases Nat.lt_or_ge i r.length with h | h
  · rw [List.getElem?_range h, List.getElem?_eq_getElem h]
    simp [h]
  · rw [List.getElem?_eq_none h, List.getElem?_eq_none (by rw [List.length_range]; exact h)]
    rfl
theorem callI {n : Nat} {mf : MF} {us : List W} {st : Sto} (hl : us.length = n) : callF false n mf us st = mf us st := by
  unfold callF
  rw [if_pos hl, if_neg Bool.false_ne_true]
theorem src_row0 (r : List (Str × Str)) (st : Sto) : srcOf (rowW r) st = some ⟨r.map pW, []⟩ ∧ lstOf (rowW r) st = some (r.map pW) := ⟨rfl, rfl⟩
theorem last_ok {ρ : Env} {st s : Sto} {x : M W} {w u : W} {l : List W} (hx : x ρ st = some (.ok w, s)) (hl : seqOf w s = some (l ++ [u])) (hns : ∀ z, w ≠ .str z) : vOp false fIx x (vUn false fNeg (vC (.int 1))) ρ st = some (.ok u, s) := by
  have hn : vUn false fNeg (vC (.int 1)) ρ s = some (.ok (.int (-1)), s) := rfl
  have e : fIx w (.int (-1)) s = some (.val u) := by
    have ha : atI (l ++ [u]) (-1) = some u := by
      unfold atI
      simp [ixN]
      rw [if_pos (by omega), Option.bind_some, show (-1 + ((l.length : Int) + 1)).toNat = l.length by omega]
      simp
    unfold fIx
    dsimp only
    split
    · exact absurd rfl (hns _)
    · rw [hl, Option.bind_some, ha]
      rfl
  rw [e_op, hx, andR_ok, hn, andR_ok, e]
  rfl
theorem eqv_str (a b : Str) : PyData.eqv (.str a) (.str b) = decide (a = b) := by
  show (a == b) = _
  exact Bool.beq_eq_decide_eq a b
theorem fEq_str {neg : Bool} {a b : Str} {st : Sto} (ha : okS a) (hb : okS b) : fEq neg (.str a) (.str b) st = some (.val (.bl (if neg then !decide (a = b) else decide (a = b)))) := by
  rw [fEq_data (d := .str a) (e := .str b) rfl rfl (Fw.okD.shaped (n := 0) ha (by decide)) (Fw.okD.shaped (n := 0) hb (by decide)), eqv_str]
theorem nat_num (i : Nat) (h : i ≤ 100) : (Str.ofString (toString (i : Int))).length ≤ 3 ∧ (∀ c ∈ tl (Str.ofString (toString (i : Int))), c < 128) ∧ (i : Int).natAbs.log2 < 1920 := by
  have h1 : (List.range 101).all (fun i => decide ((Str.ofString (toString (i : Int))).length ≤ 3) && ((tl (Str.ofString (toString (i : Int)))).all fun c => decide (c < 128)) && decide ((i : Int).natAbs.log2 < 1920)) = true := by decide +kernel
  have h2 := List.all_eq_true.mp h1 i (List.mem_range.mpr (by omega))
  rw [Bool.and_eq_true, Bool.and_eq_true, decide_eq_true_eq, decide_eq_true_eq] at h2
  exact ⟨h2.1.1, fun c hc => of_decide_eq_true (List.all_eq_true.mp h2.1.2 c hc), h2.2⟩
structure Pln (n c : Nat) (d : PyData) : Prop where
  ok : okD n d
  show_ : d.showable = true
  len : d.shown.length ≤ c
  asc : Asc d.shown
theorem pln_str {x : Str} (h : Asc x) (hl : x.length ≤ 12) (n : Nat) : Pln n 122 (.str x) := ⟨by cases n <;> exact asc_ok h, by rw [PyData.showable], by have := shown_strL (asc_ok h); omega, by rw [PyData.shown]; exact repr_asc h⟩
theorem pln_nat {i : Nat} (h : i ≤ 100) (n : Nat) : Pln n 122 (.int (i : Nat)) := by
  obtain ⟨h1, h2, h3⟩ := nat_num i h
  exact ⟨by cases n <;> trivial, by rw [PyData.showable]; exact decide_eq_true h3, by rw [PyData.shown]; omega, by rw [PyData.shown]; exact h2⟩
theorem pln_bool (b : Bool) (n : Nat) : Pln n 122 (.bool b) := by
  refine ⟨by cases n <;> trivial, by rw [PyData.showable], ?_, ?_⟩
  · rw [PyData.shown]
    cases b <;> decide
  · rw [PyData.shown]
    cases b
    · exact lit_asc "False" (by decide +kernel)
    · exact lit_asc "True" (by decide +kernel)
theorem pln_list {α : Type} {f : α → PyData} {n c k : Nat} {as : List α} (h : ∀ a ∈ as, Pln n c (f a)) (hk : as.length ≤ k) : Pln (n + 1) (k * (c + 2) + 3) (.list (as.map f)) := by
  refine ⟨?_, ?_, ?_, ?_⟩
  · show ∀ d ∈ as.map f, okD n d
    intro d hd
    obtain ⟨a, ha, rfl⟩ := List.mem_map.mp hd
    exact (h a ha).ok
  · rw [PyData.showable]
    refine showAll fun d hd => ?_
    obtain ⟨a, ha, rfl⟩ := List.mem_map.mp hd
    exact (h a ha).show_
  · have h1 := shown_list (f := f) (c := c) (as := as) fun a ha => (h a ha).len
    have h2 : as.length * (c + 2) ≤ k * (c + 2) := Nat.mul_le_mul_right _ hk
    rw [Nat.mul_add] at h2
    omega
  · rw [PyData.shown, shownAll_map]
    refine list_asc fun t ht => ?_
    obtain ⟨a, ha, rfl⟩ := List.mem_map.mp ht
    exact (h a ha).asc
theorem piled_le {α : Type} {f : α → Str} {c : Nat} : ∀ {as : List α}, (∀ a ∈ as, (f a).length ≤ c) → piled (as.map f) ≤ as.length * (c + 2)
  | [], _ => Nat.zero_le _
  | a :: as, h => by
    have h1 := h a List.mem_cons_self
    have h2 := piled_le (f := f) (c := c) (as := as) fun b hb => h b (List.mem_cons_of_mem _ hb)
    rw [List.map_cons, piled_cons, List.length_cons, Nat.succ_mul]
    omega
theorem pln_tup {α : Type} {f : α → PyData} {n c k : Nat} {as : List α} (h : ∀ a ∈ as, Pln n c (f a)) (hk : as.length ≤ k) : Pln (n + 1) (k * (c + 2) + 3) (.tuple (as.map f)) := by
  refine ⟨?_, ?_, ?_, ?_⟩
  · show ∀ d ∈ as.map f, okD n d
    intro d hd
    obtain ⟨a, ha, rfl⟩ := List.mem_map.mp hd
    exact (h a ha).ok
  · rw [PyData.showable]
    refine showAll fun d hd => ?_
    obtain ⟨a, ha, rfl⟩ := List.mem_map.mp hd
    exact (h a ha).show_
  · rw [PyData.shown, shownAll_map]
    have h1 := tupT_len (as.map fun a => (f a).shown)
    have h2 := piled_le (f := fun a => (f a).shown) (c := c) (as := as) fun a ha => (h a ha).len
    have h3 : as.length * (c + 2) ≤ k * (c + 2) := Nat.mul_le_mul_right _ hk
    omega
  · rw [PyData.shown, shownAll_map]
    refine tup_asc fun t ht => ?_
    obtain ⟨a, ha, rfl⟩ := List.mem_map.mp ht
    exact (h a ha).asc
theorem Pln.up {n c d : Nat} {x : PyData} (h : Pln n c x) (e : c ≤ d) : Pln n d x := ⟨h.ok, h.show_, Nat.le_trans h.len e, h.asc⟩
theorem repr_pln {w : W} {d : PyData} {c : Nat} {st : Sto} (h : Pln 4 c d) (hc : c ≤ 100000) (hp : pyOf st w = some d) (hw : (∃ ws, w = .lst ws) ∨ ∃ b ws, w = .tup b ws) : fReprV [w] st = some (.val (.str d.shown)) := by
  have hl : d.shown.length ≤ LIM := Nat.le_trans h.len hc
  have e : fRepr [w] st = some (.val (.str d.shown)) := by
    rcases hw with ⟨ws, rfl⟩ | ⟨b, ws, rfl⟩
    · show (match pyOf st (.lst ws) with
        | some d => if SeqAt.shaped d = true ∧ d.showable = true ∧ d.shown.length ≤ LIM then some (Fr.val (.str d.shown)) else none
        | none => none) = _
      rw [hp]
      exact if_pos ⟨h.ok.shaped (by decide), h.show_, hl⟩
    · show (match pyOf st (.tup b ws) with
        | some d => if SeqAt.shaped d = true ∧ d.showable = true ∧ d.shown.length ≤ LIM then some (Fr.val (.str d.shown)) else none
        | none => none) = _
      rw [hp]
      exact if_pos ⟨h.ok.shaped (by decide), h.show_, hl⟩
  rcases hw with ⟨ws, rfl⟩ | ⟨b, ws, rfl⟩ <;> exact e
theorem mut_at {ρ : Env} {st : Sto} {a x : M W} {l : List W} {w : W} {i : Nat} (ha : a ρ st = some (.ok (.ref i), st)) (hg : st[i]? = some (some (.l l))) (hx : x ρ st = some (.ok w, st)) (hl : l.length < LIM) : vExpr (vMut mAppend a (vCons x vNil)) ρ st = some (.nx ρ, st.set i (some (.l (l ++ [w])))) := by
  refine expr_ok (w := .non) ?_
  have hlo : lstOf (.ref i) st = some l := lstOf_ref hg
  unfold vMut
  rw [ha, andR_ok]
  dsimp only
  rw [hlo]
  dsimp only
  rw [one_ok hx, andR_ok]
  unfold wrL mAppend
  rw [hg]
  dsimp only
  rw [if_pos hl]
theorem listv_ok {ρ : Env} {st : Sto} {x : M W} {r : List (Str × Str)} (hx : x ρ st = some (.ok (rowW r), st)) : vCB false fListV (vCons x vNil) ρ st = some (.ok (rowW r), st) := by
  have e : fListV [rowW r] st = some (.nl (r.map pW)) := rfl
  rw [e_cb, one_ok hx, andR_ok, e]
  rfl
theorem pyN_ref {n i : Nat} {st : Sto} {l : List W} (h : st[i]? = some (some (.l l))) : pyN (n + 1) st (.ref i) = (pyL (pyN n st) l).map PyData.list := by
  have hlo : lstOf (.ref i) st = some l := lstOf_ref h
  show (match lstOf (.ref i) st with
      | some ws => (pyL (pyN n st) ws).map PyData.list
      | none => none) = _
  rw [hlo]
theorem pyN_lst {n : Nat} {st : Sto} {l : List W} : pyN (n + 1) st (.lst l) = (pyL (pyN n st) l).map PyData.list := rfl
theorem set_tail {a : Option Cell} {t : Sto} {i : Nat} {c : Option Cell} (h : 0 < i) : ∃ t', (a :: t).set i c = a :: t' ∧ t'.length = t.length := by
  cases i with
  | zero => omega
  | succ j => exact ⟨t.set j c, rfl, List.length_set⟩
theorem for_step {l : List W} {g : VG} {b : S} {w : W} {ws : List W} {ρ ρ1 ρ' : Env} {st s1 s' : Sto} (hg : g w ρ st = some (ρ1, s1)) (hb : b ρ1 s1 = some (.nx ρ', s')) : forL ⟨l, []⟩ g b (w :: ws) ρ st = forL ⟨l, []⟩ g b ws ρ' s' := by
  rw [forL_cons, hg]
  dsimp only
  rw [hb]
theorem okD_up : ∀ (n : Nat) (d : PyData), okD n d → okD (n + 1) d
  | 0, d, h => by
    cases d <;> first | exact h | trivial | cases h
  | n + 1, d, h => by
    cases d <;> first | exact h | trivial | (exact fun x hx => okD_up n x (h x hx)) | cases h
end VS

/-! steps for any operation; texts that are joined and split -/
namespace VS
open PySem PySem.Spec PyProof.Rows L2 Evl
open TL (tl len_tl ext_tl tl_append tl_mk mk_tl)
open Fw (fstAt fst_at fst_lt okS okD)
theorem op_ok {ρ : Env} {st : Sto} {c : Bool} {f : W → W → Sto → Option Fr} {x y : M W} {a b w : W} (hx : x ρ st = some (.ok a, st)) (hy : y ρ st = some (.ok b, st)) (e : f a b st = some (.val w)) : vOp c f x y ρ st = some (.ok w, st) := by
  rw [e_op, hx, andR_ok, hy, andR_ok, e]
  rfl
theorem opl_ok {ρ : Env} {st : Sto} {f : W → W → Sto → Option Fr} {x y : M W} {a b : W} {l : List W} (hx : x ρ st = some (.ok a, st)) (hy : y ρ st = some (.ok b, st)) (e : f a b st = some (.nl l)) : vOp false f x y ρ st = some (.ok (.lst l), st) := by
  rw [e_op, hx, andR_ok, hy, andR_ok, e]
  rfl
theorem cb_ok {ρ : Env} {st : Sto} {c : Bool} {f : List W → Sto → Option Fr} {x : M (List W)} {ws : List W} {w : W} (hx : x ρ st = some (.ok ws, st)) (e : f ws st = some (.val w)) : vCB c f x ρ st = some (.ok w, st) := by
  rw [e_cb, hx, andR_ok, e]
  rfl
theorem cbl_ok {ρ : Env} {st : Sto} {f : List W → Sto → Option Fr} {x : M (List W)} {ws : List W} {l : List W} (hx : x ρ st = some (.ok ws, st)) (e : f ws st = some (.nl l)) : vCB false f x ρ st = some (.ok (.lst l), st) := by
  rw [e_cb, hx, andR_ok, e]
  rfl
theorem m1_ok {ρ : Env} {st : Sto} {c : Bool} {f : Str → W → Sto → Option Fr} {x y : M W} {z : Str} {b w : W} (hx : x ρ st = some (.ok (.str z), st)) (hy : y ρ st = some (.ok b, st)) (e : f z b st = some (.val w)) : vM1 c f x y ρ st = some (.ok w, st) := by
  rw [e_m1, hx, andR_ok]
  dsimp only
  rw [hy, andR_ok, e]
  rfl
theorem m1l_ok {ρ : Env} {st : Sto} {f : Str → W → Sto → Option Fr} {x y : M W} {z : Str} {b : W} {l : List W} (hx : x ρ st = some (.ok (.str z), st)) (hy : y ρ st = some (.ok b, st)) (e : f z b st = some (.nl l)) : vM1 false f x y ρ st = some (.ok (.lst l), st) := by
  rw [e_m1, hx, andR_ok]
  dsimp only
  rw [hy, andR_ok, e]
  rfl
theorem srcw_ok {ρ : Env} {st : Sto} {x : M W} {w : W} {s : Src} (hx : x ρ st = some (.ok w, st)) (e : srcOf w st = some s) : vSrc x ρ st = some (.ok s, st) := by
  rw [e_src, hx, andR_ok, e]
  rfl
theorem lst_ok {ρ : Env} {st : Sto} {x : M (List W)} {ws : List W} (hx : x ρ st = some (.ok ws, st)) (hl : ws.length ≤ 100000) : vLst false x ρ st = some (.ok (.lst ws), st) := by
  rw [e_lst, hx, andR_ok, if_pos hl]
theorem tup_ok {ρ : Env} {st : Sto} {x : M (List W)} {ws : List W} (hx : x ρ st = some (.ok ws, st)) (hl : ws.length ≤ 100000) : vTup x ρ st = some (.ok (.tup true ws), st) := by
  rw [e_tup, hx, andR_ok, if_pos hl]
theorem or_f {ρ : Env} {st : Sto} {a b : M Bool} {r : Option (R Bool × Sto)} (h1 : a ρ st = some (.ok false, st)) (h2 : b ρ st = r) : vOr a b ρ st = r := by
  rw [e_or, h1, andR_ok, if_neg Bool.false_ne_true, h2]
theorem or_t {ρ : Env} {st : Sto} {a b : M Bool} (h1 : a ρ st = some (.ok true, st)) : vOr a b ρ st = some (.ok true, st) := by
  rw [e_or, h1, andR_ok, if_pos rfl]
theorem and_t {ρ : Env} {st : Sto} {a b : M Bool} {r : Option (R Bool × Sto)} (h1 : a ρ st = some (.ok true, st)) (h2 : b ρ st = r) : vAnd a b ρ st = r := by
  rw [e_and, h1, andR_ok, if_pos rfl, h2]
theorem and_f {ρ : Env} {st : Sto} {a b : M Bool} (h1 : a ρ st = some (.ok false, st)) : vAnd a b ρ st = some (.ok false, st) := by
  rw [e_and, h1, andR_ok, if_neg Bool.false_ne_true]
theorem if_t {ρ : Env} {st : Sto} {c : M Bool} {p q : S} {r : Option (SR × Sto)} (hc : c ρ st = some (.ok true, st)) (h : p ρ st = r) : vIfS c p q ρ st = r := by
  rw [e_ifS, hc, andS_ok, if_pos rfl, h]
theorem if_f {ρ : Env} {st : Sto} {c : M Bool} {p q : S} {r : Option (SR × Sto)} (hc : c ρ st = some (.ok false, st)) (h : q ρ st = r) : vIfS c p q ρ st = r := by
  rw [e_ifS, hc, andS_ok, if_neg Bool.false_ne_true, h]
theorem sq_rt {a b : S} {ρ : Env} {st s : Sto} {w : W} (h : a ρ st = some (.rt w, s)) : vSeq a b ρ st = some (.rt w, s) := by
  rw [e_seq, h]
theorem andv_f {ρ : Env} {st : Sto} {a b : M W} (h1 : a ρ st = some (.ok (.bl false), st)) : vAndV a b ρ st = some (.ok (.bl false), st) := by
  rw [e_andV, h1, andR_ok]
  rfl
theorem slice_ok {ρ : Env} {st : Sto} {c : Bool} {α : Type} {f : α → W} {l : List α} {x : M W} {n : Nat} (hx : x ρ st = some (.ok (.lst (l.map f)), st)) : vSl false x (vPart (vC (.int n))) vNoPart ρ st = some (.ok (.lst ((l.drop n).map f)), st) := drop_ok hx (part_ok c_ok)
theorem enumW_gen {α : Type} {f : α → W} : ∀ (l : List α) (k : Nat), enumW k (l.map f) = (l.zipIdx k).map fun p => .tup true [.int (p.2 : Nat), f p.1]
  | [], _ => rfl
  | a :: l, k => by
    rw [List.map_cons, enumW, enumW_gen l (k + 1), List.zipIdx_cons, List.map_cons]
theorem join_eq (y : Str) (ps : List Str) : Txt.join y ps = Str.join y ps := StrLaws.glued_eq_join y ps
theorem join_cons2 (y a b : Str) (ps : List Str) : Str.join y (a :: b :: ps) = a ++ y ++ Str.join y (b :: ps) := rfl
theorem join_mem (y : Str) : ∀ (ps : List Str), ∀ c ∈ tl (Str.join y ps), c ∈ tl y ∨ ∃ p ∈ ps, c ∈ tl p
  | [], c, h => by
    have : tl (Str.join y []) = [] := by rw [TL.tl_join]; rfl
    rw [this] at h
    cases h
  | [a], c, h => .inr ⟨a, List.mem_singleton.mpr rfl, h⟩
  | a :: b :: ps, c, h => by
    rw [join_cons2, tl_append, tl_append] at h
    rcases List.mem_append.mp h with z | z
    · rcases List.mem_append.mp z with z | z
      · exact .inr ⟨a, List.mem_cons_self, z⟩
      · exact .inl z
    · rcases join_mem y (b :: ps) c z with z | ⟨p, h1, h2⟩
      · exact .inl z
      · exact .inr ⟨p, List.mem_cons_of_mem _ h1, h2⟩
theorem join_asc {y : Str} {ps : List Str} (hy : Asc y) (hp : ∀ p ∈ ps, Asc p) : Asc (Txt.join y ps) := fun c hc => by
  rw [join_eq] at hc
  rcases join_mem y ps c hc with z | ⟨p, h1, h2⟩
  · exact hy c z
  · exact hp p h1 c h2
theorem join_le (y : Str) {k : Nat} : ∀ (ps : List Str), (∀ p ∈ ps, p.length + y.length ≤ k) → (Str.join y ps).length ≤ ps.length * k
  | [], _ => by
    have : (Str.join y []).length = 0 := by rw [len_tl, TL.tl_join]; rfl
    omega
  | [a], h => by
    have := h a List.mem_cons_self
    show a.length ≤ 1 * k
    omega
  | a :: b :: ps, h => by
    have h1 := h a List.mem_cons_self
    have h2 := join_le y (b :: ps) fun p hp => h p (List.mem_cons_of_mem _ hp)
    rw [join_cons2, strLen_append, strLen_append, List.length_cons, Nat.succ_mul]
    omega
theorem sum_le_all {k : Nat} : ∀ (ps : List Str), (∀ p ∈ ps, p.length ≤ k) → (ps.map fun y => y.length).sum ≤ ps.length * k
  | [], _ => Nat.zero_le _
  | a :: ps, h => by
    have h1 := h a List.mem_cons_self
    have h2 := sum_le_all ps fun p hp => h p (List.mem_cons_of_mem _ hp)
    rw [List.map_cons, List.sum_cons, List.length_cons, Nat.succ_mul]
    omega
theorem fJoin_ok {y : Str} {w : W} {ps : List Str} {st : Sto} (h : seqOf w st = some (ps.map W.str)) (hy : y.length ≤ 10) (hp : ∀ p ∈ ps, p.length ≤ 400) (hl : ps.length ≤ 1000) : fJoin y w st = some (.val (.str (Txt.join y ps))) := by
  unfold fJoin
  rw [h]
  dsimp only
  rw [strsW_map]
  have h1 := sum_le_all ps hp
  have h2 : ps.length * y.length ≤ 1000 * 10 := Nat.mul_le_mul hl hy
  have h3 : ps.length * 400 ≤ 1000 * 400 := Nat.mul_le_mul_right _ hl
  exact if_pos (by omega)
theorem fSplit_ok {y : Str} {s : Nat} {ps : List Str} {st : Sto} (ey : tl y = [s]) (hk : y.cps.all (· < 256) = true) (hne : ps ≠ []) (hp : ∀ p ∈ ps, s ∉ tl p) (hl : (Txt.join y ps).length ≤ 90000) : fSplit (Txt.join y ps) (.str y) st = some (.nl (ps.map W.str)) := by
  have hL : LIM = 100000 := rfl
  have h1 : y.length = 1 := by rw [len_tl, ey]; rfl
  unfold fSplit
  dsimp only
  rw [if_pos ⟨by rw [h1]; rfl, by omega⟩, TL.split_join ey hk hne hp]
theorem fIn_tup {neg : Bool} {x : Str} {b : Bool} {ys : List Str} {st : Sto} : fIn neg (.str x) (.tup b (ys.map W.str)) st = some (.val (.bl (if neg then !decide (x ∈ ys) else decide (x ∈ ys)))) := by
  unfold fIn
  dsimp only
  rw [seqOf_tup]
  dsimp only
  rw [if_pos ⟨rfl, strW_flat ys⟩, inW_strs]
theorem app_nin {c : Nat} {x y : Str} (h : c ∉ tl x) (k : c ∉ tl y) : c ∉ tl (x ++ y) := fun z => by
  rw [tl_append] at z
  rcases List.mem_append.mp z with z | z
  · exact h z
  · exact k z
theorem nm_nin {x : Str} {c : Nat} (h : isNm (tl x) = true) (hc : inT c SIGs = false) : c ∉ tl x := fun z => by
  have := (isNm_sgs h).1 c z
  rw [hc] at this
  cases this
end VS

/-! len(set(texts)): texts a list -/
namespace VS
open PySem PySem.Spec PyProof.Rows L2 Evl
open TL (tl len_tl ext_tl tl_append tl_mk mk_tl)
/-- how many different texts -/
def cntS : List Str → Nat
  | [] => 0
  | x :: l => cntS l + if x ∈ l then 0 else 1
theorem cntS_le : ∀ l : List Str, cntS l ≤ l.length
  | [] => Nat.le_refl _
  | x :: l => by
    have := cntS_le l
    unfold cntS
    rw [List.length_cons]
    split <;> omega
theorem cntS_full : ∀ l : List Str, cntS l = l.length ↔ l.Nodup
  | [] => by simp [cntS]
  | x :: l => by
    have h := cntS_le l
    have ih := cntS_full l
    unfold cntS
    rw [List.length_cons, List.nodup_cons]
    split
    · rename_i hx
      constructor
      · intro e
        omega
      · exact fun e => absurd hx e.1
    · rename_i hx
      constructor
      · intro e
        exact ⟨hx, ih.mp (by omega)⟩
      · intro e
        rw [ih.mpr e.2]
theorem rev_take {xs : List Str} {i : Nat} (h : i < xs.length) : (xs.take (i + 1)).reverse = xs[i] :: (xs.take i).reverse := by
  rw [List.take_succ_eq_append_getElem h, List.reverse_append]
  rfl
section
variable {P : Program} {w : World} {A : Around} {F : Value → Shared → Prop} {R : Result → Shared → Prop} {I : Addr} {fp wr : List Addr} {Gn : Array GenState → Array GenState → Prop} {n : Nat} {Pv : Nat → Value → Prop} {St : Nat → Shared → Prop}
/-- S holds the first i of the texts -/
abbrev HasFirst (P : Program) (w : World) (xs : List Str) (S : Addr) (i : Nat) (h : Heap) : Prop := h.SetOf (PySem.strKind P w) S (fun z => decide (z ∈ (xs.take i).reverse)) (cntS (xs.take i).reverse)
theorem HasFirst.keep {xs : List Str} {S : Addr} {i : Nat} {h h' : Heap} (x : HasFirst P w xs S i h) (k : ∀ o, h.get? S = some o → h'.get? S = some o) : HasFirst P w xs S i h' := by
  obtain ⟨o, r1, r2, r3, ho, rest⟩ := x
  exact ⟨o, r1, r2, r3, k o ho, rest⟩
theorem put_texts (W : WalksS P w A.in1 I fp wr Gn n Pv St) (S : Addr) (out : S ∉ fp) (xs : List Str) (hn : xs.length = n) (few : n + 1 < scanBound) (val : ∀ i v, Pv i v → ∃ t, v = .str (xs.getD i Str.empty) t) (left i : Nat) :
    ∀ t : Shared, n - i = left → i ≤ n → St i t → HasFirst P w xs S i t.heap → (∀ t', Moved (S :: wr) Gn t t' → HasFirst P w xs S n t'.heap → R (.ok (.ret .none)) t') → codeAny (model P w) A (.builtin "set.update.loop" ⟨[.ref S, .ref I], []⟩) R t := by
  have nw : S ∉ wr := fun h => out (W.sub _ h)
  have up : ∀ b ∈ wr, b ∈ S :: wr := fun b hb => List.mem_cons_of_mem _ hb
  induction left generalizing i with
  | zero =>
    intro t hk hi hst hS done
    obtain rfl : i = n := by omega
    refine codeAny_builtin PyProof.Rows.F.entry_set_update_loop ?_
    rw [Around.under_plainId PyProof.Rows.F.plain_set_update_loop _]
    show wpAny _ A.in1 (pyNext (.ref I) >>= _) _ _ t
    refine wpAny_bind (W.done t _ _ hst fun t' mv => ?_)
    show wpAny _ A.in1 (ret Value.none) _ _ t'
    exact wpAny_pure (done t' (mv.mono up) (hS.keep fun o ho => mv.heap S o nw ho))
  | succ left ih =>
    intro t hk hi hst hS done
    have lt : i < n := by omega
    refine codeAny_builtin PyProof.Rows.F.entry_set_update_loop ?_
    rw [Around.under_plainId PyProof.Rows.F.plain_set_update_loop _]
    show wpAny _ A.in1 (pyNext (.ref I) >>= _) _ _ t
    refine wpAny_bind (W.item i t _ _ lt hst fun v t' hP hst' mv => ?_)
    obtain ⟨tk, rfl⟩ := val i v hP
    have hlt : i < xs.length := by omega
    have hx : xs.getD i Str.empty = xs[i] := by rw [List.getD_eq_getElem?_getD, List.getElem?_eq_getElem hlt]; rfl
    rw [hx]
    show wpAny _ A.in1 (holding [Value.str xs[i] tk] (setAdd S (.str xs[i] tk)) >>= _) _ _ t'
    refine wpAny_bind (wpAny_holding ?_)
    unfold setAdd
    refine wpAny_holding (wpAny_bind ((PySem.strKind P w).pyHash (k := xs[i]) (strKind_is _ _ _ _) ?_))
    have room : cntS (xs.take i).reverse + 1 < scanBound := by
      have := cntS_le (xs.take i).reverse
      rw [List.length_reverse, List.length_take] at this
      omega
    refine wpAny_setAddHashed_of (knd := PySem.strKind P w) (s := { t' with toks := t'.toks + 1 }) (strKind_is _ _ _ _) rfl (hS.keep fun o ho => mv.heap S o nw ho) room fun h' same now => ?_
    have now2 : HasFirst P w xs S (i + 1) h' := by
      unfold HasFirst
      rw [rev_take hlt]
      refine SetOf_congr now (fun z => ?_) ?_
      · rw [← Bool.decide_or]
        exact decide_eq_decide.mpr ⟨fun h => List.mem_cons.mpr h.symm, fun h => (List.mem_cons.mp h).symm⟩
      · show _ = cntS _ + _
        by_cases hm : xs[i] ∈ (xs.take i).reverse
        · rw [if_pos (decide_eq_true hm), if_pos hm]
          rfl
        · rw [if_neg (by rw [decide_eq_false hm]; exact Bool.false_ne_true), if_neg hm]
    have off : ∀ b : Addr, b ∈ fp → b ≠ S := fun b hb e => out (e ▸ hb)
    refine wpAny_pure ⟨plainId_quiet PyProof.Rows.F.plain_set_update_loop _, ih (i + 1) _ (by omega) lt (W.frame _ t' _ _ hst' (Nat.le_succ _) fun b hb o e => (same.2 b (off b hb)).trans e) now2 fun t'' mv2 fin => done t'' ?_ fin⟩
    exact Moved.trans W.gtrans ((mv.mono up).then_heap (Nat.le_succ _) fun b o hb e => (same.2 b fun e2 => hb (e2 ▸ List.mem_cons_self)).trans e) mv2
end
section
variable {P : Program} {w : World} {A : Around} {F : Value → Shared → Prop} {t : Shared}
/-- the set that its constructor begins with -/
abbrev set0 (led : Bool) : Obj := { cls := .type "set", dict := none, data := .set #[] 0 (.fresh 0 0 led) }
theorem call_set_texts {l : Addr} {items : Array Value} {xs : List Str} {Q : Value → Shared → Prop} (hh : A.handled = none) (hl : t.heap.IsList l items) (hi : PyProof.Rows.StrsAre items.toList xs) (few : xs.length + 1 < scanBound)
    (next : ∀ (h' : Heap) (tk : Nat), HasFirst P w xs t.heap.objs.size xs.length h' → (∀ b o, b < t.heap.objs.size → t.heap.get? b = some o → h'.get? b = some o) → Q (.ref t.heap.objs.size) { t with heap := h', toks := tk }) :
    wpAny (model P w) A (call (.type "set") [.ref l]) Q F t := by
  obtain ⟨_, _, hmro⟩ := PySem.F.called_set.mro
  have made := PySem.F.called_set.made
  have below := PySem.F.called_set.sub
  have not1 := PySem.F.called_set.notType
  have can := PySem.F.called_set.canCreate
  have called := PySem.F.typeCall_set_1 (.ref l)
  have sz : items.size = xs.length := by rw [← StrsAre.len_eq hi, Array.length_toList]
  refine wpAny_call (codeAny_of_tree ?_)
  show wpAny _ _ (callAny (.type "set") _) _ _ _
  refine wpAny_pure ⟨Code.quiet_builtin _ (by decide +kernel), codeAny_builtin PySem.F.entry_type_call ?_⟩
  rw [Around.under_plain (weight_type_call_type "set" [.ref l] []) rfl]
  repeat (any_goals (first | assumption | wp_step))
  refine codeAny_mono (code_set_new_1 (.ref l) (E := F) (Q₁ := fun obj t1 => ∃ led : Bool, obj = .ref t.heap.objs.size ∧ t1 = { t with heap := t.heap.push (set0 led) }) fun led => ⟨led, rfl, rfl⟩) fun r t1 hr => ?_
  cases r with
  | error e => exact hr
  | ok fl =>
    cases fl with
    | ret obj =>
      obtain ⟨led, rfl, rfl⟩ := hr
      have at0 : (t.heap.push (set0 led)).get? t.heap.objs.size = some (set0 led) := Heap.get?_push_size _ rfl
      have ty0 : Shared.TypeIs { t with heap := t.heap.push (set0 led) } (.ref t.heap.objs.size) "set" := ⟨_, at0, rfl⟩
      have look := PySem.F.called_set.init.lookup
      have bind := PySem.F.called_set.init.bind (.ref t.heap.objs.size)
      repeat (any_goals (first | assumption | wp_step))
      refine codeAny_mono (codeAny_call_builtin (R := wants (fun r t2 => r = .none ∧ ∃ h' tk, t2 = { t with heap := h', toks := tk } ∧ HasFirst P w xs t.heap.objs.size xs.length h' ∧ ∀ b o, b < t.heap.objs.size → t.heap.get? b = some o → h'.get? b = some o) F)
        PySem.F.called_set.init.plain PySem.F.entry_set_init (check_set_init_1 ty0 ?_)) fun r2 t2 hr2 => ?_
      · obtain ⟨⟨oc, od, oda, osl⟩, ho, hc, nl, hd⟩ := hl
        dsimp only at hc hd
        subst hc hd
        have ho1 : (t.heap.push (set0 led)).get? l = some { cls := .type "list", dict := od, data := .seq items nl, slots := osl } := Heap.get?_push_of_some _ ho
        have sub1 := PySem.F.sub_list_set
        have sub2 := PySem.F.sub_list_frozenset
        have ne1 : (Value.type "list" == Value.type "dict") = false := by decide
        have isl : (t.heap.push (set0 led)).IsList l items := ⟨_, ho1, rfl, nl, rfl⟩
        unfold Builtin.«set.__init__» noKeywords Builtin.Frozenset.updateFrom
        generalize hIt : pyIter = It
        wp_walk
        subst hIt
        refine wpAny_pyIter_list isl (wpAny_bind (wpAny_runValue ?_))
        have lt : l < t.heap.objs.size := Heap.lt_size ho
        have grown : (t.heap.push (set0 led)).objs.size = t.heap.objs.size + 1 := Heap.size_push ..
        have quiet : A.in1.in1.in1.handled = none := by simp [hh]
        have ne2 : l ≠ (t.heap.push (set0 led)).objs.size := by
          rw [grown]
          exact Nat.ne_of_lt (Nat.lt_succ_of_lt lt)
        have out : t.heap.objs.size ∉ [(t.heap.push (set0 led)).objs.size, l] := by
          rw [grown]
          simp only [List.mem_cons, List.not_mem_nil, or_false, not_or]
          exact ⟨Nat.ne_of_lt (Nat.lt_succ_self _), Nat.ne_of_gt lt⟩
        refine put_texts ((Walks.list quiet _ l ne2 items).toS) t.heap.objs.size out xs sz.symm (by omega) (fun i v hv => SS.strs_at hi i v (by rw [Array.getElem?_toList]; exact hv)) (items.size - 0) 0 _ (by omega) (Nat.zero_le _)
          ⟨⟨_, Heap.get?_push_size _ rfl, rfl, rfl⟩, isl.push _⟩ ?begin ?over
        case begin =>
          exact PyProof.Rows.SetOf_congr ((PyProof.Rows.setObjOf_fresh (knd := PySem.strKind P w) led).setOf (Heap.get?_push_of_some _ at0) (by unfold scanBound; omega)) (fun z => by simp) rfl
        case over =>
          intro t' mv has
          obtain ⟨h', g', d', tk', os'⟩ := t'
          obtain rfl : g' = t.gens := mv.gens
          obtain rfl : d' = t.drawn := mv.drawn
          obtain rfl : os' = t.os := mv.os
          show wpAny _ _ _ _ _ _
          refine wpAny_pure ?_
          show wpAny _ _ (ret Value.none) _ _ _
          refine wpAny_pure ⟨rfl, h', tk', rfl, sz ▸ has, fun b o hb e => mv.heap b o ?_ (Heap.get?_push_of_some _ (Heap.get?_push_of_some _ e))⟩
          rw [grown]
          simp only [List.mem_cons, List.not_mem_nil, or_false, not_or]
          exact ⟨Nat.ne_of_lt hb, Nat.ne_of_lt (Nat.lt_succ_of_lt hb)⟩
      · cases r2 with
        | error e => exact hr2
        | ok fl2 =>
          cases fl2 with
          | ret r =>
            obtain ⟨rfl, h', tk, rfl, has, keep⟩ := hr2
            repeat (any_goals (first | assumption | wp_step))
            exact next _ _ has keep
          | _ => exact hr2.elim
    | _ => exact hr.elim
end
end VS

namespace VS
open PySem PySem.Spec PyProof.Rows L2 Evl
open TL (tl len_tl ext_tl tl_append tl_mk mk_tl)
def tLenSetS (K : PySem.W.Frag) (ta : TE) : TE := fun σ H Q => ta σ H fun x H1 => ∃ (l : Addr) (ys : List Str), x = .ref l ∧ SqL K H1 l (ys.map V.str) ∧ ys.length < 1000 ∧ Q (.int (cntS ys.reverse : Nat)) H1
theorem k_lenSetS {X : Cx} (K : PySem.W.Frag) (hK : X.K = K) {a : Expr} {ta : TE} {p p2 q pos : Pos} (hg : Gl X "len") (hm : X.mg "len" = none) (hg2 : Gl X "set") (hm2 : X.mg "set" = none) (ha : PE X a ta) (hc : X.calm = true := by rfl)
    (na : starEach [a] X.env = (false, eval a X.env) :: starEach [] X.env := by rfl) : PE X (.Call (.Name "len" p) [.Call (.Name "set" p2) [a] [] q] [] pos) (tLenSetS K ta) := by
  subst hK
  refine ⟨fun pins s σ H Q I h => Call_ (ld_blt I hg hm Fw.bt_len (callWith_builtin1 (args_cons (Call_ (ld_blt I hg2 hm2 PyProof.Rows.boot_set ?_)) rfl) rfl rfl))⟩
  refine callWith_type1 (args_cons (thn (ha.run pins s σ H _ I h) fun v s1 ⟨x, H1, J, r1, q1⟩ => args_nil ?_) na) na rfl
  obtain ⟨l, ys, rfl, ht, hl, hq⟩ := q1
  cases r1
  obtain ⟨its, rv, pl, _⟩ := J.list ht
  refine call_set_texts (J.ok.hd hc) pl.isList (by simpa using strsAre_of rv) (by unfold scanBound; omega) fun hp tk R keep => args_nil ?_
  have J2 : Inv X pins σ H1 { s1 with heap := hp, toks := tk } := J.kept fun b o e => keep b o (Heap.lt_size e) e
  have bound := cntS_le ys.reverse
  obtain ⟨o, es, ep, t, ho, hex, hd, _, _, _, hf, hn⟩ := R
  rw [List.take_length] at hn
  rw [List.length_reverse] at bound
  exact call_len_set ho hex hd hf (by rw [hn]; omega) ⟨.int (cntS ys.reverse : Nat), H1, J2.tok _, ⟨_, by rw [hn]⟩, hq⟩
section
variable {K : PySem.W.Frag} {E : L2.St → XK} {ta : TE} {ma : M W}
/-- len(set(texts)) -/
def vLenSetS (m : M W) : M W := fun ρ st => andR (m ρ st) fun w s => finO false ((lstOf w s).bind fun ws => (strsW ws).bind fun ys => if ys.length < 1000 then some (.val (.int (cntS ys.reverse : Nat))) else none) s
theorem sim_lenSetS (ha : SimE E ta ma) : SimE E (tLenSetS K ta) (vLenSetS ma) := fun σ ρ φ st G H rr st' k ev hm Q q x =>
  ha.then_ k ev hm x fun w s v φ2 G2 H2 hm2 s1 r1 => by
    obtain ⟨fr, e1, p⟩ := finO_post (Q := Q) s1.ok hm2 fun w' v' φ4 G4 H4 e s3 r3 => q w' v' φ4 G4 H4 e (s1.trans s3) r3
    obtain ⟨ws, e2, e3⟩ := Option.bind_eq_some_iff.mp e1
    obtain ⟨ys, e4, e5⟩ := Option.bind_eq_some_iff.mp e3
    obtain ⟨a, xs, rfl, h3, h4⟩ := lst_rd s1.ok r1 e2
    split at e5
    · rename_i hl
      cases e5
      rw [strsW_eq e4] at h4
      rw [ra_strs h4] at h3
      exact ⟨a, ys, rfl, .inl (.inl h3), hl, p _ (.int _)⟩
    · cases e5
end
end VS

namespace VS
open PySem PySem.Spec PyProof.Rows L2 Evl
/-- the name of the clause goes -/
def clr (i : Nat) : Option (SR × Sto) → Option (SR × Sto)
  | some (.nx ρ, s) => some (.nx (ρ.set i none), s)
  | some (.bk ρ, s) => some (.bk (ρ.set i none), s)
  | some (.ct ρ, s) => some (.ct (ρ.set i none), s)
  | some (.rt w, s) => some (.rt w, s)
  | _ => none
open Classical in
/-- what a clause's suite does, wherever the error stands -/
noncomputable def everyA (f : Addr → Option (SR × Sto)) : Option (SR × Sto) := if ∀ a, f a = f 0 then f 0 else none
theorem everyA_eq {f : Addr → Option (SR × Sto)} {r : Option (SR × Sto)} (h : ∀ a, f a = r) : everyA f = r := by
  unfold everyA
  rw [if_pos fun a => (h a).trans (h 0).symm]
  exact h 0
theorem everyA_at {f : Addr → Option (SR × Sto)} {r : SR × Sto} (h : everyA f = some r) (a : Addr) : f a = some r := by
  unfold everyA at h
  split at h
  · rename_i q
    exact (q a).trans h
  · cases h
/-- try: mb, except .. as (slot i): ms; cat: which errors the clause takes -/
noncomputable def vTryAs (cat : Addr → Option Bool) (i : Nat) (mb : S) (ms : Addr → Addr → S) : S := fun ρ st => match mb ρ st with
  | some (.ex e ρ', st') => match cat e.1 with
    | some true => if e.2 = [] then everyA fun a => clr i (ms a e.1 (ρ'.set i (some (.raw (.ref a)))) st') else none
    | some false => some (.ex e ρ', st')
    | none => none
  | o => o
section
variable {E : L2.St → XK} {K : PySem.W.Frag}
theorem sim_tryAs {i : Nat} {tbw : WX → TS} {ts : Addr → Value → Option Addr → TS} {Wout : WX} {c : Value} {cat : Addr → Option Bool} {mb : S} {ms : Addr → Addr → S} (hE : ∀ σ cls od H, E σ cls od H → Wout cls od σ H) (hc : ∀ A b, cat A = some b → PySem.W.exmOne K (.ref A) c = some b)
    (hb : ∀ Wx : WX, SimS (fun σ cls od H => Wx cls od σ H) (tbw Wx) mb) (hs : ∀ a A, SimS EF (ts a (.ref A) none) (ms a A)) : SimS E (fun D σ H => tbw (wAs K c i ts Wout D) D σ H) (vTryAs cat i mb ms) := fun σ ρ φ st G H r st' k ev hm D p => by
  unfold vTryAs at hm
  cases e : mb ρ st with
  | none =>
    rw [e] at hm
    cases hm
  | some q =>
    obtain ⟨q, s⟩ := q
    rw [e] at hm
    refine hb (wAs K c i ts Wout D) σ ρ φ st G H q s k ev e D ?_
    cases q with
    | nx ρ' =>
      cases hm
      exact p
    | rt w =>
      cases hm
      exact p
    | bk ρ' =>
      cases hm
      exact p
    | ct ρ' =>
      cases hm
      exact p
    | ex e' ρ' =>
      intro φ2 G2 H2 σ' cls od s1 ev1 xa
      have hcls := xa.1
      subst hcls
      dsimp only at hm
      cases ec : cat e'.1 with
      | none =>
        rw [ec] at hm
        cases hm
      | some b =>
        rw [ec] at hm
        refine ⟨b, hc _ _ ec, fun hb a ha => ?_, fun hb => ?_⟩
        · subst hb
          dsimp only at hm
          split at hm
          · rename_i e0
            have hod : od = none := by
              rcases xa.2 with h | ⟨_, _, ne, _⟩
              · exact h.2
              · exact absurd e0 ne
            subst hod
            have hm := everyA_at hm a
            cases es : ms a e'.1 (ρ'.set i (some (.raw (.ref a)))) s with
            | none =>
              rw [es] at hm
              cases hm
            | some q2 =>
              obtain ⟨q2, s2⟩ := q2
              rw [es] at hm
              have p2 := p.after s1
              refine hs a _ _ _ φ2 s G2 H2 q2 s2 s1.ok (ev1.set (v := .ref a) (.raw _) i) es _ ?_
              cases q2 with
              | ex _ _ => cases hm
              | nx ρ2 =>
                cases hm
                exact fun φ3 G3 H3 σ3 t e3 => p2 φ3 G3 H3 _ t (e3.unset i)
              | rt w =>
                cases hm
                exact p2
              | bk ρ2 =>
                cases hm
                exact fun φ3 G3 H3 σ3 t e3 => p2 φ3 G3 H3 _ t (e3.unset i)
              | ct ρ2 =>
                cases hm
                exact fun φ3 G3 H3 σ3 t e3 => p2 φ3 G3 H3 _ t (e3.unset i)
          · cases hm
        · subst hb
          cases hm
          exact hE _ _ _ _ (p φ2 G2 H2 σ' (.ref e'.1) od s1 ev1 xa)
/-- isinstance of the error that the clause holds -/
def rIsEx (K : PySem.W.Frag) (cls : Value) (d : Option Addr) (a : Addr) : List V → Hp → VK → Prop := fun xs H Q => ∃ D, cls = .ref D ∧ d = none ∧ ExcC K D ∧ rIsE K D a xs H Q
theorem call_isEx {X : Cx} {a : Addr} {oe : Obj} {cls : Value} {d : Option Addr} {pn : List (Addr × Obj)} (hz : Zc cls d oe) (hf : ∃ vs, oe.data = .fields vs) : CallR (X.suite a ((a, oe) :: pn)) (.builtin "isinstance") (rIsEx X.K cls d a) := by
  intro pins s σ H xs us Q I r h
  obtain ⟨D, rfl, rfl, C, h⟩ := h
  exact call_isE C hz hf pins s σ H xs us Q I r h
/-- isinstance(name at i, a class): ko tells by the error's class A -/
def vIsE (a A : Addr) (ko : Addr → Option Bool) (i : Nat) : M W := fun ρ s => match ρ[i]? with
  | some (some (.raw (.ref a'))) => if a' = a then (ko A).map fun b => (.ok (.bl b), s) else none
  | _ => none
theorem sim_isE {a A i : Nat} {ko : Addr → Option Bool} {c : V} {cv : Value} (hv : ∀ u, RelV c u → u = cv) (hk : ∀ b, ko A = some b → ExcC K A ∧ PySem.W.kitOne K (.ref A) cv = some b) :
    SimE E (tCB (rIsEx K (.ref A) none a) (tCons (tVar i) (tCons (tC c) tNil))) (vIsE a A ko i) := fun σ ρ φ st G H r st' k ev hm Q q x => by
  unfold vIsE at hm
  split at hm
  · rename_i a' e
    split at hm
    · rename_i ea
      subst ea
      obtain ⟨v, h1, h2⟩ := ev.2 i _ e
      cases h2
      cases ek : ko A with
      | none =>
        rw [ek] at hm
        cases hm
      | some b =>
        rw [ek] at hm
        cases hm
        obtain ⟨hx, hk⟩ := hk b ek
        exact ⟨_, h1, ⟨A, rfl, rfl, hx, c, cv, b, rfl, hv, hk, q (.bl b) _ φ G H rfl (Step.refl k) (.bl b)⟩⟩
    · cases hm
  · cases hm
end
/-- an error of the class at S is what «except S» names -/
theorem exm_selfV {K : PySem.W.Frag} {mg : Str → Option Value} {x : Str} {S : Addr} (c : Fw.Xc K mg x S) : PySem.W.exmOne K (.ref S) (.ref S) = some true := by
  have e1 : (PySem.W.subIn K (.ref S) (.type "BaseException") == some true) = true := by
    rw [c.sub]
    rfl
  have e0 : (PySem.W.clsIn K S).isSome = true := c.is
  have e2 : ((PySem.W.clsIn K S).isSome && PySem.W.typeIn K (.ref S) == some (.type "type")) = true := by
    rw [e0, c.ty]
    rfl
  unfold PySem.W.exmOne PySem.W.kitCls
  rw [if_pos e1]
  dsimp only
  rw [if_pos e2]
  exact c.self
end VS

/-! xs != ys, lists whose items (data, dicts) are equal; dict(d) -/
namespace PySem.SeqAt
open AutoSeq1 (wpAny_loadPart')
open MeetsSeq MeetsSeq2 MeetsSeq3 SeqRoads2
section
variable {prog : Program} {w : World}
theorem vs_ne_walk (p q : Addr) (us vs : Array Value) (m1 m2 : Nat) (d1 d2 : Option Addr) (t1 t2 : Array (Option Value)) (hl : us.size = vs.size) (c : Nat) :
    ∀ i : Nat, us.size - i = c → MeetsIn prog w (Builtin.«list.__eq__.loop» ⟨[.ref p, .ref q, rawInt i, rawInt 3], []⟩)
      (fun A R z => z.heap.get? p = some { cls := .type "list", dict := d1, data := .seq us m1, slots := t1 } ∧ z.heap.get? q = some { cls := .type "list", dict := d2, data := .seq vs m2, slots := t2 } ∧
        (∀ j (a1 : j < us.size) (a2 : j < vs.size), EqP prog w A.in1 z us[j] vs[j] true) ∧ R (.ok (.ret (.bool false))) z) := by
  induction c with
  | zero =>
    intro i hc A R z h
    obtain ⟨hp, g, d, tk, os⟩ := z
    obtain ⟨hx, hy, he, r⟩ := h
    wp_walk using wpAny_loadPart' hx, wpAny_loadPart' hy
    have n1 : us[((i : Nat) : Int).toNat]? = none := by
      simp
      omega
    have n2 : vs[((i : Nat) : Int).toNat]? = none := by
      simp
      omega
    rw [n1, n2]
    wp_walk using wpAny_loadPart' hx, wpAny_loadPart' hy
    show R (.ok (.ret (.bool (us.size != vs.size)))) _
    rw [hl]
    simpa using r
  | succ c ih =>
    intro i hc A R z h
    obtain ⟨hp, g, d, tk, os⟩ := z
    obtain ⟨hx, hy, he, r⟩ := h
    wp_walk using wpAny_loadPart' hx, wpAny_loadPart' hy
    have l1 : i < us.size := by omega
    have l2 : i < vs.size := by omega
    have n1 : us[((i : Nat) : Int).toNat]? = some us[i] := by simp [l1]
    have n2 : vs[((i : Nat) : Int).toNat]? = some vs[i] := by simp [l2]
    have ci : ((i : Int) + 1) = ((i + 1 : Nat) : Int) := by
      push_cast
      rfl
    rw [n1, n2]
    refine wpAny_bind (he i l1 l2 _ _ ?_)
    wp_walk
    rw [ci]
    refine ⟨plainId_quiet plain_eq_loop _, codeAny_builtin entry_eq_loop ?_⟩
    rw [Around.under_plainId plain_eq_loop _]
    exact ih (i + 1) (by omega) A R _ ⟨hx, hy, he, r⟩
theorem vs_list_ne (p q : Addr) (us vs : Array Value) (m1 m2 : Nat) (d1 d2 : Option Addr) (t1 t2 : Array (Option Value)) (hl : us.size = vs.size) :
    MeetsIn prog w (Builtin.«list.__ne__» ⟨[.ref p, .ref q], []⟩)
      (fun A R z => z.heap.get? p = some { cls := .type "list", dict := d1, data := .seq us m1, slots := t1 } ∧ z.heap.get? q = some { cls := .type "list", dict := d2, data := .seq vs m2, slots := t2 } ∧
        (∀ j (a1 : j < us.size) (a2 : j < vs.size), EqP prog w A.in1 z us[j] vs[j] true) ∧ R (.ok (.ret (.bool false))) z) := by
  intro A R z h
  obtain ⟨hp, g, d, tk, os⟩ := z
  obtain ⟨hx, hy, he, r⟩ := h
  have sub := AutoSeq1.sub_list_list
  have same : ¬ (us.size != vs.size) = true := by simp [hl]
  wp_walk using wpAny_loadPart' hx, wpAny_loadPart' hy
  refine ⟨plainId_quiet plain_eq_loop _, codeAny_builtin entry_eq_loop ?_⟩
  rw [Around.under_plainId plain_eq_loop _]
  exact vs_ne_walk p q us vs m1 m2 d1 d2 t1 t2 hl _ 0 rfl A R _ ⟨hx, hy, he, r⟩
theorem vs_rc_ne {A : Around} {z : Shared} {p q : Addr} {us vs : Array Value} (hp : z.heap.IsList p us) (hq : z.heap.IsList q vs) (hl : us.size = vs.size) (hu : A.units < cLine)
    (he : ∀ j (a1 : j < us.size) (a2 : j < vs.size), EqP prog w A.in1 z us[j] vs[j] true) (E Q : Value → Shared → Prop) (r : Q (.bool false) z) : wpAny (model prog w) A (richCompare .NotEq (.ref p) (.ref q)) Q E z := by
  obtain ⟨⟨c1, d1, a1, t1⟩, o1, e1, m1, x1⟩ := id hp
  obtain ⟨⟨c2, d2, a2, t2⟩, o2, e2, m2, x2⟩ := id hq
  simp only at e1 x1 e2 x2
  subst e1 x1 e2 x2
  have ty1 : z.TypeIs (.ref p) "list" := ⟨_, o1, rfl⟩
  have ty2 : z.TypeIs (.ref q) "list" := ⟨_, o2, rfl⟩
  exact wpAny_richCompare_same_room (op := .NotEq) ty1 ty2 F.slot_list_ne (call_meetsIn F.slot_list_ne ty1 F.entry_list_ne (F.args_list_ne_2 _ _) (vs_list_ne p q us vs m1 m2 d1 d2 t1 t2 hl)
    ⟨o1, o2, he, show Value.bool false ≠ Value.notImplemented ∧ Q (.bool false) z from ⟨(fun x => nomatch x), r⟩⟩) hu
end
end PySem.SeqAt
namespace VS
open PySem PySem.Spec PyProof.Rows L2 Evl
/-- equal data, or equal dicts -/
def EqI (K : PySem.W.Frag) (H : Hp) (x y : V) : Prop :=
  (∃ d e, Dp K H x d ∧ Dp K H y e ∧ SeqAt.shaped d = true ∧ SeqAt.shaped e = true ∧ PyData.eqv d e = true) ∨
    ∃ a b ks ls, x = .ref a ∧ y = .ref b ∧ Rd H a (.dK ks) ∧ Rd H b (.dK ls) ∧ ks.length = ls.length ∧ ∀ p ∈ ks, valV ls p.1 = some p.2 ∧ flatB p.2 = true
def rNeItems (K : PySem.W.Frag) : R2 := fun x y H Q => ∃ a b xs ys, x = .ref a ∧ y = .ref b ∧ SqL K H a xs ∧ SqL K H b ys ∧ Paired (EqI K H) xs ys ∧ Q (.bl false) H
section
variable {X : Cx} {pins : List (Addr × Obj)} {σ : L2.St} {H : Hp} {s : Shared}
theorem eqI_run (I : Inv X pins σ H s) {A : Around} (hu : A.in1.in1.units + 64 < cLine) {x y : V} {v u : Value} (h : EqI X.K H x y) (rx : RelV x v) (ry : RelV y u) : SeqAt.EqP X.prog X.w A.in1 s v u true := by
  rcases h with ⟨d, e, h1, h2, s1, s2, q⟩ | ⟨a, b, ks, ls, rfl, rfl, ha, hb, hl, hp⟩
  · obtain ⟨as, r1⟩ := Dp.reads I d x v h1 rx
    obtain ⟨bs, r2⟩ := Dp.reads I e y u h2 ry
    have k := PySem.W.keq_at (A := A) r1 r2 s1 s2 (by have : A.in1.in1.units = A.in1.units + 1 := rfl; omega)
    rw [q] at k
    exact k.eqP
  · cases (show v = Value.ref a from rx)
    cases (show u = Value.ref b from ry)
    by_cases z : a = b
    · subst z
      exact (SeqAt.EqAt.same _).eqP
    · refine SeqAt.eqP_refs z fun E Q q => ?_
      obtain ⟨_, ya, va, ra, da⟩ := dk_rd I.hok ha
      obtain ⟨_, yb, vb, rb, db⟩ := dk_rd I.hok hb
      have hu' : A.in1.units < cLine := by
        have : A.in1.in1.units = A.in1.units + 1 := rfl
        omega
      refine PySem.W.rcP_dicts (knd := mixKind X.prog X.w) (r := true) ya yb da db hu' (fun _ => ?_) E Q ?_
      · refine hits_run (F := fun x y => x = y ∧ flatB x = true) (fun x y v u e r1 r2 => ?_) rb ra fun p hm => ⟨p.2, (hp p hm).1, rfl, (hp p hm).2⟩
        obtain ⟨rfl, f⟩ := e
        exact (eqAt_same r1 r2 f).eqP
      · have e : va.length = vb.length := by rw [← ra.length, ← rb.length]; exact hl
        rw [show (va.length == vb.length && true) = true from by rw [e]; simp]
        exact q
theorem items_all {P : Program} {w : World} {A : Around} {s : Shared} {F : V → V → Prop} (ih : ∀ x y v u, F x y → RelV x v → RelV y u → SeqAt.EqP P w A s v u true) {xs ys : List V} (hp : Paired F xs ys) {us ws : List Value} (r1 : Vals xs us) (r2 : Vals ys ws) :
    ∀ j (h1 : j < us.toArray.size) (h2 : j < ws.toArray.size), SeqAt.EqP P w A s us.toArray[j] ws.toArray[j] true := fun j h1 h2 => by
  have k := items_run ih hp r1 r2 j (by simpa using h1) (by simpa using h2)
  simpa using k
end
theorem op_neItems {X : Cx} (hu : X.A.units + 70 < cLine) : OpR X (compareOp .NotEq) (rNeItems X.K) := by
  intro pins s σ H x y v u Q I rx ry h
  obtain ⟨a, b, xs, ys, rfl, rfl, ha, hb, hp, q⟩ := h
  cases (show v = Value.ref a from rx)
  cases (show u = Value.ref b from ry)
  obtain ⟨us, r1, p1, _⟩ := I.list ha
  obtain ⟨ws, r2, p2, _⟩ := I.list hb
  have hsz : us.toArray.size = ws.toArray.size := by
    rw [List.size_toArray, List.size_toArray, ← r1.length, ← r2.length]
    exact Paired.length hp
  have u2 : X.A.in1.in1.units = X.A.units + 2 := rfl
  exact SeqAt.vs_rc_ne p1.isList p2.isList hsz (by omega) (items_all (fun x y v u e r1 r2 => eqI_run I (A := X.A) (by omega) e r1 r2) hp r1 r2) _ _ ⟨.bl false, H, I, rfl, q⟩
end VS

/-! [xs, d] != [ys, e], where all is equal; dict(d); calls at several depths -/
namespace VS
open PySem PySem.Spec PyProof.Rows L2 Evl
section
variable {K : PySem.W.Frag} {φ : List Addr} {st : Sto} {G H : Hp} {v : V} {w : W}
def flatE : W → Option V
  | .str x => some (.str x)
  | .int i => some (.int i)
  | .bl b => some (.bl b)
  | _ => none
theorem flatE_rd {u : V} (r : Rp φ G v w) (h : flatE w = some u) : v = u ∧ flatB u = true := by
  cases r <;> (first | (cases h; exact ⟨rfl, rfl⟩) | cases h)
/-- the entries of the first dict stand in the second -/
def dEqs (k1 k2 : List (Ky × W)) : Bool := k1.length == k2.length && k1.all fun p => match kvGet k2 p.1 with
  | some z => match flatE p.2, flatE z with
    | some a, some b => decide (a = b)
    | _, _ => false
  | none => false
def eqItem (st : Sto) (a b : W) : Bool := (match pyOf st a, pyOf st b with
    | some d, some e => SeqAt.shaped d && SeqAt.shaped e && PyData.eqv d e
    | _, _ => false) || match dctOf a st, dctOf b st with
    | some (false, k1), some (false, k2) => dEqs k1 k2
    | _, _ => false
theorem kvR_mem {l : List (Key × V)} {l' : List (Ky × W)} (h : KvR kyK φ G l l') : ∀ p ∈ l, ∃ w, (kyK p.1, w) ∈ l' ∧ Rp φ G p.2 w := by
  induction h with
  | nil => intro p hp; cases hp
  | cons r _ ih =>
    intro p hp
    rcases List.mem_cons.mp hp with e | hp
    · subst e
      exact ⟨_, List.mem_cons_self, r⟩
    · obtain ⟨w, h1, h2⟩ := ih p hp
      exact ⟨w, List.mem_cons_of_mem _ h1, h2⟩
theorem eqItem_rd {a b : W} {x y : V} (k : Ok φ st G H) (r1 : Rp φ G x a) (r2 : Rp φ G y b) (h : eqItem st a b = true) : EqI K H x y := by
  unfold eqItem at h
  rcases (Bool.or_eq_true _ _).mp h with h | h
  · split at h
    · rename_i d e h1 h2
      simp only [Bool.and_eq_true] at h
      exact .inl ⟨d, e, py_dp k 20 r1 h1, py_dp k 20 r2 h2, h.1.1, h.1.2, h.2⟩
    · cases h
  · split at h
    · rename_i k1 k2 h1 h2
      obtain ⟨p, rfl, hd1⟩ := dct_rd k r1 h1
      obtain ⟨q, rfl, hd2⟩ := dct_rd k r2 h2
      rw [if_neg Bool.false_ne_true] at hd1 hd2
      obtain ⟨l1, e1, f1⟩ := hd1
      obtain ⟨l2, e2, f2⟩ := hd2
      unfold dEqs at h
      rw [Bool.and_eq_true] at h
      have hl : k1.length = k2.length := by simpa using h.1
      refine .inr ⟨p, q, l1, l2, rfl, rfl, e1, e2, by rw [f1.len, f2.len]; exact hl, fun z hz => ?_⟩
      obtain ⟨w, m1, rw1⟩ := kvR_mem f1 z hz
      have hw := List.all_eq_true.mp h.2 _ m1
      dsimp only at hw
      have g := f2.get (fun {a b} => kyK_inj) z.1
      split at hw
      · rename_i w2 e3
        rw [e3] at g
        obtain ⟨z2, ez, rz⟩ := g
        split at hw
        · rename_i u1 u2 eu1 eu2
          have e := of_decide_eq_true hw
          subst e
          obtain ⟨i1, fl⟩ := flatE_rd rw1 eu1
          obtain ⟨i2, _⟩ := flatE_rd rz eu2
          rw [ez, i1, i2]
          exact ⟨rfl, fl⟩
        · cases hw
      · cases hw
    · cases h
def allEq (st : Sto) : List W → List W → Bool
  | [], [] => true
  | a :: as, b :: bs => eqItem st a b && allEq st as bs
  | _, _ => false
theorem allEq_rd (k : Ok φ st G H) : ∀ {as bs : List W} {xs ys : List V}, RpAll φ G xs as → RpAll φ G ys bs → allEq st as bs = true → Paired (EqI K H) xs ys
  | [], [], _, _, .nil, .nil, _ => .nil
  | [], _ :: _, _, _, _, _, h => by cases h
  | _ :: _, [], _, _, _, _, h => by cases h
  | a :: as, b :: bs, _, _, .cons r1 s1, .cons r2 s2, h => by
    unfold allEq at h
    rw [Bool.and_eq_true] at h
    exact .cons (eqItem_rd k r1 r2 h.1) (allEq_rd k s1 s2 h.2)
def fNeItems (a b : W) (st : Sto) : Option Fr := match lstOf a st, lstOf b st with
  | some as, some bs => if allEq st as bs = true then some (.val (.bl false)) else none
  | _, _ => none
theorem o_neItems : Op2 (rNeItems K) fNeItems := fun φ st G H v1 v2 w1 w2 fr k r1 r2 hf Q p => by
  unfold fNeItems at hf
  split at hf
  · rename_i as bs h1 h2
    split at hf
    · rename_i h
      cases hf
      obtain ⟨a, xs, rfl, e1, f1⟩ := lst_rd k r1 h1
      obtain ⟨b, ys, rfl, e2, f2⟩ := lst_rd k r2 h2
      exact ⟨a, b, xs, ys, rfl, rfl, .inl (.inl e1), .inl (.inl e2), allEq_rd k f1 f2 h, p _ (.bl _)⟩
    · cases hf
  · cases hf
end
theorem k_neItems {X : Cx} (K : PySem.W.Frag) (hK : X.K = K) (hu : X.A.units + 70 < cLine) : OpR X (compareOp .NotEq) (rNeItems K) := hK ▸ op_neItems hu
/-- dict(d) -/
def rDictD : List V → Hp → VK → Prop := fun xs H Q => ∃ (a : Addr) (kvs : List (Key × V)), xs = [.ref a] ∧ Rd H a (.dK kvs) ∧ ∀ p, H p = none → Q (.ref p) (upd H p (.dK kvs))
theorem k_dictD {X : Cx} : CallR X (.type "dict") rDictD := call_dictD
def fDictD (ws : List W) (st : Sto) : Option Fr := match ws with
  | [w] => match dctOf w st with
    | some (false, kvs) => some (.nd false kvs)
    | _ => none
  | _ => none
theorem o_dictD : OpN rDictD fDictD := fun φ st G H vs ws fr k r hf Q p => by
  unfold fDictD at hf
  split at hf
  · obtain ⟨v, rfl, h1⟩ := ra1 r
    split at hf
    · rename_i kvs e
      cases hf
      obtain ⟨a, rfl, hd⟩ := dct_rd k h1 e
      rw [if_neg Bool.false_ne_true] at hd
      obtain ⟨l, h2, h3⟩ := hd
      refine ⟨a, l, rfl, h2, fun q hq => ?_⟩
      refine p q (l.map fun p => p.2) _ hq ⟨_, rfl⟩ ?_ h3.vals
      unfold DcM
      rw [if_neg Bool.false_ne_true]
      exact ⟨l, upd_same, h3.keys, rfl⟩
    · cases hf
  · cases hf
end VS

/-! try: .. except C as e: .., in the form that the texts use -/
namespace VS
open PySem PySem.Spec PyProof.Rows L2 Evl
def tTryAs (K : PySem.W.Frag) (c : Value) (i : Nat) (tb : WX → TS) (ts : Addr → Value → Option Addr → TS) (Wout : WX) : TS := fun D σ H => tb (wAs K c i ts Wout D) D σ H
section
variable {X : Cx} {x n : Str} {c : Value} {i : Nat} {body suite : List Stmt} {b₀ : Stmt} {np pos pos' : Pos} {tb : WX → TS} {ts : Addr → Value → Option Addr → TS} {Wout : WX}
theorem k_tryAs (K : PySem.W.Frag) (hK : X.K = K) (hs : X.stack = X.env :: X.outer) (hf : X.env.frame = some X.env.locals) (hN : X.N.Nodup) (hi : X.N[i]? = some n) (hln : X.env.kindOf n = some .local) (hc : Names X x c) (tk : Takes X Wout)
    (hb : ∀ (Wt : WX) (pn : List (Addr × Obj)) (xe : Value → Shared → Prop), Takes (X.tr pn xe) Wt → PassesOwn (model X.prog X.w) X.A X.env xe → PSs (X.tr pn xe) body (tb Wt))
    (hsu : ∀ (a : Addr) (oe : Obj) (cls : Value) (d : Option Addr) (pn : List (Addr × Obj)), Zc cls d oe → (∃ vs, oe.data = .fields vs) → PSs (X.suite a ((a, oe) :: pn)) (b₀ :: suite) (ts a cls d)) :
    PS X (.Try body [.ExceptHandler (some (.Name x np)) (some n) (b₀ :: suite) pos'] [] [] pos) (tTryAs K c i tb ts Wout) := by
  subst hK
  exact ps_try_as hs hf hN hi hln hc tk hb hsu
theorem k_isEx {a : Addr} {oe : Obj} {cls : Value} {d : Option Addr} {pn : List (Addr × Obj)} (K : PySem.W.Frag) (hK : X.K = K) (hz : Zc cls d oe) (hf : ∃ vs, oe.data = .fields vs) : CallR (X.suite a ((a, oe) :: pn)) (.builtin "isinstance") (rIsEx K cls d a) := by
  subst hK
  exact call_isEx hz hf
end
/-- .. where every error that comes is taken -/
noncomputable def vTryAll (cat : Addr → Option Bool) (i : Nat) (mb : S) (ms : Addr → Addr → S) : S := fun ρ st => match mb ρ st with
  | some (.ex e ρ', st') => if cat e.1 = some true ∧ e.2 = [] then everyA fun a => clr i (ms a e.1 (ρ'.set i (some (.raw (.ref a)))) st') else none
  | o => o
theorem sim_tryF {E : L2.St → XK} {K : PySem.W.Frag} {i : Nat} {tbw : WX → TS} {ts : Addr → Value → Option Addr → TS} {Wout : WX} {c : Value} {cat : Addr → Option Bool} {mb : S} {ms : Addr → Addr → S} (hc : ∀ A b, cat A = some b → PySem.W.exmOne K (.ref A) c = some b)
    (hb : ∀ Wx : WX, SimS (fun σ cls od H => Wx cls od σ H) (tbw Wx) mb) (hs : ∀ a A, SimS EF (ts a (.ref A) none) (ms a A)) : SimS E (tTryAs K c i tbw ts Wout) (vTryAll cat i mb ms) := fun σ ρ φ st G H r st' k ev hm D p => by
  unfold vTryAll at hm
  cases e : mb ρ st with
  | none =>
    rw [e] at hm
    cases hm
  | some q =>
    obtain ⟨q, s⟩ := q
    rw [e] at hm
    refine hb (wAs K c i ts Wout D) σ ρ φ st G H q s k ev e D ?_
    cases q with
    | nx ρ' =>
      cases hm
      exact p
    | rt w =>
      cases hm
      exact p
    | bk ρ' =>
      cases hm
      exact p
    | ct ρ' =>
      cases hm
      exact p
    | ex e' ρ' =>
      intro φ2 G2 H2 σ' cls od s1 ev1 xa
      have hcls := xa.1
      subst hcls
      dsimp only at hm
      split at hm
      · rename_i ec
        obtain ⟨ec, e0⟩ := ec
        refine ⟨true, hc _ _ ec, fun _ a ha => ?_, fun z => nomatch z⟩
        have hod : od = none := by
          rcases xa.2 with h | ⟨_, _, ne, _⟩
          · exact h.2
          · exact absurd e0 ne
        subst hod
        have hm := everyA_at hm a
        cases es : ms a e'.1 (ρ'.set i (some (.raw (.ref a)))) s with
        | none =>
          rw [es] at hm
          cases hm
        | some q2 =>
          obtain ⟨q2, s2⟩ := q2
          rw [es] at hm
          have p2 := p.after s1
          refine hs a _ _ _ φ2 s G2 H2 q2 s2 s1.ok (ev1.set (v := .ref a) (.raw _) i) es _ ?_
          cases q2 with
          | ex _ _ => cases hm
          | nx ρ2 =>
            cases hm
            exact fun φ3 G3 H3 σ3 t e3 => p2 φ3 G3 H3 _ t (e3.unset i)
          | rt w =>
            cases hm
            exact p2
          | bk ρ2 =>
            cases hm
            exact fun φ3 G3 H3 σ3 t e3 => p2 φ3 G3 H3 _ t (e3.unset i)
          | ct ρ2 =>
            cases hm
            exact fun φ3 G3 H3 σ3 t e3 => p2 φ3 G3 H3 _ t (e3.unset i)
      · cases hm
theorem cat_cons {P : Addr → Bool → Prop} {C A : Addr} {b0 b : Bool} {r : Option Bool} (h : (if A = C then some b0 else r) = some b) (h0 : P C b0) (hr : r = some b → P A b) : P A b := by
  split at h
  · rename_i e
    cases h
    rw [e]
    exact h0
  · exact hr h
theorem hu70 {A : Around} {k : Nat} (hr : Room k A) : A.units + 70 < cLine := by
  have := hr.un
  omega
theorem bt_dict : bootBuiltins "dict" = some (.type "dict") := by decide +kernel
end VS

namespace VS
open PySem PySem.Spec PyProof.Rows L2 Evl
abbrev cv_LETTERS : Str := "abcdefghijklmnopqrstuvwxyz"
abbrev cv_SIGNS : Str := "abcdefghijklmnopqrstuvwxyz0123456789"
noncomputable def b_u_law_names : S := (vSeq (vSet 2 (vC (.str "abcdefghijklmnopqrstuvwxyz0123456789")))
  (vSeq (vSet 3 (vOp false (fI gMod) (vCB false fInt1 (vCons (vVar 0) vNil)) (vC (.int 11))))
  (vSeq (vSet 4 (vM1 false fJoin (vC (.str "")) (vLc false [5] (vRng1 (vCons (vVar 3) vNil)) (gN 5) vYes (vOp false fIx (vVar 2) (vOp false (fI gMod) (vCB false fInt1 (vCons (vOp false fAdd (vVar 0) (vOp false (fI gMul) (vOp false (fI gMul) (vC (.int 7)) (vVar 5)) (vVar 5))) vNil)) (vC (.int 36)))))))
  (vSeq (vSet 6 (vOp false (fI gMod) (vCB false fInt1 (vCons (vOp false (fI gDiv) (vVar 0) (vC (.int 11))) vNil)) (vOp false fAdd (vVar 3) (vC (.int 1)))))
  (vSeq (vSet 7 (vLst true vNil))
  (vSeq (vFor (vRng1 (vCons (vVar 1) vNil)) (gN 5) (vSeq (vSet 8 (vVar 4))
  (vSeq (vIfS (vB (vOp false (fEq false) (vOp false (fI gMod) (vCB false fInt1 (vCons (vOp false fAdd (vOp false (fI gDiv) (vVar 0) (vC (.int 121))) (vVar 5)) vNil)) (vC (.int 3))) (vC (.int 0)))) (vSet 8 (vSl false (vVar 4) (vPart (vC (.int 1))) vNoPart)) vNext)
  (vSeq (vSet 9 (vCB false fMin2 (vCons (vVar 6) (vCons (vCB false fLen (vCons (vVar 8) vNil)) vNil))))
  (vSeq (vSet 10 (vC (.int 5)))
  (vSeq (vIfS (vB (vOp false (fEq false) (vOp false (fI gMod) (vCB false fInt1 (vCons (vOp false (fI gDiv) (vVar 0) (vC (.int 363))) vNil)) (vC (.int 2))) (vC (.int 1)))) (vSet 10 (vC (.int 31))) vNext)
  (vExpr (vMut mAppend (vVar 7) (vCons (vOp false fAdd (vOp false fAdd (vOp false fAdd (vOp false fIx (vVar 2) (vOp false (fI gMod) (vCB false fInt1 (vCons (vOp false fAdd (vVar 0) (vOp false (fI gMul) (vC (.int 3)) (vVar 5))) vNil)) (vC (.int 26)))) (vSl false (vVar 8) vNoPart (vPart (vVar 9)))) (vOp false fIx (vVar 2) (vOp false (fI gMod) (vCB false fInt1 (vCons (vOp false fAdd (vVar 0) (vOp false (fI gMul) (vVar 10) (vVar 5))) vNil)) (vC (.int 36))))) (vSl false (vVar 8) (vPart (vVar 9)) vNoPart)) vNil)))))))))
  (vRet (vFrz 2 (vVar 7)))))))))
noncomputable def m_u_law_names : MF := vDef 11 (b_u_law_names)
noncomputable def b_told_name : S := (vRet (vJ [(vC (.str "a")), (vFmt (vVar 0))]))
noncomputable def m_told_name : MF := vDef 1 (b_told_name)
noncomputable def b_is_name : S := (vSeq (vIfS (vOr (vNot (vB (vCB false fIsi (vCons (vVar 0) (vCons (vC (.raw (.ty "str"))) vNil))))) (vNot (vB (vChain (fI gLe) (fI gLe) (vC (.int 1)) (vCB false fLen (vCons (vVar 0) vNil)) (vC (.int 12)))))) (vRet (vC (.bl false))) vNext)
  (vRet (vAndV (vOp false (fIn false) (vOp false fIx (vVar 0) (vC (.int 0))) (vC (.str cv_LETTERS))) (vCB false fAll (vCons (vLc false [1] (vStrI (vVar 0)) (gN 1) vYes (vOp false (fIn false) (vVar 1) (vC (.str cv_SIGNS)))) vNil)))))
noncomputable def m_is_name : MF := vDef 2 (b_is_name)
noncomputable def b_u_check_name : S := (vIfS (vNot (vB (vCall true 1 m_is_name (vCons (vVar 0) vNil)))) vNever vNext)
noncomputable def m_u_check_name : MF := vDef 1 (b_u_check_name)
noncomputable def b_check_names : S := (vFor (vSrc (vVar 0)) (gT 2 (gsCons (gN 1) (gsCons (gN 2) gsNil))) (vExpr (vCall true 1 m_u_check_name (vCons (vVar 2) vNil))))
noncomputable def m_check_names : MF := vDef 3 (b_check_names)
noncomputable def b_names_of : S := (vSeq (vExpr (vCall true 1 m_check_names (vCons (vVar 0) vNil)))
  (vSeq (vSet 1 (vDc [2, 3] (vSrc (vVar 0)) (gT 2 (gsCons (gN 2) (gsCons (gN 3) gsNil))) vYes (vVar 3) (vC (.bl true))))
  (vRet (vCB false fListV (vCons (vVar 1) vNil)))))
noncomputable def m_names_of : MF := vDef 4 (b_names_of)
noncomputable def b_kind_of : S := (vSeq (vSet 1 (vDc [2, 3] (vEnum (vCons (vCall true 1 m_names_of (vCons (vVar 0) vNil)) vNil)) (gT 2 (gsCons (gN 2) (gsCons (gN 3) gsNil))) vYes (vVar 3) (vCall true 1 m_told_name (vCons (vOp false fAdd (vVar 2) (vC (.int 1))) vNil))))
  (vRet (vLc false [4, 3] (vSrc (vVar 0)) (gT 2 (gsCons (gN 4) (gsCons (gN 3) gsNil))) vYes (vTup (vCons (vVar 4) (vCons (vDGet (vVar 1) (vVar 3)) vNil))))))
noncomputable def m_kind_of : MF := vDef 5 (b_kind_of)
noncomputable def b_same_kind : S := (vRet (vOp false (fEq false) (vCall true 1 m_kind_of (vCons (vVar 0) vNil)) (vCall true 1 m_kind_of (vCons (vVar 1) vNil))))
noncomputable def m_same_kind : MF := vDef 2 (b_same_kind)
noncomputable def b_renamed (C_InvalidQuestion : Addr) : S := (vSeq (vSet 2 (vCall true 1 m_names_of (vCons (vVar 0) vNil)))
  (vSeq (vSet 3 (vLc false [4] (vSrc (vVar 2)) (gN 4) vYes (vDGet2 (vVar 1) (vVar 4) (vVar 4))))
  (vSeq (vIfS (vB (vOp false (fI gLt) (vLenSetS (vVar 3)) (vCB false fLen (vCons (vVar 2) vNil)))) (vRaise0 C_InvalidQuestion) vNext)
  (vSeq (vFor (vSrc (vVar 3)) (gN 4) (vExpr (vCall true 1 m_u_check_name (vCons (vVar 4) vNil))))
  (vRet (vLc false [5, 4] (vSrc (vVar 0)) (gT 2 (gsCons (gN 5) (gsCons (gN 4) gsNil))) vYes (vTup (vCons (vVar 5) (vCons (vDGet2 (vVar 1) (vVar 4) (vVar 4)) vNil)))))))))
noncomputable def m_renamed (C_InvalidQuestion : Addr) : MF := vDef 6 (b_renamed C_InvalidQuestion)
noncomputable def b_u_law_told (C_InvalidQuestion : Addr) : S := (vTryAll (fun A => if A = C_InvalidQuestion then some true else none) 2 (vRet (vTup (vCons (vC (.str "told")) (vCons (vCall false 2 (m_renamed C_InvalidQuestion) (vCons (vVar 0) (vCons (vVar 1) vNil))) vNil)))) (fun a A => (vRet (vTup (vCons (vOp false fIx (vLst false (vCons (vC (.str "wrong")) (vCons (vC (.str "question")) vNil))) (vCB false fInt1 (vCons (vAndV (vIsE a A (fun A => if A = C_InvalidQuestion then some true else none) 2) (vIsE a A (fun A => if A = C_InvalidQuestion then some true else none) 2)) vNil))) (vCons (vLst false vNil) vNil))))))
noncomputable def m_u_law_told (C_InvalidQuestion : Addr) : MF := vDef 3 (b_u_law_told C_InvalidQuestion)
noncomputable def b_law (C_InvalidQuestion : Addr) : S := (vSeq (vSet 2 (vCall true 2 m_u_law_names (vCons (vOp false fIx (vVar 1) (vC (.int 0))) (vCons (vC (.int 9)) vNil))))
  (vSeq (vSet 3 (vLst true vNil))
  (vSeq (vThenFrz 3 2 (vFor (vRng1 (vCons (vOp false (fI gMod) (vCB false fInt1 (vCons (vOp false fIx (vVar 1) (vC (.int 1))) vNil)) (vC (.int 10))) vNil)) (gN 4) (vExpr (vMut mAppend (vVar 3) (vCons (vTup (vCons (vOp false fIx (vLst false (vCons (vC (.str "in")) (vCons (vC (.str "out")) vNil))) (vOp false (fI gMod) (vCB false fInt1 (vCons (vOp false fIx (vVar 1) (vOp false fAdd (vC (.int 10)) (vOp false (fI gMul) (vC (.int 2)) (vVar 4)))) vNil)) (vC (.int 2)))) (vCons (vOp false fIx (vVar 2) (vOp false (fI gMod) (vCB false fInt1 (vCons (vOp false fIx (vVar 1) (vOp false fAdd (vC (.int 11)) (vOp false (fI gMul) (vC (.int 2)) (vVar 4)))) vNil)) (vC (.int 5)))) vNil))) vNil)))))
  (vSeq (vSet 5 (vDNew false))
  (vSeq (vFor (vRng1 (vCons (vOp false (fI gMod) (vCB false fInt1 (vCons (vOp false fIx (vVar 1) (vC (.int 2))) vNil)) (vC (.int 5))) vNil)) (gN 4) (vDPut (vVar 5) (vOp false fIx (vVar 2) (vOp false (fI gMod) (vCB false fInt1 (vCons (vOp false fIx (vVar 1) (vOp false fAdd (vC (.int 40)) (vOp false (fI gMul) (vC (.int 2)) (vVar 4)))) vNil)) (vC (.int 7)))) (vOp false fIx (vVar 2) (vOp false (fI gMod) (vCB false fInt1 (vCons (vOp false fIx (vVar 1) (vOp false fAdd (vC (.int 41)) (vOp false (fI gMul) (vC (.int 2)) (vVar 4)))) vNil)) (vC (.int 9))))))
  (vSeq (vSet 6 (vLst true vNil))
  (vSeq (vThenFrz 6 2 (vFor (vSrc (vVar 3)) (gT 2 (gsCons (gN 7) (gsCons (gN 8) gsNil))) (vIfS (vB (vOp false (fIn true) (vVar 8) (vVar 6))) (vExpr (vMut mAppend (vVar 6) (vCons (vVar 8) vNil))) vNext)))
  (vSeq (vSet 9 (vLc false [8] (vSrc (vVar 6)) (gN 8) vYes (vDGet2 (vVar 5) (vVar 8) (vVar 8))))
  (vSeq (vSet 10 (vTup (vCons (vC (.str "told")) (vCons (vLc false [7, 8] (vSrc (vVar 3)) (gT 2 (gsCons (gN 7) (gsCons (gN 8) gsNil))) vYes (vTup (vCons (vVar 7) (vCons (vDGet2 (vVar 5) (vVar 8) (vVar 8)) vNil)))) vNil))))
  (vSeq (vIfS (vB (vOp false (fI gGt) (vCB false fLen (vCons (vLc false [4] (vRng1 (vCons (vCB false fLen (vCons (vVar 9) vNil)) vNil)) (gN 4) (vB (vOp false (fIn false) (vOp false fIx (vVar 9) (vVar 4)) (vSl false (vVar 9) vNoPart (vPart (vVar 4))))) (vVar 4)) vNil)) (vC (.int 0)))) (vSet 10 (vTup (vCons (vC (.str "question")) (vCons (vLst false vNil) vNil)))) vNext)
  (vSeq (vSet 11 (vLst false (vCons (vCB false fListV (vCons (vVar 3) vNil)) (vCons (vCB true fDictD (vCons (vVar 5) vNil)) vNil))))
  (vSeq (vIfS (vOr (vB (vOp false (fEq true) (vCB false fReprV (vCons (vCall false 2 (m_u_law_told C_InvalidQuestion) (vCons (vOp false fIx (vVar 11) (vC (.int 0))) (vCons (vOp false fIx (vVar 11) (vC (.int 1))) vNil))) vNil)) (vCB false fReprV (vCons (vVar 10) vNil)))) (vB (vOp false fNeItems (vVar 11) (vLst false (vCons (vVar 3) (vCons (vVar 5) vNil)))))) (vRet (vC (.bl false))) vNext)
  (vRet (vOrV (vOp false (fEq false) (vOp false fIx (vVar 10) (vC (.int 0))) (vC (.str "question"))) (vCall true 2 m_same_kind (vCons (vVar 3) (vCons (vOp false fIx (vVar 10) (vC (.int 1))) vNil)))))))))))))))))
noncomputable def m_law (C_InvalidQuestion : Addr) : MF := vDef 12 (b_law C_InvalidQuestion)
end VS

namespace Fw
open PySem PySem.Spec PyProof.Rows L2 Evl
open TL (tl len_tl ext_tl tl_append tl_mk mk_tl)
def topS (i : Nat) : Stmt := PySem.Challenge.pw_fewestheld_k13_renamed_rows.main.body.getD i (.Pass ⟨0, 0, 0, 0⟩)
/-! ### the law's numbers -/
section
variable {P : Program} {w : World} {K : PySem.W.Frag} {mg : Str → Option Value} {base : Heap}
abbrev s_u_law_row : Stmt := topS 18
theorem sc_u_law_row : FnScope ["cell", "many", "row", "rest", "mixed", "k"] ["cell", "many"] (defScope s_u_law_row) := ⟨rfl, rfl, rfl, by decide +kernel, rfl, by decide +kernel, by decide +kernel⟩
abbrev s_u_law_numbers : Stmt := topS 19
theorem sc_u_law_numbers : FnScope ["script", "many", "cells", "each", "numbers", "cell", "number"] ["script", "many"] (defScope s_u_law_numbers) := ⟨rfl, rfl, rfl, by decide +kernel, rfl, by decide +kernel, by decide +kernel⟩
def rowGo (big : Bool) : Nat → Nat → Int → Int → List Int
  | 0, _, _, _ => []
  | n + 1, k, rest, mixed => if big = true then rest % 1009 :: rowGo big n (k + 1) (rest / 1009) ((mixed * 16807 + 271 * ((k : Int) + 3)) % 2147483629)
    else (mixed * 16807 + 271 * ((k : Int) + 3)) % 2147483629 / 7 % 1009 :: rowGo big n (k + 1) rest ((mixed * 16807 + 271 * ((k : Int) + 3)) % 2147483629)
def absI (c : Int) : Int := if c < 0 then -c else c
def rowOf (c : Int) (m : Nat) : List Int := rowGo (decide ((10 : Int) ^ (18 : Int).toNat ≤ absI c)) m 0 (absI c) ((absI c * 48271 + 69621) % 2147483647)
def spRow : Sp := fun vs H Q _ => ∃ (c : Int) (m : Nat) (G : Hp), vs = [.int c, .int m] ∧ m ≤ 10000 ∧ Ex G H ∧ ∀ v G2 H2, Stp G H G2 H2 → Rp G2 v (.list ((rowOf c m).map PyData.int)) → Q v H2
theorem mod_sm (i : Int) : 0 ≤ i % 1009 ∧ i % 1009 < 1009 := ⟨Int.emod_nonneg _ (by decide), Int.emod_lt_of_pos _ (by decide)⟩
theorem row_sm (big : Bool) : ∀ (n k : Nat) (r mx : Int), Sm (rowGo big n k r mx)
  | 0, _, _, _ => fun _ h => (nomatch h)
  | n + 1, k, r, mx => fun x hx => by
    unfold rowGo at hx
    split at hx
    · rcases List.mem_cons.mp hx with e | e
      · rw [e]; exact mod_sm _
      · exact row_sm big n _ _ _ x e
    · rcases List.mem_cons.mp hx with e | e
      · rw [e]; exact mod_sm _
      · exact row_sm big n _ _ _ x e
theorem row_len (big : Bool) : ∀ (n k : Nat) (r mx : Int), (rowGo big n k r mx).length = n
  | 0, _, _, _ => rfl
  | n + 1, k, r, mx => by
    unfold rowGo
    split
    · rw [List.length_cons, row_len big n]
    · rw [List.length_cons, row_len big n]
theorem ok_law_row {f : Addr} {fd : FuncData} (F : Fun K "_law_row" "_law_row" s_u_law_row f fd) (Z : Zs mg) : FnOk P w K mg base CX0 1 f fd ["cell", "many"] spRow := by
  refine F.ok sc_u_law_row (fun vs H Q E h => ?_) (fun cdv A outer s H vs Q E hr h => ?_)
  · obtain ⟨c, m, G, rfl, _⟩ := h
    rfl
  · obtain ⟨c, m, G, rfl, hm, e, q⟩ := h
    refine ⟨_, (pss_cons (ps_set (i := 2) sc_u_law_row.nd rfl (Or.inl rfl) (pe_lst pa_nil))
      (pss_cons (ps_set (i := 3) sc_u_law_row.nd rfl (Or.inl rfl) (pe_callB c_abs (by rfl) Z.abs bt_abs (pa_cons (pv 0) pa_nil)))
      (pss_cons (ps_set (i := 4) sc_u_law_row.nd rfl (Or.inl rfl) (pe_op op_mod (pe_callTy c_int (by rfl) Z.int bt_int (pa_cons (pe_op (k_addU K rfl) (pe_op op_mul (pv 3) pe_int) pe_int) pa_nil)) pe_int))
      (pss_cons (ps_for PassesOwn.never rfl (pi_range1 (by rfl) Z.range (pa_cons (pv 1) pa_nil)) (pg_name (i := 5) sc_u_law_row.nd rfl (Or.inl rfl)) (pss_cons (ps_set (i := 4) sc_u_law_row.nd rfl (Or.inl rfl) (pe_op op_mod (pe_callTy c_int (by rfl) Z.int bt_int (pa_cons (pe_op (k_addU K rfl) (pe_op op_mul (pv 4) pe_int) (pe_op op_mul pe_int (pe_op (k_addU K rfl) (pv 5) pe_int))) pa_nil)) pe_int))
        (pss_one (ps_if (pt_cmpR op_ge (pe_callB c_abs (by rfl) Z.abs bt_abs (pa_cons (pv 0) pa_nil)) (pe_op op_pow pe_int pe_int) (nomark _)) (pss_cons (ps_expr (pe_bm PySem.F.plainAttrs_list PySem.F.slot_list_append PySem.F.type_list_append mt_append (pv 2) (pa_cons (pe_op op_mod (pe_callTy c_int (by rfl) Z.int bt_int (pa_cons (pv 3) pa_nil)) pe_int) pa_nil)))
          (pss_one (ps_set (i := 3) sc_u_law_row.nd rfl (Or.inl rfl) (pe_op op_fdiv (pv 3) pe_int)))) (pss_one (ps_expr (pe_bm PySem.F.plainAttrs_list PySem.F.slot_list_append PySem.F.type_list_append mt_append (pv 2) (pa_cons (pe_op op_mod (pe_callTy c_int (by rfl) Z.int bt_int (pa_cons (pe_op op_fdiv (pv 4) pe_int) pa_nil)) pe_int) pa_nil))))))))
      (pss_one (ps_ret (pv 2))))))), ?_⟩
    refine w_new fun p np => ?_
    have o0 := Own.new e np
    refine w_set (ev_at o0.s.gh (ed_cb (es_cons (ed_var rfl (.int c)) es_nil) rd_abs)) fun v1 G1 H1 s1 r1 => ?_
    obtain rfl := rp_int r1
    have o1 := o0.step s1
    refine w_set (ev_at o1.s.gh (ed_op (ed_cb (es_cons (ed_op (ed_op (ed_var rfl (.int _)) (ed_c (.int _)) (r2_I (.inr (by decide)))) (ed_c (.int _)) r2_add) es_nil) rd_int) (ed_c (.int _)) (r2_I (show (0 : Int) < _ by decide)))) fun v2 G2 H2 s2 r2 => ?_
    obtain rfl := rp_int r2
    have o2 := o1.step s2
    refine w_forR (es_cons (ed_var rfl (.int (m : Int))) es_nil) o2.s.gh (by omega) (fun i σ' H' => ∃ (G' : Hp) (ns : List Int) (r mx : Int) (y : Option V), σ' = [some (.int c), some (.int m), some (.ref p), some (.int r), some (.int mx), y] ∧ Own G H p (ns.map PyData.int) G' H' ∧ ns.length = i ∧ i ≤ m ∧ (0 ≤ mx ∧ mx < 2147483647) ∧ ns ++ rowGo (decide ((10 : Int) ^ (18 : Int).toNat ≤ absI c)) (m - i) i r mx = rowOf c m)
      (fun G3 H3 s3 => ⟨G3, [], _, _, none, rfl, o2.step s3, rfl, Nat.zero_le _, ⟨Int.emod_nonneg _ (by decide), Int.emod_lt_of_pos _ (by decide)⟩, rfl⟩) (fun i σ' H' hi hp => ?_) (fun σ' H' hp => ?_)
    · obtain ⟨G', ns, r, mx, y, rfl, o, hl, hi2, hx, hr2⟩ := hp
      refine w_set (ev_at o.s.gh (ed_op (ed_cb (es_cons (ed_op (ed_op (ed_var rfl (.int _)) (ed_c (.int _)) (r2_I (.inr (by decide)))) (ed_op (ed_c (.int _)) (ed_op (ed_var rfl (.int _)) (ed_c (.int _)) r2_add) (r2_I (.inl (by decide)))) r2_add) es_nil) rd_int) (ed_c (.int _)) (r2_I (show (0 : Int) < _ by decide)))) fun v3 G3 H3 s3 r3 => ?_
      obtain rfl := rp_int r3
      have o3 := o.step s3
      refine w_if1 (ec_at o3.s.gh (et_cmp (ed_op (ed_cb (es_cons (ed_var rfl (.int _)) es_nil) rd_abs) (ed_op (ed_c (.int _)) (ed_c (.int _)) (r2_I ⟨by decide, by decide, by decide⟩)) r2_B0))) (fun hb G4 H4 s4 => ?_) (fun hb G4 H4 s4 => ?_)
      · have o4 := o3.step s4
        refine w_appOS (d := .int (r % 1009)) rfl o4 (ev_at o4.s.gh (ed_op (ed_cb (es_cons (ed_var rfl (.int _)) es_nil) rd_int) (ed_c (.int _)) (r2_I (show (0 : Int) < _ by decide)))) (by rw [List.length_map]; omega) fun G5 H5 xs s5 o5 => ?_
        refine w_set1 (ev_at o5.s.gh (ed_op (ed_var rfl (.int _)) (ed_c (.int _)) (r2_I ⟨by decide, by decide⟩))) fun v6 G6 H6 s6 r6 => ?_
        obtain rfl := rp_int r6
        refine ⟨G6, ns ++ [_], _, _, _, rfl, by rw [List.map_append]; exact o5.step s6, by rw [List.length_append]; simp [hl], by omega, ⟨Int.emod_nonneg _ (by decide), Int.lt_trans (Int.emod_lt_of_pos _ (by decide)) (by decide)⟩, ?_⟩
        rw [← hr2, show m - i = (m - (i + 1)) + 1 by omega, List.append_assoc]
        refine congrArg (ns ++ ·) ?_
        conv => rhs; unfold rowGo
        rw [if_pos (show decide ((10 : Int) ^ (18 : Int).toNat ≤ absI c) = true from hb)]
        rfl
      · have o4 := o3.step s4
        refine w_appO rfl o4 (ev_at o4.s.gh (ed_op (ed_cb (es_cons (ed_op (ed_var rfl (.int _)) (ed_c (.int _)) (r2_I ⟨by decide, by decide⟩)) es_nil) rd_int) (ed_c (.int _)) (r2_I (show (0 : Int) < _ by decide)))) (by rw [List.length_map]; omega) fun G5 H5 xs s5 o5 => ?_
        refine ⟨G5, ns ++ [_], _, _, _, rfl, by rw [List.map_append]; exact o5, by rw [List.length_append]; simp [hl], by omega, ⟨Int.emod_nonneg _ (by decide), Int.lt_trans (Int.emod_lt_of_pos _ (by decide)) (by decide)⟩, ?_⟩
        rw [← hr2, show m - i = (m - (i + 1)) + 1 by omega, List.append_assoc]
        refine congrArg (ns ++ ·) ?_
        conv => rhs; unfold rowGo
        rw [if_neg (show ¬ decide ((10 : Int) ^ (18 : Int).toNat ≤ absI c) = true from fun z => by
          have hb' : decide ((10 : Int) ^ (18 : Int).toNat ≤ absI c) = false := hb
          rw [hb'] at z
          cases z)]
        rfl
    · obtain ⟨G', ns, r, mx, y, rfl, o, hl, hi2, hx, hr2⟩ := hp
      obtain ⟨G3, s3, _, r3⟩ := o.done
      have en : ns = rowOf c m := by
        rw [← hr2, show m - ((m : Int).toNat) = 0 by omega]
        unfold rowGo
        rw [List.append_nil]
      exact ⟨_, rfl, q _ G3 H' s3 (en ▸ r3)⟩
/-! all numbers -/
def cutI (ns : List Int) : List Int := (ns.drop (HT.sIx ns.length 0 none)).take (HT.sIx ns.length ns.length (some 63) - HT.sIx ns.length 0 none)
theorem cutV_ints (ns : List Int) : cutV (ns.map V.int) none (some 63) = (cutI ns).map V.int := by
  unfold cutV cutI
  rw [List.length_map, List.map_take, List.map_drop]
theorem cutI_len (ns : List Int) : (cutI ns).length ≤ ns.length := by
  unfold cutI
  rw [List.length_take, List.length_drop]
  omega
/-- how many of each cell -/
def eachOf (n m : Nat) : Nat := 1 + m / (if n > 1 then n else 1)
def allOf (cs : List Int) (m : Nat) : List Int := cs.flatMap fun c => rowOf c (eachOf cs.length m)
def numsOf (ns : List Int) (m : Nat) : List Int := (allOf (cutI ns) m ++ List.replicate (m - (allOf (cutI ns) m).length) 0).take m
theorem numsOf_len (ns : List Int) (m : Nat) : (numsOf ns m).length = m := by
  unfold numsOf
  rw [List.length_take, List.length_append, List.length_replicate]
  omega
theorem numsOf_sm (ns : List Int) (m : Nat) : Sm (numsOf ns m) := fun x hx => by
  have h := List.mem_of_mem_take hx
  rcases List.mem_append.mp h with e | e
  · unfold allOf at e
    obtain ⟨c, _, hc⟩ := List.mem_flatMap.mp e
    exact row_sm _ _ _ _ _ x hc
  · rw [(List.mem_replicate.mp e).2]
    decide
def spNumbers (K : PySem.W.Frag) : Sp := fun vs H Q _ => ∃ (a : Addr) (ns : List Int) (m : Nat) (G : Hp), vs = [.ref a, .int m] ∧ SqL K H a (ns.map V.int) ∧ ns.length ≤ 63 ∧ m ≤ 1000 ∧ Ex G H ∧ ∀ v G2 H2, Stp G H G2 H2 → Rp G2 v (.list ((numsOf ns m).map PyData.int)) → Q v H2
theorem eachOf_le (n m : Nat) : eachOf n m ≤ 1 + m := by
  unfold eachOf
  have := Nat.div_le_self m (if n > 1 then n else 1)
  omega
theorem allOf_take (cs : List Int) (k i : Nat) (c : Int) (h : cs[i]? = some c) : (cs.take (i + 1)).flatMap (fun c => rowOf c k) = (cs.take i).flatMap (fun c => rowOf c k) ++ rowOf c k := by
  rw [List.take_add_one, h]
  simp
theorem all_len (cs : List Int) (k : Nat) : ∀ i, ((cs.take i).flatMap (fun c => rowOf c k)).length ≤ i * k
  | 0 => by simp
  | i + 1 => by
    cases h : cs[i]? with
    | none =>
      have e : cs.take (i + 1) = cs.take i := by
        rw [List.take_add_one, h]
        simp
      rw [e, Nat.succ_mul]
      have := all_len cs k i
      omega
    | some c =>
      rw [allOf_take cs k i c h, List.length_append, Nat.succ_mul]
      have := all_len cs k i
      have e : (rowOf c k).length = k := row_len _ _ _ _ _
      omega
theorem ok_law_numbers {f f1 : Addr} {fd fd1 : FuncData} (F : Fun K "_law_numbers" "_law_numbers" s_u_law_numbers f fd) (Z : Zs mg) (G_law_row : Df P w K mg base CX0 1 "_law_row" f1 fd1 ["cell", "many"] spRow) : FnOk P w K mg base CX0 2 f fd ["script", "many"] (spNumbers K) := by
  refine F.ok sc_u_law_numbers (fun vs H Q E h => ?_) (fun cdv A outer s H vs Q E hr h => ?_)
  · obtain ⟨a, ns, m, G, rfl, _⟩ := h
    rfl
  · obtain ⟨a, ns, m, G, rfl, ha, hn, hm, e, q⟩ := h
    have P_law_row {X : Cx} : Passes CX0 X E0 := pass0
    refine ⟨_, (pss_cons (ps_set (i := 2) sc_u_law_numbers.nd rfl (Or.inl rfl) (pe_slice (k_sl K rfl) (pv 0) po_none (po_some pe_int)))
      (pss_cons (ps_set (i := 3) sc_u_law_numbers.nd rfl (Or.inl rfl) (pe_op (k_addU K rfl) pe_int (pe_op op_fdiv (pv 1) (pe_callB (c_max rfl) (by rfl) Z.max bt_max (pa_cons pe_int (pa_cons (pe_callB (k_len K rfl) (by rfl) Z.len bt_len (pa_cons (pv 2) pa_nil)) pa_nil))))))
      (pss_cons (ps_set (i := 4) sc_u_law_numbers.nd rfl (Or.inl rfl) (pe_lst pa_nil))
      (pss_cons (ps_for PassesOwn.never rfl (k_piL K rfl (pv 2)) (pg_name (i := 5) sc_u_law_numbers.nd rfl (Or.inl rfl)) (pss_one (ps_for PassesOwn.never rfl (k_piL K rfl (pe_call G_law_row.ok (hr.mono (by decide)) (by rfl) G_law_row.g G_law_row.k G_law_row.b .nil pass0 (pa_cons (pv 5) (pa_cons (pv 3) pa_nil)))) (pg_name (i := 6) sc_u_law_numbers.nd rfl (Or.inl rfl)) (pss_one (ps_expr (pe_bm PySem.F.plainAttrs_list PySem.F.slot_list_append PySem.F.type_list_append mt_append (pv 4) (pa_cons (pv 6) pa_nil)))))))
      (pss_cons (ps_while PassesOwn.never (pt_cmpR op_lt (pe_callB (k_len K rfl) (by rfl) Z.len bt_len (pa_cons (pv 4) pa_nil)) (pv 1) (nomark _)) (pss_one (ps_expr (pe_bm PySem.F.plainAttrs_list PySem.F.slot_list_append PySem.F.type_list_append mt_append (pv 4) (pa_cons pe_int pa_nil)))))
      (pss_one (ps_ret (pe_slice (k_sl K rfl) (pv 4) po_none (po_some (pv 1)))))))))), ?_⟩
    -- cells = script[:63]
    refine ⟨.ref a, rfl, 63, rfl, .inl ⟨a, _, rfl, ha, fun pc nc => ?_⟩⟩
    rw [cutV_ints]
    have sc : Stp G H (upd G pc (.lst ((cutI ns).map V.int))) (upd H pc (.lst ((cutI ns).map V.int))) := Stp.new e nc
    have rc : Rp (upd G pc (.lst ((cutI ns).map V.int))) (.ref pc) (.list ((cutI ns).map PyData.int)) := .lst upd_same (ra_ints _)
    have lc : (cutI ns).length ≤ 63 := Nat.le_trans (cutI_len ns) hn
    generalize hC : cutI ns = cs at sc rc lc
    generalize upd G pc (.lst (cs.map V.int)) = G1 at sc rc
    generalize upd H pc (.lst (cs.map V.int)) = H1 at sc ⊢
    -- each
    have hd : CDiv (m : Int) (if ((cs.map PyData.int).length : Int) > 1 then ((cs.map PyData.int).length : Int) else 1) := by
      rw [List.length_map]
      constructor <;> split <;> omega
    refine w_set (ev_at sc.gh (ed_op (ed_c (.int 1)) (ed_op (ed_var rfl (.int (m : Int))) (ed_cb (es_cons (ed_c (.int 1)) (es_cons (ed_cb (es_cons (ed_var rfl rc) es_nil) rd_lenl) es_nil)) rd_max) (r2_I hd)) r2_add)) fun v2 G2 H2 s2 r2 => ?_
    obtain rfl := rp_int r2
    have ee : (1 : Int) + (m : Int) / (if ((cs.map PyData.int).length : Int) > 1 then ((cs.map PyData.int).length : Int) else 1) = (eachOf cs.length m : Nat) := by
      unfold eachOf
      rw [List.length_map]
      by_cases h1 : cs.length > 1
      · rw [if_pos (by omega), if_pos h1]
        simp
      · rw [if_neg (by omega), if_neg h1]
        simp
    rw [ee]
    have hk := eachOf_le cs.length m
    generalize hE : eachOf cs.length m = ek at hk
    -- numbers = []
    refine w_new fun p np => ?_
    have o0 := Own.new s2.gh np
    have rc2 := rp_mono (s2.g) _ _ rc
    refine w_forL (as := cs) (f := PyData.int) (ed_var rfl rc2) o0.s.gh (fun Gl i σ' H' => ∃ (G' : Hp) (y5 y6 : Option V), σ' = [some (.ref a), some (.int m), some (.ref pc), some (.int (ek : Int)), some (.ref p), y5, y6] ∧ Own G2 H2 p (((cs.take i).flatMap fun c => rowOf c ek).map PyData.int) G' H' ∧ Ex Gl G')
      (fun G3 H3 s3 => ⟨G3, none, none, rfl, o0.step s3, Ex.refl _⟩) (fun Gl i σ' H' hp => ?_) (fun Gl i c v σ' H' eG hc hv hp => ?_) (fun Gl σ' H' eG hp => ?_)
    · obtain ⟨G', _, _, _, o, x⟩ := hp
      exact x.trans o.s.gh
    · obtain ⟨G', y5, y6, rfl, o, x⟩ := hp
      obtain rfl := rp_int hv
      show tFor _ _ _ _ _ _
      refine w_forL1 (as := rowOf c ek) (f := PyData.int) (ed_call0 (es_cons (ed_var rfl (.int c)) (es_cons (ed_var rfl (.int (ek : Int))) es_nil)) (fun G0 H0 vs e0 hv Q' q' => ?_)) o.s.gh
        (fun Gm j σ' H' => ∃ (G'' : Hp) (y6 : Option V), σ' = [some (.ref a), some (.int m), some (.ref pc), some (.int (ek : Int)), some (.ref p), some (.int c), y6] ∧ Own G2 H2 p (((cs.take i).flatMap (fun c => rowOf c ek) ++ (rowOf c ek).take j).map PyData.int) G'' H' ∧ Ex Gm G'')
        (fun G3 H3 s3 => ⟨G3, y6, rfl, by rw [List.take_zero, List.append_nil]; exact o.step s3, Ex.refl _⟩) (fun Gm j σ' H' hp => ?_) (fun Gm j z v σ' H' eG2 hz hv hp => ?_) (fun Gm σ' H' eG2 hp => ?_)
      · rw [ra_get2 hv]
        exact ⟨c, ek, G0, rfl, by omega, e0, fun v G2 H2 s r => q' v G2 H2 s r⟩
      · obtain ⟨G'', _, _, o', x'⟩ := hp
        exact x'.trans o'.s.gh
      · obtain ⟨G'', y6, rfl, o', x'⟩ := hp
        obtain rfl := rp_int hv
        have lz : i * ek ≤ 63 * 1001 := Nat.mul_le_mul (by have := (List.getElem?_eq_some_iff.mp hc).1; omega) (by omega)
        refine w_appO rfl o' (ev_at o'.s.gh (ed_var rfl (.int z))) ?_ fun G5 H5 xs s5 o5 => ?_
        · have h1 := all_len cs ek i
          rw [List.length_map, List.length_append, List.length_take]
          have h2 : (rowOf c ek).length = ek := row_len _ _ _ _ _
          omega
        · refine ⟨G5, _, rfl, ?_, x'.trans s5.g⟩
          rw [List.take_add_one, hz]
          simpa using o5
      · obtain ⟨G'', y6, rfl, o', x'⟩ := hp
        refine ⟨G'', _, _, rfl, ?_, (x.trans eG2).trans x'⟩
        rw [allOf_take cs ek i c hc]
        rw [List.take_length] at o'
        exact o'
    · obtain ⟨G', y5, y6, rfl, o, x⟩ := hp
      rw [List.take_length] at o
      have hA : (cs.flatMap fun c => rowOf c ek) = allOf (cutI ns) m := by
        rw [hC]
        unfold allOf
        rw [hE]
      rw [hA] at o
      have lA : (allOf (cutI ns) m).length ≤ 63 * 1001 := by
        rw [← hA]
        have h1 := all_len cs ek cs.length
        rw [List.take_length] at h1
        exact Nat.le_trans h1 (Nat.mul_le_mul lc (by omega))
      generalize hL : allOf (cutI ns) m = al at o lA
      -- while len(numbers) < many
      refine w_while (fun d σ' H' => ∃ (G'' : Hp) (t : Nat), σ' = [some (.ref a), some (.int m), some (.ref pc), some (.int (ek : Int)), some (.ref p), y5, y6] ∧ Own G2 H2 p ((al ++ List.replicate t 0).map PyData.int) G'' H' ∧ t ≤ m - al.length ∧ d = m - al.length - t) (m - al.length) ⟨G', 0, rfl, by simpa using o, Nat.zero_le _, rfl⟩ (fun d σ' H' hp => ?_)
      obtain ⟨G'', t, rfl, o', ht, rfl⟩ := hp
      obtain ⟨Gr, e1, e2, rr⟩ := o'.read
      refine ⟨G'', decide ((al.length : Int) + t < m), (ec_at e2 ((et_cmp (ed_op (ed_cb (es_cons (ed_var rfl rr) es_nil) rd_lenl) (ed_var rfl (.int (m : Int))) r2_B0)).is ?_)).down e1 e2, fun hb G3 H3 s3 => ?_, fun hb G3 H3 s3 => ?_⟩
      · rw [List.length_map, List.length_append, List.length_replicate]
        rfl
      · have hb' := of_decide_eq_true hb
        have o3 := o'.step s3
        refine w_appO rfl o3 (ev_at o3.s.gh (ed_c (.int 0))) (by rw [List.length_map, List.length_append, List.length_replicate]; omega) fun G5 H5 xs s5 o5 => ?_
        refine ⟨m - al.length - (t + 1), by omega, G5, t + 1, rfl, ?_, by omega, rfl⟩
        rw [List.replicate_succ', ← List.append_assoc, List.map_append]
        exact o5
      · have hb' := of_decide_eq_false hb
        have o3 := o'.step s3
        obtain ⟨G4, s4, _, r4⟩ := o3.done
        have et : t = m - al.length := by omega
        refine w_ret (ev_at s4.gh (ed_sll (ed_var rfl r4) eb_none (eb_some (ed_var rfl (.int (m : Int)))))) fun v G5 H5 s5 r5 => ?_
        refine q v G5 H5 (((sc.trans s2).trans s4).trans s5) ?_
        have ec : cutD ((al ++ List.replicate t 0).map PyData.int) none (some (m : Int)) = (numsOf ns m).map PyData.int := by
          unfold cutD numsOf
          rw [hL, HT.sIx_none, HT.sIx_nat, List.drop_zero, Nat.sub_zero, ← et, List.map_take]
          rw [List.length_map, List.length_append, List.length_replicate]
          congr 1
          omega
        rw [ec] at r5
        exact r5
end

end Fw
namespace VS
open PySem PySem.Spec PyProof.Rows L2 Evl
open Fw (topS k_addU k_eqD k_neD k_ix k_sl k_len k_list k_tupF k_all k_isi k_piS pe_gstr pe_gint pe_ty k_fld c_abs c_int c_max c_min c_str s_u_law_row s_u_law_numbers)
theorem law_first {N : List Str} {m : Nat} {K : PySem.W.Frag} {rest : TS} {b : S} {a : Addr} {ns : List Int} {H : Hp} {Q : VK} {E0 : XK} (hN : 2 ≤ N.length) (hS : SqL K H a (ns.map V.int)) (hn : ns.length ≤ 63) (hm : m ≤ 1000) (hr : SimS (fun _ => XF) rest b)
    (hb : ∃ st', b (none :: some (intsW (Fw.numsOf ns m)) :: List.replicate (N.length - 2) none) [] = some (.rt (.bl true), st')) (q : ∀ H', Q (.bl true) H') :
    tSeq (tAsg (tCall (Fw.spNumbers K) [] E0 (tCons (tVar 0) (tCons (tC (.int (m : Nat))) tNil))) (gName 1)) rest { nx := fun _ H' => Q .non H', rt := Q } (L2.start N [.ref a]) H := by
  obtain ⟨st', hb⟩ := hb
  have hs : L2.start N [V.ref a] = some (.ref a) :: List.replicate (N.length - 1) none := by
    unfold L2.start
    rfl
  have hl : ∃ k, N.length = k + 2 := ⟨N.length - 2, by omega⟩
  obtain ⟨k, hk⟩ := hl
  rw [hs, hk]
  refine ⟨.ref a, rfl, a, ns, m, fun _ => none, rfl, hS, hn, hm, fun _ _ h => (nomatch h), fun v G2 H2 s2 r2 => ?_⟩
  obtain ⟨b1, xs, rfl, h1, h2⟩ := Fw.rp_lst r2
  have ex := Fw.ra_int h2
  subst ex
  refine hr _ _ [] [] G2 H2 _ _ (Ok.nil s2.gh) ⟨?_, fun i w hw => ?_⟩ hb _ ?_
  · rw [hk]
    simp
  · match i with
    | 0 => simp at hw
    | 1 =>
      have : w = intsW (Fw.numsOf ns m) := by simpa using hw.symm
      subst this
      refine ⟨.ref b1, ?_, .lst h1 (ra_intsW _)⟩
      show (List.set _ 1 _)[1]? = _
      rw [List.getElem?_set_self (by simp)]
    | i + 2 =>
      rw [hk] at hw
      have : (List.replicate k (none : Option W))[i]? = some (some w) := by simpa using hw
      rw [List.getElem?_replicate] at this
      split at this <;> cases this
  · exact fun φ2 G3 H3 v s3 r3 => by
      rw [rp_bl r3]
      exact q H3
abbrev s_u_law_names : Stmt := topS 20
theorem sc_u_law_names : FnScope ["number", "many", "letters", "size", "rest", "k", "place", "names", "own", "spot", "step"] ["number", "many"] (defScope s_u_law_names) := ⟨rfl, rfl, rfl, by decide +kernel, rfl, by decide +kernel, by decide +kernel⟩
abbrev s_told_name : Stmt := topS 15
theorem sc_told_name : FnScope ["number"] ["number"] (defScope s_told_name) := ⟨rfl, rfl, rfl, by decide +kernel, rfl, by decide +kernel, by decide +kernel⟩
abbrev s_is_name : Stmt := topS 8
theorem sc_is_name : FnScope ["text", "sign"] ["text"] (defScope s_is_name) := ⟨rfl, rfl, rfl, by decide +kernel, rfl, by decide +kernel, by decide +kernel⟩
abbrev s_u_check_name : Stmt := topS 16
theorem sc_u_check_name : FnScope ["name"] ["name"] (defScope s_u_check_name) := ⟨rfl, rfl, rfl, by decide +kernel, rfl, by decide +kernel, by decide +kernel⟩
abbrev s_check_names : Stmt := topS 14
theorem sc_check_names : FnScope ["row", "_", "name"] ["row"] (defScope s_check_names) := ⟨rfl, rfl, rfl, by decide +kernel, rfl, by decide +kernel, by decide +kernel⟩
abbrev s_names_of : Stmt := topS 10
theorem sc_names_of : FnScope ["row", "seen", "_", "name"] ["row"] (defScope s_names_of) := ⟨rfl, rfl, rfl, by decide +kernel, rfl, by decide +kernel, by decide +kernel⟩
abbrev s_kind_of : Stmt := topS 11
theorem sc_kind_of : FnScope ["row", "told", "at", "name", "word"] ["row"] (defScope s_kind_of) := ⟨rfl, rfl, rfl, by decide +kernel, rfl, by decide +kernel, by decide +kernel⟩
abbrev s_same_kind : Stmt := topS 12
theorem sc_same_kind : FnScope ["one", "other"] ["one", "other"] (defScope s_same_kind) := ⟨rfl, rfl, rfl, by decide +kernel, rfl, by decide +kernel, by decide +kernel⟩
abbrev s_renamed : Stmt := topS 13
theorem sc_renamed : FnScope ["row", "table", "names", "new_names", "name", "word"] ["row", "table"] (defScope s_renamed) := ⟨rfl, rfl, rfl, by decide +kernel, rfl, by decide +kernel, by decide +kernel⟩
abbrev s_u_law_told : Stmt := topS 21
theorem sc_u_law_told : FnScope ["row", "table", "e"] ["row", "table"] (defScope s_u_law_told) := ⟨rfl, rfl, rfl, by decide +kernel, rfl, by decide +kernel, by decide +kernel⟩
abbrev s_law : Stmt := topS 22
theorem sc_law : FnScope ["script", "numbers", "names", "row", "k", "table", "known", "word", "name", "new", "due", "handed"] ["script"] (defScope s_law) := ⟨rfl, rfl, rfl, by decide +kernel, rfl, by decide +kernel, by decide +kernel⟩
structure Wd (K : PySem.W.Frag) (mg : Str → Option Value) where
  C_InvalidQuestion : Addr
  x_InvalidQuestion : Fw.Xc K mg "InvalidQuestion" C_InvalidQuestion
  C_FewestheldError : Addr
  g_FewestheldError : mg "FewestheldError" = some (.ref C_FewestheldError)
  xc_InvalidQuestion : ExcC K C_InvalidQuestion
  ki_InvalidQuestion_FewestheldError : PySem.W.kitOne K (.ref C_InvalidQuestion) (.ref C_FewestheldError) = some true
  ki_InvalidQuestion_ValueError : PySem.W.kitOne K (.ref C_InvalidQuestion) (.type "ValueError") = some true
  a_u_law_names : Addr
  d_u_law_names : FuncData
  f_u_law_names : Fun K "_law_names" "_law_names" s_u_law_names a_u_law_names d_u_law_names
  g_u_law_names : mg "_law_names" = some (.ref a_u_law_names)
  kp_u_law_names : PySem.W.keepIn K (.ref a_u_law_names) = true
  b_u_law_names : Binds K d_u_law_names ["number", "many"] []
  a_told_name : Addr
  d_told_name : FuncData
  f_told_name : Fun K "told_name" "told_name" s_told_name a_told_name d_told_name
  g_told_name : mg "told_name" = some (.ref a_told_name)
  kp_told_name : PySem.W.keepIn K (.ref a_told_name) = true
  b_told_name : Binds K d_told_name ["number"] []
  a_is_name : Addr
  d_is_name : FuncData
  f_is_name : Fun K "is_name" "is_name" s_is_name a_is_name d_is_name
  g_is_name : mg "is_name" = some (.ref a_is_name)
  kp_is_name : PySem.W.keepIn K (.ref a_is_name) = true
  b_is_name : Binds K d_is_name ["text"] []
  a_u_check_name : Addr
  d_u_check_name : FuncData
  f_u_check_name : Fun K "_check_name" "_check_name" s_u_check_name a_u_check_name d_u_check_name
  g_u_check_name : mg "_check_name" = some (.ref a_u_check_name)
  kp_u_check_name : PySem.W.keepIn K (.ref a_u_check_name) = true
  b_u_check_name : Binds K d_u_check_name ["name"] []
  a_check_names : Addr
  d_check_names : FuncData
  f_check_names : Fun K "check_names" "check_names" s_check_names a_check_names d_check_names
  g_check_names : mg "check_names" = some (.ref a_check_names)
  kp_check_names : PySem.W.keepIn K (.ref a_check_names) = true
  b_check_names : Binds K d_check_names ["row"] []
  a_names_of : Addr
  d_names_of : FuncData
  f_names_of : Fun K "names_of" "names_of" s_names_of a_names_of d_names_of
  g_names_of : mg "names_of" = some (.ref a_names_of)
  kp_names_of : PySem.W.keepIn K (.ref a_names_of) = true
  b_names_of : Binds K d_names_of ["row"] []
  a_kind_of : Addr
  d_kind_of : FuncData
  f_kind_of : Fun K "kind_of" "kind_of" s_kind_of a_kind_of d_kind_of
  g_kind_of : mg "kind_of" = some (.ref a_kind_of)
  kp_kind_of : PySem.W.keepIn K (.ref a_kind_of) = true
  b_kind_of : Binds K d_kind_of ["row"] []
  a_same_kind : Addr
  d_same_kind : FuncData
  f_same_kind : Fun K "same_kind" "same_kind" s_same_kind a_same_kind d_same_kind
  g_same_kind : mg "same_kind" = some (.ref a_same_kind)
  kp_same_kind : PySem.W.keepIn K (.ref a_same_kind) = true
  b_same_kind : Binds K d_same_kind ["one", "other"] []
  a_renamed : Addr
  d_renamed : FuncData
  f_renamed : Fun K "renamed" "renamed" s_renamed a_renamed d_renamed
  g_renamed : mg "renamed" = some (.ref a_renamed)
  kp_renamed : PySem.W.keepIn K (.ref a_renamed) = true
  b_renamed : Binds K d_renamed ["row", "table"] []
  a_u_law_told : Addr
  d_u_law_told : FuncData
  f_u_law_told : Fun K "_law_told" "_law_told" s_u_law_told a_u_law_told d_u_law_told
  g_u_law_told : mg "_law_told" = some (.ref a_u_law_told)
  kp_u_law_told : PySem.W.keepIn K (.ref a_u_law_told) = true
  b_u_law_told : Binds K d_u_law_told ["row", "table"] []
  a_law : Addr
  d_law : FuncData
  f_law : Fun K "law" "law" s_law a_law d_law
  g_law : mg "law" = some (.ref a_law)
  kp_law : PySem.W.keepIn K (.ref a_law) = true
  b_law : Binds K d_law ["script"] []
  t_LETTERS : Tok
  c_LETTERS : mg "LETTERS" = some (.str cv_LETTERS t_LETTERS)
  t_SIGNS : Tok
  c_SIGNS : mg "SIGNS" = some (.str cv_SIGNS t_SIGNS)
  t_LONGEST_NAME : Tok
  c_LONGEST_NAME : mg "LONGEST_NAME" = some (.int 12 t_LONGEST_NAME)
  Z : Fw.Zs mg
  z_enumerate : mg "enumerate" = none
  z_set : mg "set" = none
  z_dict : mg "dict" = none
end VS

namespace VS
open PySem PySem.Spec PyProof.Rows L2 Evl
open Fw (topS k_addU k_eqD k_neD k_ix k_sl k_len k_list k_tupF k_all k_isi k_piS pe_gstr pe_gint pe_ty k_fld c_abs c_int c_max c_min c_str s_u_law_row s_u_law_numbers)
section
variable {P : Program} {w : World} {K : PySem.W.Frag} {mg : Str → Option Value} {base : Heap}
theorem ok_u_law_names (W : Wd K mg) : FnOk P w K mg base CX0 1 W.a_u_law_names W.d_u_law_names ["number", "many"] (spV 2 m_u_law_names) := by
  refine W.f_u_law_names.ok sc_u_law_names (fun vs H Q E h => h.1) (fun cdv A outer s H vs Q E hr h => ?_)
  have hu := hu_of hr
  refine ⟨_, (pss_cons (ps_set (i := 2) sc_u_law_names.nd rfl (Or.inr rfl) pe_str)
      (pss_cons (ps_set (i := 3) sc_u_law_names.nd rfl (Or.inl rfl) (pe_op op_mod (pe_callTy c_int (by rfl) W.Z.int Fw.bt_int (pa_cons (pv 0) pa_nil)) pe_int))
      (pss_cons (ps_set (i := 4) sc_u_law_names.nd rfl (Or.inl rfl) (Fw.k_join K rfl pe_str (pe_lc (own := [("k", 5)]) (g := (gName 5)) (tt := tYes) rfl sc_u_law_names.nd (pi_range1 (by rfl) W.Z.range (pa_cons (pv 3) pa_nil)) (blkOk_by (N := ["number", "many", "letters", "size", "rest", "k", "place", "names", "own", "spot", "step"]) (sc := defScope s_u_law_names) (own := [("k", 5)]) (by decide +kernel)) (fun _ _ _ _ _ => (pg_name (i := 5) sc_u_law_names.nd rfl (Or.inl rfl))) (fun _ _ _ _ _ => pts_nil) (fun _ _ _ _ _ => (pe_ix (k_ix K rfl) (pv 2) (pe_op op_mod (pe_callTy c_int (by rfl) W.Z.int Fw.bt_int (pa_cons (pe_op (k_addU K rfl) (pv 0) (pe_op op_mul (pe_op op_mul pe_int (pv 5)) (pv 5))) pa_nil)) pe_int) (fun _ _ => rfl))))))
      (pss_cons (ps_set (i := 6) sc_u_law_names.nd rfl (Or.inl rfl) (pe_op op_mod (pe_callTy c_int (by rfl) W.Z.int Fw.bt_int (pa_cons (pe_op op_fdiv (pv 0) pe_int) pa_nil)) (pe_op (k_addU K rfl) (pv 3) pe_int)))
      (pss_cons (ps_set (i := 7) sc_u_law_names.nd rfl (Or.inl rfl) (pe_lst pa_nil))
      (pss_cons (ps_for PassesOwn.never rfl (pi_range1 (by rfl) W.Z.range (pa_cons (pv 1) pa_nil)) (pg_name (i := 5) sc_u_law_names.nd rfl (Or.inl rfl)) (pss_cons (ps_set (i := 8) sc_u_law_names.nd rfl (Or.inl rfl) (pv 4))
      (pss_cons (ps_if (pt_cmpR (k_eqD K rfl hr.units) (pe_op op_mod (pe_callTy c_int (by rfl) W.Z.int Fw.bt_int (pa_cons (pe_op (k_addU K rfl) (pe_op op_fdiv (pv 0) pe_int) (pv 5)) pa_nil)) pe_int) pe_int (nomark _)) (pss_one (ps_set (i := 8) sc_u_law_names.nd rfl (Or.inl rfl) (pe_slice (k_sl K rfl) (pv 4) (po_some pe_int) po_none))) pss_nil)
      (pss_cons (ps_set (i := 9) sc_u_law_names.nd rfl (Or.inl rfl) (pe_callB (c_min rfl) (by rfl) W.Z.min Fw.bt_min (pa_cons (pv 6) (pa_cons (pe_callB (k_len K rfl) (by rfl) W.Z.len Fw.bt_len (pa_cons (pv 8) pa_nil)) pa_nil))))
      (pss_cons (ps_set (i := 10) sc_u_law_names.nd rfl (Or.inl rfl) pe_int)
      (pss_cons (ps_if (pt_cmpR (k_eqD K rfl hr.units) (pe_op op_mod (pe_callTy c_int (by rfl) W.Z.int Fw.bt_int (pa_cons (pe_op op_fdiv (pv 0) pe_int) pa_nil)) pe_int) pe_int (nomark _)) (pss_one (ps_set (i := 10) sc_u_law_names.nd rfl (Or.inl rfl) pe_int)) pss_nil)
      (pss_one (ps_expr (pe_bm PySem.F.plainAttrs_list PySem.F.slot_list_append PySem.F.type_list_append mt_append (pv 7) (pa_cons (pe_op (k_addU K rfl) (pe_op (k_addU K rfl) (pe_op (k_addU K rfl) (pe_ix (k_ix K rfl) (pv 2) (pe_op op_mod (pe_callTy c_int (by rfl) W.Z.int Fw.bt_int (pa_cons (pe_op (k_addU K rfl) (pv 0) (pe_op op_mul pe_int (pv 5))) pa_nil)) pe_int) (fun _ _ => rfl)) (pe_slice (k_sl K rfl) (pv 8) po_none (po_some (pv 9)))) (pe_ix (k_ix K rfl) (pv 2) (pe_op op_mod (pe_callTy c_int (by rfl) W.Z.int Fw.bt_int (pa_cons (pe_op (k_addU K rfl) (pv 0) (pe_op op_mul (pv 10) (pv 5))) pa_nil)) pe_int) (fun _ _ => rfl))) (pe_slice (k_sl K rfl) (pv 8) (po_some (pv 9)) po_none)) pa_nil))))))))))
      (pss_one (ps_ret (pv 7))))))))), ?_⟩
  exact sim_body (N := ["number", "many", "letters", "size", "rest", "k", "place", "names", "own", "spot", "step"]) (b := b_u_law_names) ((sim_seq (sim_set sim_str)
      (sim_seq (sim_set (sim_op o_mod (sim_cb o_int1 (sim_cons sim_var sim_nil)) sim_int))
      (sim_seq (sim_set (sim_m1 os_join sim_str (sim_lc (vs := [5]) (sim_rng1 (sim_cons sim_var sim_nil)) (sim_gN (vs := [5]) (by decide)) sim_yes (sim_op o_ix sim_var (sim_op o_mod (sim_cb o_int1 (sim_cons (sim_op o_add sim_var (sim_op o_mul (sim_op o_mul sim_int sim_var) sim_var)) sim_nil)) sim_int)))))
      (sim_seq (sim_set (sim_op o_mod (sim_cb o_int1 (sim_cons (sim_op o_div sim_var sim_int) sim_nil)) (sim_op o_add sim_var sim_int)))
      (sim_seq (sim_set (sim_lst sim_nil))
      (sim_seq (sim_for (vs := [5]) (sim_rng1 (sim_cons sim_var sim_nil)) (sim_gN (vs := [5]) (by decide)) (sim_seq (sim_set sim_var)
      (sim_seq (sim_ifS (sim_test (sim_op o_eq (sim_op o_mod (sim_cb o_int1 (sim_cons (sim_op o_add (sim_op o_div sim_var sim_int) sim_var) sim_nil)) sim_int) sim_int)) (sim_set (sim_sl sim_var (sim_part sim_int) sim_noPart)) sim_next)
      (sim_seq (sim_set (sim_cb o_min2 (sim_cons sim_var (sim_cons (sim_cb o_len (sim_cons sim_var sim_nil)) sim_nil))))
      (sim_seq (sim_set sim_int)
      (sim_seq (sim_ifS (sim_test (sim_op o_eq (sim_op o_mod (sim_cb o_int1 (sim_cons (sim_op o_div sim_var sim_int) sim_nil)) sim_int) sim_int)) (sim_set sim_int) sim_next)
      (sim_expr (sim_mut om_append sim_var (sim_cons (sim_op o_add (sim_op o_add (sim_op o_add (sim_op o_ix sim_var (sim_op o_mod (sim_cb o_int1 (sim_cons (sim_op o_add sim_var (sim_op o_mul sim_int sim_var)) sim_nil)) sim_int)) (sim_sl sim_var sim_noPart (sim_part sim_var))) (sim_op o_ix sim_var (sim_op o_mod (sim_cb o_int1 (sim_cons (sim_op o_add sim_var (sim_op o_mul sim_var sim_var)) sim_nil)) sim_int))) (sim_sl sim_var (sim_part sim_var) sim_noPart)) sim_nil)))))))))
      (sim_ret (sim_frz sim_var))))))))) h
theorem ok_told_name (W : Wd K mg) : FnOk P w K mg base CX0 1 W.a_told_name W.d_told_name ["number"] (spV 1 m_told_name) := by
  refine W.f_told_name.ok sc_told_name (fun vs H Q E h => h.1) (fun cdv A outer s H vs Q E hr h => ?_)
  have hu := hu_of hr
  refine ⟨_, (pss_one (ps_ret (pe_joined (PJ.cons pe_str (PJ.cons (pe_fmt (pv 0)) PJ.nil))))), ?_⟩
  exact sim_body (N := ["number"]) (b := b_told_name) ((sim_ret (sim_joined (SimJ.cons sim_str (SimJ.cons (sim_fmt sim_var) SimJ.nil))))) h
theorem ok_is_name (W : Wd K mg) : FnOk P w K mg base CX0 1 W.a_is_name W.d_is_name ["text"] (spV 1 m_is_name) := by
  refine W.f_is_name.ok sc_is_name (fun vs H Q E h => h.1) (fun cdv A outer s H vs Q E hr h => ?_)
  have hu := hu_of hr
  refine ⟨_, (pss_cons (ps_if (PW.pt (pw_or (pt_not (pt_val (pe_callB (k_isi K rfl) (by rfl) W.Z.isinstance Fw.bt_isinstance (pa_cons (pv 0) (pa_cons (pe_ty (by rfl) W.Z.str Fw.bt_str) pa_nil))))) (pw_or1 (pt_not (pt_chain op_le op_le pe_int (pe_callB (k_len K rfl) (by rfl) W.Z.len Fw.bt_len (pa_cons (pv 0) pa_nil)) (pe_gint rfl W.c_LONGEST_NAME)))))) (pss_one (ps_ret pe_bl)) pss_nil)
      (pss_one (ps_ret (pe_and (pe_cmpR (k_inV K rfl (hu65 hr)) (pe_ix (k_ix K rfl) (pv 0) pe_int (fun _ _ => rfl)) (pe_gstr rfl W.c_LETTERS) (by rfl)) (pe_one (pe_callB (k_all K rfl rfl) (by rfl) W.Z.all Fw.bt_all (pa_cons (pe_lc (own := [("sign", 1)]) (g := (gName 1)) (tt := tYes) rfl sc_is_name.nd (pi_str (pv 0)) (blkOk_by (N := ["text", "sign"]) (sc := defScope s_is_name) (own := [("sign", 1)]) (by decide +kernel)) (fun _ _ _ _ _ => (pg_name (i := 1) sc_is_name.nd rfl (Or.inl rfl))) (fun _ _ _ _ _ => pts_nil) (fun _ _ _ _ _ => (pe_cmpR (k_inV K rfl (hu65 hr)) (pv 1) (pe_gstr rfl W.c_SIGNS) (by rfl)))) pa_nil))))))), ?_⟩
  exact sim_body (N := ["text", "sign"]) (b := b_is_name) ((sim_seq (sim_ifS (sim_or (sim_not (sim_b (sim_cb o_isi (sim_cons sim_var (sim_cons sim_raw sim_nil))))) (sim_not (sim_test (sim_chain o_le o_le sim_int (sim_cb o_len (sim_cons sim_var sim_nil)) sim_int)))) (sim_ret sim_bl) sim_next)
      (sim_ret (sim_andV (sim_op o_in (sim_op o_ix sim_var sim_int) sim_str) (sim_cb o_all (sim_cons (sim_lc (vs := [1]) (sim_strI sim_var) (sim_gN (vs := [1]) (by decide)) sim_yes (sim_op o_in sim_var sim_str)) sim_nil)))))) h
theorem ok_u_check_name (W : Wd K mg) : FnOk P w K mg base CX0 2 W.a_u_check_name W.d_u_check_name ["name"] (spV 1 m_u_check_name) := by
  refine W.f_u_check_name.ok sc_u_check_name (fun vs H Q E h => h.1) (fun cdv A outer s H vs Q E hr h => ?_)
  have hu := hu_of hr
  refine ⟨_, (pss_one (ps_if (pt_not (pt_val (pe_call (E := XT) (ok_is_name W) (hr.mono (by decide)) (by rfl) W.g_is_name W.kp_is_name W.b_is_name .nil passT (pa_cons (pv 0) pa_nil)))) (pss_one Fw.ps_never) pss_nil)), ?_⟩
  exact sim_body (N := ["name"]) (b := b_u_check_name) ((sim_ifS (sim_not (sim_b (sim_call (fun _ _ _ _ _ => trivial) (sim_cons sim_var sim_nil)))) sim_neverF sim_next)) h
theorem ok_check_names (W : Wd K mg) : FnOk P w K mg base CX0 3 W.a_check_names W.d_check_names ["row"] (spV 1 m_check_names) := by
  refine W.f_check_names.ok sc_check_names (fun vs H Q E h => h.1) (fun cdv A outer s H vs Q E hr h => ?_)
  have hu := hu_of hr
  refine ⟨_, (pss_one (ps_for PassesOwn.never rfl (k_piS K rfl (pv 0)) (Fw.k_tgt K rfl rfl (pgs_cons (pg_name (i := 1) sc_check_names.nd rfl (Or.inl rfl)) (pgs_cons (pg_name (i := 2) sc_check_names.nd rfl (Or.inl rfl)) pgs_nil))) (pss_one (ps_expr (pe_call (E := XT) (ok_u_check_name W) (hr.mono (by decide)) (by rfl) W.g_u_check_name W.kp_u_check_name W.b_u_check_name .nil passT (pa_cons (pv 2) pa_nil)))))), ?_⟩
  exact sim_body (N := ["row", "_", "name"]) (b := b_check_names) ((sim_for (vs := [1, 2]) (sim_src sim_var) (sim_gT (sim_gsCons (sim_gN (vs := [1, 2]) (by decide)) (sim_gsCons (sim_gN (vs := [1, 2]) (by decide)) (sim_gsNil (vs := [1, 2]))))) (sim_expr (sim_call (fun _ _ _ _ _ => trivial) (sim_cons sim_var sim_nil))))) h
theorem ok_names_of (W : Wd K mg) : FnOk P w K mg base CX0 4 W.a_names_of W.d_names_of ["row"] (spV 1 m_names_of) := by
  refine W.f_names_of.ok sc_names_of (fun vs H Q E h => h.1) (fun cdv A outer s H vs Q E hr h => ?_)
  have hu := hu_of hr
  refine ⟨_, (pss_cons (ps_expr (pe_call (E := XT) (ok_check_names W) (hr.mono (by decide)) (by rfl) W.g_check_names W.kp_check_names W.b_check_names .nil passT (pa_cons (pv 0) pa_nil)))
      (pss_cons (ps_setDc (j := 1) (own := [("_", 2), ("name", 3)]) (g := ((gTup K 2 (gCons (gName 2) (gCons (gName 3) gNil))))) (tt := tYes) rfl sc_names_of.nd rfl rfl (sw_trueD rfl rfl rfl (by decide +kernel)) (k_piS K rfl (pv 0)) (blkOk_by (N := ["row", "seen", "_", "name"]) (sc := defScope s_names_of) (own := [("_", 2), ("name", 3)]) (by decide +kernel)) (fun _ _ _ _ _ => (Fw.k_tgt K rfl rfl (pgs_cons (pg_name (i := 2) sc_names_of.nd rfl (Or.inl rfl)) (pgs_cons (pg_name (i := 3) sc_names_of.nd rfl (Or.inl rfl)) pgs_nil)))) (fun _ _ _ _ _ => pts_nil) (fun _ _ _ _ _ => (pv 3)) (fun _ _ _ _ _ => pe_bl))
      (pss_one (ps_ret (pe_callTy (k_listV K rfl rfl) (by rfl) W.Z.list Fw.bt_list (pa_cons (pv 1) pa_nil)))))), ?_⟩
  exact sim_body (N := ["row", "seen", "_", "name"]) (b := b_names_of) ((sim_seq (sim_expr (sim_call (fun _ _ _ _ _ => trivial) (sim_cons sim_var sim_nil)))
      (sim_seq (sim_set (sim_dc (vs := [2, 3]) (sim_src sim_var) (sim_gT (sim_gsCons (sim_gN (vs := [2, 3]) (by decide)) (sim_gsCons (sim_gN (vs := [2, 3]) (by decide)) (sim_gsNil (vs := [2, 3]))))) sim_yes sim_var sim_bl))
      (sim_ret (sim_cb o_listV (sim_cons sim_var sim_nil)))))) h
theorem ok_kind_of (W : Wd K mg) : FnOk P w K mg base CX0 5 W.a_kind_of W.d_kind_of ["row"] (spV 1 m_kind_of) := by
  refine W.f_kind_of.ok sc_kind_of (fun vs H Q E h => h.1) (fun cdv A outer s H vs Q E hr h => ?_)
  have hu := hu_of hr
  refine ⟨_, (pss_cons (ps_set (i := 1) sc_kind_of.nd rfl (Or.inr rfl) (pe_dc (own := [("at", 2), ("name", 3)]) (g := ((gTup K 2 (gCons (gName 2) (gCons (gName 3) gNil))))) (tt := tYes) rfl sc_kind_of.nd (Fw.k_enum K rfl (by rfl) W.z_enumerate (pa_cons (pe_call (E := XT) (ok_names_of W) (hr.mono (by decide)) (by rfl) W.g_names_of W.kp_names_of W.b_names_of .nil passT (pa_cons (pv 0) pa_nil)) pa_nil)) (blkOk_by (N := ["row", "told", "at", "name", "word"]) (sc := defScope s_kind_of) (own := [("at", 2), ("name", 3)]) (by decide +kernel)) (fun _ _ _ _ _ => (Fw.k_tgt K rfl rfl (pgs_cons (pg_name (i := 2) sc_kind_of.nd rfl (Or.inl rfl)) (pgs_cons (pg_name (i := 3) sc_kind_of.nd rfl (Or.inl rfl)) pgs_nil)))) (fun _ _ _ _ _ => pts_nil) (fun _ _ _ _ _ => (pv 3)) (fun _ _ _ _ _ => (pe_call (E := XT) (ok_told_name W) (hr.mono (by decide)) (by rfl) W.g_told_name W.kp_told_name W.b_told_name .nil passT (pa_cons (pe_op (k_addU K rfl) (pv 2) pe_int) pa_nil)))))
      (pss_one (ps_ret (pe_lc (own := [("word", 4), ("name", 3)]) (g := ((gTup K 2 (gCons (gName 4) (gCons (gName 3) gNil))))) (tt := tYes) rfl sc_kind_of.nd (k_piS K rfl (pv 0)) (blkOk_by (N := ["row", "told", "at", "name", "word"]) (sc := defScope s_kind_of) (own := [("word", 4), ("name", 3)]) (by decide +kernel)) (fun _ _ _ _ _ => (Fw.k_tgt K rfl rfl (pgs_cons (pg_name (i := 4) sc_kind_of.nd rfl (Or.inl rfl)) (pgs_cons (pg_name (i := 3) sc_kind_of.nd rfl (Or.inl rfl)) pgs_nil)))) (fun _ _ _ _ _ => pts_nil) (fun _ _ _ _ _ => (pe_tup (pa_cons (pv 4) (pa_cons (pe_dget hu (pv 1) (pv 3) (fun _ _ => rfl)) pa_nil)))))))), ?_⟩
  exact sim_body (N := ["row", "told", "at", "name", "word"]) (b := b_kind_of) ((sim_seq (sim_set (sim_dc (vs := [2, 3]) (sim_enum (sim_cons (sim_call (fun _ _ _ _ _ => trivial) (sim_cons sim_var sim_nil)) sim_nil)) (sim_gT (sim_gsCons (sim_gN (vs := [2, 3]) (by decide)) (sim_gsCons (sim_gN (vs := [2, 3]) (by decide)) (sim_gsNil (vs := [2, 3]))))) sim_yes sim_var (sim_call (fun _ _ _ _ _ => trivial) (sim_cons (sim_op o_add sim_var sim_int) sim_nil))))
      (sim_ret (sim_lc (vs := [4, 3]) (sim_src sim_var) (sim_gT (sim_gsCons (sim_gN (vs := [4, 3]) (by decide)) (sim_gsCons (sim_gN (vs := [4, 3]) (by decide)) (sim_gsNil (vs := [4, 3]))))) sim_yes (sim_tup (sim_cons sim_var (sim_cons (sim_dget sim_var sim_var) sim_nil))))))) h
theorem ok_same_kind (W : Wd K mg) : FnOk P w K mg base CX0 6 W.a_same_kind W.d_same_kind ["one", "other"] (spV 2 m_same_kind) := by
  refine W.f_same_kind.ok sc_same_kind (fun vs H Q E h => h.1) (fun cdv A outer s H vs Q E hr h => ?_)
  have hu := hu_of hr
  refine ⟨_, (pss_one (ps_ret (pe_cmpR (k_eqD K rfl hr.units) (pe_call (E := XT) (ok_kind_of W) (hr.mono (by decide)) (by rfl) W.g_kind_of W.kp_kind_of W.b_kind_of .nil passT (pa_cons (pv 0) pa_nil)) (pe_call (E := XT) (ok_kind_of W) (hr.mono (by decide)) (by rfl) W.g_kind_of W.kp_kind_of W.b_kind_of .nil passT (pa_cons (pv 1) pa_nil)) (nomark _)))), ?_⟩
  exact sim_body (N := ["one", "other"]) (b := b_same_kind) ((sim_ret (sim_op o_eq (sim_call (fun _ _ _ _ _ => trivial) (sim_cons sim_var sim_nil)) (sim_call (fun _ _ _ _ _ => trivial) (sim_cons sim_var sim_nil))))) h
theorem ok_renamed (W : Wd K mg) : FnOk P w K mg base (L2.CX P w) 5 W.a_renamed W.d_renamed ["row", "table"] (spV 2 (m_renamed W.C_InvalidQuestion)) := by
  refine W.f_renamed.okX sc_renamed (fun vs H Q E h => h.1) (fun cdv A outer s H vs Q E hr h => ?_)
  have hu := hu_of hr
  refine ⟨_, (pss_cons (ps_set (i := 2) sc_renamed.nd rfl (Or.inl rfl) (pe_call (E := XT) (ok_names_of W) (hr.mono (by decide)) (by rfl) W.g_names_of W.kp_names_of W.b_names_of .nil passT (pa_cons (pv 0) pa_nil)))
      (pss_cons (ps_setLc (i := 3) (own := [("name", 4)]) (g := (gName 4)) (tt := tYes) rfl sc_renamed.nd rfl rfl (sw_true rfl rfl rfl (by decide +kernel)) (k_piS K rfl (pv 2)) (blkOk_by (N := ["row", "table", "names", "new_names", "name", "word"]) (sc := defScope s_renamed) (own := [("name", 4)]) (by decide +kernel)) (fun _ _ _ _ _ => (pg_name (i := 4) sc_renamed.nd rfl (Or.inl rfl))) (fun _ _ _ _ _ => pts_nil) (fun _ _ _ _ _ => (pe_dget2 hu (pv 1) (pv 4) (pv 4) ⟨by rfl, by rfl, by rfl, by rfl⟩)))
      (pss_cons (ps_if (pt_cmpR op_lt (k_lenSetS K rfl (by rfl) W.Z.len (by rfl) W.z_set (pv 3)) (pe_callB (k_len K rfl) (by rfl) W.Z.len Fw.bt_len (pa_cons (pv 2) pa_nil)) (nomark _)) (pss_one (ps_raise rfl (takes_of rfl rfl rfl rfl) (pmk_own PySem.F.excBase_ValueError W.x_InvalidQuestion.ex W.x_InvalidQuestion.g W.x_InvalidQuestion.kp (raises_own W.x_InvalidQuestion.sub W.x_InvalidQuestion.ty) (by rfl)))) pss_nil)
      (pss_cons (ps_for (passes_of rfl) rfl (k_piS K rfl (pv 3)) (pg_name (i := 4) sc_renamed.nd rfl (Or.inl rfl)) (pss_one (ps_expr (pe_call (E := XT) (ok_u_check_name W) (hr.mono (by decide)) (by rfl) W.g_u_check_name W.kp_u_check_name W.b_u_check_name .nil passT (pa_cons (pv 4) pa_nil)))))
      (pss_one (ps_ret (pe_lc (own := [("word", 5), ("name", 4)]) (g := ((gTup K 2 (gCons (gName 5) (gCons (gName 4) gNil))))) (tt := tYes) rfl sc_renamed.nd (k_piS K rfl (pv 0)) (blkOk_by (N := ["row", "table", "names", "new_names", "name", "word"]) (sc := defScope s_renamed) (own := [("word", 5), ("name", 4)]) (by decide +kernel)) (fun _ _ _ _ _ => (Fw.k_tgt K rfl rfl (pgs_cons (pg_name (i := 5) sc_renamed.nd rfl (Or.inl rfl)) (pgs_cons (pg_name (i := 4) sc_renamed.nd rfl (Or.inl rfl)) pgs_nil)))) (fun _ _ _ _ _ => pts_nil) (fun _ _ _ _ _ => (pe_tup (pa_cons (pv 5) (pa_cons (pe_dget2 hu (pv 1) (pv 4) (pv 4) ⟨by rfl, by rfl, by rfl, by rfl⟩) pa_nil))))))))))), ?_⟩
  exact sim_body (N := ["row", "table", "names", "new_names", "name", "word"]) (b := b_renamed W.C_InvalidQuestion) ((sim_seq (sim_set (sim_call (fun _ _ _ _ _ => trivial) (sim_cons sim_var sim_nil)))
      (sim_seq (sim_set (sim_lc (vs := [4]) (sim_src sim_var) (sim_gN (vs := [4]) (by decide)) sim_yes (sim_dget2 sim_var sim_var sim_var)))
      (sim_seq (sim_ifS (sim_test (sim_op o_lt (sim_lenSetS sim_var) (sim_cb o_len (sim_cons sim_var sim_nil)))) (sim_raise0 (fun _ _ _ _ h => h)) sim_next)
      (sim_seq (sim_for (vs := [4]) (sim_src sim_var) (sim_gN (vs := [4]) (by decide)) (sim_expr (sim_call (fun _ _ _ _ _ => trivial) (sim_cons sim_var sim_nil))))
      (sim_ret (sim_lc (vs := [5, 4]) (sim_src sim_var) (sim_gT (sim_gsCons (sim_gN (vs := [5, 4]) (by decide)) (sim_gsCons (sim_gN (vs := [5, 4]) (by decide)) (sim_gsNil (vs := [5, 4]))))) sim_yes (sim_tup (sim_cons sim_var (sim_cons (sim_dget2 sim_var sim_var sim_var) sim_nil)))))))))) h
theorem ok_u_law_told (W : Wd K mg) : FnOk P w K mg base CX0 6 W.a_u_law_told W.d_u_law_told ["row", "table"] (spV 2 (m_u_law_told W.C_InvalidQuestion)) := by
  refine W.f_u_law_told.ok sc_u_law_told (fun vs H Q E h => h.1) (fun cdv A outer s H vs Q E hr h => ?_)
  have hu := hu_of hr
  refine ⟨_, (pss_one (k_tryAs (i := 2) (c := .ref W.C_InvalidQuestion) (Wout := fun _ _ _ _ => False) K rfl rfl rfl sc_u_law_told.nd rfl rfl ⟨rfl, by decide, Or.inl W.x_InvalidQuestion.g⟩ takes0 (fun Wt pn xe tk po => (pss_one (ps_ret (pe_tup (pa_cons pe_str (pa_cons (pe_callS (ok_renamed W) (hr.mono (by decide)) (by rfl) W.g_renamed W.kp_renamed W.b_renamed (fun σ => passAt tk σ) (pa_cons (pv 0) (pa_cons (pv 1) pa_nil))) pa_nil)))))) (fun a oe cls d pn hz hf => (pss_one (ps_ret (pe_tup (pa_cons (pe_ix (k_ix K rfl) (pe_lst (pa_cons pe_str (pa_cons pe_str pa_nil))) (pe_callTy c_int (by rfl) W.Z.int Fw.bt_int (pa_cons (pe_and (pe_callB (k_isEx K rfl hz hf) (by rfl) W.Z.isinstance Fw.bt_isinstance (pa_cons (pv 2) (pa_cons (pe_glob (v := .ref W.C_FewestheldError) rfl W.g_FewestheldError rfl) pa_nil))) (pe_one (pe_callB (k_isEx K rfl hz hf) (by rfl) W.Z.isinstance Fw.bt_isinstance (pa_cons (pv 2) (pa_cons (pe_ty (by rfl) W.Z.ValueError Fw.bt_ValueError) pa_nil))))) pa_nil)) (fun _ _ => rfl)) (pa_cons (pe_lst pa_nil) pa_nil)))))))), ?_⟩
  exact sim_body (N := ["row", "table", "e"]) (b := b_u_law_told W.C_InvalidQuestion) ((sim_tryF (fun A b => (fun h => cat_cons (P := fun A b => PySem.W.exmOne K (.ref A) (.ref W.C_InvalidQuestion) = some b) h (exm_selfV W.x_InvalidQuestion) (fun h => nomatch h))) (fun Wx => (sim_ret (sim_tup (sim_cons sim_str (sim_cons (sim_callS (fun _ _ _ _ h => h) (sim_cons sim_var (sim_cons sim_var sim_nil))) sim_nil))))) (fun a A => (sim_ret (sim_tup (sim_cons (sim_op o_ix (sim_lst (sim_cons sim_str (sim_cons sim_str sim_nil))) (sim_cb o_int1 (sim_cons (sim_andV (sim_isE (K := K) (c := .ref W.C_FewestheldError) (cv := .ref W.C_FewestheldError) (fun u r => r) (fun b => (fun h => cat_cons (P := fun A b => ExcC K A ∧ PySem.W.kitOne K (.ref A) (.ref W.C_FewestheldError) = some b) h ⟨W.xc_InvalidQuestion, W.ki_InvalidQuestion_FewestheldError⟩ (fun h => nomatch h)))) (sim_isE (K := K) (c := .ty "ValueError") (cv := .type "ValueError") (fun u r => r) (fun b => (fun h => cat_cons (P := fun A b => ExcC K A ∧ PySem.W.kitOne K (.ref A) (.type "ValueError") = some b) h ⟨W.xc_InvalidQuestion, W.ki_InvalidQuestion_ValueError⟩ (fun h => nomatch h))))) sim_nil))) (sim_cons (sim_lst sim_nil) sim_nil))))))) h
theorem ok_law (W : Wd K mg) {f1 : Addr} {fd1 : FuncData} (G1 : Fw.Df P w K mg base CX0 2 "_law_numbers" f1 fd1 ["script", "many"] (Fw.spNumbers K))
    (hb : ∀ nm : List Int, nm.length = 60 → Fw.Sm nm → ∃ st', b_law W.C_InvalidQuestion (none :: some (intsW nm) :: List.replicate 10 none) [] = some (.rt (.bl true), st')) : Fw.OkAt P w K mg base W.a_law W.d_law ["script"] (spLawV K) callerA := by
  refine Fw.fun_at (k := 6) W.f_law sc_law (fun vs H Q E h => by
    obtain ⟨a, sn, rfl, _⟩ := h
    rfl) (⟨rfl, by decide, by decide⟩) (fun cdv outer s H vs Q E hr h => ?_)
  · obtain ⟨a, sn, rfl, hS, hn, q⟩ := h
    have hu := hu_of hr
    refine ⟨_, (pss_cons (ps_set (i := 1) sc_law.nd rfl (Or.inl rfl) (pe_call (E := L2.E0) G1.ok (hr.mono (by decide)) (by rfl) G1.g G1.k G1.b .nil L2.pass0 (pa_cons (pv 0) (pa_cons pe_int pa_nil))))
      (pss_cons (ps_set (i := 2) sc_law.nd rfl (Or.inl rfl) (pe_call (E := XT) (ok_u_law_names W) (hr.mono (by decide)) (by rfl) W.g_u_law_names W.kp_u_law_names W.b_u_law_names .nil passT (pa_cons (pe_ix (k_ix K rfl) (pv 1) pe_int (fun _ _ => rfl)) (pa_cons pe_int pa_nil))))
      (pss_cons (ps_set (i := 3) sc_law.nd rfl (Or.inl rfl) (pe_lst pa_nil))
      (pss_cons (ps_for PassesOwn.never rfl (pi_range1 (by rfl) W.Z.range (pa_cons (pe_op op_mod (pe_callTy c_int (by rfl) W.Z.int Fw.bt_int (pa_cons (pe_ix (k_ix K rfl) (pv 1) pe_int (fun _ _ => rfl)) pa_nil)) pe_int) pa_nil)) (pg_name (i := 4) sc_law.nd rfl (Or.inl rfl)) (pss_one (ps_expr (pe_bm PySem.F.plainAttrs_list PySem.F.slot_list_append PySem.F.type_list_append mt_append (pv 3) (pa_cons (pe_tup (pa_cons (pe_ix (k_ix K rfl) (pe_lst (pa_cons pe_str (pa_cons pe_str pa_nil))) (pe_op op_mod (pe_callTy c_int (by rfl) W.Z.int Fw.bt_int (pa_cons (pe_ix (k_ix K rfl) (pv 1) (pe_op (k_addU K rfl) pe_int (pe_op op_mul pe_int (pv 4))) (fun _ _ => rfl)) pa_nil)) pe_int) (fun _ _ => rfl)) (pa_cons (pe_ix (k_ix K rfl) (pv 2) (pe_op op_mod (pe_callTy c_int (by rfl) W.Z.int Fw.bt_int (pa_cons (pe_ix (k_ix K rfl) (pv 1) (pe_op (k_addU K rfl) pe_int (pe_op op_mul pe_int (pv 4))) (fun _ _ => rfl)) pa_nil)) pe_int) (fun _ _ => rfl)) pa_nil))) pa_nil)))))
      (pss_cons (ps_set (i := 5) sc_law.nd rfl (Or.inr rfl) pe_dnewK)
      (pss_cons (ps_for PassesOwn.never rfl (pi_range1 (by rfl) W.Z.range (pa_cons (pe_op op_mod (pe_callTy c_int (by rfl) W.Z.int Fw.bt_int (pa_cons (pe_ix (k_ix K rfl) (pv 1) pe_int (fun _ _ => rfl)) pa_nil)) pe_int) pa_nil)) (pg_name (i := 4) sc_law.nd rfl (Or.inl rfl)) (pss_one (ps_dput hu (pv 5) (pe_ix (k_ix K rfl) (pv 2) (pe_op op_mod (pe_callTy c_int (by rfl) W.Z.int Fw.bt_int (pa_cons (pe_ix (k_ix K rfl) (pv 1) (pe_op (k_addU K rfl) pe_int (pe_op op_mul pe_int (pv 4))) (fun _ _ => rfl)) pa_nil)) pe_int) (fun _ _ => rfl)) (pe_ix (k_ix K rfl) (pv 2) (pe_op op_mod (pe_callTy c_int (by rfl) W.Z.int Fw.bt_int (pa_cons (pe_ix (k_ix K rfl) (pv 1) (pe_op (k_addU K rfl) pe_int (pe_op op_mul pe_int (pv 4))) (fun _ _ => rfl)) pa_nil)) pe_int) (fun _ _ => rfl)) rfl)))
      (pss_cons (ps_set (i := 6) sc_law.nd rfl (Or.inl rfl) (pe_lst pa_nil))
      (pss_cons (ps_for PassesOwn.never rfl (k_piS K rfl (pv 3)) (Fw.k_tgt K rfl rfl (pgs_cons (pg_name (i := 7) sc_law.nd rfl (Or.inl rfl)) (pgs_cons (pg_name (i := 8) sc_law.nd rfl (Or.inl rfl)) pgs_nil))) (pss_one (ps_if (pt_cmpR (k_notInV K rfl (hu65 hr)) (pv 8) (pv 6) (by rfl)) (pss_one (ps_expr (pe_bm PySem.F.plainAttrs_list PySem.F.slot_list_append PySem.F.type_list_append mt_append (pv 6) (pa_cons (pv 8) pa_nil)))) pss_nil)))
      (pss_cons (ps_set (i := 9) sc_law.nd rfl (Or.inr rfl) (pe_lc (own := [("name", 8)]) (g := (gName 8)) (tt := tYes) rfl sc_law.nd (k_piS K rfl (pv 6)) (blkOk_by (N := ["script", "numbers", "names", "row", "k", "table", "known", "word", "name", "new", "due", "handed"]) (sc := defScope s_law) (own := [("name", 8)]) (by decide +kernel)) (fun _ _ _ _ _ => (pg_name (i := 8) sc_law.nd rfl (Or.inl rfl))) (fun _ _ _ _ _ => pts_nil) (fun _ _ _ _ _ => (pe_dget2 hu (pv 5) (pv 8) (pv 8) ⟨by rfl, by rfl, by rfl, by rfl⟩))))
      (pss_cons (ps_set (i := 10) sc_law.nd rfl (Or.inl rfl) (pe_tup (pa_cons pe_str (pa_cons (pe_lc (own := [("word", 7), ("name", 8)]) (g := ((gTup K 2 (gCons (gName 7) (gCons (gName 8) gNil))))) (tt := tYes) rfl sc_law.nd (k_piS K rfl (pv 3)) (blkOk_by (N := ["script", "numbers", "names", "row", "k", "table", "known", "word", "name", "new", "due", "handed"]) (sc := defScope s_law) (own := [("word", 7), ("name", 8)]) (by decide +kernel)) (fun _ _ _ _ _ => (Fw.k_tgt K rfl rfl (pgs_cons (pg_name (i := 7) sc_law.nd rfl (Or.inl rfl)) (pgs_cons (pg_name (i := 8) sc_law.nd rfl (Or.inl rfl)) pgs_nil)))) (fun _ _ _ _ _ => pts_nil) (fun _ _ _ _ _ => (pe_tup (pa_cons (pv 7) (pa_cons (pe_dget2 hu (pv 5) (pv 8) (pv 8) ⟨by rfl, by rfl, by rfl, by rfl⟩) pa_nil))))) pa_nil))))
      (pss_cons (ps_if (pt_cmpR op_gt (pe_callB (k_len K rfl) (by rfl) W.Z.len Fw.bt_len (pa_cons (pe_lc (own := [("k", 4)]) (g := (gName 4)) rfl sc_law.nd (pi_range1 (by rfl) W.Z.range (pa_cons (pe_callB (k_len K rfl) (by rfl) W.Z.len Fw.bt_len (pa_cons (pv 9) pa_nil)) pa_nil)) (blkOk_by (N := ["script", "numbers", "names", "row", "k", "table", "known", "word", "name", "new", "due", "handed"]) (sc := defScope s_law) (own := [("k", 4)]) (by decide +kernel)) (fun _ _ _ _ _ => (pg_name (i := 4) sc_law.nd rfl (Or.inl rfl))) (fun _ _ _ _ _ => (pts_one (pt_cmpR (k_inV K rfl (hu65 hr)) (pe_ix (k_ix K rfl) (pv 9) (pv 4) (fun _ _ => rfl)) (pe_slice (k_sl K rfl) (pv 9) po_none (po_some (pv 4))) (by rfl)))) (fun _ _ _ _ _ => (pv 4))) pa_nil)) pe_int (nomark _)) (pss_one (ps_set (i := 10) sc_law.nd rfl (Or.inl rfl) (pe_tup (pa_cons pe_str (pa_cons (pe_lst pa_nil) pa_nil))))) pss_nil)
      (pss_cons (ps_set (i := 11) sc_law.nd rfl (Or.inl rfl) (pe_lst (pa_cons (pe_callTy (k_listV K rfl rfl) (by rfl) W.Z.list Fw.bt_list (pa_cons (pv 3) pa_nil)) (pa_cons (pe_callTy k_dictD (by rfl) W.z_dict bt_dict (pa_cons (pv 5) pa_nil)) pa_nil))))
      (pss_cons (ps_if (PW.pt (pw_or (pt_cmpR (k_neD K rfl hr.units) (pe_callB (k_reprV K rfl (by rfl) (hu80 hr)) (by rfl) W.Z.repr Fw.bt_repr (pa_cons (pe_call (E := XT) (ok_u_law_told W) (hr.mono (by decide)) (by rfl) W.g_u_law_told W.kp_u_law_told W.b_u_law_told .nil passT (pa_cons (pe_ix (k_ix K rfl) (pv 11) pe_int (fun _ _ => rfl)) (pa_cons (pe_ix (k_ix K rfl) (pv 11) pe_int (fun _ _ => rfl)) pa_nil))) pa_nil)) (pe_callB (k_reprV K rfl (by rfl) (hu80 hr)) (by rfl) W.Z.repr Fw.bt_repr (pa_cons (pv 10) pa_nil)) (nomark _)) (pw_or1 (pt_cmpR (k_neItems K rfl (hu70 hr)) (pv 11) (pe_lst (pa_cons (pv 3) (pa_cons (pv 5) pa_nil))) (nomark _))))) (pss_one (ps_ret pe_bl)) pss_nil)
      (pss_one (ps_ret (pe_or (pe_cmpR (k_eqD K rfl hr.units) (pe_ix (k_ix K rfl) (pv 10) pe_int (fun _ _ => rfl)) pe_str (nomark _)) (pe_one (pe_call (E := XT) (ok_same_kind W) (hr.mono (by decide)) (by rfl) W.g_same_kind W.kp_same_kind W.b_same_kind .nil passT (pa_cons (pv 3) (pa_cons (pe_ix (k_ix K rfl) (pv 10) pe_int (fun _ _ => rfl)) pa_nil)))))))))))))))))))), ?_⟩
    exact law_first (N := ["script", "numbers", "names", "row", "k", "table", "known", "word", "name", "new", "due", "handed"]) (b := b_law W.C_InvalidQuestion) (by decide) hS hn (by decide) ((sim_seq (sim_set (sim_call (fun _ _ _ _ _ => trivial) (sim_cons (sim_op o_ix sim_var sim_int) (sim_cons sim_int sim_nil))))
      (sim_seq (sim_set (sim_lst sim_nil))
      (sim_seq (sim_thenFrz (i := 3) (n := 2) (sim_for (vs := [4]) (sim_rng1 (sim_cons (sim_op o_mod (sim_cb o_int1 (sim_cons (sim_op o_ix sim_var sim_int) sim_nil)) sim_int) sim_nil)) (sim_gN (vs := [4]) (by decide)) (sim_expr (sim_mut om_append sim_var (sim_cons (sim_tup (sim_cons (sim_op o_ix (sim_lst (sim_cons sim_str (sim_cons sim_str sim_nil))) (sim_op o_mod (sim_cb o_int1 (sim_cons (sim_op o_ix sim_var (sim_op o_add sim_int (sim_op o_mul sim_int sim_var))) sim_nil)) sim_int)) (sim_cons (sim_op o_ix sim_var (sim_op o_mod (sim_cb o_int1 (sim_cons (sim_op o_ix sim_var (sim_op o_add sim_int (sim_op o_mul sim_int sim_var))) sim_nil)) sim_int)) sim_nil))) sim_nil)))))
      (sim_seq (sim_set sim_dnewK)
      (sim_seq (sim_for (vs := [4]) (sim_rng1 (sim_cons (sim_op o_mod (sim_cb o_int1 (sim_cons (sim_op o_ix sim_var sim_int) sim_nil)) sim_int) sim_nil)) (sim_gN (vs := [4]) (by decide)) (sim_dput sim_var (sim_op o_ix sim_var (sim_op o_mod (sim_cb o_int1 (sim_cons (sim_op o_ix sim_var (sim_op o_add sim_int (sim_op o_mul sim_int sim_var))) sim_nil)) sim_int)) (sim_op o_ix sim_var (sim_op o_mod (sim_cb o_int1 (sim_cons (sim_op o_ix sim_var (sim_op o_add sim_int (sim_op o_mul sim_int sim_var))) sim_nil)) sim_int))))
      (sim_seq (sim_set (sim_lst sim_nil))
      (sim_seq (sim_thenFrz (i := 6) (n := 2) (sim_for (vs := [7, 8]) (sim_src sim_var) (sim_gT (sim_gsCons (sim_gN (vs := [7, 8]) (by decide)) (sim_gsCons (sim_gN (vs := [7, 8]) (by decide)) (sim_gsNil (vs := [7, 8]))))) (sim_ifS (sim_test (sim_op o_in sim_var sim_var)) (sim_expr (sim_mut om_append sim_var (sim_cons sim_var sim_nil))) sim_next)))
      (sim_seq (sim_set (sim_lc (vs := [8]) (sim_src sim_var) (sim_gN (vs := [8]) (by decide)) sim_yes (sim_dget2 sim_var sim_var sim_var)))
      (sim_seq (sim_set (sim_tup (sim_cons sim_str (sim_cons (sim_lc (vs := [7, 8]) (sim_src sim_var) (sim_gT (sim_gsCons (sim_gN (vs := [7, 8]) (by decide)) (sim_gsCons (sim_gN (vs := [7, 8]) (by decide)) (sim_gsNil (vs := [7, 8]))))) sim_yes (sim_tup (sim_cons sim_var (sim_cons (sim_dget2 sim_var sim_var sim_var) sim_nil)))) sim_nil))))
      (sim_seq (sim_ifS (sim_test (sim_op o_gt (sim_cb o_len (sim_cons (sim_lc (vs := [4]) (sim_rng1 (sim_cons (sim_cb o_len (sim_cons sim_var sim_nil)) sim_nil)) (sim_gN (vs := [4]) (by decide)) (sim_test (sim_op o_in (sim_op o_ix sim_var sim_var) (sim_sl sim_var sim_noPart (sim_part sim_var)))) sim_var) sim_nil)) sim_int)) (sim_set (sim_tup (sim_cons sim_str (sim_cons (sim_lst sim_nil) sim_nil)))) sim_next)
      (sim_seq (sim_set (sim_lst (sim_cons (sim_cb o_listV (sim_cons sim_var sim_nil)) (sim_cons (sim_cb o_dictD (sim_cons sim_var sim_nil)) sim_nil))))
      (sim_seq (sim_ifS (sim_or (sim_test (sim_op o_ne (sim_cb o_reprV (sim_cons (sim_call (fun _ _ _ _ _ => trivial) (sim_cons (sim_op o_ix sim_var sim_int) (sim_cons (sim_op o_ix sim_var sim_int) sim_nil))) sim_nil)) (sim_cb o_reprV (sim_cons sim_var sim_nil)))) (sim_test (sim_op o_neItems sim_var (sim_lst (sim_cons sim_var (sim_cons sim_var sim_nil)))))) (sim_ret sim_bl) sim_next)
      (sim_ret (sim_orV (sim_op o_eq (sim_op o_ix sim_var sim_int) sim_str) (sim_call (fun _ _ _ _ _ => trivial) (sim_cons sim_var (sim_cons (sim_op o_ix sim_var sim_int) sim_nil)))))))))))))))))) (hb _ (Fw.numsOf_len _ _) (Fw.numsOf_sm _ _)) q
end
end VS

namespace VS
open PySem PySem.Spec PyProof.Rows L2 Evl
open TL (tl len_tl ext_tl tl_append tl_mk mk_tl)
open Fw (fstAt fst_at fst_lt okS okD)
theorem m_is_name_ok {x : Str} (h : isNm (tl x) = true) : m_is_name [.str x] [] = some (.ok (.bl true), []) := by
  unfold isNm at h
  rw [Bool.and_eq_true, Bool.and_eq_true, Bool.and_eq_true, decide_eq_true_eq, decide_eq_true_eq] at h
  obtain ⟨⟨⟨h1, h2⟩, h3⟩, h4⟩ := h
  obtain ⟨c, r, e⟩ : ∃ c r, tl x = c :: r := by
    cases e : tl x with
    | nil => rw [e] at h1; simp at h1
    | cons c r => exact ⟨c, r, rfl⟩
  have hl : x.length = (tl x).length := len_tl x
  have hx : x.length ≤ LIM := by rw [hl]; exact Nat.le_trans h2 (by decide)
  rw [e] at h3
  have g1 : (1 : Int) ≤ (x.length : Int) := by omega
  have g2 : (x.length : Int) ≤ 12 := by omega
  have hlen : ∀ st : Sto, fLen [.str x] st = some (.val (.int x.length)) := fun st => if_pos hx
  have hix : ∀ st : Sto, fIx (.str x) (.int 0) st = some (.val (.str ⟨#[c]⟩)) := fun st => by
    unfold fIx
    dsimp only
    rw [if_pos hx, e, atI_zero]
    rfl
  have hall : lcL ⟨(tl x).map fun c => .str ⟨#[c]⟩, []⟩ (gN 1) vYes (vOp false (fIn false) (vVar 1) (vC (.str cv_SIGNS))) [some (.str x), none] ((tl x).map fun c => .str ⟨#[c]⟩) [] [] = some ((tl x).map (fun c => .bl (inT c cv_SIGNS)), []) :=
    lcL_map (fun c => .bl (inT c cv_SIGNS)) (tl x) (fun a _ => ⟨[some (.str x), some (.str ⟨#[a]⟩)], rfl, by simp [fIn_chr, finO]⟩) (by rw [← hl]; exact hx)
  have hfa : fAll [.lst ((tl x).map (fun c => W.bl (inT c cv_SIGNS)))] ([] : Sto) = some (.val (.bl true)) := by
    unfold fAll
    simp only [lstOf_lst, Option.bind_some, bls_map, Option.map_some]
    rw [show ((tl x).map fun c => inT c cv_SIGNS).all id = true from by rw [List.all_map]; exact h4]
  refine vDef_rt ?_
  show b_is_name [some (.str x), none] [] = _
  unfold b_is_name
  have h3' : inT c cv_LETTERS = true := h3
  simp [isi_str, hlen, g1, g2, hix, fIn_chr, hall, hfa, finO, andS, h3']
theorem c_is_name {x : Str} (h : isNm (tl x) = true) (st : Sto) : callF true 1 m_is_name [.str x] st = some (.ok (.bl true), st) := callF_ok (m_is_name_ok h) rfl rfl rfl
theorem c_check_name {x : Str} (h : isNm (tl x) = true) (st : Sto) : callF true 1 m_u_check_name [.str x] st = some (.ok .non, st) := by
  refine callF_ok (s := []) (vDef_nx (ρ := [some (.str x)]) ?_) rfl rfl rfl
  show b_u_check_name [some (.str x)] [] = _
  unfold b_u_check_name
  simp [c_is_name h]
theorem src_row (r : List (Str × Str)) (st : Sto) : srcOf (rowW r) st = some ⟨r.map pW, []⟩ := rfl
theorem c_check_names {r : List (Str × Str)} (h : ∀ p ∈ r, isNm (tl p.2) = true) (st : Sto) : callF true 1 m_check_names [rowW r] st = some (.ok .non, st) := by
  obtain ⟨ρ', st', h1, h2⟩ := forL_inv (f := pW) (l := r.map pW) (g := gT 2 (gsCons (gN 1) (gsCons (gN 2) gsNil))) (b := vExpr (vCall true 1 m_u_check_name (vCons (vVar 2) vNil))) (fun _ ρ st => st = [] ∧ ∃ y z, ρ = [some (rowW r), y, z]) r (fun done a rest ρ st e hi => by
    obtain ⟨rfl, y, z, rfl⟩ := hi
    have ha : isNm (tl a.2) = true := h a (by rw [e]; simp)
    exact ⟨[some (rowW r), some (.str a.1), some (.str a.2)], [], by simp [pW], [some (rowW r), some (.str a.1), some (.str a.2)], [], .inl (by simp [c_check_name ha]), rfl, _, _, rfl⟩) r [] [some (rowW r), none, none] [] rfl ⟨rfl, none, none, rfl⟩
  obtain ⟨rfl, y, z, rfl⟩ := h2
  refine callF_ok (s := []) (vDef_nx (ρ := [some (rowW r), y, z]) ?_) rfl (free_row1 r) rfl
  show b_check_names [some (rowW r), none, none] [] = _
  unfold b_check_names
  simp [src_row, h1]
theorem c_names_of {r : List (Str × Str)} (h : ∀ p ∈ r, isNm (tl p.2) = true) (hn : r.length ≤ 60) (st : Sto) : callF true 1 m_names_of [rowW r] st = some (.ok (.lst ((firsts (r.map (·.2))).map W.str)), st) := by
  have hd : dcL ⟨r.map pW, []⟩ (gT 2 (gsCons (gN 2) (gsCons (gN 3) gsNil))) vYes (vVar 3) (vC (.bl true)) [some (rowW r), none, none, none] (r.map pW) [] [] = some ((firsts (r.map (·.2))).map (fun y => (([Tk.s y] : Ky), W.bl true)), []) := by
    have := dcL_run (f := pW) (l := r.map pW) (g := gT 2 (gsCons (gN 2) (gsCons (gN 3) gsNil))) (ek := vVar 3) (ev := vC (.bl true)) (ρ := [some (rowW r), none, none, none]) (st := []) (fun p => p.2) (fun _ => W.bl true) r [] (fun a ha => ⟨[some (rowW r), none, some (.str a.1), some (.str a.2)], by simp [pW], by simp, by simp⟩) (by
      have : LIM = 100000 := rfl
      simp only [List.length_nil]
      omega)
    rw [this]
    have := kv_same (fun p : Str × Str => p.2) (W.bl true) r []
    rw [List.map_nil] at this
    rw [this]
    rfl
  refine callF_ok (s := [some (.d false ((firsts (r.map (·.2))).map (fun y => (([Tk.s y] : Ky), W.bl true))))]) (vDef_rt ?_) rfl (free_row1 r) (strs_free _)
  show b_names_of [some (rowW r), none, none, none] [] = _
  unfold b_names_of
  have hk : ∀ ys : List Str, (ys.map fun y => (([Tk.s y] : Ky), W.bl true)).map (fun p => kyW p.1) = ys.map W.str := fun ys => by
    rw [List.map_map]
    rfl
  simp [c_check_names h, src_row, hd, fListV, finO]
  exact fun _ _ => rfl
theorem c_told (i : Nat) (h : i ≤ 100) (st : Sto) : callF true 1 m_told_name [.int ((i : Int) + 1)] st = some (.ok (.str (told i)), st) := by
  refine callF_ok (s := []) (vDef_rt ?_) rfl rfl rfl
  show b_told_name [some (.int ((i : Int) + 1))] [] = _
  unfold b_told_name
  have h0 : LIM = 100000 := rfl
  have e0 : Str.empty ++ ("a" : Str) = ("a" : Str) := rfl
  have e1 : (Str.empty ++ ("a" : Str)).length ≤ LIM := by rw [e0, h0]; decide
  have e2 : (("a" : Str) ++ Str.ofString (toString ((i : Int) + 1))).length ≤ LIM := by
    have := told_len i h
    unfold told at this
    rw [h0]
    omega
  have e3 : fFmt (.int ((i : Int) + 1)) ([] : Sto) = some (.val (.str (Str.ofString (toString ((i : Int) + 1))))) := if_pos (log_num i h)
  have e4 : ("a" : Str).length ≤ LIM := by rw [h0]; decide
  unfold told
  generalize Str.ofString (toString ((i : Int) + 1)) = s at e2 e3 ⊢
  simp [e0, e3, e4, e2, finO]
theorem c_kind_of {r : List (Str × Str)} (h : ∀ p ∈ r, isNm (tl p.2) = true) (hn : r.length ≤ 60) (st : Sto) : callF true 1 m_kind_of [rowW r] st = some (.ok (rowW (kinds r)), st) := by
  have hL : LIM = 100000 := rfl
  have hf := firsts_len (r.map (·.2))
  rw [List.length_map] at hf
  have hd : dcL ⟨((firsts (r.map (·.2))).zipIdx 0).map (fun p => .tup true [.int (p.2 : Nat), .str p.1]), []⟩ (gT 2 (gsCons (gN 2) (gsCons (gN 3) gsNil))) vYes (vVar 3) (vCall true 1 m_told_name (vCons (vOp false fAdd (vVar 2) (vC (.int 1))) vNil)) [some (rowW r), none, none, none, none] (((firsts (r.map (·.2))).zipIdx 0).map (fun p => .tup true [.int (p.2 : Nat), .str p.1])) [] [] = some (((firsts (r.map (·.2))).zipIdx 0).map (fun p => (([Tk.s p.1] : Ky), W.str (told p.2))), []) := by
    have := dcL_run (f := fun p : Str × Nat => W.tup true [.int (p.2 : Nat), .str p.1]) (l := ((firsts (r.map (·.2))).zipIdx 0).map (fun p => .tup true [.int (p.2 : Nat), .str p.1])) (g := gT 2 (gsCons (gN 2) (gsCons (gN 3) gsNil))) (ek := vVar 3) (ev := vCall true 1 m_told_name (vCons (vOp false fAdd (vVar 2) (vC (.int 1))) vNil)) (ρ := [some (rowW r), none, none, none, none]) (st := []) (fun p => p.1) (fun p => W.str (told p.2)) ((firsts (r.map (·.2))).zipIdx 0) [] (fun a ha => by
      have hi : a.2 ≤ 100 := by
        have := List.snd_lt_of_mem_zipIdx ha
        omega
      exact ⟨[some (rowW r), none, some (.int (a.2 : Nat)), some (.str a.1), none], by simp, by simp, by simp [finO, c_told a.2 hi]⟩) (by
      simp only [List.length_nil, List.length_zipIdx]
      omega)
    rw [this, kv_nodup (fun p : Str × Nat => p.1) (fun p => W.str (told p.2)) _ [] (by
      rw [show (fun p : Str × Nat => p.1) = Prod.fst from rfl, List.zipIdx_map_fst]
      exact firsts_nodup _) (fun a _ => by simp)]
    rfl
  have hc : lcL ⟨r.map pW, []⟩ (gT 2 (gsCons (gN 4) (gsCons (gN 3) gsNil))) vYes (vTup (vCons (vVar 4) (vCons (vDGet (vVar 1) (vVar 3)) vNil))) [some (rowW r), some (.ref 0), none, none, none] (r.map pW) [] [some (.d false (((firsts (r.map (·.2))).zipIdx 0).map (fun p => (([Tk.s p.1] : Ky), W.str (told p.2)))))] = some ((kinds r).map pW, [some (.d false (((firsts (r.map (·.2))).zipIdx 0).map (fun p => (([Tk.s p.1] : Ky), W.str (told p.2)))))]) := by
    rw [lcL_map (f := pW) (fun p => pW (p.1, told (fstAt (firsts (r.map (·.2))) p.2))) r (fun a ha => ?_) (by omega)]
    · unfold kinds
      rw [List.map_map]
      rfl
    · refine ⟨[some (rowW r), some (.ref 0), none, some (.str a.2), some (.str a.1)], by simp [pW], ?_⟩
      have hg : dGetW (.ref 0) (.str a.2) [some (.d false (((firsts (r.map (·.2))).zipIdx 0).map (fun p => (([Tk.s p.1] : Ky), W.str (told p.2)))))] = some (some (.str (told (fstAt (firsts (r.map (·.2))) a.2)))) := by
        show some (kvGet _ [Tk.s a.2]) = _
        rw [kvGet_zip (fun i => W.str (told i)) _ 0 (firsts_mem (List.mem_map_of_mem ha)), Nat.zero_add]
      simp [hg, pW]
  refine callF_ok (s := [some (.d false (((firsts (r.map (·.2))).zipIdx 0).map (fun p => (([Tk.s p.1] : Ky), W.str (told p.2)))))]) (vDef_rt ?_) rfl (free_row1 r) (rowW_free _)
  show b_kind_of [some (rowW r), none, none, none, none] [] = _
  unfold b_kind_of
  simp [c_names_of h hn, src_row, enumW_map, hd, hc]
  rfl
theorem kinds_ok {r : List (Str × Str)} (h : rowOkS r) (hn : r.length ≤ 60) : rowOkS (kinds r) := fun p hp => by
  obtain ⟨q, hq, rfl⟩ := List.mem_map.mp hp
  refine ⟨(h q hq).1, told_ok _ ?_⟩
  have h1 := fst_lt (firsts_mem (List.mem_map_of_mem (f := fun x : Str × Str => x.2) hq))
  have h2 := firsts_len (r.map (·.2))
  rw [List.length_map] at h2
  omega
theorem c_same_kind {r q : List (Str × Str)} (h : ∀ p ∈ r, isNm (tl p.2) = true) (hn : r.length ≤ 60) (h' : ∀ p ∈ q, isNm (tl p.2) = true) (hn' : q.length ≤ 60) (k : rowOkS r) (k' : rowOkS q) (st : Sto) : callF true 2 m_same_kind [rowW r, rowW q] st = some (.ok (.bl (PyData.eqv (rowD (kinds r)) (rowD (kinds q)))), st) := by
  refine callF_ok (s := []) (vDef_rt ?_) rfl (by rw [freeAll, rowW_free, free_row1]; rfl) rfl
  show b_same_kind [some (rowW r), some (rowW q)] [] = _
  unfold b_same_kind
  have e := fEq_data (neg := false) (st := []) (rowW_py 17 (kinds r) []) (rowW_py 17 (kinds q) []) ((rowD_ok (kinds_ok k hn)).shaped (by decide)) ((rowD_ok (kinds_ok k' hn')).shaped (by decide))
  simp [c_kind_of h hn, c_kind_of h' hn', e, finO]
end VS

namespace VS
open PySem PySem.Spec PyProof.Rows L2 Evl
open TL (tl len_tl ext_tl tl_append tl_mk mk_tl)
open Fw (fstAt fst_at fst_lt okS okD)
/-- a dict of names to names of ys -/
def TabOk (ys : List Str) (kvs : List (Ky × W)) : Prop := (kvs.map fun p => p.1).Nodup ∧ ∀ p ∈ kvs, ∃ k z : Str, p = (([Tk.s k] : Ky), W.str z) ∧ z ∈ ys
/-- what it makes of a name -/
def tg (kvs : List (Ky × W)) (y : Str) : Str := match kvGet kvs [.s y] with
  | some (.str z) => z
  | _ => y
def rnm (f : Str → Str) (r : List (Str × Str)) : List (Str × Str) := r.map fun p => (p.1, f p.2)
theorem kvGet_mem {kvs : List (Ky × W)} {k : Ky} {w : W} (h : kvGet kvs k = some w) : (k, w) ∈ kvs := by
  unfold kvGet at h
  obtain ⟨p, h1, h2⟩ := Option.map_eq_some_iff.mp h
  have h3 := List.find?_some h1
  have h4 := List.mem_of_find?_eq_some h1
  have h5 : p.1 = k := of_decide_eq_true h3
  rw [← h5, ← h2]
  exact h4
theorem tg_cases {ys : List Str} {kvs : List (Ky × W)} (h : TabOk ys kvs) (y : Str) : (kvGet kvs [.s y] = none ∧ tg kvs y = y) ∨ ∃ z ∈ ys, kvGet kvs [.s y] = some (.str z) ∧ tg kvs y = z := by
  cases e : kvGet kvs [.s y] with
  | none => exact .inl ⟨rfl, by unfold tg; rw [e]⟩
  | some w =>
    obtain ⟨k, z, e2, hz⟩ := h.2 _ (kvGet_mem e)
    cases e2
    exact .inr ⟨z, hz, rfl, by unfold tg; rw [e]⟩
theorem tg_nm {ys : List Str} {kvs : List (Ky × W)} (h : TabOk ys kvs) (hy : ∀ y ∈ ys, isNm (tl y) = true) {y : Str} (hn : isNm (tl y) = true) : isNm (tl (tg kvs y)) = true := by
  rcases tg_cases h y with ⟨_, e⟩ | ⟨z, hz, _, e⟩
  · rw [e]
    exact hn
  · rw [e]
    exact hy z hz
theorem tget_ok {ys : List Str} {kvs : List (Ky × W)} (h : TabOk ys kvs) {ρ : Env} {st : Sto} {y d z : M W} {dw : W} {x : Str} (hd : d ρ st = some (.ok dw, st)) (hy : y ρ st = some (.ok (.str x), st)) (hz : z ρ st = some (.ok (.str x), st)) (hs : dctOf dw st = some (false, kvs)) : vDGet2 d y z ρ st = some (.ok (.str (tg kvs x)), st) := by
  unfold vDGet2
  rw [hd, andR_ok, hs]
  dsimp only
  rw [hy, andR_ok, hz, andR_ok]
  unfold dGetW
  rw [hs]
  dsimp only
  have hk : keyW false (.str x) = some [.s x] := rfl
  rw [hk, Option.map_some, Option.map_some]
  rcases tg_cases h x with ⟨e1, e2⟩ | ⟨w, _, e1, e2⟩
  · rw [e1, e2]
    rfl
  · rw [e1, e2]
    rfl
theorem sq_ex {a b : S} {ρ ρ' : Env} {st s : Sto} {e : Xn} (h : a ρ st = some (.ex e ρ', s)) : vSeq a b ρ st = some (.ex e ρ', s) := by
  unfold vSeq
  rw [h]
theorem cons_ex {w : W} {m : M W} {ρ : Env} {st s : Sto} {e : Xn} (h : m ρ st = some (.ex e, s)) : vCons (vC w) (vCons m vNil) ρ st = some (.ex e, s) := by
  unfold vCons
  rw [e_c, andR_ok, h]
  rfl
theorem vDef_ex {N : Nat} {b : S} {ws : List W} {st s : Sto} {e : Xn} {ρ' : Env} (h : b (startV N ws) st = some (.ex e ρ', s)) : vDef N b ws st = some (.ex e, s) := by
  unfold vDef
  rw [h]
section
variable {C : Addr} {ys : List Str} {kvs : List (Ky × W)}
/-- renamed -/
theorem renamed_run (hT : TabOk ys kvs) (hy : ∀ y ∈ ys, isNm (tl y) = true) {r : List (Str × Str)} (hS : ∀ p ∈ r, isNm (tl p.2) = true) (hl : r.length ≤ 60) {st : Sto} {i : Nat} (hk : st[i]? = some (some (.d false kvs))) :
    m_renamed C [rowW r, .ref i] st = some (if ((firsts (r.map (·.2))).map (tg kvs)).Nodup then .ok (rowW (rnm (tg kvs) r)) else .ex (C, []), st) := by
  have hL : LIM = 100000 := rfl
  have hf := firsts_len (r.map (·.2))
  rw [List.length_map] at hf
  have hsub : ∀ y ∈ firsts (r.map (·.2)), isNm (tl y) = true := fun y hy => by
    obtain ⟨p, hp, rfl⟩ := List.mem_map.mp (firsts_sub hy)
    exact hS p hp
  generalize hfs : firsts (r.map (·.2)) = fs at hf hsub
  let ρ : Option W → Option W → Option W → Option W → Env := fun a b c d => [some (rowW r), some (.ref i), a, b, c, d]
  have hdc : dctOf (.ref i) st = some (false, kvs) := by simp only [dctOf, hk]
  have a1 := call_ok (ρ := ρ none none none none) (st := st) (one_ok (var_ok (i := 0) rfl)) (c_names_of hS hl st)
  rw [hfs] at a1
  let ρ2 : Option W → Option W → Option W → Env := fun b c d => ρ (some (.lst (fs.map W.str))) b c d
  have l1 := lcL_map (f := W.str) (l := fs.map W.str) (g := gN 4) (e := vDGet2 (vVar 1) (vVar 4) (vVar 4)) (ρ := ρ2 none none none) (st := st) (fun y => W.str (tg kvs y)) fs (fun y hy => ⟨ρ2 none (some (.str y)) none, rfl, tget_ok hT (var_ok (i := 1) rfl) (var_ok (i := 4) rfl) (var_ok (i := 4) rfl) hdc⟩) (by omega)
  have e1 : fs.map (fun y => W.str (tg kvs y)) = (fs.map (tg kvs)).map W.str := by rw [List.map_map]; rfl
  rw [e1] at l1
  let ρ3 : Option W → Option W → Env := fun c d => ρ2 (some (.lst ((fs.map (tg kvs)).map W.str))) c d
  have a2 := set_ok (i := 3) (lc_ok (ρ := ρ2 none none none) (vs := [4]) (src_ok (l := fs.map W.str) (var_ok (i := 2) rfl)) (show lcL _ _ _ _ (wipeV (ρ2 none none none) [4]) _ _ _ = _ from l1))
  have a3 : vLenSetS (vVar 3) (ρ3 none none) st = some (.ok (.int (cntS (fs.map (tg kvs)).reverse : Nat)), st) := by
    unfold vLenSetS
    rw [var_ok (i := 3) (w := .lst ((fs.map (tg kvs)).map W.str)) rfl, andR_ok]
    have e : lstOf (.lst ((fs.map (tg kvs)).map W.str)) st = some ((fs.map (tg kvs)).map W.str) := rfl
    rw [e, Option.bind_some, strsW_map, Option.bind_some, if_pos (by rw [List.length_map]; omega)]
    rfl
  have lenf : vCB false fLen (vCons (vVar 2) vNil) (ρ3 none none) st = some (.ok (.int (fs.length : Nat)), st) :=
    len_ok (f := W.str) (a := fs) (var_ok (i := 2) rfl)
  have a4 : vB (vOp false (fI gLt) (vLenSetS (vVar 3)) (vCB false fLen (vCons (vVar 2) vNil))) (ρ3 none none) st = some (.ok (decide ((cntS (fs.map (tg kvs)).reverse : Int) < (fs.length : Int))), st) := by
    refine b_ok ?_
    rw [e_op, a3, andR_ok, lenf, andR_ok]
    rfl
  by_cases hnd : (fs.map (tg kvs)).Nodup
  · rw [if_pos hnd]
    refine vDef_rt ?_
    show b_renamed C (ρ none none none none) st = _
    unfold b_renamed
    refine (sq_nx (set_ok a1)).trans ?_
    refine (sq_nx a2).trans ?_
    have hcnt : cntS (fs.map (tg kvs)).reverse = fs.length := by
      rw [(cntS_full _).mpr (List.reverse_perm _ |>.nodup_iff.mpr hnd), List.length_reverse, List.length_map]
    rw [hcnt, decide_eq_false (Int.lt_irrefl _)] at a4
    refine (sq_nx (if_f a4 (show vNext (ρ3 none none) st = some (.nx (ρ3 none none), st) from rfl))).trans ?_
    obtain ⟨ρ', st', hloop, y4, rfl, rfl⟩ := forL_inv (f := W.str) (l := (fs.map (tg kvs)).map W.str) (g := gN 4) (b := vExpr (vCall true 1 m_u_check_name (vCons (vVar 4) vNil))) (fun _ ρ t => ∃ y4, ρ = ρ3 y4 none ∧ t = st) (fs.map (tg kvs)) (fun done y rest ρ t e hi2 => by
      obtain ⟨y4, rfl, rfl⟩ := hi2
      have hy2 : y ∈ fs.map (tg kvs) := by rw [e]; simp
      obtain ⟨y0, hy0, rfl⟩ := List.mem_map.mp hy2
      exact ⟨ρ3 (some (.str (tg kvs y0))) none, t, rfl, ρ3 (some (.str (tg kvs y0))) none, t, .inl (expr_ok (call_ok (one_ok (var_ok (i := 4) rfl)) (c_check_name (tg_nm hT hy (hsub y0 hy0)) t))), _, rfl, rfl⟩) (fs.map (tg kvs)) [] (ρ3 none none) st rfl ⟨none, rfl, rfl⟩
    refine (sq_nx ((for_ok (src_ok (l := (fs.map (tg kvs)).map W.str) (var_ok (ρ := ρ3 none none) (i := 3) rfl))).trans hloop)).trans ?_
    have l2 := lcL_map (f := pW) (l := r.map pW) (g := gT 2 (gsCons (gN 5) (gsCons (gN 4) gsNil))) (e := vTup (vCons (vVar 5) (vCons (vDGet2 (vVar 1) (vVar 4) (vVar 4)) vNil))) (ρ := ρ3 none none) (st := st') (fun p => pW (p.1, tg kvs p.2)) r (fun p hp => ⟨ρ3 (some (.str p.2)) (some (.str p.1)), rfl, tup2_ok (var_ok (i := 5) rfl) (tget_ok hT (var_ok (i := 1) rfl) (var_ok (i := 4) rfl) (var_ok (i := 4) rfl) hdc)⟩) (by omega)
    refine ret_ok ((lc_ok (ρ := ρ3 y4 none) (vs := [5, 4]) (src_ok (l := r.map pW) (var_ok (i := 0) rfl)) (show lcL _ _ _ _ (wipeV (ρ3 y4 none) [5, 4]) _ _ _ = _ from l2)).trans ?_)
    unfold rnm rowW
    rw [List.map_map]
    rfl
  · rw [if_neg hnd]
    refine vDef_ex (ρ' := ρ3 none none) ?_
    show b_renamed C (ρ none none none none) st = _
    unfold b_renamed
    refine (sq_nx (set_ok a1)).trans ?_
    refine (sq_nx a2).trans ?_
    have h1 := cntS_le (fs.map (tg kvs)).reverse
    have h2 : cntS (fs.map (tg kvs)).reverse ≠ (fs.map (tg kvs)).reverse.length := fun z => hnd (List.reverse_perm _ |>.nodup_iff.mp ((cntS_full _).mp z))
    rw [List.length_reverse, List.length_map] at h1 h2
    rw [decide_eq_true (by omega)] at a4
    exact sq_ex (if_t a4 rfl)
def toldW (b : Bool) (r : List (Str × Str)) : W := if b = true then .tup true [.str "told", rowW r] else .tup true [.str "question", .lst []]
theorem told_run (hT : TabOk ys kvs) (hy : ∀ y ∈ ys, isNm (tl y) = true) {r : List (Str × Str)} (hS : ∀ p ∈ r, isNm (tl p.2) = true) (hl : r.length ≤ 60) {st : Sto} {i : Nat} (hk : st[i]? = some (some (.d false kvs))) :
    callF false 2 (m_u_law_told C) [rowW r, .ref i] st = some (.ok (toldW (decide ((firsts (r.map (·.2))).map (tg kvs)).Nodup) (rnm (tg kvs) r)), st) := by
  have h := renamed_run (C := C) hT hy hS hl hk
  refine (callI (n := 2) rfl).trans ?_
  let ρ : Option W → Env := fun a => [some (rowW r), some (.ref i), a]
  refine vDef_rt ?_
  show b_u_law_told C (ρ none) st = _
  unfold b_u_law_told
  have hc : vCall false 2 (m_renamed C) (vCons (vVar 0) (vCons (vVar 1) vNil)) (ρ none) st = m_renamed C [rowW r, .ref i] st := by
    unfold vCall
    rw [cons_ok (var_ok (i := 0) (w := rowW r) rfl) (one_ok (var_ok (i := 1) (w := .ref i) rfl)), andR_ok]
    exact callI (n := 2) rfl
  by_cases hnd : ((firsts (r.map (·.2))).map (tg kvs)).Nodup
  · rw [if_pos hnd] at h
    rw [h] at hc
    have hb : vRet (vTup (vCons (vC (.str "told")) (vCons (vCall false 2 (m_renamed C) (vCons (vVar 0) (vCons (vVar 1) vNil))) vNil))) (ρ none) st = some (.rt (.tup true [.str "told", rowW (rnm (tg kvs) r)]), st) := ret_ok (tup2_ok c_ok hc)
    unfold vTryAll
    rw [hb, decide_eq_true hnd]
    rfl
  · rw [if_neg hnd] at h
    rw [h] at hc
    have hb : vRet (vTup (vCons (vC (.str "told")) (vCons (vCall false 2 (m_renamed C) (vCons (vVar 0) (vCons (vVar 1) vNil))) vNil))) (ρ none) st = some (.ex (C, []) (ρ none), st) := by
      rw [e_ret, e_tup, cons_ex hc]
      rfl
    unfold vTryAll
    rw [hb, decide_eq_false hnd]
    dsimp only
    rw [if_pos ⟨if_pos rfl, rfl⟩]
    refine everyA_eq fun a => ?_
    have hi : ∀ ko : Addr → Option Bool, ko C = some true → vIsE a C ko 2 (ρ (some (.raw (.ref a)))) st = some (.ok (.bl true), st) := fun ko e => by
      show (if a = a then (ko C).map fun b => (R.ok (W.bl b), st) else none) = _
      rw [if_pos rfl, e]
      rfl
    show clr 2 (vRet _ (ρ (some (.raw (.ref a)))) st) = _
    have hp : (if C = C then some true else none) = some true := if_pos rfl
    have h3 : vOp false fIx (vLst false (vCons (vC (.str "wrong")) (vCons (vC (.str "question")) vNil))) (vCB false fInt1 (vCons (vAndV (vIsE a C (fun A => if A = C then some true else none) 2) (vIsE a C (fun A => if A = C then some true else none) 2)) vNil)) (ρ (some (.raw (.ref a)))) st = some (.ok (.str "question"), st) := by
      refine op_ok (lst2_ok c_ok c_ok) (cb_ok (one_ok (andv_t (hi _ hp) (hi _ hp))) rfl) rfl
    rw [ret_ok (tup2_ok h3 (show vLst false vNil _ st = some (.ok (.lst []), st) from rfl))]
    rfl
end
end VS

namespace VS
open PySem PySem.Spec PyProof.Rows L2 Evl
open TL (tl len_tl ext_tl tl_append tl_mk mk_tl)
open Fw (fstAt fst_at fst_lt okS okD)
theorem c_names {n0 : Int} (h0 : 0 ≤ n0) (h1 : n0 < 1009) {m : Nat} (hm : m ≤ 12) (st : Sto) : callF true 2 m_u_law_names [.int n0, .int (m : Nat)] st = some (.ok (.lst ((namesOf n0 m).map W.str)), st) :=
  callF_ok (mf := vDef 11 (namesZ SIGs)) (vDef_rt (names_run ixz h0 h1 hm).2) rfl rfl (strs_free _)
def RowIn (ys : List Str) (r : List (Str × Str)) : Prop := r.length ≤ 9 ∧ ∀ p ∈ r, (p.1 = "in" ∨ p.1 = "out") ∧ p.2 ∈ ys
/-- the law's slots -/
def eL (nm : List Int) (ns : List Str) (z3 z4 z5 z6 z7 z8 z9 z10 z11 : Option W) : Env := [none, some (intsW nm), some (.lst (ns.map W.str)), z3, z4, z5, z6, z7, z8, z9, z10, z11]
noncomputable def rowB : S := vExpr (vMut mAppend (vVar 3) (vCons (vTup (vCons (vOp false fIx (vLst false (vCons (vC (.str "in")) (vCons (vC (.str "out")) vNil))) (vOp false (fI gMod) (vCB false fInt1 (vCons (vOp false fIx (vVar 1) (vOp false fAdd (vC (.int 10)) (vOp false (fI gMul) (vC (.int 2)) (vVar 4)))) vNil)) (vC (.int 2)))) (vCons (vOp false fIx (vVar 2) (vOp false (fI gMod) (vCB false fInt1 (vCons (vOp false fIx (vVar 1) (vOp false fAdd (vC (.int 11)) (vOp false (fI gMul) (vC (.int 2)) (vVar 4)))) vNil)) (vC (.int 5)))) vNil))) vNil))
noncomputable def tabB : S := vDPut (vVar 5) (vOp false fIx (vVar 2) (vOp false (fI gMod) (vCB false fInt1 (vCons (vOp false fIx (vVar 1) (vOp false fAdd (vC (.int 40)) (vOp false (fI gMul) (vC (.int 2)) (vVar 4)))) vNil)) (vC (.int 7)))) (vOp false fIx (vVar 2) (vOp false (fI gMod) (vCB false fInt1 (vCons (vOp false fIx (vVar 1) (vOp false fAdd (vC (.int 41)) (vOp false (fI gMul) (vC (.int 2)) (vVar 4)))) vNil)) (vC (.int 9))))
noncomputable def knownB : S := vIfS (vB (vOp false (fIn true) (vVar 8) (vVar 6))) (vExpr (vMut mAppend (vVar 6) (vCons (vVar 8) vNil))) vNext
section
variable {nm : List Int} {ns : List Str}
/-- one of the names -/
theorem pick_ok (hn : nm.length = 60) (hns : ns.length = 9) {a : Int} {m : Int} {k : Nat} (ha : 0 ≤ a) (hk : a + 2 * (k : Int) < 60) (hm : 0 < m ∧ m ≤ 9) {z3 z5 z6 z7 z8 z9 z10 z11 : Option W} {st : Sto} :
    ∃ y ∈ ns, vOp false fIx (vVar 2) (vOp false (fI gMod) (vCB false fInt1 (vCons (vOp false fIx (vVar 1) (vOp false fAdd (vC (.int a)) (vOp false (fI gMul) (vC (.int 2)) (vVar 4)))) vNil)) (vC (.int m))) (eL nm ns z3 (some (.int (k : Int))) z5 z6 z7 z8 z9 z10 z11) st = some (.ok (.str y), st) := by
  let ρ := eL nm ns z3 (some (.int (k : Int))) z5 z6 z7 z8 z9 z10 z11
  have i1 := add_ok (ρ := ρ) (st := st) (c_ok (w := .int a)) (mul_ok (c := 2) (var_ok (i := 4) (w := .int (k : Int)) rfl) (by decide))
  have v1 := modv_ok (ixn_ok (x := vVar 1) (var_ok (ρ := ρ) (i := 1) (w := intsW nm) rfl) i1 (by omega) (by omega)) hm.1
  have q1 := Int.emod_nonneg (nm.getD (a + 2 * (k : Int)).toNat 0) (show m ≠ 0 by omega)
  have q2 := Int.emod_lt_of_pos (nm.getD (a + 2 * (k : Int)).toNat 0) hm.1
  generalize nm.getD (a + 2 * (k : Int)).toNat 0 % m = q at v1 q1 q2
  have q3 : q < (ns.length : Int) := by
    rw [hns]
    have := hm.2
    show q < 9
    omega
  exact ⟨_, getD_in q1 q3 "", ixl_ok (f := W.str) (l := ns) (d := "") (var_ok (ρ := ρ) (i := 2) (w := .lst (ns.map W.str)) rfl) v1 q1 q3⟩
theorem dir_ok (hn : nm.length = 60) {k : Nat} (hk : 10 + 2 * (k : Int) < 60) {z3 z5 z6 z7 z8 z9 z10 z11 : Option W} {st : Sto} :
    ∃ y : Str, (y = "in" ∨ y = "out") ∧ vOp false fIx (vLst false (vCons (vC (.str "in")) (vCons (vC (.str "out")) vNil))) (vOp false (fI gMod) (vCB false fInt1 (vCons (vOp false fIx (vVar 1) (vOp false fAdd (vC (.int 10)) (vOp false (fI gMul) (vC (.int 2)) (vVar 4)))) vNil)) (vC (.int 2))) (eL nm ns z3 (some (.int (k : Int))) z5 z6 z7 z8 z9 z10 z11) st = some (.ok (.str y), st) := by
  let ρ := eL nm ns z3 (some (.int (k : Int))) z5 z6 z7 z8 z9 z10 z11
  have i1 := add_ok (ρ := ρ) (st := st) (c_ok (w := .int 10)) (mul_ok (c := 2) (var_ok (i := 4) (w := .int (k : Int)) rfl) (by decide))
  have v1 := modv_ok (ixn_ok (x := vVar 1) (var_ok (ρ := ρ) (i := 1) (w := intsW nm) rfl) i1 (by omega) (by omega)) (m := 2) (by decide)
  have q1 := Int.emod_nonneg (nm.getD (10 + 2 * (k : Int)).toNat 0) (show (2 : Int) ≠ 0 by decide)
  have q2 := Int.emod_lt_of_pos (nm.getD (10 + 2 * (k : Int)).toNat 0) (show (0 : Int) < 2 by decide)
  have h := ixl_ok (f := W.str) (l := ["in", "out"]) (d := "") (lst2_ok (c_ok (ρ := ρ) (w := .str "in")) (c_ok (w := .str "out"))) v1 q1 q2
  have m1 := getD_in (l := (["in", "out"] : List Str)) q1 q2 ""
  refine ⟨_, ?_, h⟩
  simpa using m1
theorem row_loop (hn : nm.length = 60) (hns : ns.length = 9) {c : Nat} (hc : c ≤ 9) : ∃ r z4, RowIn ns r ∧ forL ⟨(List.range c).map fun i : Nat => W.int (i : Int), []⟩ (gN 4) rowB ((List.range c).map fun i : Nat => W.int (i : Int)) (eL nm ns (some (.ref 0)) none none none none none none none none) [some (.l [])] = some (.nx (eL nm ns (some (.ref 0)) z4 none none none none none none none), [some (.l (r.map pW))]) := by
  have hL : LIM = 100000 := rfl
  obtain ⟨ρ', st', hf, r, z4, h1, h2, rfl, rfl⟩ := forL_inv (f := fun i : Nat => W.int (i : Int)) (l := (List.range c).map fun i : Nat => W.int (i : Int)) (g := gN 4) (b := rowB) (fun done ρ s => ∃ (r : List (Str × Str)) (z4 : Option W), r.length = done.length ∧ (∀ p ∈ r, (p.1 = "in" ∨ p.1 = "out") ∧ p.2 ∈ ns) ∧ ρ = eL nm ns (some (.ref 0)) z4 none none none none none none none ∧ s = [some (.l (r.map pW))]) (List.range c) (fun done k rest ρ s e hi => by
    obtain ⟨r, z4, h1, h2, rfl, rfl⟩ := hi
    have hk : k < c := List.mem_range.mp (by rw [e]; simp)
    have hd : done.length < c := by
      have := congrArg List.length e
      rw [List.length_range, List.length_append, List.length_cons] at this
      omega
    obtain ⟨d, hd1, hd2⟩ := dir_ok (ns := ns) hn (k := k) (by omega) (z3 := some (.ref 0)) (z5 := none) (z6 := none) (z7 := none) (z8 := none) (z9 := none) (z10 := none) (z11 := none) (st := [some (.l (r.map pW))])
    obtain ⟨y, hy1, hy2⟩ := pick_ok hn hns (a := 11) (m := 5) (k := k) (by decide) (by omega) (by decide) (z3 := some (.ref 0)) (z5 := none) (z6 := none) (z7 := none) (z8 := none) (z9 := none) (z10 := none) (z11 := none) (st := [some (.l (r.map pW))])
    refine ⟨eL nm ns (some (.ref 0)) (some (.int (k : Int))) none none none none none none none, _, rfl, _, _, .inl (mut_at (i := 0) (l := r.map pW) (var_ok (i := 3) rfl) rfl (tup2_ok hd2 hy2) (by rw [List.length_map]; omega)), r ++ [(d, y)], _, ?_, fun p hp => ?_, rfl, ?_⟩
    · rw [List.length_append, List.length_append, h1]
      rfl
    · rcases List.mem_append.mp hp with h | h
      · exact h2 p h
      · rw [List.mem_singleton.mp h]
        exact ⟨hd1, hy1⟩
    · rw [List.map_append]
      rfl) (List.range c) [] (eL nm ns (some (.ref 0)) none none none none none none none none) [some (.l [])] rfl ⟨[], none, rfl, (fun p hp => by cases hp), rfl, rfl⟩
  exact ⟨r, z4, ⟨by rw [h1, List.length_range]; exact hc, h2⟩, hf⟩
theorem tab_put {ys : List Str} {kvs : List (Ky × W)} (h : TabOk ys kvs) {k z : Str} (hz : z ∈ ys) : TabOk ys (kvPut kvs [.s k] (.str z)) ∧ (kvPut kvs [.s k] (.str z)).length ≤ kvs.length + 1 := by
  unfold kvPut
  split
  · refine ⟨⟨?_, fun p hp => ?_⟩, by simp⟩
    · have e : (kvs.map fun p => if p.1 = ([Tk.s k] : Ky) then (p.1, W.str z) else p).map (fun p => p.1) = kvs.map fun p => p.1 := by
        rw [List.map_map]
        refine List.map_congr_left fun p _ => ?_
        show (if p.1 = ([Tk.s k] : Ky) then (p.1, W.str z) else p).1 = p.1
        split <;> rfl
      rw [e]
      exact h.1
    · obtain ⟨q, hq, rfl⟩ := List.mem_map.mp hp
      split
      · rename_i e
        exact ⟨k, z, by rw [e], hz⟩
      · exact h.2 q hq
  · rename_i hne
    refine ⟨⟨?_, fun p hp => ?_⟩, by simp⟩
    · rw [List.map_append, List.nodup_append]
      refine ⟨h.1, by simp, fun a ha b hb => ?_⟩
      rw [List.mem_map] at ha
      obtain ⟨p, hp, rfl⟩ := ha
      have eb : b = ([Tk.s k] : Ky) := by simpa using hb
      rw [eb]
      intro z2
      exact hne (List.any_eq_true.mpr ⟨p, hp, decide_eq_true z2⟩)
    · rcases List.mem_append.mp hp with hp | hp
      · exact h.2 p hp
      · exact ⟨k, z, List.mem_singleton.mp hp, hz⟩
theorem tab_loop (hn : nm.length = 60) (hns : ns.length = 9) {c : Nat} (hc : c ≤ 4) {r : W} {z4 : Option W} : ∃ kvs z4', TabOk ns kvs ∧ forL ⟨(List.range c).map fun i : Nat => W.int (i : Int), []⟩ (gN 4) tabB ((List.range c).map fun i : Nat => W.int (i : Int)) (eL nm ns (some r) z4 (some (.ref 1)) none none none none none none) [none, some (.d false [])] = some (.nx (eL nm ns (some r) z4' (some (.ref 1)) none none none none none none), [none, some (.d false kvs)]) := by
  have hL : LIM = 100000 := rfl
  obtain ⟨ρ', st', hf, kvs, z4', h1, h2, rfl, rfl⟩ := forL_inv (f := fun i : Nat => W.int (i : Int)) (l := (List.range c).map fun i : Nat => W.int (i : Int)) (g := gN 4) (b := tabB) (fun done ρ s => ∃ (kvs : List (Ky × W)) (z4 : Option W), kvs.length ≤ done.length ∧ TabOk ns kvs ∧ ρ = eL nm ns (some r) z4 (some (.ref 1)) none none none none none none ∧ s = [none, some (.d false kvs)]) (List.range c) (fun done k rest ρ s e hi => by
    obtain ⟨kvs, z4, h1, h2, rfl, rfl⟩ := hi
    have hk : k < c := List.mem_range.mp (by rw [e]; simp)
    have hd : done.length < c := by
      have := congrArg List.length e
      rw [List.length_range, List.length_append, List.length_cons] at this
      omega
    obtain ⟨x, hx1, hx2⟩ := pick_ok hn hns (a := 40) (m := 7) (k := k) (by decide) (by omega) (by decide) (z3 := some r) (z5 := some (.ref 1)) (z6 := none) (z7 := none) (z8 := none) (z9 := none) (z10 := none) (z11 := none) (st := [none, some (.d false kvs)])
    obtain ⟨y, hy1, hy2⟩ := pick_ok hn hns (a := 41) (m := 9) (k := k) (by decide) (by omega) (by decide) (z3 := some r) (z5 := some (.ref 1)) (z6 := none) (z7 := none) (z8 := none) (z9 := none) (z10 := none) (z11 := none) (st := [none, some (.d false kvs)])
    obtain ⟨t1, t2⟩ := tab_put h2 (k := x) hy1
    refine ⟨eL nm ns (some r) (some (.int (k : Int))) (some (.ref 1)) none none none none none none, _, rfl, _, _, .inl (dput_ok (n := 1) (t := false) (kvs := kvs) (ky := [Tk.s x]) hy2 (var_ok (i := 5) rfl) hx2 rfl rfl (by omega)), _, _, ?_, t1, rfl, rfl⟩
    rw [List.length_append, List.length_singleton]
    omega) (List.range c) [] (eL nm ns (some r) z4 (some (.ref 1)) none none none none none none) [none, some (.d false [])] rfl ⟨[], z4, Nat.le_refl _, ⟨List.nodup_nil, (fun p hp => by cases hp)⟩, rfl, rfl⟩
  exact ⟨kvs, z4', h2, hf⟩
theorem known_loop {r : List (Str × Str)} (hr : r.length ≤ 9) {z4 z5 : Option W} {c : Option Cell} : ∃ z7 z8, forL ⟨r.map pW, []⟩ (gT 2 (gsCons (gN 7) (gsCons (gN 8) gsNil))) knownB (r.map pW) (eL nm ns (some (rowW r)) z4 z5 (some (.ref 2)) none none none none none) [none, c, some (.l [])] = some (.nx (eL nm ns (some (rowW r)) z4 z5 (some (.ref 2)) z7 z8 none none none), [none, c, some (.l ((firsts (r.map (·.2))).map W.str))]) := by
  have hL : LIM = 100000 := rfl
  obtain ⟨ρ', st', hf, z7, z8, rfl, rfl⟩ := forL_inv (f := pW) (l := r.map pW) (g := gT 2 (gsCons (gN 7) (gsCons (gN 8) gsNil))) (b := knownB) (fun done ρ s => ∃ z7 z8 : Option W, ρ = eL nm ns (some (rowW r)) z4 z5 (some (.ref 2)) z7 z8 none none none ∧ s = [none, c, some (.l ((firsts (done.map (·.2))).map W.str))]) r (fun done a rest ρ s e hi => by
    obtain ⟨z7, z8, rfl, rfl⟩ := hi
    have em : firsts ((done ++ [a]).map (·.2)) = putS (firsts (done.map (·.2))) a.2 := by
      rw [List.map_append]
      exact firsts_snoc _ _
    have l1 : (firsts (done.map (·.2))).length ≤ 9 := by
      have := firsts_len (done.map (·.2))
      rw [List.length_map] at this
      have := congrArg List.length e
      rw [List.length_append, List.length_cons] at this
      omega
    rw [em]
    generalize firsts (done.map (·.2)) = L1 at l1
    let ρ1 := eL nm ns (some (rowW r)) z4 z5 (some (.ref 2)) (some (.str a.1)) (some (.str a.2)) none none none
    have hin := fIn_strs (neg := true) (x := a.2) (w := .ref 2) (ys := L1) (st := [none, c, some (.l (L1.map W.str))]) rfl
    have ht : vB (vOp false (fIn true) (vVar 8) (vVar 6)) ρ1 [none, c, some (.l (L1.map W.str))] = some (.ok (!decide (a.2 ∈ L1)), [none, c, some (.l (L1.map W.str))]) := b_ok (op_ok (var_ok (i := 8) rfl) (var_ok (i := 6) rfl) hin)
    refine ⟨ρ1, _, rfl, ρ1, [none, c, some (.l ((putS L1 a.2).map W.str))], .inl ?_, _, _, rfl, rfl⟩
    unfold putS
    by_cases hx : a.2 ∈ L1
    · rw [if_pos hx]
      rw [decide_eq_true hx] at ht
      exact if_f ht rfl
    · rw [if_neg hx]
      rw [decide_eq_false hx] at ht
      refine (if_t ht (mut_at (i := 2) (l := L1.map W.str) (var_ok (i := 6) rfl) rfl (var_ok (i := 8) rfl) (by rw [List.length_map]; omega))).trans ?_
      rw [List.map_append]
      rfl) r [] (eL nm ns (some (rowW r)) z4 z5 (some (.ref 2)) none none none none none) [none, c, some (.l [])] rfl ⟨none, none, rfl, rfl⟩
  exact ⟨z7, z8, hf⟩
end
end VS

namespace VS
open PySem PySem.Spec PyProof.Rows L2 Evl
open TL (tl len_tl ext_tl tl_append tl_mk mk_tl)
open Fw (fstAt fst_at fst_lt okS okD)
theorem fst_map {f : Str → Str} : ∀ {l : List Str} {x : Str}, (∀ y ∈ l, f y = f x → y = x) → x ∈ l → fstAt (l.map f) (f x) = fstAt l x
  | y :: l, x, hi, hx => by
    rw [List.map_cons]
    by_cases e : y = x
    · subst e
      show (if f y = f y then 0 else _) = if y = y then 0 else _
      rw [if_pos rfl, if_pos rfl]
    · have ne : f y ≠ f x := fun z => e (hi y List.mem_cons_self z)
      have hx2 : x ∈ l := (List.mem_cons.mp hx).resolve_left fun z => e z.symm
      have ih := fst_map (f := f) (l := l) (x := x) (fun z hz => hi z (List.mem_cons_of_mem _ hz)) hx2
      show (if f y = f x then 0 else fstAt (l.map f) (f x) + 1) = if y = x then 0 else fstAt l x + 1
      rw [if_neg ne, if_neg e, ih]
theorem inj_of {f : Str → Str} : ∀ {l : List Str}, (l.map f).Nodup → ∀ x ∈ l, ∀ y ∈ l, f x = f y → x = y
  | [], _, x, hx, _, _, _ => by cases hx
  | a :: l, h, x, hx, y, hy, e => by
    rw [List.map_cons, List.nodup_cons] at h
    rcases List.mem_cons.mp hx with ex | hx
    · rcases List.mem_cons.mp hy with ey | hy
      · rw [ex, ey]
      · exact absurd (ex ▸ e ▸ List.mem_map_of_mem (f := f) hy) h.1
    · rcases List.mem_cons.mp hy with ey | hy
      · exact absurd (ey ▸ e ▸ List.mem_map_of_mem (f := f) hx) h.1
      · exact inj_of h.2 x hx y hy e
theorem fold_map {f : Str → Str} : ∀ (xs acc : List Str), (∀ x ∈ acc ++ xs, ∀ y ∈ acc ++ xs, f x = f y → x = y) → (xs.map f).foldl putS (acc.map f) = (xs.foldl putS acc).map f
  | [], _, _ => rfl
  | x :: xs, acc, h => by
    have e : putS (acc.map f) (f x) = (putS acc x).map f := by
      unfold putS
      by_cases hx : x ∈ acc
      · rw [if_pos hx, if_pos (List.mem_map_of_mem hx)]
      · rw [if_neg hx, if_neg fun z => by
          obtain ⟨y, hy, ey⟩ := List.mem_map.mp z
          have := h y (List.mem_append_left _ hy) x (List.mem_append_right _ List.mem_cons_self) ey
          exact hx (this ▸ hy), List.map_append]
        rfl
    rw [List.map_cons, List.foldl_cons, List.foldl_cons, e]
    refine fold_map xs (putS acc x) fun y hy z hz => h y ?_ z ?_
    · rcases List.mem_append.mp hy with hy | hy
      · rcases mem_putS hy with hy | hy
        · exact List.mem_append_left _ hy
        · exact List.mem_append_right _ (hy ▸ List.mem_cons_self)
      · exact List.mem_append_right _ (List.mem_cons_of_mem _ hy)
    · rcases List.mem_append.mp hz with hz | hz
      · rcases mem_putS hz with hz | hz
        · exact List.mem_append_left _ hz
        · exact List.mem_append_right _ (hz ▸ List.mem_cons_self)
      · exact List.mem_append_right _ (List.mem_cons_of_mem _ hz)
/-- the kind of the renamed row -/
theorem kinds_rnm {f : Str → Str} {r : List (Str × Str)} (h : ((firsts (r.map (·.2))).map f).Nodup) : kinds (rnm f r) = kinds r := by
  have hi := inj_of h
  have e1 : (rnm f r).map (·.2) = (r.map (·.2)).map f := by
    unfold rnm
    rw [List.map_map, List.map_map]
    rfl
  have e2 : firsts ((rnm f r).map (·.2)) = (firsts (r.map (·.2))).map f := by
    rw [e1]
    exact fold_map _ [] fun x hx y hy => hi x (firsts_mem hx) y (firsts_mem hy)
  unfold kinds
  rw [e2]
  show (r.map _).map _ = _
  rw [List.map_map]
  refine List.map_congr_left fun p hp => ?_
  have hm := firsts_mem (List.mem_map_of_mem (f := fun q : Str × Str => q.2) hp)
  show (p.1, told (fstAt ((firsts (r.map (·.2))).map f) (f p.2))) = _
  rw [fst_map (fun y hy => hi y hy p.2 hm) hm]
theorem getD_at {L : List Str} {k : Nat} (h : k < L.length) : L.getD k "" = L[k] := by
  rw [List.getD_eq_getElem?_getD, List.getElem?_eq_getElem h]
  rfl
/-- is there one that stands ahead, too? -/
def dupAt (L : List Str) (k : Nat) : Bool := decide (L.getD k "" ∈ L.take k)
theorem dup_iff (L : List Str) : ((List.range L.length).filter (dupAt L)).length = 0 ↔ L.Nodup := by
  rw [List.length_eq_zero_iff, List.filter_eq_nil_iff]
  constructor
  · intro h
    refine List.pairwise_iff_getElem.mpr fun i j hi hj hij e => h j (List.mem_range.mpr hj) (decide_eq_true ?_)
    rw [getD_at hj, ← e]
    exact List.mem_take_iff_getElem.mpr ⟨i, by omega, rfl⟩
  · intro h k hk z
    have hk := List.mem_range.mp hk
    have z := of_decide_eq_true z
    rw [getD_at hk] at z
    obtain ⟨i, hi, e⟩ := List.mem_take_iff_getElem.mp z
    exact List.pairwise_iff_getElem.mp h i k (by omega) hk (by omega) e
theorem dir_asc {x : Str} (h : x = "in" ∨ x = "out") : Asc x ∧ x.length ≤ 12 := by
  rcases h with rfl | rfl
  · exact ⟨lit_asc _ (by decide +kernel), by decide⟩
  · exact ⟨lit_asc _ (by decide +kernel), by decide⟩
/-- rows that can be shown -/
def RowA (r : List (Str × Str)) : Prop := r.length ≤ 9 ∧ ∀ p ∈ r, (p.1 = "in" ∨ p.1 = "out") ∧ isNm (tl p.2) = true
theorem rowA_pln {r : List (Str × Str)} (h : RowA r) : Pln 3 2280 (rowD r) := by
  refine Pln.up (pln_list (f := pD) (n := 2) (c := 251) (k := 9) (fun p hp => ?_) h.1) (by decide)
  obtain ⟨h1, h2⟩ := h.2 p hp
  refine Pln.up (pln_tup (f := PyData.str) (n := 1) (c := 122) (k := 2) (as := [p.1, p.2]) (fun x hx => ?_) (Nat.le_refl _)) (by decide)
  rcases List.mem_cons.mp hx with rfl | hx
  · exact pln_str (dir_asc h1).1 (dir_asc h1).2 1
  · rw [List.mem_singleton.mp hx]
    exact pln_str (nm_asc h2) (isNm_sgs h2).2 1
theorem rowA_ok {r : List (Str × Str)} (h : RowA r) : rowOkS r := fun p hp => ⟨asc_ok (dir_asc (h.2 p hp).1).1, asc_ok (nm_asc (h.2 p hp).2)⟩
def toldD (b : Bool) (r : List (Str × Str)) : PyData := if b = true then .tuple [.str "told", rowD r] else .tuple [.str "question", .list []]
theorem told_pln (b : Bool) {r : List (Str × Str)} (h : RowA r) : Pln 4 4567 (toldD b r) := by
  cases b with
  | true =>
    refine Pln.up (pln_tup (f := id) (n := 3) (c := 2280) (k := 2) (as := [.str "told", rowD r]) (fun x hx => ?_) (Nat.le_refl _)) (by decide)
    rcases List.mem_cons.mp hx with rfl | hx
    · exact Pln.up (pln_str (lit_asc "told" (by decide +kernel)) (by decide) 3) (by decide)
    · rw [List.mem_singleton.mp hx]
      exact rowA_pln h
  | false =>
    refine Pln.up (pln_tup (f := id) (n := 3) (c := 2280) (k := 2) (as := [.str "question", .list []]) (fun x hx => ?_) (Nat.le_refl _)) (by decide)
    rcases List.mem_cons.mp hx with rfl | hx
    · exact Pln.up (pln_str (lit_asc "question" (by decide +kernel)) (by decide) 3) (by decide)
    · rw [List.mem_singleton.mp hx]
      exact Pln.up (pln_list (f := pD) (n := 2) (c := 251) (k := 9) (as := []) (fun p hp => by cases hp) (by decide)) (by decide)
theorem told_py (b : Bool) (r : List (Str × Str)) (st : Sto) : pyOf st (toldW b r) = some (toldD b r) := by
  cases b with
  | true =>
    show (pyL (pyN 19 st) [.str "told", rowW r]).map PyData.tuple = _
    unfold pyL
    rw [show pyN 19 st (.str "told") = some (.str "told") from rfl]
    unfold pyL
    rw [rowW_py 16 r st]
    rfl
  | false => rfl
theorem told_repr (b : Bool) {r : List (Str × Str)} (h : RowA r) (st : Sto) : fReprV [toldW b r] st = some (.val (.str (toldD b r).shown)) ∧ okS (toldD b r).shown := by
  have hp := told_pln b h
  refine ⟨repr_pln hp (by decide) (told_py b r st) (.inr ?_), asc_ok hp.asc⟩
  cases b
  · exact ⟨_, _, rfl⟩
  · exact ⟨_, _, rfl⟩
/-- the copies are as they were -/
theorem same_items {ys : List Str} {kvs : List (Ky × W)} (hT : TabOk ys kvs) {r : List (Str × Str)} (h : RowA r) {c1 c2 : Option Cell} : fNeItems (.lst [rowW r, .ref 3]) (.lst [rowW r, .ref 1]) [c1, some (.d false kvs), c2, some (.d false kvs)] = some (.val (.bl false)) := by
  have ok := rowD_ok (rowA_ok h)
  have e1 : eqItem [c1, some (.d false kvs), c2, some (.d false kvs)] (rowW r) (rowW r) = true := by
    unfold eqItem pyOf
    rw [rowW_py 17 r]
    dsimp only
    rw [ok.shaped (by decide), Fw.eqv_same ok]
    rfl
  have e2 : dEqs kvs kvs = true := by
    unfold dEqs
    rw [beq_self_eq_true, Bool.true_and]
    refine List.all_eq_true.mpr fun p hp => ?_
    obtain ⟨k, z, rfl, _⟩ := hT.2 p hp
    have hg : kvGet kvs [.s k] = some (.str z) := by
      cases e : kvGet kvs [.s k] with
      | none =>
        unfold kvGet at e
        have e := Option.map_eq_none_iff.mp e
        exact absurd (decide_eq_true rfl) (List.find?_eq_none.mp e _ hp)
      | some w =>
        have hm := kvGet_mem e
        have := List.pairwise_iff_getElem.mp hT.1
        obtain ⟨i, hi, ei⟩ := List.mem_iff_getElem.mp hp
        obtain ⟨j, hj, ej⟩ := List.mem_iff_getElem.mp hm
        have li : i < (kvs.map fun p => p.1).length := by rw [List.length_map]; exact hi
        have lj : j < (kvs.map fun p => p.1).length := by rw [List.length_map]; exact hj
        have gi : (kvs.map fun p => p.1)[i] = ([Tk.s k] : Ky) := by rw [List.getElem_map, ei]
        have gj : (kvs.map fun p => p.1)[j] = ([Tk.s k] : Ky) := by rw [List.getElem_map, ej]
        have : i = j := by
          rcases Nat.lt_trichotomy i j with l | l | l
          · exact absurd (gi.trans gj.symm) (this i j li lj l)
          · exact l
          · exact absurd (gj.trans gi.symm) (this j i lj li l)
        subst this
        rw [ei] at ej
        cases ej
        rfl
    dsimp only
    rw [hg]
    exact decide_eq_true rfl
  have e3 : eqItem [c1, some (.d false kvs), c2, some (.d false kvs)] (.ref 3) (.ref 1) = true := by
    unfold eqItem
    show (_ || dEqs kvs kvs) = true
    rw [e2, Bool.or_true]
  unfold fNeItems
  show (if allEq _ [rowW r, .ref 3] [rowW r, .ref 1] = true then _ else _) = _
  unfold allEq
  rw [e1]
  unfold allEq
  rw [e3]
  rfl
end VS

namespace VS
open PySem PySem.Spec PyProof.Rows L2 Evl
open TL (tl len_tl ext_tl tl_append tl_mk mk_tl)
open Fw (fstAt fst_at fst_lt okS okD)
theorem toldW_at (b : Bool) (r : List (Str × Str)) (st : Sto) : fIx (toldW b r) (.int 0) st = some (.val (.str (if b = true then "told" else "question"))) := by
  cases b <;> rfl
theorem law_math (C_InvalidQuestion : PySem.Addr) : ∀ nm : List Int, nm.length = 60 → Fw.Sm nm → ∃ st', b_law C_InvalidQuestion (none :: some (intsW nm) :: List.replicate 10 none) [] = some (.rt (.bl true), st') := by
  intro nm hn sm
  have hL : LIM = 100000 := rfl
  obtain ⟨n0a, n0b⟩ := sm.getD 0
  have hns : (namesOf (nm.getD 0 0) 9).length = 9 := by
    unfold namesOf
    rw [List.length_map, List.length_range]
  have hy : ∀ y ∈ namesOf (nm.getD 0 0) 9, isNm (tl y) = true := (names_run ixz n0a n0b (by decide)).1
  have hcall := c_names n0a n0b (m := 9) (by decide)
  generalize namesOf (nm.getD 0 0) 9 = ns at hns hy hcall
  have nmi : ∀ (ρ : Env) (st : Sto) (k : Int), ρ[1]? = some (some (intsW nm)) → 0 ≤ k → k < 60 → vOp false fIx (vVar 1) (vC (.int k)) ρ st = some (.ok (.int (nm.getD k.toNat 0)), st) := fun ρ st k h h0 h1 => ixn_ok (var_ok h) c_ok h0 (by omega)
  have md : ∀ (k : Nat) (m : Int), 0 < m → ∃ c : Nat, (c : Int) < m ∧ nm.getD k 0 % m = (c : Int) := fun k m hm => ⟨(nm.getD k 0 % m).toNat, by
    have h1 := Int.emod_lt_of_pos (nm.getD k 0) hm
    have h2 := Int.emod_nonneg (nm.getD k 0) (show m ≠ 0 by omega)
    omega, by
    have h2 := Int.emod_nonneg (nm.getD k 0) (show m ≠ 0 by omega)
    omega⟩
  obtain ⟨c1, l1, hc1⟩ := md 1 10 (by decide)
  obtain ⟨c2, l2, hc2⟩ := md 2 5 (by decide)
  obtain ⟨r, z4, hr, hrow⟩ := row_loop hn hns (c := c1) (by omega)
  have hrA : RowA r := ⟨hr.1, fun p hp => ⟨(hr.2 p hp).1, hy _ (hr.2 p hp).2⟩⟩
  obtain ⟨kvs, z4', hT, htab⟩ := tab_loop hn hns (c := c2) (by omega) (r := rowW r) (z4 := z4)
  obtain ⟨z7, z8, hknown⟩ := known_loop (nm := nm) (ns := ns) hr.1 (z4 := z4') (z5 := some (.ref 1)) (c := some (.d false kvs))
  have hS : ∀ p ∈ r, isNm (tl p.2) = true := fun p hp => (hrA.2 p hp).2
  have hlen : r.length ≤ 60 := by have := hr.1; omega
  have hfl := firsts_len (r.map (·.2))
  rw [List.length_map] at hfl
  have hsub : ∀ y ∈ firsts (r.map (·.2)), isNm (tl y) = true := fun y hy => by
    obtain ⟨p, hp, rfl⟩ := List.mem_map.mp (firsts_sub hy)
    exact hS p hp
  have htold := fun st (hk : st[3]? = some (some (.d false kvs))) => told_run (C := C_InvalidQuestion) hT hy hS hlen (st := st) (i := 3) hk
  have hkin := kinds_rnm (f := tg kvs) (r := r)
  generalize hfs : firsts (r.map (·.2)) = fs at hknown hfl hsub htold hkin
  have hrA2 : RowA (rnm (tg kvs) r) := ⟨by unfold rnm; rw [List.length_map]; exact hr.1, fun p hp => by
    obtain ⟨q, hq, rfl⟩ := List.mem_map.mp hp
    exact ⟨(hrA.2 q hq).1, tg_nm hT hy (hS q hq)⟩⟩
  show ∃ st', b_law C_InvalidQuestion [none, some (intsW nm), none, none, none, none, none, none, none, none, none, none] [] = some (.rt (.bl true), st')
  unfold b_law
  have a0 := call_ok (cons_ok (nmi [none, some (intsW nm), none, none, none, none, none, none, none, none, none, none] [] 0 rfl (by decide) (by decide)) (one_ok (c_ok (w := .int 9)))) (hcall [])
  refine Exists.imp (fun s hs => (sq_nx (set_ok a0)).trans hs) ?_
  let E3 : Option W → Option W → Env := fun z3 z4 => eL nm ns z3 z4 none none none none none none none
  refine Exists.imp (fun s hs => (sq_nx (ρ := E3 none none) (st := []) (ρ' := E3 (some (.ref 0)) none) (s := [some (.l [])]) rfl).trans hs) ?_
  -- the row
  have r1 := modv_ok (nmi (E3 (some (.ref 0)) none) [some (.l [])] 1 rfl (by decide) (by decide)) (m := 10) (by decide)
  rw [show nm.getD (1 : Int).toNat 0 % 10 = (c1 : Int) from hc1] at r1
  have r2 := (for_ok (b := rowB) (g := gN 4) (rng_ok (k := c1) (one_ok r1) (by omega))).trans hrow
  have r3 := thenFrz_ok (i := 3) (n := 2) r2 (w := .ref 0) (w' := rowW r) (s' := [none]) rfl (frz2_ref rfl (frz_map r fun p _ => frz1_p p _))
  refine Exists.imp (fun s hs => (sq_nx r3).trans hs) ?_
  -- the table
  refine Exists.imp (fun s hs => (sq_nx (ρ := E3 (some (rowW r)) z4) (st := [none]) (ρ' := eL nm ns (some (rowW r)) z4 (some (.ref 1)) none none none none none none) (s := [none, some (.d false [])]) rfl).trans hs) ?_
  have t1 := modv_ok (nmi (eL nm ns (some (rowW r)) z4 (some (.ref 1)) none none none none none none) [none, some (.d false [])] 2 rfl (by decide) (by decide)) (m := 5) (by decide)
  rw [show nm.getD (2 : Int).toNat 0 % 5 = (c2 : Int) from hc2] at t1
  refine Exists.imp (fun s hs => (sq_nx ((for_ok (b := tabB) (g := gN 4) (rng_ok (k := c2) (one_ok t1) (by omega))).trans htab)).trans hs) ?_
  -- the known names
  let E6 : Option W → Option W → Option W → Option W → Option W → Option W → Env := fun z6 z7 z8 z9 z10 z11 => eL nm ns (some (rowW r)) z4' (some (.ref 1)) z6 z7 z8 z9 z10 z11
  refine Exists.imp (fun s hs => (sq_nx (ρ := E6 none none none none none none) (st := [none, some (.d false kvs)]) (ρ' := E6 (some (.ref 2)) none none none none none) (s := [none, some (.d false kvs), some (.l [])]) rfl).trans hs) ?_
  have k1 := (for_ok (b := knownB) (g := gT 2 (gsCons (gN 7) (gsCons (gN 8) gsNil))) (src_ok (ρ := E6 (some (.ref 2)) none none none none none) (st := [none, some (.d false kvs), some (.l [])]) (l := r.map pW) (var_ok (i := 3) rfl))).trans hknown
  have k2 := thenFrz_ok (i := 6) (n := 2) k1 (w := .ref 2) (w' := .lst (fs.map W.str)) (s' := [none, some (.d false kvs), none]) rfl (frz2_ref rfl (frz_map fs fun p _ => frz1_free rfl))
  refine Exists.imp (fun s hs => (sq_nx k2).trans hs) ?_
  let F : Option W → Option W → Option W → Option W → Option W → Env := fun z7 z8 z9 z10 z11 => E6 (some (.lst (fs.map W.str))) z7 z8 z9 z10 z11
  let s1 : Sto := [none, some (.d false kvs), none]
  have hdc : dctOf (.ref 1) s1 = some (false, kvs) := rfl
  -- the new names
  have n1 := lcL_map (f := W.str) (l := fs.map W.str) (g := gN 8) (e := vDGet2 (vVar 5) (vVar 8) (vVar 8)) (ρ := F z7 none none none none) (st := s1) (fun y => W.str (tg kvs y)) fs (fun y hy => ⟨F z7 (some (.str y)) none none none, rfl, tget_ok hT (var_ok (i := 5) rfl) (var_ok (i := 8) rfl) (var_ok (i := 8) rfl) hdc⟩) (by omega)
  rw [show fs.map (fun y => W.str (tg kvs y)) = (fs.map (tg kvs)).map W.str from by rw [List.map_map]; rfl] at n1
  refine Exists.imp (fun s hs => (sq_nx (set_ok (i := 9) (lc_ok (ρ := F z7 z8 none none none) (vs := [8]) (src_ok (l := fs.map W.str) (var_ok (i := 6) rfl)) (show lcL _ _ _ _ (wipeV (F z7 z8 none none none) [8]) _ _ _ = _ from n1)))).trans hs) ?_
  -- due
  let L := fs.map (tg kvs)
  let F2 : Option W → Option W → Option W → Option W → Env := fun z7 z8 z10 z11 => F z7 z8 (some (.lst (L.map W.str))) z10 z11
  have d1 := lcL_map (f := pW) (l := r.map pW) (g := gT 2 (gsCons (gN 7) (gsCons (gN 8) gsNil))) (e := vTup (vCons (vVar 7) (vCons (vDGet2 (vVar 5) (vVar 8) (vVar 8)) vNil))) (ρ := F2 none none none none) (st := s1) (fun p => pW (p.1, tg kvs p.2)) r (fun p hp => ⟨F2 (some (.str p.1)) (some (.str p.2)) none none, rfl, tup2_ok (var_ok (i := 7) rfl) (tget_ok hT (var_ok (i := 5) rfl) (var_ok (i := 8) rfl) (var_ok (i := 8) rfl) hdc)⟩) (by omega)
  rw [show r.map (fun p => pW (p.1, tg kvs p.2)) = (rnm (tg kvs) r).map pW from by unfold rnm; rw [List.map_map]; rfl] at d1
  refine Exists.imp (fun s hs => (sq_nx (set_ok (i := 10) (tup2_ok (ρ := F2 z7 z8 none none) (c_ok (w := .str "told")) (lc_ok (vs := [7, 8]) (src_ok (l := r.map pW) (var_ok (i := 3) rfl)) (show lcL _ _ _ _ (wipeV (F2 z7 z8 none none) [7, 8]) _ _ _ = _ from d1))))).trans hs) ?_
  -- two that become one
  let F3 : Option W → Option W → Option W → Env := fun z4 z10 z11 => eL nm ns (some (rowW r)) z4 (some (.ref 1)) (some (.lst (fs.map W.str))) z7 z8 (some (.lst (L.map W.str))) z10 z11
  have hLl : L.length ≤ 9 := by
    show (fs.map (tg kvs)).length ≤ 9
    rw [List.length_map]
    have := hr.1
    omega
  have q1 := lcL_run (f := fun i : Nat => W.int (i : Int)) (l := (List.range L.length).map fun i : Nat => W.int (i : Int)) (g := gN 4) (t := vB (vOp false (fIn false) (vOp false fIx (vVar 9) (vVar 4)) (vSl false (vVar 9) vNoPart (vPart (vVar 4))))) (e := vVar 4) (ρ := F3 none (some (toldW true (rnm (tg kvs) r))) none) (st := s1) (dupAt L) (fun i : Nat => W.int (i : Int)) (List.range L.length) [] (fun k hk => by
    have hk := List.mem_range.mp hk
    let ρ := F3 (some (.int (k : Int))) (some (toldW true (rnm (tg kvs) r))) none
    refine ⟨ρ, rfl, ?_, fun _ => var_ok (i := 4) rfl⟩
    have v4 : vVar 4 ρ s1 = some (.ok (.int (k : Int)), s1) := var_ok rfl
    have v9 : vVar 9 ρ s1 = some (.ok (.lst (L.map W.str)), s1) := var_ok rfl
    have e1 := ixl_ok (f := W.str) (l := L) (d := "") v9 v4 (by omega) (by omega)
    have hp : vPart (vVar 4) ρ s1 = some (.ok (some (k : Int)), s1) := by
      unfold vPart
      rw [v4]
      rfl
    have e2 := take_ok (f := W.str) (l := L) (x := vVar 9) v9 hp
    exact b_ok (op_ok e1 e2 (fIn_strs (neg := false) rfl))) (by rw [List.length_range]; show 0 + _ ≤ _; omega)
  have q2 := lc_ok (ρ := F3 z4' (some (toldW true (rnm (tg kvs) r))) none) (vs := [4]) (rng_ok (k := L.length) (one_ok (len_ok (f := W.str) (a := L) (var_ok (i := 9) rfl))) (by omega)) (show lcL _ _ _ _ (wipeV (F3 z4' (some (toldW true (rnm (tg kvs) r))) none) [4]) _ _ _ = _ from q1)
  rw [List.nil_append] at q2
  have q3 : vB (vOp false (fI gGt) (vCB false fLen (vCons (vLc false [4] (vRng1 (vCons (vCB false fLen (vCons (vVar 9) vNil)) vNil)) (gN 4) (vB (vOp false (fIn false) (vOp false fIx (vVar 9) (vVar 4)) (vSl false (vVar 9) vNoPart (vPart (vVar 4))))) (vVar 4)) vNil)) (vC (.int 0))) (F3 z4' (some (toldW true (rnm (tg kvs) r))) none) s1 = some (.ok (!decide L.Nodup), s1) := by
    refine b_ok (op_ok (len_ok (f := fun i : Nat => W.int (i : Int)) (a := (List.range L.length).filter (dupAt L)) q2) c_ok ?_)
    have h := dup_iff L
    generalize ((List.range L.length).filter (dupAt L)).length = m at h
    show some (Fr.val (W.bl (decide ((0 : Int) < (m : Int))))) = _
    by_cases hm : m = 0
    · have := h.mp hm
      rw [hm, decide_eq_true this]
      rfl
    · have h2 : ¬ L.Nodup := fun z => hm (h.mpr z)
      rw [decide_eq_false h2, decide_eq_true (by omega)]
      rfl
  let F4 : Option W → Env := fun z11 => F3 z4' (some (toldW (decide L.Nodup) (rnm (tg kvs) r))) z11
  have q4 : vIfS (vB (vOp false (fI gGt) (vCB false fLen (vCons (vLc false [4] (vRng1 (vCons (vCB false fLen (vCons (vVar 9) vNil)) vNil)) (gN 4) (vB (vOp false (fIn false) (vOp false fIx (vVar 9) (vVar 4)) (vSl false (vVar 9) vNoPart (vPart (vVar 4))))) (vVar 4)) vNil)) (vC (.int 0)))) (vSet 10 (vTup (vCons (vC (.str "question")) (vCons (vLst false vNil) vNil)))) vNext (F3 z4' (some (toldW true (rnm (tg kvs) r))) none) s1 = some (.nx (F4 none), s1) := by
    refine if_ok q3 (fun e => ?_) fun e => ?_
    · have e : decide L.Nodup = false := by simpa using e
      show _ = some (SR.nx (F3 z4' (some (toldW (decide L.Nodup) (rnm (tg kvs) r))) none), s1)
      rw [e]
      rfl
    · have e : decide L.Nodup = true := by simpa using e
      show _ = some (SR.nx (F3 z4' (some (toldW (decide L.Nodup) (rnm (tg kvs) r))) none), s1)
      rw [e]
      rfl
  refine Exists.imp (fun s hs => (sq_nx q4).trans hs) ?_
  -- handed
  let s2 : Sto := [none, some (.d false kvs), none, some (.d false kvs)]
  have g1 : vLst false (vCons (vCB false fListV (vCons (vVar 3) vNil)) (vCons (vCB true fDictD (vCons (vVar 5) vNil)) vNil)) (F4 none) s1 = some (.ok (.lst [rowW r, .ref 3]), s2) := by
    have h1 := listv_ok (ρ := F4 none) (st := s1) (r := r) (var_ok (i := 3) rfl)
    have h2 : vCB true fDictD (vCons (vVar 5) vNil) (F4 none) s1 = some (.ok (.ref 3), s2) := rfl
    have h3 : vCons (vCB false fListV (vCons (vVar 3) vNil)) (vCons (vCB true fDictD (vCons (vVar 5) vNil)) vNil) (F4 none) s1 = some (.ok [rowW r, .ref 3], s2) := by
      unfold vCons at h2 ⊢
      unfold vCons at h1
      rw [h1, andR_ok, h2]
      rfl
    rw [e_lst, h3]
    rfl
  refine Exists.imp (fun s hs => (sq_nx (set_ok g1)).trans hs) ?_
  let ρ5 : Env := F4 (some (.lst [rowW r, .ref 3]))
  -- what is told
  have v11 : vVar 11 ρ5 s2 = some (.ok (.lst [rowW r, .ref 3]), s2) := var_ok rfl
  have u0 : vOp false fIx (vVar 11) (vC (.int 0)) ρ5 s2 = some (.ok (rowW r), s2) := op_ok v11 c_ok rfl
  have u1 : vOp false fIx (vVar 11) (vC (.int 1)) ρ5 s2 = some (.ok (.ref 3), s2) := op_ok v11 c_ok rfl
  have u2 : vCall false 2 (m_u_law_told C_InvalidQuestion) (vCons (vOp false fIx (vVar 11) (vC (.int 0))) (vCons (vOp false fIx (vVar 11) (vC (.int 1))) vNil)) ρ5 s2 = some (.ok (toldW (decide L.Nodup) (rnm (tg kvs) r)), s2) := by
    unfold vCall
    rw [cons_ok u0 (one_ok u1), andR_ok]
    exact htold s2 rfl
  obtain ⟨p1, p2⟩ := told_repr (decide L.Nodup) hrA2 s2
  have w1 := b_ok (eqb_ok (cb_ok (c := false) (one_ok u2) p1) (cb_ok (c := false) (one_ok (var_ok (i := 10) (w := toldW (decide L.Nodup) (rnm (tg kvs) r)) rfl)) p1) (fEq_same (neg := true) (d := .str (toldD (decide L.Nodup) (rnm (tg kvs) r)).shown) (n := 0) rfl rfl p2 (by decide)))
  have w2 : vB (vOp false fNeItems (vVar 11) (vLst false (vCons (vVar 3) (vCons (vVar 5) vNil)))) ρ5 s2 = some (.ok false, s2) := b_ok (op_ok v11 (lst2_ok (var_ok (i := 3) rfl) (var_ok (i := 5) rfl)) (same_items hT hrA))
  refine Exists.imp (fun s hs => (sq_nx (if_f (or_ff w1 w2) (show vNext ρ5 s2 = some (.nx ρ5, s2) from rfl))).trans hs) ?_
  -- the end
  refine ⟨s2, ret_ok ?_⟩
  have v10 : vVar 10 ρ5 s2 = some (.ok (toldW (decide L.Nodup) (rnm (tg kvs) r)), s2) := var_ok rfl
  have x1 := op_ok (c := false) v10 (c_ok (w := .int 0)) (toldW_at (decide L.Nodup) (rnm (tg kvs) r) s2)
  have okq : okS ("question" : Str) := asc_ok (lit_asc "question" (by decide +kernel))
  have okt : okS ("told" : Str) := asc_ok (lit_asc "told" (by decide +kernel))
  by_cases hd : L.Nodup
  · rw [decide_eq_true hd] at x1 v10
    have x2 := eqb_ok (neg := false) x1 (c_ok (w := .str "question")) (fEq_str okt okq)
    rw [if_neg Bool.false_ne_true, decide_eq_false (by decide +kernel)] at x2
    have x3 : vOp false fIx (vVar 10) (vC (.int 1)) ρ5 s2 = some (.ok (rowW (rnm (tg kvs) r)), s2) := op_ok v10 c_ok rfl
    have hs := c_same_kind hS hlen (fun p hp => (hrA2.2 p hp).2) (by have := hrA2.1; omega) (rowA_ok hrA) (rowA_ok hrA2) s2
    rw [hkin hd, Fw.eqv_same (rowD_ok (kinds_ok (rowA_ok hrA) hlen))] at hs
    have x4 := call_ok (cons_ok (var_ok (ρ := ρ5) (i := 3) rfl) (one_ok x3)) hs
    exact orv_ok x2 x4
  · rw [decide_eq_false hd] at x1 v10
    have x2 := eqb_ok (neg := false) x1 (c_ok (w := .str "question")) (fEq_str okq okq)
    rw [if_neg Bool.false_ne_true, decide_eq_true (by rfl)] at x2
    unfold vOrV
    rw [x2, andR_ok]
    rfl
end VS

namespace VS
open PySem PySem.Spec PyProof.Rows L2 Evl
open Fw (topS k_addU k_eqD k_neD k_ix k_sl k_len k_list k_tupF k_all k_isi k_piS pe_gstr pe_gint pe_ty k_fld c_abs c_int c_max c_min c_str s_u_law_row s_u_law_numbers)

theorem all_mk {l : PySem.W.OpenLaw} {w : World} {K : PySem.W.Frag} {h : Heap} {mg : Str → Option Value} {fa : Addr} (X : K.In h) (G : h.Ns mainGlobals mg) (hfa : mg "law" = some (.ref fa))
    {a_u_law_row : Addr} {od_u_law_row an_u_law_row : Option Addr} {sl_u_law_row : Array (Option Value)} {oc_u_law_row kV_u_law_row dc_u_law_row pm_u_law_row cd_u_law_row ct_u_law_row : Value}
    {a_u_law_numbers : Addr} {od_u_law_numbers an_u_law_numbers : Option Addr} {sl_u_law_numbers : Array (Option Value)} {oc_u_law_numbers kV_u_law_numbers dc_u_law_numbers pm_u_law_numbers cd_u_law_numbers ct_u_law_numbers : Value}
    {a_u_law_names : Addr} {od_u_law_names an_u_law_names : Option Addr} {sl_u_law_names : Array (Option Value)} {oc_u_law_names kV_u_law_names dc_u_law_names pm_u_law_names cd_u_law_names ct_u_law_names : Value}
    {a_told_name : Addr} {od_told_name an_told_name : Option Addr} {sl_told_name : Array (Option Value)} {oc_told_name kV_told_name dc_told_name pm_told_name cd_told_name ct_told_name : Value}
    {a_is_name : Addr} {od_is_name an_is_name : Option Addr} {sl_is_name : Array (Option Value)} {oc_is_name kV_is_name dc_is_name pm_is_name cd_is_name ct_is_name : Value}
    {a_u_check_name : Addr} {od_u_check_name an_u_check_name : Option Addr} {sl_u_check_name : Array (Option Value)} {oc_u_check_name kV_u_check_name dc_u_check_name pm_u_check_name cd_u_check_name ct_u_check_name : Value}
    {a_check_names : Addr} {od_check_names an_check_names : Option Addr} {sl_check_names : Array (Option Value)} {oc_check_names kV_check_names dc_check_names pm_check_names cd_check_names ct_check_names : Value}
    {a_names_of : Addr} {od_names_of an_names_of : Option Addr} {sl_names_of : Array (Option Value)} {oc_names_of kV_names_of dc_names_of pm_names_of cd_names_of ct_names_of : Value}
    {a_kind_of : Addr} {od_kind_of an_kind_of : Option Addr} {sl_kind_of : Array (Option Value)} {oc_kind_of kV_kind_of dc_kind_of pm_kind_of cd_kind_of ct_kind_of : Value}
    {a_same_kind : Addr} {od_same_kind an_same_kind : Option Addr} {sl_same_kind : Array (Option Value)} {oc_same_kind kV_same_kind dc_same_kind pm_same_kind cd_same_kind ct_same_kind : Value}
    {a_renamed : Addr} {od_renamed an_renamed : Option Addr} {sl_renamed : Array (Option Value)} {oc_renamed kV_renamed dc_renamed pm_renamed cd_renamed ct_renamed : Value}
    {a_u_law_told : Addr} {od_u_law_told an_u_law_told : Option Addr} {sl_u_law_told : Array (Option Value)} {oc_u_law_told kV_u_law_told dc_u_law_told pm_u_law_told cd_u_law_told ct_u_law_told : Value}
    {a_law : Addr} {od_law an_law : Option Addr} {sl_law : Array (Option Value)} {oc_law kV_law dc_law pm_law cd_law ct_law : Value}
    {C_InvalidQuestion : Addr}
    {C_FewestheldError : Addr}
    {t_LETTERS : Tok}
    {t_SIGNS : Tok}
    {t_LONGEST_NAME : Tok}
    (m_u_law_row : PySem.W.nsIn K mainGlobals "_law_row" = some (some (.ref a_u_law_row)))
    (l_u_law_row : K.lookup a_u_law_row = some ⟨oc_u_law_row, od_u_law_row, .func (PySem.W.fnOf "_law_row" "_law_row" (defArgs s_u_law_row) (defBody s_u_law_row) (defScope s_u_law_row) .none kV_u_law_row dc_u_law_row pm_u_law_row an_u_law_row cd_u_law_row ct_u_law_row), sl_u_law_row⟩) (c_u_law_row : PySem.W.codeIn K cd_u_law_row "_law_row" = true) (k_u_law_row : PySem.W.keepIn K (.ref a_u_law_row) = true)
    (m_u_law_numbers : PySem.W.nsIn K mainGlobals "_law_numbers" = some (some (.ref a_u_law_numbers)))
    (l_u_law_numbers : K.lookup a_u_law_numbers = some ⟨oc_u_law_numbers, od_u_law_numbers, .func (PySem.W.fnOf "_law_numbers" "_law_numbers" (defArgs s_u_law_numbers) (defBody s_u_law_numbers) (defScope s_u_law_numbers) .none kV_u_law_numbers dc_u_law_numbers pm_u_law_numbers an_u_law_numbers cd_u_law_numbers ct_u_law_numbers), sl_u_law_numbers⟩) (c_u_law_numbers : PySem.W.codeIn K cd_u_law_numbers "_law_numbers" = true) (k_u_law_numbers : PySem.W.keepIn K (.ref a_u_law_numbers) = true)
    (m_u_law_names : PySem.W.nsIn K mainGlobals "_law_names" = some (some (.ref a_u_law_names)))
    (l_u_law_names : K.lookup a_u_law_names = some ⟨oc_u_law_names, od_u_law_names, .func (PySem.W.fnOf "_law_names" "_law_names" (defArgs s_u_law_names) (defBody s_u_law_names) (defScope s_u_law_names) .none kV_u_law_names dc_u_law_names pm_u_law_names an_u_law_names cd_u_law_names ct_u_law_names), sl_u_law_names⟩) (c_u_law_names : PySem.W.codeIn K cd_u_law_names "_law_names" = true) (k_u_law_names : PySem.W.keepIn K (.ref a_u_law_names) = true)
    (m_told_name : PySem.W.nsIn K mainGlobals "told_name" = some (some (.ref a_told_name)))
    (l_told_name : K.lookup a_told_name = some ⟨oc_told_name, od_told_name, .func (PySem.W.fnOf "told_name" "told_name" (defArgs s_told_name) (defBody s_told_name) (defScope s_told_name) .none kV_told_name dc_told_name pm_told_name an_told_name cd_told_name ct_told_name), sl_told_name⟩) (c_told_name : PySem.W.codeIn K cd_told_name "told_name" = true) (k_told_name : PySem.W.keepIn K (.ref a_told_name) = true)
    (m_is_name : PySem.W.nsIn K mainGlobals "is_name" = some (some (.ref a_is_name)))
    (l_is_name : K.lookup a_is_name = some ⟨oc_is_name, od_is_name, .func (PySem.W.fnOf "is_name" "is_name" (defArgs s_is_name) (defBody s_is_name) (defScope s_is_name) .none kV_is_name dc_is_name pm_is_name an_is_name cd_is_name ct_is_name), sl_is_name⟩) (c_is_name : PySem.W.codeIn K cd_is_name "is_name" = true) (k_is_name : PySem.W.keepIn K (.ref a_is_name) = true)
    (m_u_check_name : PySem.W.nsIn K mainGlobals "_check_name" = some (some (.ref a_u_check_name)))
    (l_u_check_name : K.lookup a_u_check_name = some ⟨oc_u_check_name, od_u_check_name, .func (PySem.W.fnOf "_check_name" "_check_name" (defArgs s_u_check_name) (defBody s_u_check_name) (defScope s_u_check_name) .none kV_u_check_name dc_u_check_name pm_u_check_name an_u_check_name cd_u_check_name ct_u_check_name), sl_u_check_name⟩) (c_u_check_name : PySem.W.codeIn K cd_u_check_name "_check_name" = true) (k_u_check_name : PySem.W.keepIn K (.ref a_u_check_name) = true)
    (m_check_names : PySem.W.nsIn K mainGlobals "check_names" = some (some (.ref a_check_names)))
    (l_check_names : K.lookup a_check_names = some ⟨oc_check_names, od_check_names, .func (PySem.W.fnOf "check_names" "check_names" (defArgs s_check_names) (defBody s_check_names) (defScope s_check_names) .none kV_check_names dc_check_names pm_check_names an_check_names cd_check_names ct_check_names), sl_check_names⟩) (c_check_names : PySem.W.codeIn K cd_check_names "check_names" = true) (k_check_names : PySem.W.keepIn K (.ref a_check_names) = true)
    (m_names_of : PySem.W.nsIn K mainGlobals "names_of" = some (some (.ref a_names_of)))
    (l_names_of : K.lookup a_names_of = some ⟨oc_names_of, od_names_of, .func (PySem.W.fnOf "names_of" "names_of" (defArgs s_names_of) (defBody s_names_of) (defScope s_names_of) .none kV_names_of dc_names_of pm_names_of an_names_of cd_names_of ct_names_of), sl_names_of⟩) (c_names_of : PySem.W.codeIn K cd_names_of "names_of" = true) (k_names_of : PySem.W.keepIn K (.ref a_names_of) = true)
    (m_kind_of : PySem.W.nsIn K mainGlobals "kind_of" = some (some (.ref a_kind_of)))
    (l_kind_of : K.lookup a_kind_of = some ⟨oc_kind_of, od_kind_of, .func (PySem.W.fnOf "kind_of" "kind_of" (defArgs s_kind_of) (defBody s_kind_of) (defScope s_kind_of) .none kV_kind_of dc_kind_of pm_kind_of an_kind_of cd_kind_of ct_kind_of), sl_kind_of⟩) (c_kind_of : PySem.W.codeIn K cd_kind_of "kind_of" = true) (k_kind_of : PySem.W.keepIn K (.ref a_kind_of) = true)
    (m_same_kind : PySem.W.nsIn K mainGlobals "same_kind" = some (some (.ref a_same_kind)))
    (l_same_kind : K.lookup a_same_kind = some ⟨oc_same_kind, od_same_kind, .func (PySem.W.fnOf "same_kind" "same_kind" (defArgs s_same_kind) (defBody s_same_kind) (defScope s_same_kind) .none kV_same_kind dc_same_kind pm_same_kind an_same_kind cd_same_kind ct_same_kind), sl_same_kind⟩) (c_same_kind : PySem.W.codeIn K cd_same_kind "same_kind" = true) (k_same_kind : PySem.W.keepIn K (.ref a_same_kind) = true)
    (m_renamed : PySem.W.nsIn K mainGlobals "renamed" = some (some (.ref a_renamed)))
    (l_renamed : K.lookup a_renamed = some ⟨oc_renamed, od_renamed, .func (PySem.W.fnOf "renamed" "renamed" (defArgs s_renamed) (defBody s_renamed) (defScope s_renamed) .none kV_renamed dc_renamed pm_renamed an_renamed cd_renamed ct_renamed), sl_renamed⟩) (c_renamed : PySem.W.codeIn K cd_renamed "renamed" = true) (k_renamed : PySem.W.keepIn K (.ref a_renamed) = true)
    (m_u_law_told : PySem.W.nsIn K mainGlobals "_law_told" = some (some (.ref a_u_law_told)))
    (l_u_law_told : K.lookup a_u_law_told = some ⟨oc_u_law_told, od_u_law_told, .func (PySem.W.fnOf "_law_told" "_law_told" (defArgs s_u_law_told) (defBody s_u_law_told) (defScope s_u_law_told) .none kV_u_law_told dc_u_law_told pm_u_law_told an_u_law_told cd_u_law_told ct_u_law_told), sl_u_law_told⟩) (c_u_law_told : PySem.W.codeIn K cd_u_law_told "_law_told" = true) (k_u_law_told : PySem.W.keepIn K (.ref a_u_law_told) = true)
    (m_law : PySem.W.nsIn K mainGlobals "law" = some (some (.ref a_law)))
    (l_law : K.lookup a_law = some ⟨oc_law, od_law, .func (PySem.W.fnOf "law" "law" (defArgs s_law) (defBody s_law) (defScope s_law) .none kV_law dc_law pm_law an_law cd_law ct_law), sl_law⟩) (c_law : PySem.W.codeIn K cd_law "law" = true) (k_law : PySem.W.keepIn K (.ref a_law) = true)
    (g_InvalidQuestion : PySem.W.nsIn K mainGlobals "InvalidQuestion" = some (some (.ref C_InvalidQuestion))) (x_InvalidQuestion : PySem.W.excIn K C_InvalidQuestion [.type "ValueError", .type "Exception", .type "BaseException", .type "object"] "ValueError.__new__" = true) (kp_InvalidQuestion : PySem.W.keepIn K (.ref C_InvalidQuestion) = true) (su_InvalidQuestion : PySem.W.subIn K (.ref C_InvalidQuestion) (.type "BaseException") = some true) (ty_InvalidQuestion : PySem.W.typeIn K (.ref C_InvalidQuestion) = some (.type "type")) (is_InvalidQuestion : PySem.W.isClsIn K C_InvalidQuestion = true) (se_InvalidQuestion : PySem.W.subIn K (.ref C_InvalidQuestion) (.ref C_InvalidQuestion) = some true)
    (g_FewestheldError : PySem.W.nsIn K mainGlobals "FewestheldError" = some (some (.ref C_FewestheldError)))
    (xa_InvalidQuestion : PySem.W.findIn K (.ref C_InvalidQuestion) "__getattribute__" = some (some (.builtin "BaseException.__getattribute__"))) (xb_InvalidQuestion : PySem.W.findIn K (.ref C_InvalidQuestion) "__getattr__" = some none) (xd_InvalidQuestion : PySem.W.hasDictIn K C_InvalidQuestion = true) (xe_InvalidQuestion : PySem.W.findIn K (.ref C_InvalidQuestion) "__class__" = some (some (.builtin "object.__class__"))) (xf_InvalidQuestion : PySem.W.specialIn K (.builtin "object.__class__") "__get__" = some (some (.builtin "getset_descriptor.__get__"))) (xg_InvalidQuestion : PySem.W.takesIn K (.builtin "object.__class__") = some true) (xh_InvalidQuestion : PySem.W.mroIn K C_InvalidQuestion (.type "object") = some true)
    (ki_InvalidQuestion_FewestheldError : PySem.W.kitOne K (.ref C_InvalidQuestion) (.ref C_FewestheldError) = some true)
    (ki_InvalidQuestion_ValueError : PySem.W.kitOne K (.ref C_InvalidQuestion) (.type "ValueError") = some true)
    (m_LETTERS : PySem.W.nsIn K mainGlobals "LETTERS" = some (some (.str cv_LETTERS t_LETTERS)))
    (m_SIGNS : PySem.W.nsIn K mainGlobals "SIGNS" = some (some (.str cv_SIGNS t_SIGNS)))
    (m_LONGEST_NAME : PySem.W.nsIn K mainGlobals "LONGEST_NAME" = some (some (.int 12 t_LONGEST_NAME)))
    (z_len : PySem.W.nsIn K mainGlobals "len" = some none)
    (z_abs : PySem.W.nsIn K mainGlobals "abs" = some none)
    (z_max : PySem.W.nsIn K mainGlobals "max" = some none)
    (z_min : PySem.W.nsIn K mainGlobals "min" = some none)
    (z_all : PySem.W.nsIn K mainGlobals "all" = some none)
    (z_isinstance : PySem.W.nsIn K mainGlobals "isinstance" = some none)
    (z_sorted : PySem.W.nsIn K mainGlobals "sorted" = some none)
    (z_repr : PySem.W.nsIn K mainGlobals "repr" = some none)
    (z_int : PySem.W.nsIn K mainGlobals "int" = some none)
    (z_bool : PySem.W.nsIn K mainGlobals "bool" = some none)
    (z_str : PySem.W.nsIn K mainGlobals "str" = some none)
    (z_list : PySem.W.nsIn K mainGlobals "list" = some none)
    (z_tuple : PySem.W.nsIn K mainGlobals "tuple" = some none)
    (z_range : PySem.W.nsIn K mainGlobals "range" = some none)
    (z_ValueError : PySem.W.nsIn K mainGlobals "ValueError" = some none)
    (z_enumerate : PySem.W.nsIn K mainGlobals "enumerate" = some none)
    (z_set : PySem.W.nsIn K mainGlobals "set" = some none)
    (z_dict : PySem.W.nsIn K mainGlobals "dict" = some none) :
    ∃ fd : FuncData, (∀ (s : Shared) (v : Value), BindsTo s fd ⟨[v], []⟩ [("script", v)]) ∧ ∀ base : Heap, K.In base → base.Ns mainGlobals mg → Fw.OkAt l.prog w K mg base fa fd ["script"] (spLawV K) callerA := by
  have e : a_law = fa := by
    have e := hfa.symm.trans (PySem.W.mg_of X G m_law)
    cases e
    rfl
  subst e
  have F_u_law_row := fun_mk (st := s_u_law_row) l_u_law_row c_u_law_row k_u_law_row
  have B_u_law_row := F_u_law_row.binds (ps := ["cell", "many"]) fun _ _ _ _ _ _ us hl => match us, hl with | [_, _], _ => rfl
  have F_u_law_numbers := fun_mk (st := s_u_law_numbers) l_u_law_numbers c_u_law_numbers k_u_law_numbers
  have B_u_law_numbers := F_u_law_numbers.binds (ps := ["script", "many"]) fun _ _ _ _ _ _ us hl => match us, hl with | [_, _], _ => rfl
  have F_u_law_names := fun_mk (st := s_u_law_names) l_u_law_names c_u_law_names k_u_law_names
  have B_u_law_names := F_u_law_names.binds (ps := ["number", "many"]) fun _ _ _ _ _ _ us hl => match us, hl with | [_, _], _ => rfl
  have F_told_name := fun_mk (st := s_told_name) l_told_name c_told_name k_told_name
  have B_told_name := F_told_name.binds (ps := ["number"]) fun _ _ _ _ _ _ us hl => match us, hl with | [_], _ => rfl
  have F_is_name := fun_mk (st := s_is_name) l_is_name c_is_name k_is_name
  have B_is_name := F_is_name.binds (ps := ["text"]) fun _ _ _ _ _ _ us hl => match us, hl with | [_], _ => rfl
  have F_u_check_name := fun_mk (st := s_u_check_name) l_u_check_name c_u_check_name k_u_check_name
  have B_u_check_name := F_u_check_name.binds (ps := ["name"]) fun _ _ _ _ _ _ us hl => match us, hl with | [_], _ => rfl
  have F_check_names := fun_mk (st := s_check_names) l_check_names c_check_names k_check_names
  have B_check_names := F_check_names.binds (ps := ["row"]) fun _ _ _ _ _ _ us hl => match us, hl with | [_], _ => rfl
  have F_names_of := fun_mk (st := s_names_of) l_names_of c_names_of k_names_of
  have B_names_of := F_names_of.binds (ps := ["row"]) fun _ _ _ _ _ _ us hl => match us, hl with | [_], _ => rfl
  have F_kind_of := fun_mk (st := s_kind_of) l_kind_of c_kind_of k_kind_of
  have B_kind_of := F_kind_of.binds (ps := ["row"]) fun _ _ _ _ _ _ us hl => match us, hl with | [_], _ => rfl
  have F_same_kind := fun_mk (st := s_same_kind) l_same_kind c_same_kind k_same_kind
  have B_same_kind := F_same_kind.binds (ps := ["one", "other"]) fun _ _ _ _ _ _ us hl => match us, hl with | [_, _], _ => rfl
  have F_renamed := fun_mk (st := s_renamed) l_renamed c_renamed k_renamed
  have B_renamed := F_renamed.binds (ps := ["row", "table"]) fun _ _ _ _ _ _ us hl => match us, hl with | [_, _], _ => rfl
  have F_u_law_told := fun_mk (st := s_u_law_told) l_u_law_told c_u_law_told k_u_law_told
  have B_u_law_told := F_u_law_told.binds (ps := ["row", "table"]) fun _ _ _ _ _ _ us hl => match us, hl with | [_, _], _ => rfl
  have F_law := fun_mk (st := s_law) l_law c_law k_law
  have B_law := F_law.binds (ps := ["script"]) fun _ _ _ _ _ _ us hl => match us, hl with | [_], _ => rfl
  let W : Wd K mg := {
    a_u_law_names := a_u_law_names,
    d_u_law_names := _,
    f_u_law_names := F_u_law_names,
    g_u_law_names := PySem.W.mg_of X G m_u_law_names,
    kp_u_law_names := k_u_law_names,
    b_u_law_names := B_u_law_names,
    a_told_name := a_told_name,
    d_told_name := _,
    f_told_name := F_told_name,
    g_told_name := PySem.W.mg_of X G m_told_name,
    kp_told_name := k_told_name,
    b_told_name := B_told_name,
    a_is_name := a_is_name,
    d_is_name := _,
    f_is_name := F_is_name,
    g_is_name := PySem.W.mg_of X G m_is_name,
    kp_is_name := k_is_name,
    b_is_name := B_is_name,
    a_u_check_name := a_u_check_name,
    d_u_check_name := _,
    f_u_check_name := F_u_check_name,
    g_u_check_name := PySem.W.mg_of X G m_u_check_name,
    kp_u_check_name := k_u_check_name,
    b_u_check_name := B_u_check_name,
    a_check_names := a_check_names,
    d_check_names := _,
    f_check_names := F_check_names,
    g_check_names := PySem.W.mg_of X G m_check_names,
    kp_check_names := k_check_names,
    b_check_names := B_check_names,
    a_names_of := a_names_of,
    d_names_of := _,
    f_names_of := F_names_of,
    g_names_of := PySem.W.mg_of X G m_names_of,
    kp_names_of := k_names_of,
    b_names_of := B_names_of,
    a_kind_of := a_kind_of,
    d_kind_of := _,
    f_kind_of := F_kind_of,
    g_kind_of := PySem.W.mg_of X G m_kind_of,
    kp_kind_of := k_kind_of,
    b_kind_of := B_kind_of,
    a_same_kind := a_same_kind,
    d_same_kind := _,
    f_same_kind := F_same_kind,
    g_same_kind := PySem.W.mg_of X G m_same_kind,
    kp_same_kind := k_same_kind,
    b_same_kind := B_same_kind,
    a_renamed := a_renamed,
    d_renamed := _,
    f_renamed := F_renamed,
    g_renamed := PySem.W.mg_of X G m_renamed,
    kp_renamed := k_renamed,
    b_renamed := B_renamed,
    a_u_law_told := a_u_law_told,
    d_u_law_told := _,
    f_u_law_told := F_u_law_told,
    g_u_law_told := PySem.W.mg_of X G m_u_law_told,
    kp_u_law_told := k_u_law_told,
    b_u_law_told := B_u_law_told,
    a_law := a_law,
    d_law := _,
    f_law := F_law,
    g_law := PySem.W.mg_of X G m_law,
    kp_law := k_law,
    b_law := B_law,
    C_InvalidQuestion := C_InvalidQuestion,
    x_InvalidQuestion := ⟨PySem.W.mg_of X G g_InvalidQuestion, x_InvalidQuestion, kp_InvalidQuestion, su_InvalidQuestion, ty_InvalidQuestion, is_InvalidQuestion, se_InvalidQuestion⟩,
    C_FewestheldError := C_FewestheldError,
    g_FewestheldError := PySem.W.mg_of X G g_FewestheldError,
    xc_InvalidQuestion := ⟨xa_InvalidQuestion, xb_InvalidQuestion, su_InvalidQuestion, xd_InvalidQuestion, xe_InvalidQuestion, xf_InvalidQuestion, xg_InvalidQuestion, xh_InvalidQuestion⟩,
    ki_InvalidQuestion_FewestheldError := ki_InvalidQuestion_FewestheldError,
    ki_InvalidQuestion_ValueError := ki_InvalidQuestion_ValueError,
    t_LETTERS := t_LETTERS,
    c_LETTERS := PySem.W.mg_of X G m_LETTERS,
    t_SIGNS := t_SIGNS,
    c_SIGNS := PySem.W.mg_of X G m_SIGNS,
    t_LONGEST_NAME := t_LONGEST_NAME,
    c_LONGEST_NAME := PySem.W.mg_of X G m_LONGEST_NAME,
    Z := ⟨PySem.W.mg_none_of X G z_len, PySem.W.mg_none_of X G z_abs, PySem.W.mg_none_of X G z_max, PySem.W.mg_none_of X G z_min, PySem.W.mg_none_of X G z_all, PySem.W.mg_none_of X G z_isinstance, PySem.W.mg_none_of X G z_sorted, PySem.W.mg_none_of X G z_repr, PySem.W.mg_none_of X G z_int, PySem.W.mg_none_of X G z_bool, PySem.W.mg_none_of X G z_str, PySem.W.mg_none_of X G z_list, PySem.W.mg_none_of X G z_tuple, PySem.W.mg_none_of X G z_range, PySem.W.mg_none_of X G z_ValueError⟩,
    z_enumerate := PySem.W.mg_none_of X G z_enumerate,
    z_set := PySem.W.mg_none_of X G z_set,
    z_dict := PySem.W.mg_none_of X G z_dict }
  refine ⟨(PySem.W.fnOf "law" "law" (defArgs s_law) (defBody s_law) (defScope s_law) .none kV_law dc_law pm_law an_law cd_law ct_law), fun s v => .of_eq rfl, fun base _ _ => ?_⟩
  have G0 : Fw.Df l.prog w K mg base CX0 1 "_law_row" _ _ ["cell", "many"] Fw.spRow := ⟨Fw.ok_law_row F_u_law_row W.Z, PySem.W.mg_of X G m_u_law_row, k_u_law_row, B_u_law_row⟩
  have G1 : Fw.Df l.prog w K mg base CX0 2 "_law_numbers" _ _ ["script", "many"] (Fw.spNumbers K) := ⟨Fw.ok_law_numbers F_u_law_numbers W.Z G0, PySem.W.mg_of X G m_u_law_numbers, k_u_law_numbers, B_u_law_numbers⟩
  exact ok_law W G1 (law_math _)
end VS
open PySem PySem.W PyProof.Rows
set_option maxRecDepth 100000 in
set_option maxHeartbeats 0 in
theorem PySem.Challenge.cw_fewestheld_k13_renamed_rows_holds : PySem.Challenge.rw_fewestheld_k13_renamed_rows.Holds := by
  w_on; o_law; k_head; (case hw => w_witness2)
  k_fill
  refine Fw.walk_at (l := PySem.Challenge.rw_fewestheld_k13_renamed_rows) (n := 63) (x := "script") (sp := fun w => VS.spLawV _) rfl (by decide) rfl (fun w h Y => PySem.W.kIn_of Y) ?F (fun _ _ a ns hl hS => ⟨a, ns, rfl, hS, hl, fun _ => rfl⟩)
  case F =>
    intro w mg fa h KX G hmg
    refine' VS.all_mk KX G hmg ?m_u_law_row ?l_u_law_row ?c_u_law_row ?k_u_law_row ?m_u_law_numbers ?l_u_law_numbers ?c_u_law_numbers ?k_u_law_numbers ?m_u_law_names ?l_u_law_names ?c_u_law_names ?k_u_law_names ?m_told_name ?l_told_name ?c_told_name ?k_told_name ?m_is_name ?l_is_name ?c_is_name ?k_is_name ?m_u_check_name ?l_u_check_name ?c_u_check_name ?k_u_check_name ?m_check_names ?l_check_names ?c_check_names ?k_check_names ?m_names_of ?l_names_of ?c_names_of ?k_names_of ?m_kind_of ?l_kind_of ?c_kind_of ?k_kind_of ?m_same_kind ?l_same_kind ?c_same_kind ?k_same_kind ?m_renamed ?l_renamed ?c_renamed ?k_renamed ?m_u_law_told ?l_u_law_told ?c_u_law_told ?k_u_law_told ?m_law ?l_law ?c_law ?k_law ?g_InvalidQuestion ?x_InvalidQuestion ?kp_InvalidQuestion ?su_InvalidQuestion ?ty_InvalidQuestion ?is_InvalidQuestion ?se_InvalidQuestion ?g_FewestheldError ?xa_InvalidQuestion ?xb_InvalidQuestion ?xd_InvalidQuestion ?xe_InvalidQuestion ?xf_InvalidQuestion ?xg_InvalidQuestion ?xh_InvalidQuestion ?ki_InvalidQuestion_FewestheldError ?ki_InvalidQuestion_ValueError ?m_LETTERS ?m_SIGNS ?m_LONGEST_NAME ?z_len ?z_abs ?z_max ?z_min ?z_all ?z_isinstance ?z_sorted ?z_repr ?z_int ?z_bool ?z_str ?z_list ?z_tuple ?z_range ?z_ValueError ?z_enumerate ?z_set ?z_dict
    (case m_u_law_row => k_is)
    (case l_u_law_row => k_is)
    (case c_u_law_row => k_is)
    (case k_u_law_row => k_is)
    (case m_u_law_numbers => k_is)
    (case l_u_law_numbers => k_is)
    (case c_u_law_numbers => k_is)
    (case k_u_law_numbers => k_is)
    (case m_u_law_names => k_is)
    (case l_u_law_names => k_is)
    (case c_u_law_names => k_is)
    (case k_u_law_names => k_is)
    (case m_told_name => k_is)
    (case l_told_name => k_is)
    (case c_told_name => k_is)
    (case k_told_name => k_is)
    (case m_is_name => k_is)
    (case l_is_name => k_is)
    (case c_is_name => k_is)
    (case k_is_name => k_is)
    (case m_u_check_name => k_is)
    (case l_u_check_name => k_is)
    (case c_u_check_name => k_is)
    (case k_u_check_name => k_is)
    (case m_check_names => k_is)
    (case l_check_names => k_is)
    (case c_check_names => k_is)
    (case k_check_names => k_is)
    (case m_names_of => k_is)
    (case l_names_of => k_is)
    (case c_names_of => k_is)
    (case k_names_of => k_is)
    (case m_kind_of => k_is)
    (case l_kind_of => k_is)
    (case c_kind_of => k_is)
    (case k_kind_of => k_is)
    (case m_same_kind => k_is)
    (case l_same_kind => k_is)
    (case c_same_kind => k_is)
    (case k_same_kind => k_is)
    (case m_renamed => k_is)
    (case l_renamed => k_is)
    (case c_renamed => k_is)
    (case k_renamed => k_is)
    (case m_u_law_told => k_is)
    (case l_u_law_told => k_is)
    (case c_u_law_told => k_is)
    (case k_u_law_told => k_is)
    (case m_law => k_is)
    (case l_law => k_is)
    (case c_law => k_is)
    (case k_law => k_is)
    (case g_InvalidQuestion => k_is)
    (case x_InvalidQuestion => first | k_exc | k_is)
    (case kp_InvalidQuestion => k_is)
    (case su_InvalidQuestion => k_is)
    (case ty_InvalidQuestion => k_is)
    (case is_InvalidQuestion => k_is)
    (case se_InvalidQuestion => first | rfl | k_is)
    (case g_FewestheldError => k_is)
    (case xa_InvalidQuestion => k_is)
    (case xb_InvalidQuestion => k_is)
    (case xd_InvalidQuestion => k_is)
    (case xe_InvalidQuestion => k_is)
    (case xf_InvalidQuestion => k_is)
    (case xg_InvalidQuestion => k_is)
    (case xh_InvalidQuestion => k_is)
    (case ki_InvalidQuestion_FewestheldError => first | rfl | k_is)
    (case ki_InvalidQuestion_ValueError => first | rfl | k_is)
    (case m_LETTERS => k_is)
    (case m_SIGNS => k_is)
    (case m_LONGEST_NAME => k_is)
    (case z_len => k_is)
    (case z_abs => k_is)
    (case z_max => k_is)
    (case z_min => k_is)
    (case z_all => k_is)
    (case z_isinstance => k_is)
    (case z_sorted => k_is)
    (case z_repr => k_is)
    (case z_int => k_is)
    (case z_bool => k_is)
    (case z_str => k_is)
    (case z_list => k_is)
    (case z_tuple => k_is)
    (case z_range => k_is)
    (case z_ValueError => k_is)
    (case z_enumerate => k_is)
    (case z_set => k_is)
    (case z_dict => k_is)

