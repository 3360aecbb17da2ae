import PyProof.Rows.All
import Wide.All
import OpenK.AllK
import Wide.FinOn
import HandS.ForMost
import HandS.Wide
import HandS.IsInst
import HandS.NoneIn
import HandS.Evl
import PySem.Challenge.RW_filledonce_k03_sides
set_option Elab.async false
set_option linter.all false
set_option maxRecDepth 100000
set_option maxHeartbeats 2000000
/-! own binary operators over the hand layer -/
namespace FoOps
open PySem PySem.W PyProof.Rows
section
variable {prog : Program} {w : World} {A : Around} {E : Value → Shared → Prop} {s : Shared} {K : Frag} {x C L f : Addr} {h₀ : Heap} {m : Str → Option Value} {ox : Obj} {od : Option Obj}
theorem tup_add : fillsNumberSlot (.type "tuple") "add" = pure false := by
  unfold fillsNumberSlot
  simp only [typeLookup_type, builtinLookup_eq_fast]
  kernel_rfl
theorem tup_sub : fillsNumberSlot (.type "tuple") "sub" = pure false := by
  unfold fillsNumberSlot
  simp only [typeLookup_type, builtinLookup_eq_fast]
  kernel_rfl
theorem binop_KT {op : Operator} {b : Value} {T : String} {Q : Value → Shared → Prop} (X : K.In s.heap) (I : InstAt s.heap x ox C od) (hT : s.TypeIs b T)
    (hfl : fillsNumberSlot (.type T) op.info.2 = pure false) (hc : selfFirst K C = true)
    (hs : findIn K (.ref C) (PySem.dunder op.info.2) = some (some (.ref f))) (hf : isFn K (.ref f) = true)
    (h : wpAny (model prog w) A (call (.ref f) [.ref x, b]) (PySem.W.CmpBack Q) E s) : wpAny (model prog w) A (binaryOp op (.ref x) b) Q E s := by
  obtain ⟨cd, hcd, hm⟩ := any_some hc
  obtain ⟨rest, hm⟩ : ∃ rest, cd.mro = .ref C :: rest := by
    cases q : cd.mro with
    | nil => rw [q] at hm; cases hm
    | cons a r => rw [q] at hm; exact ⟨r, by rw [List.head?_cons] at hm; cases (beq_iff_eq.mp hm); rfl⟩
  unfold binaryOp
  refine wpAny_holding (wpAny_bind ?_)
  unfold binaryOp1
  refine wpAny_bind (I.type.here (wpAny_bind (wpAny_typeOf hT (wpAny_bind ((fills_K X hcd hm hs).here ?_)))))
  have e : (Value.ref C == Value.type T) = false := by simp
  simp only [e, Bool.false_eq_true, if_false]
  refine wpAny_bind (wpAny_of_eq hfl ?_)
  simp only [Bool.and_false, Bool.false_eq_true, if_false, Bool.false_and, if_true]
  refine wpAny_bind (wpAny_pure ?_)
  simp only [Bool.false_eq_true, if_false]
  refine wpAny_bind (m := tryMethod (.ref x) _ b) ?_
  unfold tryMethod
  refine wpAny_bind (special_fn X I hs (beq_iff_eq.mp hf) (wpAny_mono h (fun v s' hv => ?_) fun _ _ e => e))
  cases v <;> first | exact hv.elim | exact wpAny_pure (wpAny_pure (wpAny_pure hv))
end
end FoOps

namespace L2
open PySem PySem.Spec PyProof.Rows
/-- an own class whose operator nm is the def at f -/
structure OwnOp (K : PySem.W.Frag) (C : Addr) (op : Operator) (f : Addr) : Prop where
  sf : PySem.W.selfFirst K C = true
  at_ : PySem.W.findIn K (.ref C) (PySem.dunder op.info.2) = some (some (.ref f))
  fn : PySem.W.isFn K (.ref f) = true
/-- a op b, a an instance of the class at C, b one too or a tracked tuple -/
def rOwnOp (C : Addr) (sp : Sp) (E : XK) : R2 := fun x y H Q => ∃ a dx fs, x = .ref a ∧ H a = some (.ins C dx fs) ∧
  ((∃ b dy gs, y = .ref b ∧ H b = some (.ins C dy gs)) ∨ ∃ b xs, y = .ref b ∧ H b = some (.tup xs)) ∧ sp [x, y] H Q E
section
variable {X : Cx} {CX : CXT} {k : Nat} {f C : Addr} {fd : FuncData} {ps : List Str} {sp : Sp} {E : XK}
theorem not_ni {z : V} {v : Value} (r : RelV z v) : v ≠ .notImplemented := by
  intro e
  subst e
  cases z <;> first | (cases r; done) | (obtain ⟨_, r⟩ := r; cases r)
theorem cmpBack_of {Q : Value → Shared → Prop} {v : Value} {s : Shared} (hn : v ≠ .notImplemented) (h : Q v s) : PySem.W.CmpBack Q v s := by
  cases v <;> first | exact h | exact absurd rfl hn
theorem op_own {op : Operator} (O : OwnOp X.K C op f) (hfl : fillsNumberSlot (.type "tuple") op.info.2 = pure false) (F : FnOk X.prog X.w X.K X.mg X.base CX k f fd ps sp) (hr : Room k X.A) (hb : Binds X.K fd ps []) (hx : Passes CX X E) :
    OpR X (binaryOp op) (rOwnOp C sp E) := by
  intro pins s σ H x y v u Q I rx ry h
  obtain ⟨a, dx, fs, rfl, ha, hy, q⟩ := h
  obtain rfl : v = Value.ref a := rx
  obtain ⟨mA, J, _⟩ := ins_get I.hok ha
  obtain ⟨od, J, _⟩ := J.look
  obtain ⟨m, hF⟩ := I.fr
  have run : wpAny (model X.prog X.w) X.A (call (.ref f) [.ref a, u]) (PySem.W.CmpBack (EP X pins σ Q)) X.xe s := by
    refine wpAny_mono (run_fn (us := [.ref a, u]) (vs := [.ref a, y]) F hr hb .nil hx I (.cons rfl (.cons ry .nil)) q) (fun r s' z => ?_) fun _ _ z => z
    obtain ⟨z1, H1, I1, rz, qz⟩ := z
    exact cmpBack_of (not_ni rz) ⟨z1, H1, I1, rz, qz⟩
  rcases hy with ⟨b, dy, gs, rfl, hb'⟩ | ⟨b, xs, rfl, hb'⟩
  · obtain rfl : u = Value.ref b := ry
    obtain ⟨mB, J', _⟩ := ins_get I.hok hb'
    obtain ⟨od', J', _⟩ := J'.look
    exact PySem.W.binop_K hF I.ok.mod.kin J J'.type O.sf O.at_ O.fn run
  · obtain rfl : u = Value.ref b := ry
    obtain ⟨_, _, _, o, h1, h2, _⟩ := (show ObjOk X.prog X.w H s.heap b (.tup xs) from I.hok b _ hb')
    exact FoOps.binop_KT I.kIn J ⟨o, h1, h2⟩ hfl O.sf O.at_ O.fn run
end
end L2
set_option Elab.async false
set_option linter.all false
set_option maxRecDepth 100000
set_option maxHeartbeats 2000000
namespace Fo
open PySem L2
/-! ### the text by places -/
def top (i : Nat) : Stmt := PySem.Challenge.pw_filledonce_k03_sides.main.body.getD i (.Pass ⟨0, 0, 0, 0⟩)
abbrev sWhole : Stmt := top 5
abbrev sInit : Stmt := inClass (top 7) 0
abbrev sAdd : Stmt := inClass (top 7) 3
abbrev sSub : Stmt := inClass (top 7) 5
abbrev sCross : Stmt := inClass (top 7) 9
abbrev sMul : Stmt := inClass (top 7) 7
abbrev sEq : Stmt := inClass (top 7) 2
abbrev sPairM : Stmt := inClass (top 7) 10
abbrev sIsPoint : Stmt := top 8
abbrev sAsPoint : Stmt := top 9
abbrev sOperand : Stmt := top 10
abbrev sSide : Stmt := top 11
abbrev sQuarter : Stmt := top 12
/-! ### data -/
theorem xy_ : ¬ (("x" : Str) = "y") := by decide +kernel
theorem yx_ : ¬ (("y" : Str) = "x") := by decide +kernel
def ptF (x y : Int) : List (Str × V) := putF "y" (.int y) (putF "x" (.int x) [])
theorem ptF_x (x y : Int) : (ptF x y).lookup ("x" : Str) = some (.int x) := by
  unfold ptF
  rw [lookup_putF, if_neg xy_, lookup_putF, if_pos rfl]
theorem ptF_y (x y : Int) : (ptF x y).lookup ("y" : Str) = some (.int y) := by
  unfold ptF
  rw [lookup_putF, if_pos rfl]
theorem ptF_no (x y : Int) {m : Str} (h1 : ¬ m = "y") (h2 : ¬ m = "x") : (ptF x y).lookup m = none := by
  unfold ptF
  rw [lookup_putF, if_neg h1, lookup_putF, if_neg h2]
  all_goals rfl
/-- an instance of Point with these numbers -/
def IsP (C : Addr) (v : V) (x y : Int) (H : Hp) : Prop := ∃ a dx, v = .ref a ∧ H a = some (.ins C dx (ptF x y))
/-- it, or a pair that stands for it -/
def IsPt (C : Addr) (v : V) (x y : Int) (H : Hp) : Prop := ∃ a, v = .ref a ∧ ((∃ dx, H a = some (.ins C dx (ptF x y))) ∨ H a = some (.tup [.int x, .int y]))
theorem IsP.ex {C : Addr} {v : V} {x y : Int} {H H' : Hp} (e : Same H H') (h : IsP C v x y H) : IsP C v x y H' := by
  obtain ⟨a, dx, rfl, h⟩ := h
  exact ⟨a, dx, rfl, e _ _ h⟩
theorem IsPt.ex {C : Addr} {v : V} {x y : Int} {H H' : Hp} (e : Same H H') (h : IsPt C v x y H) : IsPt C v x y H' := by
  obtain ⟨a, rfl, h⟩ := h
  rcases h with ⟨dx, h⟩ | h
  · exact ⟨a, rfl, .inl ⟨dx, e _ _ h⟩⟩
  · exact ⟨a, rfl, .inr (e _ _ h)⟩
theorem IsP.pt {C : Addr} {v : V} {x y : Int} {H : Hp} (h : IsP C v x y H) : IsPt C v x y H := by
  obtain ⟨a, dx, rfl, h⟩ := h
  exact ⟨a, rfl, .inl ⟨dx, h⟩⟩
theorem same_new {H : Hp} {p : Addr} {o : HO} (h : H p = none) : Same H (upd H p o) := fun a u e => by
  rw [upd_ne (ne_of_none e h)]
  exact e
def Sm (n : Nat) (x : Int) : Prop := x.natAbs < 2 ^ n
theorem Sm.mul {n : Nat} {x y : Int} (hx : Sm n x) (hy : Sm n y) (h0 : 0 < n) (h1 : n ≤ 1000) : CMulW x y := wide_mul hx hy h0 h0 (by omega)
theorem Sm.sub {n : Nat} {x y : Int} (hx : Sm n x) (hy : Sm n y) : Sm (n + 1) (x - y) := by
  unfold Sm at *
  rw [Nat.pow_succ]
  omega
theorem Sm.up {n m : Nat} {x : Int} (hx : Sm n x) (h : n ≤ m) : Sm m x := Nat.lt_of_lt_of_le hx (Nat.pow_le_pow_right (by decide) h)
/-! ### promises -/
def spWhole : Sp := fun vs H Q _ => ∃ i : Int, vs = [.int i] ∧ Q (.bl true) H
def spInit (C : Addr) : Sp := fun vs H Q _ => ∃ (p dx : Addr) (x y : Int), vs = [.ref p, .int x, .int y] ∧ H p = some (.ins C dx []) ∧ Q .non (upd (upd H p (.ins C dx (putF "x" (.int x) []))) p (.ins C dx (ptF x y)))
def spIsPoint (C : Addr) : Sp := fun vs H Q _ => ∃ (v : V) (x y : Int), vs = [v] ∧ IsPt C v x y H ∧ Q (.bl true) H
def spAsPoint (C : Addr) : Sp := fun vs H Q _ => ∃ (v : V) (x y : Int), vs = [v] ∧ IsPt C v x y H ∧ ∀ w H', Same H H' → IsP C w x y H' → (IsP C v x y H → w = v) → Q w H'
def spBin (C : Addr) (g : Int → Int → Int) : Sp := fun vs H Q _ => ∃ (v u : V) (x y z t : Int), vs = [v, u] ∧ IsP C v x y H ∧ IsPt C u z t H ∧ ∀ w H', Same H H' → IsP C w (g x z) (g y t) H' → Q w H'
def spCross (C : Addr) : Sp := fun vs H Q _ => ∃ (n : Nat) (v u : V) (x y z t : Int), vs = [v, u] ∧ IsP C v x y H ∧ IsPt C u z t H ∧ 0 < n ∧ n ≤ 1000 ∧ Sm n x ∧ Sm n y ∧ Sm n z ∧ Sm n t ∧ ∀ H', Same H H' → Q (.int (x * t - y * z)) H'
def sideI (ax ay bx by' px py : Int) : Int := (bx - ax) * (py - ay) - (by' - ay) * (px - ax)
def spSide (C : Addr) : Sp := fun vs H Q _ => ∃ (n : Nat) (a b p : V) (ax ay bx by' px py : Int), vs = [a, b, p] ∧ IsPt C a ax ay H ∧ IsPt C b bx by' H ∧ IsPt C p px py H ∧ n < 1000 ∧
  Sm n ax ∧ Sm n ay ∧ Sm n bx ∧ Sm n by' ∧ Sm n px ∧ Sm n py ∧ ∀ H', Same H H' → Q (.int (sideI ax ay bx by' px py)) H'
def spQuarter (C : Addr) : Sp := fun vs H Q _ => ∃ (v : V) (x y : Int), vs = [v] ∧ IsPt C v x y H ∧ ∀ w H', Same H H' → IsP C w (-y) x H' → Q w H'
/-- what the top has written of Point -/
structure Txt (K : PySem.W.Frag) (mg : Str → Option Value) (C : Addr) : Prop where
  cl : Cls K C
  nX : NoAttr K C "x"
  nY : NoAttr K C "y"
  mgC : mg "Point" = some (.ref C)
  isi : mg "isinstance" = none
  len : mg "len" = none
  int : mg "int" = none
  bool : mg "bool" = none
  tuple : mg "tuple" = none
  ha : PySem.W.findIn K (.ref C) "__class__" = some (some (.builtin "object.__class__"))
  hn : PySem.W.specialIn K (.builtin "object.__class__") "__get__" = some (some (.builtin "getset_descriptor.__get__"))
  htk : PySem.W.takesIn K (.builtin "object.__class__") = some true
  hm : PySem.W.mroIn K C (.type "object") = some true
  kTC : PySem.W.kitOne K (.type "tuple") (.ref C) = some false
  kCC : PySem.W.kitOne K (.ref C) (.ref C) = some true
section
variable {P : Program} {w : World} {K : PySem.W.Frag} {mg : Str → Option Value} {base : Heap}
theorem scWhole : FnScope ["value"] ["value"] (defScope sWhole) := ⟨rfl, rfl, rfl, by decide +kernel, rfl, by decide +kernel, by decide +kernel⟩
theorem ok_whole {f C : Addr} {fd : FuncData} (F : Fun K "is_whole" "is_whole" sWhole f fd) (T : Txt K mg C) : FnOk P w K mg base CX0 1 f fd ["value"] spWhole := by
  refine F.ok scWhole (fun vs H Q E h => ?_) (fun cdv A outer s H vs Q E hr h => ?_)
  · obtain ⟨i, rfl, _⟩ := h
    rfl
  · obtain ⟨i, rfl, k⟩ := h
    refine ⟨_, pss_one (ps_ret (pe_and (pe_callB call_isi (by rfl) T.isi (by decide +kernel) (pa_cons (pv 0) (pa_cons (pe_bltn (v := .ty "int") (by rfl) T.int (by decide +kernel) rfl) pa_nil)))
      (pe_one (pe_not (pe_callB call_isi (by rfl) T.isi (by decide +kernel) (pa_cons (pv 0) (pa_cons (pe_bltn (v := .ty "bool") (by rfl) T.bool (by decide +kernel) rfl) pa_nil))))))), ?_⟩
    refine ⟨_, rfl, _, _, _, _, true, rfl, .ty _, .base (.int i), kit_ty (by decide +kernel), true, rfl, ?_⟩
    refine iteT ?_
    exact ⟨_, rfl, _, _, _, _, false, rfl, .ty _, .base (.int i), kit_ty (by decide +kernel), false, rfl, k⟩

theorem scInit : FnScope ["self", "x", "y"] ["self", "x", "y"] (defScope sInit) := ⟨rfl, rfl, rfl, by decide +kernel, rfl, by decide +kernel, by decide +kernel⟩
theorem ok_init {f C fW : Addr} {fd fdW : FuncData} (F : Fun K "__init__" "Point.__init__" sInit f fd) (T : Txt K mg C) (FW : Fun K "is_whole" "is_whole" sWhole fW fdW) (bW : Binds K fdW ["value"] []) (mW : mg "is_whole" = some (.ref fW)) :
    FnOk P w K mg base CX0 2 f fd ["self", "x", "y"] (spInit C) := by
  have GW : FnOk P w K mg base CX0 1 fW fdW ["value"] spWhole := ok_whole FW T
  refine F.ok scInit (fun vs H Q E h => ?_) (fun cdv A outer s H vs Q E hr h => ?_)
  · obtain ⟨p, dx, x, y, rfl, _⟩ := h
    rfl
  · obtain ⟨p, dx, x, y, rfl, hp, k⟩ := h
    refine ⟨_, pss_cons (ps_if (PW.pt (pw_or (pt_not (pt_val (pe_call GW hr rfl mW FW.kp bW .nil pass0 (pa_cons (pv 1) pa_nil)))) (pw_or1 (pt_not (pt_val (pe_call GW hr rfl mW FW.kp bW .nil pass0 (pa_cons (pv 2) pa_nil))))))) (pss_one ps_never) pss_nil)
      (pss_cons (ps_fld (pv 0) (pv 1) rfl) (pss_one (ps_fld (pv 0) (pv 2) rfl))), ?_⟩
    refine ⟨_, rfl, x, rfl, true, rfl, ?_⟩
    refine iteF ?_
    refine ⟨_, rfl, y, rfl, true, rfl, ?_⟩
    refine iteF ?_
    refine ⟨_, rfl, _, rfl, p, C, dx, [], rfl, hp, T.cl, T.nX, (by show 0 < 1000; decide), ?_⟩
    refine ⟨_, rfl, _, rfl, p, C, dx, _, rfl, upd_same, T.cl, T.nY, (by show 1 < 1000; decide), ?_⟩
    exact k
theorem ty_ins {C a dx : Addr} {fs : List (Str × V)} {H : Hp} (T : Txt K mg C) (h : H a = some (.ins C dx fs)) : TyX K H (.ref a) (.ref C) := .base (.ins h T.cl T.ha T.hn T.htk T.hm)
theorem scIsPoint : FnScope ["thing"] ["thing"] (defScope sIsPoint) := ⟨rfl, rfl, rfl, by decide +kernel, rfl, by decide +kernel, by decide +kernel⟩
theorem ok_is_point {f C fW : Addr} {fd fdW : FuncData} (F : Fun K "is_point" "is_point" sIsPoint f fd) (T : Txt K mg C) (FW : Fun K "is_whole" "is_whole" sWhole fW fdW) (bW : Binds K fdW ["value"] []) (mW : mg "is_whole" = some (.ref fW)) :
    FnOk P w K mg base CX0 2 f fd ["thing"] (spIsPoint C) := by
  have GW : FnOk P w K mg base CX0 1 fW fdW ["value"] spWhole := ok_whole FW T
  refine F.ok scIsPoint (fun vs H Q E h => ?_) (fun cdv A outer s H vs Q E hr h => ?_)
  · obtain ⟨v, x, y, rfl, _⟩ := h
    rfl
  · obtain ⟨v, x, y, rfl, ⟨a, rfl, hv⟩, k⟩ := h
    refine ⟨_, pss_cons (ps_if (pt_val (pe_callB call_isi (by rfl) T.isi (by decide +kernel) (pa_cons (pv 0) (pa_cons (pe_glob (v := .ref C) rfl T.mgC rfl) pa_nil)))) (pss_one (ps_ret pe_bl)) pss_nil)
      (pss_one (ps_ret (pe_and (pe_callB call_isi (by rfl) T.isi (by decide +kernel) (pa_cons (pv 0) (pa_cons (pe_bltn (v := .ty "tuple") (by rfl) T.tuple (by decide +kernel) rfl) pa_nil)))
        (pe_and (pe_cmpR op_eq (pe_callB call_len_seq (by rfl) T.len PySem.boot_len (pa_cons (pv 0) pa_nil)) pe_int (nomark _))
        (pe_and (pe_call GW hr rfl mW FW.kp bW .nil pass0 (pa_cons (pe_ix ix_tup (pv 0) pe_int (fun _ _ => rfl)) pa_nil))
        (pe_one (pe_call GW hr rfl mW FW.kp bW .nil pass0 (pa_cons (pe_ix ix_tup (pv 0) pe_int (fun _ _ => rfl)) pa_nil)))))))), ?_⟩
    rcases hv with ⟨dx, hv⟩ | hv
    · refine ⟨_, rfl, _, _, _, _, true, rfl, .own C, ty_ins T hv, T.kCC, true, rfl, ?_⟩
      refine iteT ?_
      exact k
    · refine ⟨_, rfl, _, _, _, _, false, rfl, .own C, .base (.tup hv), T.kTC, false, rfl, ?_⟩
      refine iteF ?_
      refine ⟨_, rfl, _, _, _, _, true, rfl, .ty _, .base (.tup hv), kit_ty (by decide +kernel), true, rfl, ?_⟩
      refine iteT ?_
      refine ⟨_, rfl, a, _, rfl, .inr (SqT.of hv), rfl, true, rfl, ?_⟩
      refine iteT ?_
      refine ⟨_, rfl, a, _, _, _, rfl, rfl, SqT.of hv, atI_nat (j := 0) rfl, x, rfl, true, rfl, ?_⟩
      refine iteT ?_
      exact ⟨_, rfl, a, _, _, _, rfl, rfl, SqT.of hv, atI_nat (j := 1) rfl, y, rfl, k⟩

/-- a new Point -/
theorem made_same {C x dx : Addr} {H : Hp} {X Y : Int} (nx : H x = none) (nd : H dx = none) : Same H (upd (upd (upd (upd H dx (.own x)) x (.ins C dx [])) x (.ins C dx (putF "x" (.int X) []))) x (.ins C dx (ptF X Y))) := fun b o e => by
  have n1 : b ≠ x := ne_of_none e nx
  have n2 : b ≠ dx := ne_of_none e nd
  rw [upd_ne n1, upd_ne n1, upd_ne n1, upd_ne n2]
  exact e
theorem made_is {C x dx : Addr} {H : Hp} {X Y : Int} : IsP C (.ref x) X Y (upd (upd (upd (upd H dx (.own x)) x (.ins C dx [])) x (.ins C dx (putF "x" (.int X) []))) x (.ins C dx (ptF X Y))) := ⟨x, dx, rfl, upd_same⟩
/-- Point(a, b) of two numbers: spInit's reading at a new instance -/
theorem make_pt {C : Addr} {H : Hp} {X Y : Int} {Q : VK} {E : XK} (k : ∀ v H', Same H H' → IsP C v X Y H' → Q v H') :
    ∀ x dx, H x = none → H dx = none → dx ≠ x → spInit C (.ref x :: ([.int X, .int Y] ++ [])) (upd (upd H dx (.own x)) x (.ins C dx [])) (fun v H2 => v = .non ∧ Q (.ref x) H2) E := fun x dx nx nd _ =>
  ⟨x, dx, X, Y, rfl, upd_same, rfl, k _ _ (made_same nx nd) made_is⟩
/-- the program's defs that others call, as they stand -/
structure Defs (K : PySem.W.Frag) (mg : Str → Option Value) (C fW fI fP fA fO : Addr) (fdW fdI fdP fdA fdO : FuncData) : Prop where
  T : Txt K mg C
  FW : Fun K "is_whole" "is_whole" sWhole fW fdW
  bW : Binds K fdW ["value"] []
  mW : mg "is_whole" = some (.ref fW)
  M : Mk K C fI
  FI : Fun K "__init__" "Point.__init__" sInit fI fdI
  bI : Binds K fdI ["self", "x", "y"] []
  FP : Fun K "is_point" "is_point" sIsPoint fP fdP
  bP : Binds K fdP ["thing"] []
  mP : mg "is_point" = some (.ref fP)
  FA : Fun K "as_point" "as_point" sAsPoint fA fdA
  bA : Binds K fdA ["thing"] []
  mA : mg "as_point" = some (.ref fA)
  FO : Fun K "operand" "operand" sOperand fO fdO
  bO : Binds K fdO ["thing"] []
  mO : mg "operand" = some (.ref fO)
variable {C fW fI fP fA fO : Addr} {fdW fdI fdP fdA fdO : FuncData}
theorem Defs.GW (D : Defs K mg C fW fI fP fA fO fdW fdI fdP fdA fdO) : FnOk P w K mg base CX0 1 fW fdW ["value"] spWhole := ok_whole D.FW D.T
theorem Defs.GI (D : Defs K mg C fW fI fP fA fO fdW fdI fdP fdA fdO) : FnOk P w K mg base CX0 2 fI fdI ["self", "x", "y"] (spInit C) := ok_init D.FI D.T D.FW D.bW D.mW
theorem Defs.GP (D : Defs K mg C fW fI fP fA fO fdW fdI fdP fdA fdO) : FnOk P w K mg base CX0 2 fP fdP ["thing"] (spIsPoint C) := ok_is_point D.FP D.T D.FW D.bW D.mW
theorem scAsPoint : FnScope ["thing"] ["thing"] (defScope sAsPoint) := ⟨rfl, rfl, rfl, by decide +kernel, rfl, by decide +kernel, by decide +kernel⟩
theorem Defs.GA (D : Defs K mg C fW fI fP fA fO fdW fdI fdP fdA fdO) : FnOk P w K mg base CX0 4 fA fdA ["thing"] (spAsPoint C) := by
  have GP : FnOk P w K mg base CX0 2 fP fdP ["thing"] (spIsPoint C) := D.GP
  have GI : FnOk P w K mg base CX0 2 fI fdI ["self", "x", "y"] (spInit C) := D.GI
  have T := D.T
  refine D.FA.ok scAsPoint (fun vs H Q E h => ?_) (fun cdv A outer s H vs Q E hr h => ?_)
  · obtain ⟨v, x, y, rfl, _⟩ := h
    rfl
  · obtain ⟨v, x, y, rfl, hp, k⟩ := h
    refine ⟨_, pss_cons (ps_if (pt_not (pt_val (pe_call GP (hr.mono (by decide)) rfl D.mP D.FP.kp D.bP .nil pass0 (pa_cons (pv 0) pa_nil)))) (pss_one ps_never) pss_nil)
      (pss_cons (ps_if (pt_val (pe_callB call_isi (by rfl) T.isi (by decide +kernel) (pa_cons (pv 0) (pa_cons (pe_glob (v := .ref C) rfl T.mgC rfl) pa_nil)))) (pss_one (ps_ret (pv 0))) pss_nil)
      (pss_one (ps_ret (pe_make D.M GI hr rfl T.mgC D.bI .nil pass0 (pa_cons (pe_ix ix_tup (pv 0) pe_int (fun _ _ => rfl)) (pa_cons (pe_ix ix_tup (pv 0) pe_int (fun _ _ => rfl)) pa_nil)))))), ?_⟩
    refine ⟨_, rfl, v, x, y, rfl, hp, true, rfl, ?_⟩
    refine iteF ?_
    obtain ⟨a, rfl, hv⟩ := hp
    rcases hv with ⟨dx, hv⟩ | hv
    · refine ⟨_, rfl, _, _, _, _, true, rfl, .own C, ty_ins T hv, T.kCC, true, rfl, ?_⟩
      refine iteT ?_
      exact ⟨_, rfl, k _ _ (Same.refl _) ⟨a, dx, rfl, hv⟩ fun _ => rfl⟩
    · refine ⟨_, rfl, _, _, _, _, false, rfl, .own C, .base (.tup hv), T.kTC, false, rfl, ?_⟩
      refine iteF ?_
      refine ⟨_, rfl, a, _, _, _, rfl, rfl, SqT.of hv, atI_nat (j := 0) rfl, _, rfl, a, _, _, _, rfl, rfl, SqT.of hv, atI_nat (j := 1) rfl, ?_⟩
      refine make_pt fun v H2 e2 h2 => k v H2 e2 h2 fun hp => ?_
      obtain ⟨b, dy, q1, q2⟩ := hp
      cases q1
      rw [hv] at q2
      cases q2
theorem scOperand : FnScope ["thing"] ["thing"] (defScope sOperand) := ⟨rfl, rfl, rfl, by decide +kernel, rfl, by decide +kernel, by decide +kernel⟩
theorem Defs.GO (D : Defs K mg C fW fI fP fA fO fdW fdI fdP fdA fdO) : FnOk P w K mg base CX0 5 fO fdO ["thing"] (spAsPoint C) := by
  have GP : FnOk P w K mg base CX0 2 fP fdP ["thing"] (spIsPoint C) := D.GP
  have GA : FnOk P w K mg base CX0 4 fA fdA ["thing"] (spAsPoint C) := D.GA
  refine D.FO.ok scOperand (fun vs H Q E h => ?_) (fun cdv A outer s H vs Q E hr h => ?_)
  · obtain ⟨v, x, y, rfl, _⟩ := h
    rfl
  · obtain ⟨v, x, y, rfl, hp, k⟩ := h
    refine ⟨_, pss_cons (ps_if (pt_not (pt_val (pe_call GP (hr.mono (by decide)) rfl D.mP D.FP.kp D.bP .nil pass0 (pa_cons (pv 0) pa_nil)))) (pss_one ps_never) pss_nil)
      (pss_one (ps_ret (pe_call GA hr rfl D.mA D.FA.kp D.bA .nil pass0 (pa_cons (pv 0) pa_nil)))), ?_⟩
    refine ⟨_, rfl, v, x, y, rfl, hp, true, rfl, ?_⟩
    refine iteF ?_
    exact ⟨_, rfl, v, x, y, rfl, hp, k⟩
theorem scAdd : FnScope ["self", "other", "by"] ["self", "other"] (defScope sAdd) := ⟨rfl, rfl, rfl, by decide +kernel, rfl, by decide +kernel, by decide +kernel⟩
theorem ok_add {f : Addr} {fd : FuncData} (F : Fun K "__add__" "Point.__add__" sAdd f fd) (D : Defs K mg C fW fI fP fA fO fdW fdI fdP fdA fdO) : FnOk P w K mg base CX0 6 f fd ["self", "other"] (spBin C (· + ·)) := by
  have GO : FnOk P w K mg base CX0 5 fO fdO ["thing"] (spAsPoint C) := D.GO
  have GI : FnOk P w K mg base CX0 2 fI fdI ["self", "x", "y"] (spInit C) := D.GI
  have T := D.T
  refine F.ok scAdd (fun vs H Q E h => ?_) (fun cdv A outer s H vs Q E hr h => ?_)
  · obtain ⟨v, u, x, y, z, t, rfl, _⟩ := h
    rfl
  · obtain ⟨v, u, x, y, z, t, rfl, hv, hu, k⟩ := h
    refine ⟨_, pss_cons (ps_set (i := 2) scAdd.nd rfl (Or.inl rfl) (pe_call GO hr rfl D.mO D.FO.kp D.bO .nil pass0 (pa_cons (pv 1) pa_nil)))
      (pss_one (ps_ret (pe_make D.M GI (hr.mono (by decide)) rfl T.mgC D.bI .nil pass0 (pa_cons (pe_op op_add (pe_fld (pv 0) rfl) (pe_fld (pv 2) rfl)) (pa_cons (pe_op op_add (pe_fld (pv 0) rfl) (pe_fld (pv 2) rfl)) pa_nil))))), ?_⟩
    refine ⟨_, rfl, u, z, t, rfl, hu, fun w H' e hw _ => ?_⟩
    obtain ⟨a, dx, rfl, ha⟩ := hv.ex e
    obtain ⟨b, dy, rfl, hb⟩ := hw
    refine ⟨_, rfl, a, C, dx, _, _, rfl, ha, T.cl, T.nX, ptF_x _ _, _, rfl, b, C, dy, _, _, rfl, hb, T.cl, T.nX, ptF_x _ _, _, _, rfl, rfl, ?_⟩
    refine ⟨_, rfl, a, C, dx, _, _, rfl, ha, T.cl, T.nY, ptF_y _ _, _, rfl, b, C, dy, _, _, rfl, hb, T.cl, T.nY, ptF_y _ _, _, _, rfl, rfl, ?_⟩
    exact make_pt fun v H2 e2 h2 => k v H2 (e.trans e2) h2
theorem scSub : FnScope ["self", "other", "by"] ["self", "other"] (defScope sSub) := ⟨rfl, rfl, rfl, by decide +kernel, rfl, by decide +kernel, by decide +kernel⟩
theorem ok_sub {f : Addr} {fd : FuncData} (F : Fun K "__sub__" "Point.__sub__" sSub f fd) (D : Defs K mg C fW fI fP fA fO fdW fdI fdP fdA fdO) : FnOk P w K mg base CX0 6 f fd ["self", "other"] (spBin C (· - ·)) := by
  have GO : FnOk P w K mg base CX0 5 fO fdO ["thing"] (spAsPoint C) := D.GO
  have GI : FnOk P w K mg base CX0 2 fI fdI ["self", "x", "y"] (spInit C) := D.GI
  have T := D.T
  refine F.ok scSub (fun vs H Q E h => ?_) (fun cdv A outer s H vs Q E hr h => ?_)
  · obtain ⟨v, u, x, y, z, t, rfl, _⟩ := h
    rfl
  · obtain ⟨v, u, x, y, z, t, rfl, hv, hu, k⟩ := h
    refine ⟨_, pss_cons (ps_set (i := 2) scSub.nd rfl (Or.inl rfl) (pe_call GO hr rfl D.mO D.FO.kp D.bO .nil pass0 (pa_cons (pv 1) pa_nil)))
      (pss_one (ps_ret (pe_make D.M GI (hr.mono (by decide)) rfl T.mgC D.bI .nil pass0 (pa_cons (pe_op op_sub (pe_fld (pv 0) rfl) (pe_fld (pv 2) rfl)) (pa_cons (pe_op op_sub (pe_fld (pv 0) rfl) (pe_fld (pv 2) rfl)) pa_nil))))), ?_⟩
    refine ⟨_, rfl, u, z, t, rfl, hu, fun w H' e hw _ => ?_⟩
    obtain ⟨a, dx, rfl, ha⟩ := hv.ex e
    obtain ⟨b, dy, rfl, hb⟩ := hw
    refine ⟨_, rfl, a, C, dx, _, _, rfl, ha, T.cl, T.nX, ptF_x _ _, _, rfl, b, C, dy, _, _, rfl, hb, T.cl, T.nX, ptF_x _ _, _, _, rfl, rfl, ?_⟩
    refine ⟨_, rfl, a, C, dx, _, _, rfl, ha, T.cl, T.nY, ptF_y _ _, _, rfl, b, C, dy, _, _, rfl, hb, T.cl, T.nY, ptF_y _ _, _, _, rfl, rfl, ?_⟩
    exact make_pt fun v H2 e2 h2 => k v H2 (e.trans e2) h2
theorem IsPt.opnd {v : V} {x y : Int} {H : Hp} (h : IsPt C v x y H) : (∃ b dy gs, v = .ref b ∧ H b = some (.ins C dy gs)) ∨ ∃ b xs, v = .ref b ∧ H b = some (.tup xs) := by
  obtain ⟨a, rfl, h⟩ := h
  rcases h with ⟨dx, h⟩ | h
  · exact .inl ⟨a, dx, _, rfl, h⟩
  · exact .inr ⟨a, _, rfl, h⟩
theorem cross_no (x y : Int) : (ptF x y).lookup ("cross" : Str) = none := ptF_no _ _ (by decide +kernel) (by decide +kernel)
theorem scSide : FnScope ["a", "b", "point", "start", "end", "place"] ["a", "b", "point"] (defScope sSide) := ⟨rfl, rfl, rfl, by decide +kernel, rfl, by decide +kernel, by decide +kernel⟩
theorem ok_side {f : Addr} {fd : FuncData} (F : Fun K "side" "side" sSide f fd) (D : Defs K mg C fW fI fP fA fO fdW fdI fdP fdA fdO) : FnOk P w K mg base CX0 7 f fd ["a", "b", "point"] (spSide C) := by
  have GA : FnOk P w K mg base CX0 4 fA fdA ["thing"] (spAsPoint C) := D.GA
  have T := D.T
  refine F.ok scSide (fun vs H Q E h => ?_) (fun cdv A outer s H vs Q E hr h => ?_)
  · obtain ⟨n, a, b, p, ax, ay, bx, by', px, py, rfl, _⟩ := h
    rfl
  · obtain ⟨n, a, b, p, ax, ay, bx, by', px, py, rfl, ha, hb, hp, n1, s1, s2, s3, s4, s5, s6, k⟩ := h
    have hr4 : Room 4 _ := hr.mono (by decide)
    refine ⟨_, pss_cons (ps_set (i := 3) scSide.nd rfl (Or.inl rfl) (pe_call GA hr4 rfl D.mA D.FA.kp D.bA .nil pass0 (pa_cons (pv 0) pa_nil)))
      (pss_cons (ps_set (i := 4) scSide.nd rfl (Or.inl rfl) (pe_call GA hr4 rfl D.mA D.FA.kp D.bA .nil pass0 (pa_cons (pv 1) pa_nil)))
      (pss_cons (ps_set (i := 5) scSide.nd rfl (Or.inl rfl) (pe_call GA hr4 rfl D.mA D.FA.kp D.bA .nil pass0 (pa_cons (pv 2) pa_nil)))
      (pss_one (ps_ret (pe_op op_sub
        (pe_op op_mulW (pe_op op_sub (pe_fld (pv 4) rfl) (pe_fld (pv 3) rfl)) (pe_op op_sub (pe_fld (pv 5) rfl) (pe_fld (pv 3) rfl)))
        (pe_op op_mulW (pe_op op_sub (pe_fld (pv 4) rfl) (pe_fld (pv 3) rfl)) (pe_op op_sub (pe_fld (pv 5) rfl) (pe_fld (pv 3) rfl)))))))), ?_⟩
    refine ⟨_, rfl, a, ax, ay, rfl, ha, fun w1 H1 e1 h1 _ => ?_⟩
    refine ⟨_, rfl, b, bx, by', rfl, hb.ex e1, fun w2 H2 e2 h2 _ => ?_⟩
    refine ⟨_, rfl, p, px, py, rfl, hp.ex (e1.trans e2), fun w3 H3 e3 h3 _ => ?_⟩
    obtain ⟨a1, d1, rfl, z1⟩ := (h1.ex e2).ex e3
    obtain ⟨a2, d2, rfl, z2⟩ := h2.ex e3
    obtain ⟨a3, d3, rfl, z3⟩ := h3
    refine ⟨_, rfl, a2, C, d2, _, _, rfl, z2, T.cl, T.nX, ptF_x _ _, _, rfl, a1, C, d1, _, _, rfl, z1, T.cl, T.nX, ptF_x _ _, _, _, rfl, rfl, ?_⟩
    refine ⟨_, rfl, a3, C, d3, _, _, rfl, z3, T.cl, T.nY, ptF_y _ _, _, rfl, a1, C, d1, _, _, rfl, z1, T.cl, T.nY, ptF_y _ _, _, _, rfl, rfl, ?_⟩
    refine ⟨_, _, rfl, rfl, (s3.sub s1).mul (s6.sub s2) (Nat.succ_pos _) n1, ?_⟩
    refine ⟨_, rfl, a2, C, d2, _, _, rfl, z2, T.cl, T.nY, ptF_y _ _, _, rfl, a1, C, d1, _, _, rfl, z1, T.cl, T.nY, ptF_y _ _, _, _, rfl, rfl, ?_⟩
    refine ⟨_, rfl, a3, C, d3, _, _, rfl, z3, T.cl, T.nX, ptF_x _ _, _, rfl, a1, C, d1, _, _, rfl, z1, T.cl, T.nX, ptF_x _ _, _, _, rfl, rfl, ?_⟩
    refine ⟨_, _, rfl, rfl, (s4.sub s2).mul (s5.sub s1) (Nat.succ_pos _) n1, ?_⟩
    exact ⟨_, _, rfl, rfl, k _ ((e1.trans e2).trans e3)⟩
theorem scQuarter : FnScope ["point", "old"] ["point"] (defScope sQuarter) := ⟨rfl, rfl, rfl, by decide +kernel, rfl, by decide +kernel, by decide +kernel⟩
theorem ok_quarter {f : Addr} {fd : FuncData} (F : Fun K "quarter" "quarter" sQuarter f fd) (D : Defs K mg C fW fI fP fA fO fdW fdI fdP fdA fdO) : FnOk P w K mg base CX0 5 f fd ["point"] (spQuarter C) := by
  have GA : FnOk P w K mg base CX0 4 fA fdA ["thing"] (spAsPoint C) := D.GA
  have GI : FnOk P w K mg base CX0 2 fI fdI ["self", "x", "y"] (spInit C) := D.GI
  have T := D.T
  refine F.ok scQuarter (fun vs H Q E h => ?_) (fun cdv A outer s H vs Q E hr h => ?_)
  · obtain ⟨v, x, y, rfl, _⟩ := h
    rfl
  · obtain ⟨v, x, y, rfl, hv, k⟩ := h
    refine ⟨_, pss_cons (ps_set (i := 1) scQuarter.nd rfl (Or.inl rfl) (pe_call GA hr rfl D.mA D.FA.kp D.bA .nil pass0 (pa_cons (pv 0) pa_nil)))
      (pss_one (ps_ret (pe_make D.M GI (hr.mono (by decide)) rfl T.mgC D.bI .nil pass0 (pa_cons (pe_un un_neg (pe_fld (pv 1) rfl)) (pa_cons (pe_fld (pv 1) rfl) pa_nil))))), ?_⟩
    refine ⟨_, rfl, v, x, y, rfl, hv, fun w H' e hw _ => ?_⟩
    obtain ⟨b, dy, rfl, hb⟩ := hw
    refine ⟨_, rfl, b, C, dy, _, _, rfl, hb, T.cl, T.nY, ptF_y _ _, _, rfl, ?_⟩
    refine ⟨_, rfl, b, C, dy, _, _, rfl, hb, T.cl, T.nX, ptF_x _ _, ?_⟩
    exact make_pt fun v H2 e2 h2 => k v H2 (e.trans e2) h2
def spMul (C : Addr) : Sp := fun vs H Q _ => ∃ (v : V) (x y m : Int), vs = [v, .int m] ∧ IsP C v x y H ∧ CMulW x m ∧ CMulW y m ∧ ∀ w H', Same H H' → IsP C w (x * m) (y * m) H' → Q w H'
theorem scMul : FnScope ["self", "other"] ["self", "other"] (defScope sMul) := ⟨rfl, rfl, rfl, by decide +kernel, rfl, by decide +kernel, by decide +kernel⟩
theorem ok_mul {f : Addr} {fd : FuncData} (F : Fun K "__mul__" "Point.__mul__" sMul f fd) (D : Defs K mg C fW fI fP fA fO fdW fdI fdP fdA fdO) : FnOk P w K mg base CX0 4 f fd ["self", "other"] (spMul C) := by
  have GW : FnOk P w K mg base CX0 1 fW fdW ["value"] spWhole := D.GW
  have GI : FnOk P w K mg base CX0 2 fI fdI ["self", "x", "y"] (spInit C) := D.GI
  have T := D.T
  refine F.ok scMul (fun vs H Q E h => ?_) (fun cdv A outer s H vs Q E hr h => ?_)
  · obtain ⟨v, x, y, m, rfl, _⟩ := h
    rfl
  · obtain ⟨v, x, y, m, rfl, hv, c1, c2, k⟩ := h
    refine ⟨_, pss_cons (ps_if (pt_not (pt_val (pe_call GW (hr.mono (by decide)) rfl D.mW D.FW.kp D.bW .nil pass0 (pa_cons (pv 1) pa_nil)))) (pss_one ps_never) pss_nil)
      (pss_one (ps_ret (pe_make D.M GI hr rfl T.mgC D.bI .nil pass0 (pa_cons (pe_op op_mulW (pe_fld (pv 0) rfl) (pv 1)) (pa_cons (pe_op op_mulW (pe_fld (pv 0) rfl) (pv 1)) pa_nil))))), ?_⟩
    refine ⟨_, rfl, m, rfl, true, rfl, ?_⟩
    refine iteF ?_
    obtain ⟨a, dx, rfl, ha⟩ := hv
    refine ⟨_, rfl, a, C, dx, _, _, rfl, ha, T.cl, T.nX, ptF_x _ _, _, rfl, _, _, rfl, rfl, c1, ?_⟩
    refine ⟨_, rfl, a, C, dx, _, _, rfl, ha, T.cl, T.nY, ptF_y _ _, _, rfl, _, _, rfl, rfl, c2, ?_⟩
    exact make_pt k
def spEqP (C : Addr) : Sp := fun vs H Q _ => ∃ (v u : V) (x y z t : Int), vs = [v, u] ∧ IsP C v x y H ∧ ((IsP C u z t H ∧ Q (.bl (decide (x = z) && decide (y = t))) H) ∨ ((∃ b xs, u = .ref b ∧ H b = some (.tup xs)) ∧ Q (.bl false) H))
theorem scEq : FnScope ["self", "other"] ["self", "other"] (defScope sEq) := ⟨rfl, rfl, rfl, by decide +kernel, rfl, by decide +kernel, by decide +kernel⟩
theorem ok_eq {f : Addr} {fd : FuncData} (F : Fun K "__eq__" "Point.__eq__" sEq f fd) (T : Txt K mg C) : FnOk P w K mg base CX0 1 f fd ["self", "other"] (spEqP C) := by
  refine F.ok scEq (fun vs H Q E h => ?_) (fun cdv A outer s H vs Q E hr h => ?_)
  · obtain ⟨v, u, x, y, z, t, rfl, _⟩ := h
    rfl
  · obtain ⟨v, u, x, y, z, t, rfl, ⟨a, dx, rfl, ha⟩, hu⟩ := h
    refine ⟨_, pss_one (ps_ret (pe_and (pe_callB call_isi (by rfl) T.isi (by decide +kernel) (pa_cons (pv 1) (pa_cons (pe_glob (v := .ref C) rfl T.mgC rfl) pa_nil)))
      (pe_and (pe_cmpR op_eq (pe_fld (pv 0) rfl) (pe_fld (pv 1) rfl) (nomark _)) (pe_one (pe_cmpR op_eq (pe_fld (pv 0) rfl) (pe_fld (pv 1) rfl) (nomark _)))))), ?_⟩
    rcases hu with ⟨⟨b, dy, rfl, hb⟩, k⟩ | ⟨⟨b, xs, rfl, hb⟩, k⟩
    · refine ⟨_, rfl, _, _, _, _, true, rfl, .own C, ty_ins T hb, T.kCC, true, rfl, ?_⟩
      refine iteT ?_
      refine ⟨_, rfl, a, C, dx, _, _, rfl, ha, T.cl, T.nX, ptF_x _ _, _, rfl, b, C, dy, _, _, rfl, hb, T.cl, T.nX, ptF_x _ _, rfl, _, rfl, ?_⟩
      have ei : ∀ i j : Int, decide (V.int i = V.int j) = decide (i = j) := fun i j => by
        by_cases h : i = j
        · rw [h, decide_eq_true rfl, decide_eq_true rfl]
        · rw [decide_eq_false h, decide_eq_false (fun q => h (by cases q; rfl))]
      rw [ei x z]
      by_cases hxz : x = z
      · rw [decide_eq_true hxz] at *
        refine iteT ?_
        refine ⟨_, rfl, a, C, dx, _, _, rfl, ha, T.cl, T.nY, ptF_y _ _, _, rfl, b, C, dy, _, _, rfl, hb, T.cl, T.nY, ptF_y _ _, rfl, ?_⟩
        rw [ei y t]
        simpa using k
      · rw [decide_eq_false hxz] at *
        refine iteF ?_
        simpa using k
    · refine ⟨_, rfl, _, _, _, _, false, rfl, .own C, .base (.tup hb), T.kTC, false, rfl, ?_⟩
      refine iteF ?_
      exact k
def spPairM (C : Addr) : Sp := fun vs H Q _ => ∃ (v : V) (x y : Int), vs = [v] ∧ IsP C v x y H ∧ ∀ q H', H q = none → Same H H' → H' q = some (.tup [.int x, .int y]) → Q (.ref q) H'
end
end Fo
set_option Elab.async false
set_option linter.all false
set_option maxRecDepth 100000
set_option maxHeartbeats 2000000
namespace Fo
open PySem L2
/-! ### the law's own helpers: the pool and its draws -/
abbrev sHand : Stmt := top 14
abbrev sDraw : Stmt := top 15
/-- what stands but at p stands -/
def But (p : Addr) (H H' : Hp) : Prop := ∀ b o, b ≠ p → H b = some o → H' b = some o
theorem But.refl (p : Addr) (H : Hp) : But p H H := fun _ _ _ h => h
theorem But.trans {p : Addr} {H H1 H2 : Hp} (a : But p H H1) (b : But p H1 H2) : But p H H2 := fun c o n h => b c o n (a c o n h)
theorem But.upd {p : Addr} {H : Hp} {o : HO} : But p H (upd H p o) := fun b u n h => by
  rw [upd_ne n]
  exact h
theorem But.of {p : Addr} {H H' : Hp} (e : Same H H') : But p H H' := fun b o _ h => e b o h
/-- from a heap that does not know p -/
theorem But.same {p : Addr} {H0 H H' : Hp} (h0 : H0 p = none) (e : Same H0 H) (b : But p H H') : Same H0 H' := fun c o h => b c o (ne_of_none h h0) (e c o h)
def PoolAt (p : Addr) (H : Hp) : Prop := ∃ i j : Int, H p = some (.lst [.int i, .int j]) ∧ 0 ≤ i ∧ 0 ≤ j ∧ j < 2147483647
theorem PoolAt.ex {p : Addr} {H H' : Hp} (e : Same H H') (h : PoolAt p H) : PoolAt p H' := by
  obtain ⟨i, j, h, r⟩ := h
  exact ⟨i, j, e _ _ h, r⟩
def spHand (K : PySem.W.Frag) : Sp := fun vs H Q _ => ∃ (a : Addr) (ns : List Int) (k : Int), vs = [.ref a, .int k] ∧ SqL K H a (ns.map V.int) ∧ ns.length ≤ 63 ∧ 0 ≤ k ∧ k ≤ 100 ∧
  ∀ p H', H p = none → Same H H' → PoolAt p H' → Q (.ref p) H'
def spDraw : Sp := fun vs H Q _ => ∃ (p : Addr) (m : Int), vs = [.ref p, .int m] ∧ PoolAt p H ∧ 0 < m ∧ m < 1073741824 ∧
  ∀ r H', 0 ≤ r → r < m → But p H H' → PoolAt p H' → Q (.int r) H'
structure TxtL (mg : Str → Option Value) : Prop where
  int : mg "int" = none
  range : mg "range" = none
  max : mg "max" = none
  min : mg "min" = none
  len : mg "len" = none
theorem head_int {ns : List Int} {lo hi : Option Int} : ∃ c : Int, atI (cutV (ns.map V.int) lo hi ++ [V.int 0]) 0 = some (V.int c) := by
  have e : cutV (ns.map V.int) lo hi = ((ns.drop (HT.sIx (ns.map V.int).length 0 lo)).take (HT.sIx (ns.map V.int).length (ns.map V.int).length hi - HT.sIx (ns.map V.int).length 0 lo)).map V.int := by
    unfold cutV
    rw [← List.map_drop, ← List.map_take]
  rw [e]
  cases (ns.drop (HT.sIx (ns.map V.int).length 0 lo)).take (HT.sIx (ns.map V.int).length (ns.map V.int).length hi - HT.sIx (ns.map V.int).length 0 lo) with
  | nil => exact ⟨0, atI_nat (j := 0) rfl⟩
  | cons c r => exact ⟨c, atI_nat (j := 0) rfl⟩
section
variable {P : Program} {w : World} {K : PySem.W.Frag} {mg : Str → Option Value} {base : Heap}
theorem scHand : FnScope ["script", "k", "cell", "seed"] ["script", "k"] (defScope sHand) := ⟨rfl, rfl, rfl, by decide +kernel, rfl, by decide +kernel, by decide +kernel⟩
theorem ok_hand {f : Addr} {fd : FuncData} (F : Fun K "_law_hand" "_law_hand" sHand f fd) (T : TxtL mg) : FnOk P w K mg base CX0 1 f fd ["script", "k"] (spHand K) := by
  refine F.ok scHand (fun vs H Q E h => ?_) (fun cdv A outer s H vs Q E hr h => ?_)
  · obtain ⟨a, ns, k, rfl, _⟩ := h
    rfl
  · obtain ⟨a, ns, k, rfl, hS, hl, k0, k1, q⟩ := h
    refine ⟨_, pss_cons (ps_set (i := 2) scHand.nd rfl (Or.inl rfl) (pe_ix ix_list (pe_op op_cat (pe_slice sl_list (pv 0) (po_some (pv 1)) (po_some (pe_op op_add (pv 1) pe_int))) (pe_lst (pa_cons pe_int pa_nil))) pe_int (fun _ _ => rfl)))
      (pss_cons (ps_set (i := 3) scHand.nd rfl (Or.inl rfl) (pe_op op_mod (pe_op op_mul (pe_op op_add (pe_op op_add (pe_op op_mod (pe_callTy call_int1 (by rfl) T.int (by decide +kernel) (pa_cons (pv 2) pa_nil)) pe_int) (pe_op op_mul pe_int (pv 1))) pe_int) pe_int) pe_int))
      (pss_one (ps_ret (pe_lst (pa_cons (pe_op op_mul (pe_callTy call_int1 (by rfl) T.int (by decide +kernel) (pa_cons (pe_cmpR op_ge (pv 2) (pe_op op_pow pe_int pe_int) (nomark _)) pa_nil)) (pv 2)) (pa_cons (pv 3) pa_nil)))))), ?_⟩
    obtain ⟨c, hc⟩ := head_int (ns := ns) (lo := some k) (hi := some (k + 1))
    -- cell
    refine ⟨_, rfl, _, rfl, _, rfl, _, rfl, _, _, rfl, rfl, _, rfl, a, _, rfl, hS, fun p1 n1 => ?_⟩
    refine ⟨(by show 1 ≤ sizeLine; decide), fun p2 n2 => ?_⟩
    have ne12 : p1 ≠ p2 := fun q => by rw [← q, upd_same] at n2; cases n2
    refine ⟨p1, p2, _, _, rfl, rfl, (by rw [upd_ne ne12, upd_same]), upd_same, ?_, fun p3 n3 => ?_⟩
    · have := cutV_length (ns.map V.int) (some k) (some (k + 1))
      rw [List.length_map] at this
      show _ + 1 ≤ sizeLine
      exact Nat.le_trans (Nat.add_le_add_right this 1) (Nat.le_trans (Nat.add_le_add_right hl 1) (by decide))
    refine ⟨p3, _, _, _, rfl, rfl, SqL.of upd_same, hc, ?_⟩
    have e1 : Same H (upd H p1 (.lst (cutV (ns.map V.int) (some k) (some (k + 1))))) := same_new n1
    have e2 := e1.trans (same_new (o := .lst [V.int 0]) n2)
    have e3 := e2.trans (same_new (o := .lst (cutV (ns.map V.int) (some k) (some (k + 1)) ++ [V.int 0])) n3)
    -- seed
    refine ⟨_, rfl, .inl ⟨_, rfl, ?_⟩⟩
    refine ⟨_, _, rfl, rfl, (by show (0 : Int) < 2147483647; decide), _, rfl, _, _, rfl, rfl, .inl ⟨by decide, by decide⟩, _, _, rfl, rfl, _, _, rfl, rfl, _, _, rfl, rfl, .inr ⟨by decide, by decide⟩, _, _, rfl, rfl, (by show (0 : Int) < 2147483629; decide), ?_⟩
    -- the list
    refine ⟨_, rfl, _, _, rfl, rfl, ⟨by decide, by decide, by decide⟩, _, _, rfl, rfl, .inr ⟨_, rfl, ?_⟩⟩
    refine ⟨_, rfl, _, _, rfl, rfl, .inl ?_, _, rfl, (by show 2 ≤ sizeLine; decide), fun p4 n4 => ?_⟩
    · split <;> exact ⟨by decide, by decide⟩
    · refine q p4 _ (Same.free e3 n4) (e3.trans (same_new n4)) ⟨_, _, upd_same, ?_, ?_, ?_⟩
      · by_cases hb : (10 : Int) ^ (18 : Int).toNat ≤ c
        · have h0 : (0 : Int) ≤ (10 : Int) ^ (18 : Int).toNat := by decide
          rw [decide_eq_true hb]
          show 0 ≤ 1 * c
          omega
        · rw [decide_eq_false hb]
          show 0 ≤ 0 * c
          omega
      · exact Int.emod_nonneg _ (by decide)
      · exact Int.lt_trans (Int.emod_lt_of_pos _ (by decide)) (by decide)
theorem scDraw : FnScope ["pool", "many", "found"] ["pool", "many"] (defScope sDraw) := ⟨rfl, rfl, rfl, by decide +kernel, rfl, by decide +kernel, by decide +kernel⟩
theorem ok_draw {f : Addr} {fd : FuncData} (F : Fun K "_law_draw" "_law_draw" sDraw f fd) (T : TxtL mg) : FnOk P w K mg base CX0 1 f fd ["pool", "many"] spDraw := by
  refine F.ok scDraw (fun vs H Q E h => ?_) (fun cdv A outer s H vs Q E hr h => ?_)
  · obtain ⟨p, m, rfl, _⟩ := h
    rfl
  · obtain ⟨p, m, rfl, ⟨i, j, hp, i0, j0, j1⟩, m0, m1, q⟩ := h
    refine ⟨_, pss_cons (ps_if (pt_cmpR op_gt (pe_ix ix_list (pv 0) pe_int (fun _ _ => rfl)) pe_int (nomark _))
        (pss_cons (ps_set (i := 2) scDraw.nd rfl (Or.inl rfl) (pe_op op_mod (pe_callTy call_int1 (by rfl) T.int (by decide +kernel) (pa_cons (pe_ix ix_list (pv 0) pe_int (fun _ _ => rfl)) pa_nil)) (pv 1)))
        (pss_cons (ps_asg (pe_op op_fdiv (pe_ix ix_list (pv 0) pe_int (fun _ _ => rfl)) (pv 1)) (pg_sub (pv 0) pe_int set_list))
        (pss_one (ps_ret (pv 2))))) pss_nil)
      (pss_cons (ps_asg (pe_op op_mod (pe_callTy call_int1 (by rfl) T.int (by decide +kernel) (pa_cons (pe_op op_add (pe_op op_mul (pe_ix ix_list (pv 0) pe_int (fun _ _ => rfl)) pe_int) pe_int) pa_nil)) pe_int) (pg_sub (pv 0) pe_int set_list))
      (pss_one (ps_ret (pe_op op_mod (pe_op op_fdiv (pe_op op_mod (pe_callTy call_int1 (by rfl) T.int (by decide +kernel) (pa_cons (pe_op op_mul (pe_ix ix_list (pv 0) pe_int (fun _ _ => rfl)) (pe_ix ix_list (pv 0) pe_int (fun _ _ => rfl))) pa_nil)) pe_int) pe_int) (pv 1))))), ?_⟩
    refine ⟨_, rfl, p, _, _, _, rfl, rfl, SqL.of hp, atI_nat (j := 0) rfl, _, _, rfl, rfl, _, rfl, ?_⟩
    refine ite2 (fun hi => ?_) (fun hi => ?_)
    · refine ⟨_, rfl, p, _, _, _, rfl, rfl, SqL.of hp, atI_nat (j := 0) rfl, .inl ⟨_, rfl, ?_⟩⟩
      refine ⟨_, rfl, _, _, rfl, rfl, m0, ?_⟩
      refine ⟨_, rfl, p, _, _, _, rfl, rfl, SqL.of hp, atI_nat (j := 0) rfl, _, rfl, _, _, rfl, rfl, ⟨m0, m1⟩, ?_⟩
      refine ⟨_, rfl, p, _, _, 0, rfl, rfl, hp, rfl, ?_⟩
      refine ⟨_, rfl, ?_⟩
      refine q _ _ (Int.emod_nonneg _ (by omega)) (Int.emod_lt_of_pos _ m0) But.upd ⟨_, _, upd_same, Int.ediv_nonneg i0 (by omega), j0, j1⟩
    · refine ⟨_, rfl, p, _, _, _, rfl, rfl, SqL.of hp, atI_nat (j := 1) rfl, _, _, rfl, rfl, .inr ⟨by decide, by decide⟩, _, _, rfl, rfl, .inl ⟨_, rfl, ?_⟩⟩
      refine ⟨_, _, rfl, rfl, (by show (0 : Int) < 2147483647; decide), ?_⟩
      refine ⟨_, rfl, p, _, _, 1, rfl, rfl, hp, rfl, ?_⟩
      have a0 : (0 : Int) ≤ (j * 48271 + 11) % 2147483647 := Int.emod_nonneg _ (by decide)
      have a1 : (j * 48271 + 11) % 2147483647 < (2147483647 : Int) := Int.emod_lt_of_pos _ (by decide)
      refine ⟨_, rfl, p, _, _, _, rfl, rfl, SqL.of upd_same, atI_nat (j := 1) rfl, _, rfl, p, _, _, _, rfl, rfl, SqL.of upd_same, atI_nat (j := 1) rfl, _, _, rfl, rfl, .inl ⟨by omega, by omega⟩, .inl ⟨_, rfl, ?_⟩⟩
      refine ⟨_, _, rfl, rfl, (by show (0 : Int) < 2147483629; decide), _, _, rfl, rfl, ⟨by decide, by decide⟩, _, rfl, _, _, rfl, rfl, m0, ?_⟩
      exact q _ _ (Int.emod_nonneg _ (by omega)) (Int.emod_lt_of_pos _ m0) But.upd ⟨_, _, upd_same, i0, a0, a1⟩
end
end Fo
set_option Elab.async false
set_option linter.all false
set_option maxRecDepth 100000
set_option maxHeartbeats 2000000
namespace Fo
open PySem L2
abbrev sPair : Stmt := top 16
abbrev sLaw : Stmt := top 17
def spPair : Sp := fun vs H Q _ => ∃ (p : Addr) (n : Int), vs = [.ref p, .int n] ∧ PoolAt p H ∧ 0 < n ∧ n < 1000 ∧
  ∀ q x y H', But p H H' → PoolAt p H' → H' q = some (.tup [.int x, .int y]) → -n ≤ x → x ≤ n → -n ≤ y → y ≤ n → Q (.ref q) H'
section
variable {P : Program} {w : World} {K : PySem.W.Frag} {mg : Str → Option Value} {base : Heap}
theorem scPair : FnScope ["pool", "size_here"] ["pool", "size_here"] (defScope sPair) := ⟨rfl, rfl, rfl, by decide +kernel, rfl, by decide +kernel, by decide +kernel⟩
theorem ok_pair {f fD : Addr} {fd fdD : FuncData} (F : Fun K "_law_pair" "_law_pair" sPair f fd) (T : TxtL mg) (FD : Fun K "_law_draw" "_law_draw" sDraw fD fdD) (bD : Binds K fdD ["pool", "many"] []) (mD : mg "_law_draw" = some (.ref fD)) :
    FnOk P w K mg base CX0 2 f fd ["pool", "size_here"] spPair := by
  have GD : FnOk P w K mg base CX0 1 fD fdD ["pool", "many"] spDraw := ok_draw FD T
  refine F.ok scPair (fun vs H Q E h => ?_) (fun cdv A outer s H vs Q E hr h => ?_)
  · obtain ⟨p, n, rfl, _⟩ := h
    rfl
  · obtain ⟨p, n, rfl, hp, n0, n1, q⟩ := h
    refine ⟨_, pss_one (ps_ret (pe_tup (pa_cons (pe_op op_sub (pe_call GD hr rfl mD FD.kp bD .nil pass0 (pa_cons (pv 0) (pa_cons (pe_op op_add (pe_op op_mul pe_int (pv 1)) pe_int) pa_nil))) (pv 1))
      (pa_cons (pe_op op_sub (pe_call GD hr rfl mD FD.kp bD .nil pass0 (pa_cons (pv 0) (pa_cons (pe_op op_add (pe_op op_mul pe_int (pv 1)) pe_int) pa_nil))) (pv 1)) pa_nil)))), ?_⟩
    refine ⟨_, rfl, _, rfl, _, _, rfl, rfl, .inl ⟨by decide, by decide⟩, _, _, rfl, rfl, p, _, rfl, hp, by omega, by omega, fun r1 H1 r10 r11 b1 p1 => ?_⟩
    refine ⟨_, rfl, _, _, rfl, rfl, ?_⟩
    refine ⟨_, rfl, _, rfl, _, _, rfl, rfl, .inl ⟨by decide, by decide⟩, _, _, rfl, rfl, p, _, rfl, p1, by omega, by omega, fun r2 H2 r20 r21 b2 p2 => ?_⟩
    refine ⟨_, rfl, _, _, rfl, rfl, (by show 2 ≤ sizeLine; decide), fun t ht => ?_⟩
    exact q t _ _ _ ((b1.trans b2).trans (But.of (same_new ht))) (p2.ex (same_new ht)) upd_same (by omega) (by omega) (by omega) (by omega)
/-! ### the mathematics -/
theorem side_bca (a b c d e f : Int) : sideI c d e f a b = sideI a b c d e f := by
  unfold sideI
  grind
theorem side_cab (a b c d e f : Int) : sideI e f a b c d = sideI a b c d e f := by
  unfold sideI
  grind
theorem side_bac (a b c d e f : Int) : sideI c d a b e f = -sideI a b c d e f := by
  unfold sideI
  grind
theorem side_acb (a b c d e f : Int) : sideI a b e f c d = -sideI a b c d e f := by
  unfold sideI
  grind
theorem side_moved (a b c d e f u v : Int) : sideI (a + u) (b + v) (c + u) (d + v) (e + u) (f + v) = sideI a b c d e f := by
  unfold sideI
  grind
theorem side_mirror (a b c d e f : Int) : sideI (-a) b (-c) d (-e) f = -sideI a b c d e f := by
  unfold sideI
  grind
theorem side_turned (a b c d e f : Int) : sideI (-b) a (-d) c (-f) e = sideI a b c d e f := by
  unfold sideI
  grind
theorem side_great (a b c d e f u v : Int) : sideI (a * u) (b * v) (c * u) (d * v) (e * u) (f * v) = sideI a b c d e f * u * v := by
  unfold sideI
  grind
theorem side_sum (a b c d e f u v : Int) : sideI a b c d u v + sideI c d e f u v + sideI e f a b u v = sideI a b c d e f := by
  unfold sideI
  grind
theorem side_abb (a b c d : Int) : sideI a b c d c d = 0 := by
  unfold sideI
  grind
theorem side_aap (a b c d : Int) : sideI a b a b c d = 0 := by
  unfold sideI
  grind
theorem sm_of {x : Int} (h1 : -10000000000000000000000000000000 ≤ x) (h2 : x ≤ 10000000000000000000000000000000) : Sm 110 x := by
  have h : (10000000000000000000000000000000 : Nat) < 2 ^ 110 := by decide
  unfold Sm
  omega
end
end Fo
set_option Elab.async false
set_option linter.all false
set_option maxRecDepth 100000
set_option maxHeartbeats 2000000
namespace Fo
open PySem L2
section
variable {P : Program} {w : World} {K : PySem.W.Frag} {mg : Str → Option Value} {base : Heap} {C : Addr}
theorem rd_side {a b c : V} {ax ay bx by' cx cy : Int} {H : Hp} {Q : VK} {E : XK} (n : Nat) (hn : n < 1000) (ha : IsPt C a ax ay H) (hb : IsPt C b bx by' H) (hc : IsPt C c cx cy H) (s1 : Sm n ax) (s2 : Sm n ay) (s3 : Sm n bx) (s4 : Sm n by') (s5 : Sm n cx) (s6 : Sm n cy)
    (k : ∀ H', Same H H' → Q (.int (sideI ax ay bx by' cx cy)) H') : spSide C ([a, b, c] ++ []) H Q E := ⟨n, a, b, c, ax, ay, bx, by', cx, cy, rfl, ha, hb, hc, hn, s1, s2, s3, s4, s5, s6, k⟩
theorem IsPt.tup {q : Addr} {x y : Int} {H : Hp} (h : H q = some (.tup [.int x, .int y])) : IsPt C (.ref q) x y H := ⟨q, rfl, .inr h⟩
theorem IsPt.but {v : V} {x y : Int} {D : Addr} {xs : List V} {H H' : Hp} (hD : H D = some (.lst xs)) (b : But D H H') (h : IsPt C v x y H) : IsPt C v x y H' := by
  obtain ⟨a, rfl, h⟩ := h
  rcases h with ⟨dx, h⟩ | h
  · exact ⟨a, rfl, .inl ⟨dx, b _ _ (ne_of h hD (by intro z; cases z)) h⟩⟩
  · exact ⟨a, rfl, .inr (b _ _ (ne_of h hD (by intro z; cases z)) h)⟩
/-- [te for one in l]: te a point or a pair each time -/
theorem lc_pts {l D : Addr} {te : TE} {σ : L2.St} {H1 : Hp} {xs : List V} {sl : Nat} {Qd : Hp → Prop} (X Y : Nat → Int) (hl : H1 l = some (.lst xs)) (hn : xs.length ≤ 1000)
    (step : ∀ i x H', xs[i]? = some x → Same H1 H' → ∀ Q' : VK, (∀ v H'', Same H' H'' → IsPt C v (X i) (Y i) H'' → Q' v H'') → te ((wipe σ [sl]).set sl (some x)) H' Q')
    (hd : ∀ H' vs, Same H1 H' → H' D = some (.lst vs) → vs.length = xs.length → (∀ i v, vs[i]? = some v → IsPt C v (X i) (Y i) H') → Qd H') (hD : H1 D = none) :
    ∃ W : Nat → Nat → Hp → Prop, (∃ m, W 0 m (upd H1 D (.lst []))) ∧ ∀ i m H, W i m H → ((Itl K l).stop i H ∧ Qd H) ∨
      ((Itl K l).go i H ∧ ∃ Nx : Hp → Prop, (∀ H', Nx H' → ∃ m', m' < m ∧ W (i + 1) m' H') ∧ ∀ x H', (Itl K l).yld i H x H' → gName sl x (wipe σ [sl]) H' fun σ2 H2 => wipe σ2 [sl] = wipe σ [sl] ∧ tYes σ2 H2 fun b H3 =>
      if b = true then te σ2 H3 fun y H4 => ∃ acc, H4 D = some (.lst acc) ∧ acc.length < sizeLine ∧ Nx (upd H4 D (.lst (acc ++ [y]))) else Nx H3) := by
  refine lc_list (K := K) (a := l) (xs := xs) (fun i H' => Same H1 H' ∧ ∃ vs : List V, H' D = some (.lst vs) ∧ vs.length = i ∧ ∀ j v, vs[j]? = some v → IsPt C v (X j) (Y j) H') ?_ ?_ ?_ ?_
  · exact ⟨same_new hD, [], upd_same, rfl, fun j v h => by simp at h⟩
  · rintro i H' _ ⟨e, _⟩
    exact SqL.of (e _ _ hl)
  · rintro i x H' hx ⟨e, vs, hv, hlen, hp⟩
    have hi : i < xs.length := (List.getElem?_eq_some_iff.mp hx).1
    show wipe _ _ = _ ∧ _
    refine ⟨?_, ?_⟩
    · show ((σ.set sl none).set sl (some x)).set sl none = σ.set sl none
      rw [List.set_set, List.set_set]
    · unfold tYes
      dsimp only
      rw [if_pos rfl]
      refine step i x H' hx e _ fun v H'' e2 h2 => ?_
      have hv2 := e2 _ _ hv
      refine ⟨vs, hv2, Nat.lt_of_lt_of_le (by omega : vs.length < 1001) (by decide), (But.upd.same hD (e.trans e2)), vs ++ [v], upd_same, by rw [List.length_append, hlen]; rfl, fun j u hu => ?_⟩
      by_cases hj : j < vs.length
      · rw [List.getElem?_append_left hj] at hu
        exact ((hp j u hu).ex e2).but hv2 But.upd
      · have hj2 : j = vs.length := by
          have := (List.getElem?_eq_some_iff.mp hu).1
          rw [List.length_append] at this
          simp at this
          omega
        subst hj2
        rw [List.getElem?_append_right (Nat.le_refl _)] at hu
        simp at hu
        subst hu
        rw [hlen]
        exact h2.but hv2 But.upd
  · rintro H' ⟨e, vs, hv, hlen, hp⟩
    exact hd H' vs e hv hlen hp
end
end Fo
set_option Elab.async false
set_option linter.all false
set_option maxRecDepth 100000
set_option maxHeartbeats 0
namespace Fo
open PySem L2
abbrev lawN : List Str := ["script", "k", "pool", "a", "b", "c", "p", "by", "found", "moved", "mirror", "turned", "wide", "high", "great", "turn", "one"]
theorem scLaw : FnScope lawN ["script"] (defScope sLaw) := ⟨rfl, rfl, rfl, by decide +kernel, rfl, by decide +kernel, by decide +kernel⟩
def spLaw (K : PySem.W.Frag) : Sp := fun vs H Q _ => ∃ (a : Addr) (ns : List Int), vs = [.ref a] ∧ SqL K H a (ns.map V.int) ∧ ns.length ≤ 63 ∧ ∀ H', Q (.bl true) H'
/-- the law's own helpers and the other defs, as they stand -/
structure LDefs (K : PySem.W.Frag) (mg : Str → Option Value) (C fH fD fPr fS fSub fAd fQ : Addr) (fdH fdD fdPr fdS fdSub fdAd fdQ : FuncData) : Prop where
  TL : TxtL mg
  FH : Fun K "_law_hand" "_law_hand" sHand fH fdH
  bH : Binds K fdH ["script", "k"] []
  mH : mg "_law_hand" = some (.ref fH)
  FD : Fun K "_law_draw" "_law_draw" sDraw fD fdD
  bD : Binds K fdD ["pool", "many"] []
  mD : mg "_law_draw" = some (.ref fD)
  FPr : Fun K "_law_pair" "_law_pair" sPair fPr fdPr
  bPr : Binds K fdPr ["pool", "size_here"] []
  mPr : mg "_law_pair" = some (.ref fPr)
  FS : Fun K "side" "side" sSide fS fdS
  bS : Binds K fdS ["a", "b", "point"] []
  mS : mg "side" = some (.ref fS)
  FSub : Fun K "__sub__" "Point.__sub__" sSub fSub fdSub
  bSub : Binds K fdSub ["self", "other"] []
  oS : OwnOp K C .Sub fSub
  FAd : Fun K "__add__" "Point.__add__" sAdd fAd fdAd
  bAd : Binds K fdAd ["self", "other"] []
  oA : OwnOp K C .Add fAd
  FQ : Fun K "quarter" "quarter" sQuarter fQ fdQ
  bQ : Binds K fdQ ["point"] []
  mQ : mg "quarter" = some (.ref fQ)
/-- the pool, the four pairs and the way by which all is moved -/
structure Five (H0 : Hp) (pl qa qb qc qp qy : Addr) (ax ay bx by' cx cy px py ux uy : Int) (H : Hp) : Prop where
  base : Same H0 H
  pool : PoolAt pl H
  a : H qa = some (.tup [.int ax, .int ay])
  b : H qb = some (.tup [.int bx, .int by'])
  c : H qc = some (.tup [.int cx, .int cy])
  p : H qp = some (.tup [.int px, .int py])
  y : H qy = some (.tup [.int ux, .int uy])
theorem Five.ex {H0 : Hp} {pl qa qb qc qp qy : Addr} {ax ay bx by' cx cy px py ux uy : Int} {H H' : Hp} (e : Same H H') (h : Five H0 pl qa qb qc qp qy ax ay bx by' cx cy px py ux uy H) : Five H0 pl qa qb qc qp qy ax ay bx by' cx cy px py ux uy H' :=
  ⟨h.base.trans e, h.pool.ex e, e _ _ h.a, e _ _ h.b, e _ _ h.c, e _ _ h.p, e _ _ h.y⟩
theorem tup_ne {pl q : Addr} {H : Hp} {xs : List V} (hp : PoolAt pl H) (h : H q = some (.tup xs)) : q ≠ pl := by
  obtain ⟨i, j, hp, _⟩ := hp
  exact ne_of h hp (by intro z; cases z)
theorem Five.but {H0 : Hp} {pl qa qb qc qp qy : Addr} {ax ay bx by' cx cy px py ux uy : Int} {H H' : Hp} (h0 : H0 pl = none) (e : But pl H H') (p : PoolAt pl H') (h : Five H0 pl qa qb qc qp qy ax ay bx by' cx cy px py ux uy H) : Five H0 pl qa qb qc qp qy ax ay bx by' cx cy px py ux uy H' :=
  ⟨e.same h0 h.base, p, e _ _ (tup_ne h.pool h.a) h.a, e _ _ (tup_ne h.pool h.b) h.b, e _ _ (tup_ne h.pool h.c) h.c, e _ _ (tup_ne h.pool h.p) h.p, e _ _ (tup_ne h.pool h.y) h.y⟩
theorem len4 {vs : List V} (h : vs.length = 4) : ∃ a b c d, vs = [a, b, c, d] := by
  match vs, h with
  | [a, b, c, d], _ => exact ⟨a, b, c, d, rfl⟩
theorem len3 {vs : List V} (h : vs.length = 3) : ∃ a b c, vs = [a, b, c] := by
  match vs, h with
  | [a, b, c], _ => exact ⟨a, b, c, rfl⟩
/-- one of three -/
def at3 (a b c : Int) : Nat → Int
  | 0 => a
  | 1 => b
  | _ => c
theorem pick3 {qa qb qc : Addr} {ax ay bx by' cx cy : Int} {H : Hp} (ha : H qa = some (.tup [.int ax, .int ay])) (hb : H qb = some (.tup [.int bx, .int by'])) (hc : H qc = some (.tup [.int cx, .int cy])) {i : Nat} {x : V} (hx : [V.ref qa, V.ref qb, V.ref qc][i]? = some x) :
    ∃ q X Y, x = V.ref q ∧ H q = some (.tup [.int X, .int Y]) ∧ ∀ g : Int → Int → Int, at3 (g ax ay) (g bx by') (g cx cy) i = g X Y := by
  match i, hx with
  | 0, hx => exact ⟨qa, ax, ay, (Option.some.inj hx).symm, ha, fun _ => rfl⟩
  | 1, hx => exact ⟨qb, bx, by', (Option.some.inj hx).symm, hb, fun _ => rfl⟩
  | 2, hx => exact ⟨qc, cx, cy, (Option.some.inj hx).symm, hc, fun _ => rfl⟩
theorem p29 : (10 : Int) ^ (29 : Int).toNat = 100000000000000000000000000000 := by decide
theorem p30 : (10 : Int) ^ (30 : Int).toNat = 1000000000000000000000000000000 := by decide
section
variable {P : Program} {w : World} {K : PySem.W.Frag} {mg : Str → Option Value} {base : Heap} {C fW fI fP fA fO fH fD fPr fS fSub fAd fQ : Addr} {fdW fdI fdP fdA fdO fdH fdD fdPr fdS fdSub fdAd fdQ : FuncData}
theorem ok_law {f : Addr} {fd : FuncData} (F : Fun K "law" "law" sLaw f fd) (D : Defs K mg C fW fI fP fA fO fdW fdI fdP fdA fdO) (L : LDefs K mg C fH fD fPr fS fSub fAd fQ fdH fdD fdPr fdS fdSub fdAd fdQ) :
    FnOk P w K mg base CX0 8 f fd ["script"] (spLaw K) := by
  have GS : FnOk P w K mg base CX0 7 fS fdS ["a", "b", "point"] (spSide C) := ok_side L.FS D
  have GAdd : FnOk P w K mg base CX0 6 fAd fdAd ["self", "other"] (spBin C (· + ·)) := ok_add L.FAd D
  have GQ : FnOk P w K mg base CX0 5 fQ fdQ ["point"] (spQuarter C) := ok_quarter L.FQ D
  have GI : FnOk P w K mg base CX0 2 fI fdI ["self", "x", "y"] (spInit C) := D.GI
  have GH : FnOk P w K mg base CX0 1 fH fdH ["script", "k"] (spHand K) := ok_hand L.FH L.TL
  have GD : FnOk P w K mg base CX0 1 fD fdD ["pool", "many"] spDraw := ok_draw L.FD L.TL
  have GP2 : FnOk P w K mg base CX0 2 fPr fdPr ["pool", "size_here"] spPair := ok_pair L.FPr L.TL L.FD L.bD L.mD
  refine F.ok scLaw (fun vs H Q E h => ?_) (fun cdv A outer s H vs Q E hr h => ?_)
  · obtain ⟨a, ns, rfl, _⟩ := h
    rfl
  · obtain ⟨sa, ns, rfl, hS, hlen, k⟩ := h
    have hr7 : Room 7 _ := hr
    have hr6 : Room 6 _ := hr.mono (by decide)
    have hr5 : Room 5 _ := hr.mono (by decide)
    have hr3 : Room 3 _ := hr.mono (by decide)
    have hr2 : Room 2 _ := hr.mono (by decide)
    have hr1 : Room 1 _ := hr.mono (by decide)
    refine ⟨_, pss_cons (ps_for PassesOwn.never rfl (pi_range1 rfl L.TL.range (pa_cons (pe_callB (call_max2 rfl) (by rfl) L.TL.max (by decide +kernel) (pa_cons pe_int (pa_cons (pe_callB (call_min2 rfl) (by rfl) L.TL.min (by decide +kernel) (pa_cons (pe_callB call_len_seq (by rfl) L.TL.len PySem.boot_len (pa_cons (pv 0) pa_nil)) (pa_cons pe_int pa_nil))) pa_nil))) pa_nil)) (pg_name (i := 1) scLaw.nd rfl (Or.inl rfl))
        (pss_cons (ps_set (i := 2) scLaw.nd rfl (Or.inr rfl) (pe_call GH hr1 rfl L.mH L.FH.kp L.bH .nil pass0 (pa_cons (pv 0) (pa_cons (pv 1) pa_nil))))
        (pss_cons (ps_asg (pe_lc (own := [("turn", 15)]) (g := gName 15) (tt := tYes) rfl scLaw.nd (pi_range1 rfl L.TL.range (pa_cons pe_int pa_nil)) (blkOk_by (own := [("turn", 15)]) (N := lawN) (sc := defScope sLaw) (by decide +kernel)) (fun _ _ _ _ _ => pg_name (i := 15) scLaw.nd rfl (Or.inl rfl)) (fun _ _ _ _ _ => pts_nil) (fun _ _ _ _ _ => (pe_call GP2 hr2 rfl L.mPr L.FPr.kp L.bPr .nil pass0 (pa_cons (pv 2) (pa_cons pe_int pa_nil))))) (pg_unl rfl (pgs_cons (pg_name (i := 3) scLaw.nd rfl (Or.inl rfl)) (pgs_cons (pg_name (i := 4) scLaw.nd rfl (Or.inl rfl)) (pgs_cons (pg_name (i := 5) scLaw.nd rfl (Or.inl rfl)) (pgs_cons (pg_name (i := 6) scLaw.nd rfl (Or.inl rfl)) pgs_nil))))))
        (pss_cons (ps_set (i := 7) scLaw.nd rfl (Or.inr rfl) (pe_tup (pa_cons (pe_op op_mul (pe_ix (r := rIxT K) ix_tup (pe_call GP2 hr2 rfl L.mPr L.FPr.kp L.bPr .nil pass0 (pa_cons (pv 2) (pa_cons pe_int pa_nil))) pe_int (fun _ _ => rfl)) (pe_op op_pow pe_int pe_int)) (pa_cons (pe_op op_sub (pe_op op_pow pe_int pe_int) (pe_call GD hr1 rfl L.mD L.FD.kp L.bD .nil pass0 (pa_cons (pv 2) (pa_cons pe_int pa_nil)))) pa_nil))))
        (pss_cons (ps_set (i := 8) scLaw.nd rfl (Or.inl rfl) (pe_call GS hr7 rfl L.mS L.FS.kp L.bS .nil pass0 (pa_cons (pv 3) (pa_cons (pv 4) (pa_cons (pv 5) pa_nil)))))
        (pss_cons (ps_if (PW.pt (pw_or (pt_cmpR op_ne (pe_call GS hr7 rfl L.mS L.FS.kp L.bS .nil pass0 (pa_cons (pv 4) (pa_cons (pv 5) (pa_cons (pv 3) pa_nil)))) (pv 8) (nomark _)) (pw_or (pt_cmpR op_ne (pe_call GS hr7 rfl L.mS L.FS.kp L.bS .nil pass0 (pa_cons (pv 5) (pa_cons (pv 3) (pa_cons (pv 4) pa_nil)))) (pv 8) (nomark _)) (pw_or (pt_cmpR op_ne (pe_call GS hr7 rfl L.mS L.FS.kp L.bS .nil pass0 (pa_cons (pv 4) (pa_cons (pv 3) (pa_cons (pv 5) pa_nil)))) (pe_un un_neg (pv 8)) (nomark _)) (pw_or1 (pt_cmpR op_ne (pe_call GS hr7 rfl L.mS L.FS.kp L.bS .nil pass0 (pa_cons (pv 3) (pa_cons (pv 5) (pa_cons (pv 4) pa_nil)))) (pe_un un_neg (pv 8)) (nomark _))))))) (pss_one (ps_ret pe_bl)) pss_nil)
        (pss_cons (ps_setLc (i := 9) (own := [("one", 16)]) (g := gName 16) (tt := tYes) rfl scLaw.nd rfl rfl (sw_true rfl rfl rfl (by decide +kernel)) (pi_list (pe_lst (pa_cons (pv 3) (pa_cons (pv 4) (pa_cons (pv 5) pa_nil))))) (blkOk_by (own := [("one", 16)]) (N := lawN) (sc := defScope sLaw) (by decide +kernel)) (fun _ _ _ _ _ => pg_name (i := 16) scLaw.nd rfl (Or.inl rfl)) (fun _ _ _ _ _ => pts_nil) (fun _ _ _ _ _ => (pe_op (op_own L.oA FoOps.tup_add GAdd hr6 L.bAd pass0) (pe_make D.M GI hr3 rfl D.T.mgC D.bI .nil pass0 (pa_cons (pe_ix (r := rIxT K) ix_tup (pv 16) pe_int (fun _ _ => rfl)) (pa_cons (pe_ix (r := rIxT K) ix_tup (pv 16) pe_int (fun _ _ => rfl)) pa_nil))) (pv 7))))
        (pss_cons (ps_if (pt_cmpR op_ne (pe_call GS hr7 rfl L.mS L.FS.kp L.bS .nil pass0 (pa_cons (pe_ix ix_list (pv 9) pe_int (fun _ _ => rfl)) (pa_cons (pe_ix ix_list (pv 9) pe_int (fun _ _ => rfl)) (pa_cons (pe_ix ix_list (pv 9) pe_int (fun _ _ => rfl)) pa_nil)))) (pv 8) (nomark _)) (pss_one (ps_ret pe_bl)) pss_nil)
        (pss_cons (ps_setLc (i := 10) (own := [("one", 16)]) (g := gName 16) (tt := tYes) rfl scLaw.nd rfl rfl (sw_true rfl rfl rfl (by decide +kernel)) (pi_list (pe_lst (pa_cons (pv 3) (pa_cons (pv 4) (pa_cons (pv 5) pa_nil))))) (blkOk_by (own := [("one", 16)]) (N := lawN) (sc := defScope sLaw) (by decide +kernel)) (fun _ _ _ _ _ => pg_name (i := 16) scLaw.nd rfl (Or.inl rfl)) (fun _ _ _ _ _ => pts_nil) (fun _ _ _ _ _ => (pe_tup (pa_cons (pe_un un_neg (pe_ix (r := rIxT K) ix_tup (pv 16) pe_int (fun _ _ => rfl))) (pa_cons (pe_ix (r := rIxT K) ix_tup (pv 16) pe_int (fun _ _ => rfl)) pa_nil)))))
        (pss_cons (ps_if (pt_cmpR op_ne (pe_call GS hr7 rfl L.mS L.FS.kp L.bS .nil pass0 (pa_cons (pe_ix ix_list (pv 10) pe_int (fun _ _ => rfl)) (pa_cons (pe_ix ix_list (pv 10) pe_int (fun _ _ => rfl)) (pa_cons (pe_ix ix_list (pv 10) pe_int (fun _ _ => rfl)) pa_nil)))) (pe_un un_neg (pv 8)) (nomark _)) (pss_one (ps_ret pe_bl)) pss_nil)
        (pss_cons (ps_setLc (i := 11) (own := [("one", 16)]) (g := gName 16) (tt := tYes) rfl scLaw.nd rfl rfl (sw_true rfl rfl rfl (by decide +kernel)) (pi_list (pe_lst (pa_cons (pv 3) (pa_cons (pv 4) (pa_cons (pv 5) pa_nil))))) (blkOk_by (own := [("one", 16)]) (N := lawN) (sc := defScope sLaw) (by decide +kernel)) (fun _ _ _ _ _ => pg_name (i := 16) scLaw.nd rfl (Or.inl rfl)) (fun _ _ _ _ _ => pts_nil) (fun _ _ _ _ _ => (pe_call GQ hr5 rfl L.mQ L.FQ.kp L.bQ .nil pass0 (pa_cons (pv 16) pa_nil))))
        (pss_cons (ps_if (pt_cmpR op_ne (pe_call GS hr7 rfl L.mS L.FS.kp L.bS .nil pass0 (pa_cons (pe_ix ix_list (pv 11) pe_int (fun _ _ => rfl)) (pa_cons (pe_ix ix_list (pv 11) pe_int (fun _ _ => rfl)) (pa_cons (pe_ix ix_list (pv 11) pe_int (fun _ _ => rfl)) pa_nil)))) (pv 8) (nomark _)) (pss_one (ps_ret pe_bl)) pss_nil)
        (pss_cons (ps_asg (pe_tup (pa_cons (pe_op op_add pe_int (pe_call GD hr1 rfl L.mD L.FD.kp L.bD .nil pass0 (pa_cons (pv 2) (pa_cons pe_int pa_nil)))) (pa_cons (pe_op op_add pe_int (pe_call GD hr1 rfl L.mD L.FD.kp L.bD .nil pass0 (pa_cons (pv 2) (pa_cons pe_int pa_nil)))) pa_nil))) (pg_tup rfl (pgs_cons (pg_name (i := 12) scLaw.nd rfl (Or.inr rfl)) (pgs_cons (pg_name (i := 13) scLaw.nd rfl (Or.inr rfl)) pgs_nil))))
        (pss_cons (ps_setLc (i := 14) (own := [("one", 16)]) (g := gName 16) (tt := tYes) rfl scLaw.nd rfl rfl (sw_true rfl rfl rfl (by decide +kernel)) (pi_list (pe_lst (pa_cons (pv 3) (pa_cons (pv 4) (pa_cons (pv 5) pa_nil))))) (blkOk_by (own := [("one", 16)]) (N := lawN) (sc := defScope sLaw) (by decide +kernel)) (fun _ _ _ _ _ => pg_name (i := 16) scLaw.nd rfl (Or.inl rfl)) (fun _ _ _ _ _ => pts_nil) (fun _ _ _ _ _ => (pe_tup (pa_cons (pe_op op_mul (pe_ix (r := rIxT K) ix_tup (pv 16) pe_int (fun _ _ => rfl)) (pv 12)) (pa_cons (pe_op op_mul (pe_ix (r := rIxT K) ix_tup (pv 16) pe_int (fun _ _ => rfl)) (pv 13)) pa_nil)))))
        (pss_cons (ps_if (pt_cmpR op_ne (pe_call GS hr7 rfl L.mS L.FS.kp L.bS .nil pass0 (pa_cons (pe_ix ix_list (pv 14) pe_int (fun _ _ => rfl)) (pa_cons (pe_ix ix_list (pv 14) pe_int (fun _ _ => rfl)) (pa_cons (pe_ix ix_list (pv 14) pe_int (fun _ _ => rfl)) pa_nil)))) (pe_op op_mul (pe_op op_mul (pv 8) (pv 12)) (pv 13)) (nomark _)) (pss_one (ps_ret pe_bl)) pss_nil)
        (pss_one (ps_if (PW.pt (pw_or (pt_cmpR op_ne (pe_op op_add (pe_op op_add (pe_call GS hr7 rfl L.mS L.FS.kp L.bS .nil pass0 (pa_cons (pv 3) (pa_cons (pv 4) (pa_cons (pv 6) pa_nil)))) (pe_call GS hr7 rfl L.mS L.FS.kp L.bS .nil pass0 (pa_cons (pv 4) (pa_cons (pv 5) (pa_cons (pv 6) pa_nil))))) (pe_call GS hr7 rfl L.mS L.FS.kp L.bS .nil pass0 (pa_cons (pv 5) (pa_cons (pv 3) (pa_cons (pv 6) pa_nil))))) (pv 8) (nomark _)) (pw_or (pt_cmpR op_ne (pe_call GS hr7 rfl L.mS L.FS.kp L.bS .nil pass0 (pa_cons (pv 3) (pa_cons (pv 4) (pa_cons (pv 4) pa_nil)))) pe_int (nomark _)) (pw_or1 (pt_cmpR op_ne (pe_call GS hr7 rfl L.mS L.FS.kp L.bS .nil pass0 (pa_cons (pv 3) (pa_cons (pv 3) (pa_cons (pv 6) pa_nil)))) pe_int (nomark _)))))) (pss_one (ps_ret pe_bl)) pss_nil)))))))))))))))))
      (pss_one (ps_ret pe_bl)), ?_⟩
    -- range(max(1, min(len(script), 8)))
    refine ⟨_, rfl, sa, _, rfl, .inl hS, _, _, rfl, _, _, rfl, ?_⟩
    have hn8 : ∀ z : Int, z = (if (if (8 : Int) < ((ns.map V.int).length : Int) then (8 : Int) else ((ns.map V.int).length : Int)) > 1 then (if (8 : Int) < ((ns.map V.int).length : Int) then (8 : Int) else ((ns.map V.int).length : Int)) else 1) → 0 ≤ z ∧ z ≤ 8 := by
      intro z hz
      split at hz <;> split at hz <;> omega
    obtain ⟨n0, n8⟩ := hn8 _ rfl
    refine ⟨_, rfl, by omega, by omega, ?_⟩
    refine for_range (lo := 0) (fun i σ H' => ∃ v1 v2 v3 v4 v5 v6 v7 v8 v9 v10 v11 v12 v13 v14 v15 v16 : Option V, σ = [some (.ref sa), v1, v2, v3, v4, v5, v6, v7, v8, v9, v10, v11, v12, v13, v14, v15, v16] ∧ Same H H')
      ⟨_, _, _, _, _, _, _, _, _, _, _, _, _, _, _, _, rfl, Same.refl _⟩ ?_ ?_
    · rintro i σ H0 hi ⟨v1, v2, v3, v4, v5, v6, v7, v8, v9, v10, v11, v12, v13, v14, v15, v16, rfl, eH⟩
      -- pool = _law_hand(script, k)
      refine ⟨_, rfl, _, rfl, sa, ns, _, rfl, eH.seq hS, hlen, by omega, by omega, fun pl H1 hpl e1 p1 => ?_⟩
      clear hn8 n0 n8 hi
      -- a, b, c, p = [..]
      refine ⟨4, rfl, by decide, by decide, fun D1 hD1 => ?_⟩
      have nD0 : H0 D1 = none := Same.free e1 hD1
      have plD : pl ≠ D1 := by
        obtain ⟨i1, j1, h1, _⟩ := p1
        exact ne_of_none h1 hD1
      refine lc_range (lo := 0) (n := 4) (fun i H' => Same H0 H' ∧ PoolAt pl H' ∧ ∃ vs : List V, H' D1 = some (.lst vs) ∧ vs.length = i ∧ ∀ v ∈ vs, ∃ q x y, v = V.ref q ∧ H' q = some (.tup [.int x, .int y]) ∧ -8 ≤ x ∧ x ≤ 8 ∧ -8 ≤ y ∧ y ≤ 8)
        ⟨(e1.trans (same_new hD1)), p1.ex (same_new hD1), [], upd_same, rfl, fun v h => by simp at h⟩ ?_ ?_
      · rintro j H2 hj ⟨e2, p2, vs, hvs, hvl, hv⟩
        refine ⟨rfl, ?_⟩
        unfold tYes
        dsimp only
        rw [if_pos rfl]
        refine ⟨_, rfl, pl, 8, rfl, p2, by decide, by decide, fun q x y H3 b3 p3 hq x0 x1 y0 y1 => ?_⟩
        have hD3 := b3 _ _ plD.symm hvs
        have qD : q ≠ D1 := ne_of hq hD3 (by intro z; cases z)
        refine ⟨vs, hD3, Nat.lt_of_lt_of_le (by omega : vs.length < 5) (by decide), But.upd.same nD0 (b3.same hpl e2), ?_, vs ++ [.ref q], upd_same, by rw [List.length_append, hvl]; rfl, ?_⟩
        · obtain ⟨i3, j3, h3, r3⟩ := p3
          exact ⟨i3, j3, by rw [upd_ne plD]; exact h3, r3⟩
        · intro v hv2
          rcases List.mem_append.mp hv2 with hv2 | hv2
          · obtain ⟨q2, x2, y2, rfl, h2, r2⟩ := hv v hv2
            have n2 : q2 ≠ D1 := ne_of h2 hvs (by intro z; cases z)
            exact ⟨q2, x2, y2, rfl, by rw [upd_ne n2]; exact b3 _ _ (tup_ne p2 h2) h2, r2⟩
          · rw [List.mem_singleton] at hv2
            exact ⟨q, x, y, hv2, by rw [upd_ne qD]; exact hq, x0, x1, y0, y1⟩
      · rintro H2 ⟨e2, p2, vs, hvs, hvl, hv⟩
        obtain ⟨va, vb, vc, vp, rfl⟩ := len4 hvl
        obtain ⟨qa, ax, ay, rfl, ha, ax0, ax1, ay0, ay1⟩ := hv va (by simp)
        obtain ⟨qb, bx, by', rfl, hb, bx0, bx1, by0, by1⟩ := hv vb (by simp)
        obtain ⟨qc, cx, cy, rfl, hc, cx0, cx1, cy0, cy1⟩ := hv vc (by simp)
        obtain ⟨qp, px, py, rfl, hp, px0, px1, py0, py1⟩ := hv vp (by simp)
        refine ⟨D1, _, rfl, SqL.of hvs, rfl, _, _, rfl, _, _, rfl, _, _, rfl, _, _, rfl, rfl, ?_⟩
        -- by
        refine ⟨_, rfl, pl, 8, rfl, p2, by decide, by decide, fun q3 x3 y3 H3 b3 p3 hq3 x30 x31 y30 y31 => ?_⟩
        refine ⟨q3, _, _, _, rfl, rfl, SqT.of hq3, atI_nat (j := 0) rfl, _, _, rfl, rfl, ⟨by decide, by decide, by decide⟩, _, _, rfl, rfl, .inl ⟨by omega, by omega⟩, ?_⟩
        refine ⟨_, _, rfl, rfl, ⟨by decide, by decide, by decide⟩, _, rfl, pl, 9, rfl, p3, by decide, by decide, fun r4 H4 r40 r41 b4 p4 => ?_⟩
        refine ⟨_, _, rfl, rfl, (by show 2 ≤ sizeLine; decide), fun qy nqy => ?_⟩
        rw [p29, p30] at *
        have b34 := b3.trans b4
        have F5 : Five H0 pl qa qb qc qp qy ax ay bx by' cx cy px py (x3 * 100000000000000000000000000000) (1000000000000000000000000000000 - r4) (upd H4 qy (.tup [.int (x3 * 100000000000000000000000000000), .int (1000000000000000000000000000000 - r4)])) := by
          have s5 := same_new (o := HO.tup [.int (x3 * 100000000000000000000000000000), .int (1000000000000000000000000000000 - r4)]) nqy
          exact ⟨(b34.same hpl e2).trans s5, p4.ex s5, s5 _ _ (b34 _ _ (tup_ne p2 ha) ha), s5 _ _ (b34 _ _ (tup_ne p2 hb) hb), s5 _ _ (b34 _ _ (tup_ne p2 hc) hc), s5 _ _ (b34 _ _ (tup_ne p2 hp) hp), upd_same⟩
        have sax : Sm 110 ax := sm_of (by omega) (by omega)
        have say : Sm 110 ay := sm_of (by omega) (by omega)
        have sbx : Sm 110 bx := sm_of (by omega) (by omega)
        have sby : Sm 110 by' := sm_of (by omega) (by omega)
        have scx : Sm 110 cx := sm_of (by omega) (by omega)
        have scy : Sm 110 cy := sm_of (by omega) (by omega)
        have spx : Sm 110 px := sm_of (by omega) (by omega)
        have spy : Sm 110 py := sm_of (by omega) (by omega)
        -- found
        refine ⟨_, rfl, _, rfl, _, rfl, 110, _, _, _, _, _, _, _, _, _, rfl, (.tup F5.a), (.tup F5.b), (.tup F5.c), (by decide), sax, say, sbx, sby, scx, scy, fun H6 e6 => ?_⟩
        have F6 := F5.ex e6
        -- round and changed
        refine ⟨_, rfl, _, rfl, _, rfl, 110, _, _, _, _, _, _, _, _, _, rfl, (.tup F6.b), (.tup F6.c), (.tup F6.a), (by decide), sbx, sby, scx, scy, sax, say, fun H7 e7 => ?_⟩
        have F7 := F6.ex e7
        refine ⟨_, rfl, rfl, _, rfl, iteNS (by rw [side_bca]) ?_⟩
        refine ⟨_, rfl, _, rfl, _, rfl, 110, _, _, _, _, _, _, _, _, _, rfl, (.tup F7.c), (.tup F7.a), (.tup F7.b), (by decide), scx, scy, sax, say, sbx, sby, fun H8 e8 => ?_⟩
        have F8 := F7.ex e8
        refine ⟨_, rfl, rfl, _, rfl, iteNS (by rw [side_cab]) ?_⟩
        refine ⟨_, rfl, _, rfl, _, rfl, 110, _, _, _, _, _, _, _, _, _, rfl, (.tup F8.b), (.tup F8.a), (.tup F8.c), (by decide), sbx, sby, sax, say, scx, scy, fun H9 e9 => ?_⟩
        have F9 := F8.ex e9
        refine ⟨_, rfl, _, rfl, rfl, _, rfl, iteNS (by rw [side_bac]) ?_⟩
        refine ⟨_, rfl, _, rfl, _, rfl, 110, _, _, _, _, _, _, _, _, _, rfl, (.tup F9.a), (.tup F9.c), (.tup F9.b), (by decide), sax, say, scx, scy, sbx, sby, fun H10 e10 => ?_⟩
        have F10 := F9.ex e10
        refine ⟨_, rfl, _, rfl, rfl, _, rfl, iteNS (by rw [side_acb]) ?_⟩
        -- moved
        refine ⟨_, rfl, _, rfl, _, rfl, (by show 3 ≤ sizeLine; decide), fun l1 nl1 => ⟨l1, rfl, ⟨_, SqL.of upd_same⟩, fun D2 nD2 => ?_⟩⟩
        have F11 := F10.ex (same_new (o := .lst [.ref qa, .ref qb, .ref qc]) nl1)
        refine lc_pts (K := K) (C := C) (xs := [V.ref qa, V.ref qb, V.ref qc]) (at3 (ax + (x3 * 100000000000000000000000000000)) (bx + (x3 * 100000000000000000000000000000)) (cx + (x3 * 100000000000000000000000000000))) (at3 (ay + (1000000000000000000000000000000 - r4)) (by' + (1000000000000000000000000000000 - r4)) (cy + (1000000000000000000000000000000 - r4))) upd_same (by show 3 ≤ 1000; decide) ?_ ?_ nD2
        · intro i x H' hx e Q' q'
          have F := F11.ex e
          obtain ⟨q, X, Y, rfl, hq, hg⟩ := pick3 F.a F.b F.c hx
          have hX := hg (fun x y => x + (x3 * 100000000000000000000000000000))
          have hY := hg (fun x y => y + (1000000000000000000000000000000 - r4))
          rw [hX, hY] at q'
          refine ⟨_, rfl, q, _, _, _, rfl, rfl, SqT.of hq, atI_nat (j := 0) rfl, _, rfl, q, _, _, _, rfl, rfl, SqT.of hq, atI_nat (j := 1) rfl, ?_⟩
          intro a2 d2 nx2 nd2 _
          refine ⟨a2, d2, _, _, rfl, upd_same, rfl, ?_⟩
          have e2 := made_same (C := C) (X := X) (Y := Y) nx2 nd2
          have h2 : IsP C (.ref a2) X Y _ := made_is (H := H') (dx := d2)
          have F2 := F.ex e2
          exact ⟨_, rfl, a2, d2, _, rfl, upd_same, .inr ⟨qy, _, rfl, F2.y⟩, _, _, _, _, _, _, rfl, h2, .tup F2.y, fun v H3 e3 h3 => q' v H3 (e2.trans e3) h3.pt⟩
        intro H12 vs e12 hD2 hvl hpt
        have F12 := F11.ex e12
        obtain ⟨w0, w1, w2, rfl⟩ := len3 hvl
        have t0 := hpt 0 w0 rfl
        have t1 := hpt 1 w1 rfl
        have t2 := hpt 2 w2 rfl
        refine ⟨_, rfl, D2, _, _, _, rfl, rfl, SqL.of hD2, atI_nat (j := 0) rfl, _, rfl, D2, _, _, _, rfl, rfl, SqL.of hD2, atI_nat (j := 1) rfl, _, rfl, D2, _, _, _, rfl, rfl, SqL.of hD2, atI_nat (j := 2) rfl, ?_⟩
        refine ⟨110, _, _, _, _, _, _, _, _, _, rfl, t0, t1, t2, (by decide), (sm_of (by show _ ≤ ax + (x3 * 100000000000000000000000000000); omega) (by show ax + (x3 * 100000000000000000000000000000) ≤ _; omega)), (sm_of (by show _ ≤ ay + (1000000000000000000000000000000 - r4); omega) (by show ay + (1000000000000000000000000000000 - r4) ≤ _; omega)), (sm_of (by show _ ≤ bx + (x3 * 100000000000000000000000000000); omega) (by show bx + (x3 * 100000000000000000000000000000) ≤ _; omega)), (sm_of (by show _ ≤ by' + (1000000000000000000000000000000 - r4); omega) (by show by' + (1000000000000000000000000000000 - r4) ≤ _; omega)), (sm_of (by show _ ≤ cx + (x3 * 100000000000000000000000000000); omega) (by show cx + (x3 * 100000000000000000000000000000) ≤ _; omega)), (sm_of (by show _ ≤ cy + (1000000000000000000000000000000 - r4); omega) (by show cy + (1000000000000000000000000000000 - r4) ≤ _; omega)), fun H13 e13 => ?_⟩
        have F13 := F12.ex e13
        refine ⟨_, rfl, rfl, _, rfl, iteNS (congrArg V.int (side_moved ax ay bx by' cx cy (x3 * 100000000000000000000000000000) (1000000000000000000000000000000 - r4))) ?_⟩
        -- mirror
        refine ⟨_, rfl, _, rfl, _, rfl, (by show 3 ≤ sizeLine; decide), fun l3 nl3 => ⟨l3, rfl, ⟨_, SqL.of upd_same⟩, fun D3 nD3 => ?_⟩⟩
        have F14 := F13.ex (same_new (o := .lst [.ref qa, .ref qb, .ref qc]) nl3)
        refine lc_pts (K := K) (C := C) (xs := [V.ref qa, V.ref qb, V.ref qc]) (at3 (-ax) (-bx) (-cx)) (at3 (ay) (by') (cy)) upd_same (by show 3 ≤ 1000; decide) ?_ ?_ nD3
        · intro i x H' hx e Q' q'
          have F := F14.ex e
          obtain ⟨q, X, Y, rfl, hq, hg⟩ := pick3 F.a F.b F.c hx
          have hX := hg (fun x y => -x)
          have hY := hg (fun x y => y)
          rw [hX, hY] at q'
          refine ⟨_, rfl, q, _, _, _, rfl, rfl, SqT.of hq, atI_nat (j := 0) rfl, _, rfl, _, rfl, q, _, _, _, rfl, rfl, SqT.of hq, atI_nat (j := 1) rfl, (by show 2 ≤ sizeLine; decide), fun t nt => ?_⟩
          exact q' _ _ (same_new nt) (.tup upd_same)
        intro H15 vs e15 hD3 hvl hpt
        have F15 := F14.ex e15
        obtain ⟨w0, w1, w2, rfl⟩ := len3 hvl
        have t0 := hpt 0 w0 rfl
        have t1 := hpt 1 w1 rfl
        have t2 := hpt 2 w2 rfl
        refine ⟨_, rfl, D3, _, _, _, rfl, rfl, SqL.of hD3, atI_nat (j := 0) rfl, _, rfl, D3, _, _, _, rfl, rfl, SqL.of hD3, atI_nat (j := 1) rfl, _, rfl, D3, _, _, _, rfl, rfl, SqL.of hD3, atI_nat (j := 2) rfl, ?_⟩
        refine ⟨110, _, _, _, _, _, _, _, _, _, rfl, t0, t1, t2, (by decide), (sm_of (by show _ ≤ -ax; omega) (by show -ax ≤ _; omega)), (sm_of (by show _ ≤ ay; omega) (by show ay ≤ _; omega)), (sm_of (by show _ ≤ -bx; omega) (by show -bx ≤ _; omega)), (sm_of (by show _ ≤ by'; omega) (by show by' ≤ _; omega)), (sm_of (by show _ ≤ -cx; omega) (by show -cx ≤ _; omega)), (sm_of (by show _ ≤ cy; omega) (by show cy ≤ _; omega)), fun H16 e16 => ?_⟩
        have F16 := F15.ex e16
        refine ⟨_, rfl, _, rfl, rfl, _, rfl, iteNS (congrArg V.int (side_mirror ax ay bx by' cx cy)) ?_⟩
        -- turned
        refine ⟨_, rfl, _, rfl, _, rfl, (by show 3 ≤ sizeLine; decide), fun l4 nl4 => ⟨l4, rfl, ⟨_, SqL.of upd_same⟩, fun D4 nD4 => ?_⟩⟩
        have F17 := F16.ex (same_new (o := .lst [.ref qa, .ref qb, .ref qc]) nl4)
        refine lc_pts (K := K) (C := C) (xs := [V.ref qa, V.ref qb, V.ref qc]) (at3 (-ay) (-by') (-cy)) (at3 (ax) (bx) (cx)) upd_same (by show 3 ≤ 1000; decide) ?_ ?_ nD4
        · intro i x H' hx e Q' q'
          have F := F17.ex e
          obtain ⟨q, X, Y, rfl, hq, hg⟩ := pick3 F.a F.b F.c hx
          have hX := hg (fun x y => -y)
          have hY := hg (fun x y => x)
          rw [hX, hY] at q'
          refine ⟨_, rfl, _, _, _, rfl, .tup hq, fun v H2 e2 h2 => q' v H2 e2 h2.pt⟩
        intro H18 vs e18 hD4 hvl hpt
        have F18 := F17.ex e18
        obtain ⟨w0, w1, w2, rfl⟩ := len3 hvl
        have t0 := hpt 0 w0 rfl
        have t1 := hpt 1 w1 rfl
        have t2 := hpt 2 w2 rfl
        refine ⟨_, rfl, D4, _, _, _, rfl, rfl, SqL.of hD4, atI_nat (j := 0) rfl, _, rfl, D4, _, _, _, rfl, rfl, SqL.of hD4, atI_nat (j := 1) rfl, _, rfl, D4, _, _, _, rfl, rfl, SqL.of hD4, atI_nat (j := 2) rfl, ?_⟩
        refine ⟨110, _, _, _, _, _, _, _, _, _, rfl, t0, t1, t2, (by decide), (sm_of (by show _ ≤ -ay; omega) (by show -ay ≤ _; omega)), (sm_of (by show _ ≤ ax; omega) (by show ax ≤ _; omega)), (sm_of (by show _ ≤ -by'; omega) (by show -by' ≤ _; omega)), (sm_of (by show _ ≤ bx; omega) (by show bx ≤ _; omega)), (sm_of (by show _ ≤ -cy; omega) (by show -cy ≤ _; omega)), (sm_of (by show _ ≤ cx; omega) (by show cx ≤ _; omega)), fun H19 e19 => ?_⟩
        have F19 := F18.ex e19
        refine ⟨_, rfl, rfl, _, rfl, iteNS (congrArg V.int (side_turned ax ay bx by' cx cy)) ?_⟩
        -- wide, high
        refine ⟨_, rfl, pl, 9, rfl, F19.pool, by decide, by decide, fun r1 H20 r10 r11 b20 p20 => ?_⟩
        have F20 := F19.but hpl b20 p20
        refine ⟨_, _, rfl, rfl, _, rfl, pl, 9, rfl, p20, by decide, by decide, fun r2 H21 r20 r21 b21 p21 => ?_⟩
        have F21 := F20.but hpl b21 p21
        refine ⟨_, _, rfl, rfl, (by show 2 ≤ sizeLine; decide), fun tw ntw => ?_⟩
        have F22 := F21.ex (same_new (o := .tup [.int (1 + r1), .int (1 + r2)]) ntw)
        refine ⟨tw, _, rfl, SqT.of upd_same, rfl, _, _, rfl, _, _, rfl, rfl, ?_⟩
        have m0 : ∀ z r : Int, -8 ≤ z → z ≤ 8 → 0 ≤ r → r < 9 → -72 ≤ z * (1 + r) ∧ z * (1 + r) ≤ 72 := by
          intro z r z0 z1 r0 r1
          have : r = 0 ∨ r = 1 ∨ r = 2 ∨ r = 3 ∨ r = 4 ∨ r = 5 ∨ r = 6 ∨ r = 7 ∨ r = 8 := by omega
          rcases this with rfl | rfl | rfl | rfl | rfl | rfl | rfl | rfl | rfl <;> omega
        have gax := m0 ax r1 ax0 ax1 r10 r11
        have gay := m0 ay r2 ay0 ay1 r20 r21
        have gbx := m0 bx r1 bx0 bx1 r10 r11
        have gby := m0 by' r2 by0 by1 r20 r21
        have gcx := m0 cx r1 cx0 cx1 r10 r11
        have gcy := m0 cy r2 cy0 cy1 r20 r21
        -- great
        refine ⟨_, rfl, _, rfl, _, rfl, (by show 3 ≤ sizeLine; decide), fun l5 nl5 => ⟨l5, rfl, ⟨_, SqL.of upd_same⟩, fun D5 nD5 => ?_⟩⟩
        have F23 := F22.ex (same_new (o := .lst [.ref qa, .ref qb, .ref qc]) nl5)
        refine lc_pts (K := K) (C := C) (xs := [V.ref qa, V.ref qb, V.ref qc]) (at3 (ax * (1 + r1)) (bx * (1 + r1)) (cx * (1 + r1))) (at3 (ay * (1 + r2)) (by' * (1 + r2)) (cy * (1 + r2))) upd_same (by show 3 ≤ 1000; decide) ?_ ?_ nD5
        · intro i x H' hx e Q' q'
          have F := F23.ex e
          obtain ⟨q, X, Y, rfl, hq, hg⟩ := pick3 F.a F.b F.c hx
          have hX := hg (fun x y => x * (1 + r1))
          have hY := hg (fun x y => y * (1 + r2))
          rw [hX, hY] at q'
          refine ⟨_, rfl, q, _, _, _, rfl, rfl, SqT.of hq, atI_nat (j := 0) rfl, _, rfl, _, _, rfl, rfl, .inr ⟨by omega, by omega⟩, _, rfl, q, _, _, _, rfl, rfl, SqT.of hq, atI_nat (j := 1) rfl, _, rfl, _, _, rfl, rfl, .inr ⟨by omega, by omega⟩, (by show 2 ≤ sizeLine; decide), fun t nt => ?_⟩
          exact q' _ _ (same_new nt) (.tup upd_same)
        intro H24 vs e24 hD5 hvl hpt
        have F24 := F23.ex e24
        obtain ⟨w0, w1, w2, rfl⟩ := len3 hvl
        have t0 := hpt 0 w0 rfl
        have t1 := hpt 1 w1 rfl
        have t2 := hpt 2 w2 rfl
        refine ⟨_, rfl, D5, _, _, _, rfl, rfl, SqL.of hD5, atI_nat (j := 0) rfl, _, rfl, D5, _, _, _, rfl, rfl, SqL.of hD5, atI_nat (j := 1) rfl, _, rfl, D5, _, _, _, rfl, rfl, SqL.of hD5, atI_nat (j := 2) rfl, ?_⟩
        refine ⟨110, _, _, _, _, _, _, _, _, _, rfl, t0, t1, t2, (by decide), (sm_of (Int.le_trans (by decide) gax.1) (Int.le_trans gax.2 (by decide))), (sm_of (Int.le_trans (by decide) gay.1) (Int.le_trans gay.2 (by decide))), (sm_of (Int.le_trans (by decide) gbx.1) (Int.le_trans gbx.2 (by decide))), (sm_of (Int.le_trans (by decide) gby.1) (Int.le_trans gby.2 (by decide))), (sm_of (Int.le_trans (by decide) gcx.1) (Int.le_trans gcx.2 (by decide))), (sm_of (Int.le_trans (by decide) gcy.1) (Int.le_trans gcy.2 (by decide))), fun H25 e25 => ?_⟩
        have F25 := F24.ex e25
        refine ⟨_, rfl, _, rfl, _, _, rfl, rfl, .inr ⟨by omega, by omega⟩, _, rfl, _, _, rfl, rfl, .inr ⟨by omega, by omega⟩, rfl, _, rfl, iteNS (congrArg V.int (side_great ax ay bx by' cx cy (1 + r1) (1 + r2))) ?_⟩
        -- the three edges
        refine ⟨_, rfl, _, rfl, _, rfl, 110, _, _, _, _, _, _, _, _, _, rfl, .tup F25.a, .tup F25.b, .tup F25.p, (by decide), sax, say, sbx, sby, spx, spy, fun H26 e26 => ?_⟩
        have F26 := F25.ex e26
        refine ⟨_, rfl, _, rfl, _, rfl, 110, _, _, _, _, _, _, _, _, _, rfl, .tup F26.b, .tup F26.c, .tup F26.p, (by decide), sbx, sby, scx, scy, spx, spy, fun H27 e27 => ?_⟩
        have F27 := F26.ex e27
        refine ⟨_, _, rfl, rfl, _, rfl, _, rfl, _, rfl, 110, _, _, _, _, _, _, _, _, _, rfl, .tup F27.c, .tup F27.a, .tup F27.p, (by decide), scx, scy, sax, say, spx, spy, fun H28 e28 => ?_⟩
        have F28 := F27.ex e28
        refine ⟨_, _, rfl, rfl, _, rfl, rfl, _, rfl, iteNS (congrArg V.int (side_sum ax ay bx by' cx cy px py)) ?_⟩
        refine ⟨_, rfl, _, rfl, _, rfl, 110, _, _, _, _, _, _, _, _, _, rfl, .tup F28.a, .tup F28.b, .tup F28.b, (by decide), sax, say, sbx, sby, sbx, sby, fun H29 e29 => ?_⟩
        have F29 := F28.ex e29
        refine ⟨rfl, _, rfl, iteNS (congrArg V.int (side_abb ax ay bx by')) ?_⟩
        refine ⟨_, rfl, _, rfl, _, rfl, 110, _, _, _, _, _, _, _, _, _, rfl, .tup F29.a, .tup F29.a, .tup F29.p, (by decide), sax, say, sax, say, spx, spy, fun H30 e30 => ?_⟩
        have F30 := F29.ex e30
        refine ⟨rfl, _, rfl, iteNS (congrArg V.int (side_aap ax ay px py)) ?_⟩
        exact ⟨_, _, _, _, _, _, _, _, _, _, _, _, _, _, _, _, rfl, eH.trans F30.base⟩
    · rintro σ H' ⟨v1, v2, v3, v4, v5, v6, v7, v8, v9, v10, v11, v12, v13, v14, v15, v16, rfl, eH⟩
      exact k _
end
end Fo
set_option Elab.async false
set_option linter.all false
set_option maxRecDepth 100000
set_option maxHeartbeats 0
namespace Fo
open PySem L2
theorem all_mk {l : PySem.W.OpenLaw} {w : World} {K : PySem.W.Frag} {h : Heap} {mg : Str → Option Value} {fa C fW fI fP fA fO fH fD fPr fS fSub fAd fQ fZ : Addr} (X : K.In h) (G : h.Ns mainGlobals mg) (hfa : mg "law" = some (.ref fa))
    {odW anW odI anI odP anP odA anA odO anO odH anH odD anD odPr anPr odS anS odSub anSub odAd anAd odQ anQ odZ anZ : Option Addr} {slW slI slP slA slO slH slD slPr slS slSub slAd slQ slZ : Array (Option Value)} {ocW kVW dcW pmW cdW ctW ocI kVI dcI pmI cdI ctI ocP kVP dcP pmP cdP ctP ocA kVA dcA pmA cdA ctA ocO kVO dcO pmO cdO ctO ocH kVH dcH pmH cdH ctH ocD kVD dcD pmD cdD ctD ocPr kVPr dcPr pmPr cdPr ctPr ocS kVS dcS pmS cdS ctS ocSub kVSub dcSub pmSub cdSub ctSub ocAd kVAd dcAd pmAd cdAd ctAd ocQ kVQ dcQ pmQ cdQ ctQ ocZ kVZ dcZ pmZ cdZ ctZ : Value}
    (aC : PySem.W.nsIn K mainGlobals "Point" = some (some (.ref C)))
    (aW : PySem.W.nsIn K mainGlobals "is_whole" = some (some (.ref fW)))
    (lW : K.lookup fW = some ⟨ocW, odW, .func (PySem.W.fnOf "is_whole" "is_whole" (defArgs sWhole) (defBody sWhole) (defScope sWhole) .none kVW dcW pmW anW cdW ctW), slW⟩) (cW : PySem.W.codeIn K cdW "is_whole" = true) (kW : PySem.W.keepIn K (.ref fW) = true)
    (aI : PySem.W.findIn K (.ref C) "__init__" = some (some (.ref fI))) (iI : PySem.W.isFn K (.ref fI) = true)
    (lI : K.lookup fI = some ⟨ocI, odI, .func (PySem.W.fnOf "__init__" "Point.__init__" (defArgs sInit) (defBody sInit) (defScope sInit) .none kVI dcI pmI anI cdI ctI), slI⟩) (cI : PySem.W.codeIn K cdI "Point.__init__" = true) (kI : PySem.W.keepIn K (.ref fI) = true)
    (aP : PySem.W.nsIn K mainGlobals "is_point" = some (some (.ref fP)))
    (lP : K.lookup fP = some ⟨ocP, odP, .func (PySem.W.fnOf "is_point" "is_point" (defArgs sIsPoint) (defBody sIsPoint) (defScope sIsPoint) .none kVP dcP pmP anP cdP ctP), slP⟩) (cP : PySem.W.codeIn K cdP "is_point" = true) (kP : PySem.W.keepIn K (.ref fP) = true)
    (aA : PySem.W.nsIn K mainGlobals "as_point" = some (some (.ref fA)))
    (lA : K.lookup fA = some ⟨ocA, odA, .func (PySem.W.fnOf "as_point" "as_point" (defArgs sAsPoint) (defBody sAsPoint) (defScope sAsPoint) .none kVA dcA pmA anA cdA ctA), slA⟩) (cA : PySem.W.codeIn K cdA "as_point" = true) (kA : PySem.W.keepIn K (.ref fA) = true)
    (aO : PySem.W.nsIn K mainGlobals "operand" = some (some (.ref fO)))
    (lO : K.lookup fO = some ⟨ocO, odO, .func (PySem.W.fnOf "operand" "operand" (defArgs sOperand) (defBody sOperand) (defScope sOperand) .none kVO dcO pmO anO cdO ctO), slO⟩) (cO : PySem.W.codeIn K cdO "operand" = true) (kO : PySem.W.keepIn K (.ref fO) = true)
    (aH : PySem.W.nsIn K mainGlobals "_law_hand" = some (some (.ref fH)))
    (lH : K.lookup fH = some ⟨ocH, odH, .func (PySem.W.fnOf "_law_hand" "_law_hand" (defArgs sHand) (defBody sHand) (defScope sHand) .none kVH dcH pmH anH cdH ctH), slH⟩) (cH : PySem.W.codeIn K cdH "_law_hand" = true) (kH : PySem.W.keepIn K (.ref fH) = true)
    (aD : PySem.W.nsIn K mainGlobals "_law_draw" = some (some (.ref fD)))
    (lD : K.lookup fD = some ⟨ocD, odD, .func (PySem.W.fnOf "_law_draw" "_law_draw" (defArgs sDraw) (defBody sDraw) (defScope sDraw) .none kVD dcD pmD anD cdD ctD), slD⟩) (cD : PySem.W.codeIn K cdD "_law_draw" = true) (kD : PySem.W.keepIn K (.ref fD) = true)
    (aPr : PySem.W.nsIn K mainGlobals "_law_pair" = some (some (.ref fPr)))
    (lPr : K.lookup fPr = some ⟨ocPr, odPr, .func (PySem.W.fnOf "_law_pair" "_law_pair" (defArgs sPair) (defBody sPair) (defScope sPair) .none kVPr dcPr pmPr anPr cdPr ctPr), slPr⟩) (cPr : PySem.W.codeIn K cdPr "_law_pair" = true) (kPr : PySem.W.keepIn K (.ref fPr) = true)
    (aS : PySem.W.nsIn K mainGlobals "side" = some (some (.ref fS)))
    (lS : K.lookup fS = some ⟨ocS, odS, .func (PySem.W.fnOf "side" "side" (defArgs sSide) (defBody sSide) (defScope sSide) .none kVS dcS pmS anS cdS ctS), slS⟩) (cS : PySem.W.codeIn K cdS "side" = true) (kS : PySem.W.keepIn K (.ref fS) = true)
    (aSub : PySem.W.findIn K (.ref C) "__sub__" = some (some (.ref fSub))) (iSub : PySem.W.isFn K (.ref fSub) = true)
    (lSub : K.lookup fSub = some ⟨ocSub, odSub, .func (PySem.W.fnOf "__sub__" "Point.__sub__" (defArgs sSub) (defBody sSub) (defScope sSub) .none kVSub dcSub pmSub anSub cdSub ctSub), slSub⟩) (cSub : PySem.W.codeIn K cdSub "Point.__sub__" = true) (kSub : PySem.W.keepIn K (.ref fSub) = true)
    (aAd : PySem.W.findIn K (.ref C) "__add__" = some (some (.ref fAd))) (iAd : PySem.W.isFn K (.ref fAd) = true)
    (lAd : K.lookup fAd = some ⟨ocAd, odAd, .func (PySem.W.fnOf "__add__" "Point.__add__" (defArgs sAdd) (defBody sAdd) (defScope sAdd) .none kVAd dcAd pmAd anAd cdAd ctAd), slAd⟩) (cAd : PySem.W.codeIn K cdAd "Point.__add__" = true) (kAd : PySem.W.keepIn K (.ref fAd) = true)
    (aQ : PySem.W.nsIn K mainGlobals "quarter" = some (some (.ref fQ)))
    (lQ : K.lookup fQ = some ⟨ocQ, odQ, .func (PySem.W.fnOf "quarter" "quarter" (defArgs sQuarter) (defBody sQuarter) (defScope sQuarter) .none kVQ dcQ pmQ anQ cdQ ctQ), slQ⟩) (cQ : PySem.W.codeIn K cdQ "quarter" = true) (kQ : PySem.W.keepIn K (.ref fQ) = true)
    (aZ : PySem.W.nsIn K mainGlobals "law" = some (some (.ref fZ)))
    (lZ : K.lookup fZ = some ⟨ocZ, odZ, .func (PySem.W.fnOf "law" "law" (defArgs sLaw) (defBody sLaw) (defScope sLaw) .none kVZ dcZ pmZ anZ cdZ ctZ), slZ⟩) (cZ : PySem.W.codeIn K cdZ "law" = true) (kZ : PySem.W.keepIn K (.ref fZ) = true)
    (pg : PySem.W.plainGet K C Str.empty = true) (hd : PySem.W.hasDictIn K C = true) (po : PySem.W.plainOver K C = true) (sa : PySem.W.findIn K (.ref C) "__setattr__" = some (some (.builtin "object.__setattr__"))) (mk : PySem.W.makesIn K C = true) (kc : PySem.W.keepIn K (.ref C) = true)
    (nX : PySem.W.findIn K (.ref C) "x" = some none) (nY : PySem.W.findIn K (.ref C) "y" = some none)
    (ha : PySem.W.findIn K (.ref C) "__class__" = some (some (.builtin "object.__class__"))) (hn : PySem.W.specialIn K (.builtin "object.__class__") "__get__" = some (some (.builtin "getset_descriptor.__get__"))) (htk : PySem.W.takesIn K (.builtin "object.__class__") = some true) (hm : PySem.W.mroIn K C (.type "object") = some true)
    (kTC : PySem.W.kitOne K (.type "tuple") (.ref C) = some false) (kCC : PySem.W.kitOne K (.ref C) (.ref C) = some true) (sf : PySem.W.selfFirst K C = true)
    (z_isinstance : PySem.W.nsIn K mainGlobals "isinstance" = some none)
    (z_len : PySem.W.nsIn K mainGlobals "len" = some none)
    (z_int : PySem.W.nsIn K mainGlobals "int" = some none)
    (z_bool : PySem.W.nsIn K mainGlobals "bool" = some none)
    (z_tuple : PySem.W.nsIn K mainGlobals "tuple" = some none)
    (z_range : PySem.W.nsIn K mainGlobals "range" = some none)
    (z_max : PySem.W.nsIn K mainGlobals "max" = some none)
    (z_min : PySem.W.nsIn K mainGlobals "min" = some none) :
    ∃ fd : FuncData, (∀ (s : Shared) (v : Value), BindsTo s fd ⟨[v], []⟩ [("script", v)]) ∧ ∀ base : Heap, K.In base → base.Ns mainGlobals mg → FnOk l.prog w K mg base CX0 8 fa fd ["script"] (spLaw K) := by
  have e := hfa.symm.trans (PySem.W.mg_of X G aZ)
  cases e
  have FW := fun_mk (st := sWhole) lW cW kW
  have bW := FW.binds (ps := ["value"]) fun _ _ _ _ _ _ us hl => match us, hl with | [_], _ => rfl
  have FI := fun_mk (st := sInit) lI cI kI
  have bI := FI.binds (ps := ["self", "x", "y"]) fun _ _ _ _ _ _ us hl => match us, hl with | [_, _, _], _ => rfl
  have FP := fun_mk (st := sIsPoint) lP cP kP
  have bP := FP.binds (ps := ["thing"]) fun _ _ _ _ _ _ us hl => match us, hl with | [_], _ => rfl
  have FA := fun_mk (st := sAsPoint) lA cA kA
  have bA := FA.binds (ps := ["thing"]) fun _ _ _ _ _ _ us hl => match us, hl with | [_], _ => rfl
  have FO := fun_mk (st := sOperand) lO cO kO
  have bO := FO.binds (ps := ["thing"]) fun _ _ _ _ _ _ us hl => match us, hl with | [_], _ => rfl
  have FH := fun_mk (st := sHand) lH cH kH
  have bH := FH.binds (ps := ["script", "k"]) fun _ _ _ _ _ _ us hl => match us, hl with | [_, _], _ => rfl
  have FD := fun_mk (st := sDraw) lD cD kD
  have bD := FD.binds (ps := ["pool", "many"]) fun _ _ _ _ _ _ us hl => match us, hl with | [_, _], _ => rfl
  have FPr := fun_mk (st := sPair) lPr cPr kPr
  have bPr := FPr.binds (ps := ["pool", "size_here"]) fun _ _ _ _ _ _ us hl => match us, hl with | [_, _], _ => rfl
  have FS := fun_mk (st := sSide) lS cS kS
  have bS := FS.binds (ps := ["a", "b", "point"]) fun _ _ _ _ _ _ us hl => match us, hl with | [_, _, _], _ => rfl
  have FSub := fun_mk (st := sSub) lSub cSub kSub
  have bSub := FSub.binds (ps := ["self", "other"]) fun _ _ _ _ _ _ us hl => match us, hl with | [_, _], _ => rfl
  have FAd := fun_mk (st := sAdd) lAd cAd kAd
  have bAd := FAd.binds (ps := ["self", "other"]) fun _ _ _ _ _ _ us hl => match us, hl with | [_, _], _ => rfl
  have FQ := fun_mk (st := sQuarter) lQ cQ kQ
  have bQ := FQ.binds (ps := ["point"]) fun _ _ _ _ _ _ us hl => match us, hl with | [_], _ => rfl
  have FZ := fun_mk (st := sLaw) lZ cZ kZ
  have T : Txt K mg C := ⟨⟨pg, hd, po, sa⟩, nX, nY, PySem.W.mg_of X G aC, PySem.W.mg_none_of X G z_isinstance, PySem.W.mg_none_of X G z_len, PySem.W.mg_none_of X G z_int, PySem.W.mg_none_of X G z_bool, PySem.W.mg_none_of X G z_tuple, ha, hn, htk, hm, kTC, kCC⟩
  have TL : TxtL mg := ⟨PySem.W.mg_none_of X G z_int, PySem.W.mg_none_of X G z_range, PySem.W.mg_none_of X G z_max, PySem.W.mg_none_of X G z_min, PySem.W.mg_none_of X G z_len⟩
  have D : Defs K mg C fW fI fP fA fO _ _ _ _ _ := ⟨T, FW, bW, PySem.W.mg_of X G aW, ⟨mk, aI, iI, kc⟩, FI, bI, FP, bP, PySem.W.mg_of X G aP, FA, bA, PySem.W.mg_of X G aA, FO, bO, PySem.W.mg_of X G aO⟩
  have L : LDefs K mg C fH fD fPr fS fSub fAd fQ _ _ _ _ _ _ _ := ⟨TL, FH, bH, PySem.W.mg_of X G aH, FD, bD, PySem.W.mg_of X G aD, FPr, bPr, PySem.W.mg_of X G aPr, FS, bS, PySem.W.mg_of X G aS, FSub, bSub, ⟨sf, aSub, iSub⟩, FAd, bAd, ⟨sf, aAd, iAd⟩, FQ, bQ, PySem.W.mg_of X G aQ⟩
  exact ⟨PySem.W.fnOf "law" "law" (defArgs sLaw) (defBody sLaw) (defScope sLaw) .none kVZ dcZ pmZ anZ cdZ ctZ, fun s v => .of_eq rfl, fun base _ _ => ok_law FZ D L⟩
theorem walk {l : PySem.W.OpenLaw} {q : Program} {loose : List Str} {XP : (Str → Option Value) → Heap → Prop} {YP : World → Heap → Prop} {d : DefRec} {K : Params → PySem.W.Frag} (hn : l.most = some 63) (hdf : d.params.defaults = [])
    (hY : ∀ (w : World) (h : Heap), YP w h → (K w.params).In h)
    (F : ∀ (w : World) (mg : Str → Option Value) (fa : Addr) (h : Heap), (K w.params).In h → h.Ns mainGlobals mg → mg d.name = some (.ref fa) →
      ∃ fd : FuncData, (∀ (s : Shared) (u : Value), BindsTo s fd ⟨[u], []⟩ [("script", u)]) ∧ ∀ base : Heap, (K w.params).In base → base.Ns mainGlobals mg → FnOk l.prog w (K w.params) mg base CX0 8 fa fd ["script"] (spLaw (K w.params))) :
    PySem.W.WalkO q loose XP YP l.row.toRowW d [] (fun f vs => PySem.call f vs) :=
  L2.walk_of (n := 63) (k := 8) (x := "script") (CX := fun _ => CX0) (sp := fun w => spLaw (K w.params)) hn (by decide) hdf ⟨rfl, by decide, by decide⟩ hY F (fun _ _ a ns hl _ hS => ⟨a, ns, rfl, hS, hl, fun _ => rfl⟩) fun _ _ _ _ _ z => z
end Fo

open PySem PySem.W PyProof.Rows in
set_option maxRecDepth 100000 in
set_option maxHeartbeats 0 in
theorem PySem.Challenge.cw_filledonce_k03_sides_holds : PySem.Challenge.rw_filledonce_k03_sides.Holds := by
  w_on; o_law; k_head; (case hw => w_witness2)
  k_fill
  refine Fo.walk (l := PySem.Challenge.rw_filledonce_k03_sides) rfl rfl (fun w h Y => PySem.W.kIn_of Y) ?F
  case F =>
    intro w mg fa h KX G hmg
    refine' Fo.all_mk KX G hmg ?aC ?aW ?lW ?cW ?kW ?aI ?iI ?lI ?cI ?kI ?aP ?lP ?cP ?kP ?aA ?lA ?cA ?kA ?aO ?lO ?cO ?kO ?aH ?lH ?cH ?kH ?aD ?lD ?cD ?kD ?aPr ?lPr ?cPr ?kPr ?aS ?lS ?cS ?kS ?aSub ?iSub ?lSub ?cSub ?kSub ?aAd ?iAd ?lAd ?cAd ?kAd ?aQ ?lQ ?cQ ?kQ ?aZ ?lZ ?cZ ?kZ ?pg ?hd ?po ?sa ?mk ?kc ?nX ?nY ?ha ?hn ?htk ?hm ?kTC ?kCC ?sf ?z_isinstance ?z_len ?z_int ?z_bool ?z_tuple ?z_range ?z_max ?z_min
    (case aC => first | k_is | rfl)
    (case aW => first | k_is | rfl)
    (case lW => first | k_is | rfl)
    (case cW => first | k_is | rfl)
    (case kW => first | k_is | rfl)
    (case aI => first | k_is | rfl)
    (case iI => first | k_is | rfl)
    (case lI => first | k_is | rfl)
    (case cI => first | k_is | rfl)
    (case kI => first | k_is | rfl)
    (case aP => first | k_is | rfl)
    (case lP => first | k_is | rfl)
    (case cP => first | k_is | rfl)
    (case kP => first | k_is | rfl)
    (case aA => first | k_is | rfl)
    (case lA => first | k_is | rfl)
    (case cA => first | k_is | rfl)
    (case kA => first | k_is | rfl)
    (case aO => first | k_is | rfl)
    (case lO => first | k_is | rfl)
    (case cO => first | k_is | rfl)
    (case kO => first | k_is | rfl)
    (case aH => first | k_is | rfl)
    (case lH => first | k_is | rfl)
    (case cH => first | k_is | rfl)
    (case kH => first | k_is | rfl)
    (case aD => first | k_is | rfl)
    (case lD => first | k_is | rfl)
    (case cD => first | k_is | rfl)
    (case kD => first | k_is | rfl)
    (case aPr => first | k_is | rfl)
    (case lPr => first | k_is | rfl)
    (case cPr => first | k_is | rfl)
    (case kPr => first | k_is | rfl)
    (case aS => first | k_is | rfl)
    (case lS => first | k_is | rfl)
    (case cS => first | k_is | rfl)
    (case kS => first | k_is | rfl)
    (case aSub => first | k_is | rfl)
    (case iSub => first | k_is | rfl)
    (case lSub => first | k_is | rfl)
    (case cSub => first | k_is | rfl)
    (case kSub => first | k_is | rfl)
    (case aAd => first | k_is | rfl)
    (case iAd => first | k_is | rfl)
    (case lAd => first | k_is | rfl)
    (case cAd => first | k_is | rfl)
    (case kAd => first | k_is | rfl)
    (case aQ => first | k_is | rfl)
    (case lQ => first | k_is | rfl)
    (case cQ => first | k_is | rfl)
    (case kQ => first | k_is | rfl)
    (case aZ => first | k_is | rfl)
    (case lZ => first | k_is | rfl)
    (case cZ => first | k_is | rfl)
    (case kZ => first | k_is | rfl)
    (case pg => first | k_is | rfl)
    (case hd => first | k_is | rfl)
    (case po => first | k_is | rfl)
    (case sa => first | k_is | rfl)
    (case mk => first | k_is | rfl)
    (case kc => first | k_is | rfl)
    (case nX => first | k_is | rfl)
    (case nY => first | k_is | rfl)
    (case ha => first | k_is | rfl)
    (case hn => first | k_is | rfl)
    (case htk => first | k_is | rfl)
    (case hm => first | k_is | rfl)
    (case kTC => first | k_is | rfl)
    (case kCC => first | k_is | rfl)
    (case sf => first | k_is | rfl)
    (case z_isinstance => first | k_is | rfl)
    (case z_len => first | k_is | rfl)
    (case z_int => first | k_is | rfl)
    (case z_bool => first | k_is | rfl)
    (case z_tuple => first | k_is | rfl)
    (case z_range => first | k_is | rfl)
    (case z_max => first | k_is | rfl)
    (case z_min => first | k_is | rfl)
#print axioms PySem.Challenge.cw_filledonce_k03_sides_holds
