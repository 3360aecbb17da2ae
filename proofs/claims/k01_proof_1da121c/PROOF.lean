import PyProof.Rows.All
import Wide.All
import OpenK.AllK
import Wide.FinOn
import HandS.ForMost
import HandS.Wide
import HandS.IsInst
import HandS.Deep
import HandS.Strs
import PyProof.StrReplace2
import HandS.ForExc
import HandS.Exc
import KE.KExcSuper
import PyProof.ReprRoads
import PyProof.CallFns
import KE.KExcIs
import HandS.NoneIn
import HandS.Evl
import HandS.More
import HandS.Style
import PySem.Challenge.RW_filledonce_k01_points
set_option Elab.async false
set_option linter.all false
set_option maxRecDepth 100000
set_option maxHeartbeats 2000000
/-! own binary operators over the hand layer -/
namespace FoOps
open PySem PySem.W PyProof.Rows
section
variable {prog : Program} {w : World} {A : Around} {E : Value → Shared → Prop} {s : Shared} {K : Frag} {x C L f : Addr} {h₀ : Heap} {m : Str → Option Value} {ox : Obj} {od : Option Obj}
theorem tup_add : fillsNumberSlot (.type "tuple") "add" = pure false := by
  unfold fillsNumberSlot
  simp only [typeLookup_type, builtinLookup_eq_fast]
  kernel_rfl
theorem tup_sub : fillsNumberSlot (.type "tuple") "sub" = pure false := by
  unfold fillsNumberSlot
  simp only [typeLookup_type, builtinLookup_eq_fast]
  kernel_rfl
theorem binop_KT {op : Operator} {b : Value} {T : String} {Q : Value → Shared → Prop} (X : K.In s.heap) (I : InstAt s.heap x ox C od) (hT : s.TypeIs b T)
    (hfl : fillsNumberSlot (.type T) op.info.2 = pure false) (hc : selfFirst K C = true)
    (hs : findIn K (.ref C) (PySem.dunder op.info.2) = some (some (.ref f))) (hf : isFn K (.ref f) = true)
    (h : wpAny (model prog w) A (call (.ref f) [.ref x, b]) (PySem.W.CmpBack Q) E s) : wpAny (model prog w) A (binaryOp op (.ref x) b) Q E s := by
  obtain ⟨cd, hcd, hm⟩ := any_some hc
  obtain ⟨rest, hm⟩ : ∃ rest, cd.mro = .ref C :: rest := by
    cases q : cd.mro with
    | nil => rw [q] at hm; cases hm
    | cons a r => rw [q] at hm; exact ⟨r, by rw [List.head?_cons] at hm; cases (beq_iff_eq.mp hm); rfl⟩
  unfold binaryOp
  refine wpAny_holding (wpAny_bind ?_)
  unfold binaryOp1
  refine wpAny_bind (I.type.here (wpAny_bind (wpAny_typeOf hT (wpAny_bind ((fills_K X hcd hm hs).here ?_)))))
  have e : (Value.ref C == Value.type T) = false := by simp
  simp only [e, Bool.false_eq_true, if_false]
  refine wpAny_bind (wpAny_of_eq hfl ?_)
  simp only [Bool.and_false, Bool.false_eq_true, if_false, Bool.false_and, if_true]
  refine wpAny_bind (wpAny_pure ?_)
  simp only [Bool.false_eq_true, if_false]
  refine wpAny_bind (m := tryMethod (.ref x) _ b) ?_
  unfold tryMethod
  refine wpAny_bind (special_fn X I hs (beq_iff_eq.mp hf) (wpAny_mono h (fun v s' hv => ?_) fun _ _ e => e))
  cases v <;> first | exact hv.elim | exact wpAny_pure (wpAny_pure (wpAny_pure hv))
end
end FoOps

namespace L2
open PySem PySem.Spec PyProof.Rows
/-- an own class whose operator nm is the def at f -/
structure OwnOp (K : PySem.W.Frag) (C : Addr) (op : Operator) (f : Addr) : Prop where
  sf : PySem.W.selfFirst K C = true
  at_ : PySem.W.findIn K (.ref C) (PySem.dunder op.info.2) = some (some (.ref f))
  fn : PySem.W.isFn K (.ref f) = true
/-- a op b, a an instance of the class at C, b one too or a tracked tuple -/
def rOwnOp (C : Addr) (sp : Sp) (E : XK) : R2 := fun x y H Q => ∃ a dx fs, x = .ref a ∧ H a = some (.ins C dx fs) ∧
  ((∃ b dy gs, y = .ref b ∧ H b = some (.ins C dy gs)) ∨ ∃ b xs, y = .ref b ∧ H b = some (.tup xs)) ∧ sp [x, y] H Q E
section
variable {X : Cx} {CX : CXT} {k : Nat} {f C : Addr} {fd : FuncData} {ps : List Str} {sp : Sp} {E : XK}
theorem not_ni {z : V} {v : Value} (r : RelV z v) : v ≠ .notImplemented := by
  intro e
  subst e
  cases z <;> first | (cases r; done) | (obtain ⟨_, r⟩ := r; cases r)
theorem cmpBack_of {Q : Value → Shared → Prop} {v : Value} {s : Shared} (hn : v ≠ .notImplemented) (h : Q v s) : PySem.W.CmpBack Q v s := by
  cases v <;> first | exact h | exact absurd rfl hn
theorem op_own {op : Operator} (O : OwnOp X.K C op f) (hfl : fillsNumberSlot (.type "tuple") op.info.2 = pure false) (F : FnOk X.prog X.w X.K X.mg X.base CX k f fd ps sp) (hr : Room k X.A) (hb : Binds X.K fd ps []) (hx : Passes CX X E) :
    OpR X (binaryOp op) (rOwnOp C sp E) := by
  intro pins s σ H x y v u Q I rx ry h
  obtain ⟨a, dx, fs, rfl, ha, hy, q⟩ := h
  obtain rfl : v = Value.ref a := rx
  obtain ⟨mA, J, _⟩ := ins_get I.hok ha
  obtain ⟨od, J, _⟩ := J.look
  obtain ⟨m, hF⟩ := I.fr
  have run : wpAny (model X.prog X.w) X.A (call (.ref f) [.ref a, u]) (PySem.W.CmpBack (EP X pins σ Q)) X.xe s := by
    refine wpAny_mono (run_fn (us := [.ref a, u]) (vs := [.ref a, y]) F hr hb .nil hx I (.cons rfl (.cons ry .nil)) q) (fun r s' z => ?_) fun _ _ z => z
    obtain ⟨z1, H1, I1, rz, qz⟩ := z
    exact cmpBack_of (not_ni rz) ⟨z1, H1, I1, rz, qz⟩
  rcases hy with ⟨b, dy, gs, rfl, hb'⟩ | ⟨b, xs, rfl, hb'⟩
  · obtain rfl : u = Value.ref b := ry
    obtain ⟨mB, J', _⟩ := ins_get I.hok hb'
    obtain ⟨od', J', _⟩ := J'.look
    exact PySem.W.binop_K hF I.ok.mod.kin J J'.type O.sf O.at_ O.fn run
  · obtain rfl : u = Value.ref b := ry
    obtain ⟨_, _, _, o, h1, h2, _⟩ := (show ObjOk X.prog X.w H s.heap b (.tup xs) from I.hok b _ hb')
    exact FoOps.binop_KT I.kIn J ⟨o, h1, h2⟩ hfl O.sf O.at_ O.fn run
end
end L2
set_option Elab.async false
set_option linter.all false
set_option maxRecDepth 100000
set_option maxHeartbeats 2000000
/-! != by an own __eq__, t.index of data -/
namespace FoOps
open PySem PySem.W PyProof.Rows
theorem slot_ne : Slot "object" "__ne__" "object.__ne__" :=
  .of (owner := "object") (n := "__ne__") (by rw [typeLookup_type, builtinLookup_eq_fast]; kernel_rfl) (by decide +kernel) (by decide +kernel) (by decide +kernel)
    (by first | exact .inl (by decide +kernel) | exact .inr (by decide +kernel)) (by rw [isSubtype_type]; kernel_rfl)
section
variable {prog : Program} {w : World} {A : Around} {E : Value → Shared → Prop} {s : Shared} {K : Frag} {x C f : Addr} {ox : Obj} {od : Option Obj} {b : Value}
theorem ne_entry {Q : Fin → Shared → Prop} (X : K.In s.heap) (I : InstAt s.heap x ox C od) (hu : A.units < cLine) (hs : findIn K (.ref C) "__eq__" = some (some (.ref f))) (hf : isFn K (.ref f) = true)
    (h : wpAny (model prog w) A (call (.ref f) [.ref x, b]) (fun v s' => ∃ k, v = .bool k ∧ Q (.done (.ret (.bool (!k)))) s') E s) :
    wpAny (model prog w) A (Builtin.«object.__ne__» ⟨[.ref x, b], []⟩) Q E s := by
  unfold Builtin.«object.__ne__»
  repeat (first
    | with_reducible refine wpAny_cRoomFor hu ?_
    | (refine wpAny_bind (m := callSpecialIfBound? (.ref x) (Str.ofString "__eq__") [b])
        (PySem.W.ifBound_K X I hs hf (wpAny_mono h (fun r s' hr => by
          obtain ⟨k, rfl, hq⟩ := hr
          repeat (first | exact hq | exact wpAny_pure hq | exact wpAny_truthy_bool hq | (refine wpAny_bind (m := truthy (.bool _)) (wpAny_truthy_bool ?_)) | wp_step)) fun _ _ e => e)))
    | wp_step)
theorem ne_own {Q : Value → Shared → Prop} (X : K.In s.heap) (I : InstAt s.heap x ox C od) (hb : Looks (model prog w) s.heap (typeOf b) (.ref C)) (hu : A.units + 1 < cLine)
    (hne : findIn K (.ref C) "__ne__" = some (some (.builtin "object.__ne__"))) (hs : findIn K (.ref C) "__eq__" = some (some (.ref f))) (hf : isFn K (.ref f) = true) (hm : mroIn K C (.type "object") = some true)
    (h : wpAny (model prog w) A.in1 (call (.ref f) [.ref x, b]) (fun v s' => ∃ k, v = .bool k ∧ Q (.bool (!k)) s') E s) : wpAny (model prog w) A (richCompare .NotEq (.ref x) b) Q E s := by
  have sub : Looks (model prog w) s.heap (isInstance (.ref x) (.type "object")) true := I.type.andThen (looks_mroIn X hm)
  have one : wpAny (model prog w) A (tryCompare (.ref x) "__ne__" b) (fun r s' => ∃ v, r = some v ∧ Q v s') E s := by
    unfold tryCompare
    refine wpAny_bind ?_
    simp only [callSpecialIfBound?, bindSpecialIfBound?]
    refine wpAny_holding (wpAny_bind (wpAny_bind (wpAny_bind (I.type.here ((looks_findIn X hne).here ?_)))))
    refine wpAny_bind (wpAny_askSetting (wpAny_ite ?_))
    have fin : wpAny (model prog w) A (call (.builtin "object.__ne__") [.ref x, b]) (fun v s' => ∃ k, v = .bool k ∧ Q (.bool k) s') E s := by
      refine wpAny_call (codeAny_call_builtin slot_ne.plain F.cmpEntry_ne (check_slot F.cmpKind_ne F.cmpSplit_ne sub (F.cmpArgs_ne _ _) ?_))
      refine ne_entry (A := A.in1) X I hu hs hf (wpAny_mono h (fun v s' hv => ?_) fun _ _ z => z)
      obtain ⟨k, rfl, q⟩ := hv
      exact ⟨k, rfl, !k, rfl, q⟩
    have fin2 : wpAny (model prog w) A (call (.builtin "object.__ne__") ([.ref x] ++ [b]) >>= fun v => pure (some v)) (fun a s₁ => wpAny (model prog w) A (match a with | some .notImplemented | none => pure none | some v => pure (some v)) (fun r s' => ∃ v, r = some v ∧ Q v s') E s₁) E s := by
      refine wpAny_bind (wpAny_mono fin (fun v s' hv => ?_) fun _ _ z => z)
      obtain ⟨k, rfl, q⟩ := hv
      exact wpAny_pure (wpAny_pure ⟨_, rfl, q⟩)
    have hbind : bindSpecial (.builtin "object.__ne__") (.ref x) = pure (.builtin "object.__ne__", [.ref x]) := slot_ne.bind _
    split
    · exact wpAny_bind (wpAny_of_eq hbind (wpAny_pure (by exact fin2)))
    · exact wpAny_tryCatch (wpAny_bind (wpAny_of_eq hbind (wpAny_pure (by exact fin2))))
  unfold richCompare
  simp only [oneThing_ref]
  refine wpAny_holding (wpAny_bind (wpAny_cRoomFor (by omega) ?_))
  refine wpAny_bind (I.type.here (wpAny_bind (hb.here ?_)))
  simp only [bne_self_eq_false, Bool.false_eq_true, if_false]
  refine wpAny_bind (wpAny_pure ?_)
  simp only [Bool.false_eq_true, if_false]
  refine wpAny_bind (wpAny_mono one (fun r s' z => ?_) fun _ _ e => e)
  obtain ⟨v, rfl, hq⟩ := z
  exact wpAny_pure hq
end
end FoOps
namespace L2
open PySem PySem.Spec PyProof.Rows
/-- an own class with an own __eq__ at f, and no __ne__ -/
structure OwnEqC (K : PySem.W.Frag) (C f : Addr) : Prop where
  eq : PySem.W.findIn K (.ref C) "__eq__" = some (some (.ref f))
  fn : PySem.W.isFn K (.ref f) = true
  ne : PySem.W.findIn K (.ref C) "__ne__" = some (some (.builtin "object.__ne__"))
  mo : PySem.W.mroIn K C (.type "object") = some true
  nt : PySem.W.notFirst K C (.type "tuple") = true
def rOwnEq (C : Addr) (sp : Sp) (E : XK) : R2 := fun x y H Q => ∃ a dx fs, x = .ref a ∧ H a = some (.ins C dx fs) ∧
  ((∃ b dy gs, y = .ref b ∧ H b = some (.ins C dy gs)) ∨ ∃ b xs, y = .ref b ∧ H b = some (.tup xs)) ∧ sp [x, y] H Q E
def rOwnNe (C : Addr) (sp : Sp) (E : XK) : R2 := fun x y H Q => ∃ a dx fs b dy gs, x = .ref a ∧ H a = some (.ins C dx fs) ∧ y = .ref b ∧ H b = some (.ins C dy gs) ∧
  sp [x, y] H (fun v H' => ∃ k, v = .bl k ∧ Q (.bl (!k)) H') E
section
variable {X : Cx} {CX : CXT} {k : Nat} {f C : Addr} {fd : FuncData} {ps : List Str} {sp : Sp} {E : XK}
theorem op_ownEq (O : OwnEqC X.K C f) (F : FnOk X.prog X.w X.K X.mg X.base CX k f fd ps sp) (hr : Room k X.A) (hb : Binds X.K fd ps []) (hx : Passes CX X E) :
    OpR X (compareOp .Eq) (rOwnEq C sp E) := by
  intro pins s σ H x y v u Q I rx ry h
  obtain ⟨a, dx, fs, rfl, ha, hy, q⟩ := h
  obtain rfl : v = Value.ref a := rx
  obtain ⟨mA, J, _⟩ := ins_get I.hok ha
  obtain ⟨od, J, _⟩ := J.look
  obtain ⟨m, hF⟩ := I.fr
  have run : wpAny (model X.prog X.w) X.A (call (.ref f) [.ref a, u]) (PySem.W.CmpBack (EP X pins σ Q)) X.xe s := by
    refine wpAny_mono (run_fn (us := [.ref a, u]) (vs := [.ref a, y]) F hr hb .nil hx I (.cons rfl (.cons ry .nil)) q) (fun r s' z => ?_) fun _ _ z => z
    obtain ⟨z1, H1, I1, rz, qz⟩ := z
    exact cmpBack_of (not_ni rz) ⟨z1, H1, I1, rz, qz⟩
  show wpAny (model X.prog X.w) X.A (richCompare .Eq (.ref a) u) (EP X pins σ Q) X.xe s
  rcases hy with ⟨b, dy, gs, rfl, hb'⟩ | ⟨b, xs, rfl, hb'⟩
  · obtain rfl : u = Value.ref b := ry
    obtain ⟨mB, J', _⟩ := ins_get I.hok hb'
    obtain ⟨od', J', _⟩ := J'.look
    exact PySem.W.cmp_K (op := .Eq) (tb := .ref C) hr.units0 hF I.ok.mod.kin J J'.type (by simp [PySem.W.notFirst]) O.eq O.fn run
  · obtain rfl : u = Value.ref b := ry
    obtain ⟨_, _, _, o, h1, h2, _⟩ := (show ObjOk X.prog X.w H s.heap b (.tup xs) from I.hok b _ hb')
    have lk : PySem.W.Looks (model X.prog X.w) s.heap (typeOf (.ref b)) (.type "tuple") := fun A Q E s' k q => wpAny_typeOf ⟨o, k _ _ h1, h2⟩ q
    exact PySem.W.cmp_K (op := .Eq) (tb := .type "tuple") hr.units0 hF I.ok.mod.kin J lk O.nt O.eq O.fn run
theorem op_ownNe (O : OwnEqC X.K C f) (F : FnOk X.prog X.w X.K X.mg X.base CX k f fd ps sp) (hr : Room (k + 1) X.A) (hb : Binds X.K fd ps []) (hx : Passes CX X E) :
    OpR X (compareOp .NotEq) (rOwnNe C sp E) := by
  intro pins s σ H x y v u Q I rx ry h
  obtain ⟨a, dx, fs, b, dy, gs, rfl, ha, rfl, hb', q⟩ := h
  obtain rfl : v = Value.ref a := rx
  obtain rfl : u = Value.ref b := ry
  obtain ⟨mA, J, _⟩ := ins_get I.hok ha
  obtain ⟨od, J, _⟩ := J.look
  obtain ⟨mB, J', _⟩ := ins_get I.hok hb'
  obtain ⟨od', J', _⟩ := J'.look
  show wpAny (model X.prog X.w) X.A (richCompare .NotEq (.ref a) (.ref b)) (EP X pins σ Q) X.xe s
  refine FoOps.ne_own I.kIn J J'.type (hu_of hr) O.ne O.eq O.fn O.mo ?_
  have hl := F.len _ _ _ _ q
  have r2 : Vals [V.ref a, V.ref b] [Value.ref a, Value.ref b] := .cons rfl (.cons rfl .nil)
  refine wpAny_call (codeAny_mono (F.run X.A.in1 X.stack s H ⟨[.ref a, .ref b], []⟩ [.ref a, .ref b] [.ref a, .ref b] _ E hr.in1 I.env0.in1 (by
    have := hb s [.ref a, .ref b] I.kIn (by simpa using hl)
    simpa using this) r2 q) fun r s' hq => ?_)
  cases r with
  | error e => exact hx pins σ H s e s' I hq
  | ok fl =>
    cases fl with
    | ret w =>
      obtain ⟨z, H', I', rz, kk, ez, ex⟩ := I.after hq
      subst ez
      cases rz
      exact ⟨kk, rfl, .bl (!kk), H', I', rfl, ex⟩
    | next => exact False.elim hq
    | brk => exact False.elim hq
    | cont => exact False.elim hq
/-- two lists of the very same objects -/
def rNeRefs : R2 := fun x y H Q => ∃ (a b : Addr) (rs : List Addr), x = .ref a ∧ y = .ref b ∧ H a = some (.lst (rs.map V.ref)) ∧ H b = some (.lst (rs.map V.ref)) ∧ Q (.bl false) H
theorem vals_refs : ∀ {rs : List Addr} {us : List Value}, Vals (rs.map V.ref) us → us = rs.map Value.ref
  | [], _, h => by
    cases h
    rfl
  | r :: rs, _, h => by
    cases h with
    | cons h1 h2 =>
      have e1 := vals_refs h2
      cases h1
      rw [e1]
      rfl
theorem op_neRefs (hu : X.A.units < cLine) : OpR X (compareOp .NotEq) rNeRefs := by
  intro pins s σ H x y v u Q I rx ry h
  obtain ⟨a, b, rs, rfl, rfl, ha, hb, q⟩ := h
  obtain rfl : v = Value.ref a := rx
  obtain rfl : u = Value.ref b := ry
  obtain ⟨_, its, n1, r1, e1⟩ := (show ObjOk X.prog X.w H s.heap a (.lst (rs.map V.ref)) from I.hok a _ ha)
  obtain ⟨_, its2, n2, r2, e2⟩ := (show ObjOk X.prog X.w H s.heap b (.lst (rs.map V.ref)) from I.hok b _ hb)
  have q1 := vals_refs r1
  have q2 := vals_refs r2
  subst q1
  subst q2
  have hl1 : s.heap.IsList a (rs.map Value.ref).toArray := ⟨_, e1, rfl, _, rfl⟩
  have hl2 : s.heap.IsList b (rs.map Value.ref).toArray := ⟨_, e2, rfl, _, rfl⟩
  have k := PySem.SeqAt.RcNeAt.lists (A := X.A) (s := s) (e := fun _ => true) hl1 hl2 rfl hu (fun j h1 h2 => PySem.SeqAt.EqAt.same _)
  have e : (!(List.range (rs.map Value.ref).toArray.size).all fun _ => true) = false := by simp
  rw [e] at k
  exact k X.prog X.w X.xe _ ⟨.bl false, H, I, rfl, q⟩
/-- t.index(x) of data: the first place of an equal one -/
def rTIndexD (K : PySem.W.Frag) : V → List V → Hp → VK → Prop := fun x xs H Q => ∃ (a : Addr) (y : V) (d : PyData) (ds : List PyData) (j : Nat) (z : PyData), x = V.ref a ∧ xs = [y] ∧ Dp K H (V.ref a) (.tuple ds) ∧ Dp K H y d ∧
  SeqAt.shaped (.tuple ds) = true ∧ SeqAt.shaped d = true ∧ ds[j]? = some z ∧ PyData.eqv z d = true ∧ (∀ (m : Nat) (z' : PyData), m < j → ds[m]? = some z' → PyData.eqv z' d = false) ∧ Q (.int (j : Nat)) H
theorem mt_tindexD (hu : X.A.units + 65 < cLine) : MtR X "tuple.index" (rTIndexD X.K) := by
  intro pins s σ H x xs v us Q I rx rxs h
  obtain ⟨a, y, d, ds, j, z, rfl, rfl, hl, hy, sl, sd, hz, hzj, hno, q⟩ := h
  cases rx
  cases rxs with
  | cons ry rt =>
    rename_i uy ut
    cases rt
    obtain ⟨bs, r1⟩ := Dp.reads I d y uy hy ry
    have hxs : PyData.canLayAll0 ds = true := SeqAt.canLay_of_shaped sl
    have hroom : X.A.units + 1 + min (PyData.depthAll ds) d.depth < cLine := room_in_shaped sd hu
    cases hl with
    | tup hs ha =>
      obtain ⟨its, rv, pl, hlen⟩ := I.tuple hs
      obtain ⟨⟨cls, dd, dt, sls⟩, ho, hc, n, hd⟩ := pl
      simp only at hc hd
      subst hc
      subst hd
      obtain ⟨as, h4⟩ := Dp.readsAll I ds _ its ha rv
      have hn : its.length = ds.length := SeqAt.ReadsAll.length ds its as h4
      have hmap : its.map (SeqAt.readOf s.heap) = ds := SeqAt.readsAll_map ds its as hxs h4
      obtain ⟨hjd, _⟩ := List.getElem?_eq_some_iff.mp hz
      have hjl : j < its.length := by omega
      have hj : j < its.toArray.size := by simpa using hjl
      have at_ : ∀ (m : Nat) (hm : m < its.toArray.size) (z' : PyData), ds[m]? = some z' → SeqAt.readOf s.heap its.toArray[m] = z' := by
        intro m hm z' hz'
        have hml : m < its.length := by simpa using hm
        rw [← hmap, List.getElem?_map, List.getElem?_eq_getElem hml] at hz'
        have e1 : SeqAt.readOf s.heap its[m] = z' := Option.some.inj (show some (SeqAt.readOf s.heap its[m]) = some z' from hz')
        simpa using e1
      refine call_meets PySem.F.slot_tuple_index ⟨_, ho, rfl⟩ PySem.F.entry_tuple_index (PySem.F.args_tuple_index_2 _ _)
        (TI.tuple_indexAt a its.toArray n dd sls uy (fun u => PyData.eqv (SeqAt.readOf s.heap u) d) j hj ?_ ?_) ⟨ho, SeqAt.items_eqAt (vs := its.toArray) (show ReadsAll s.heap its.toArray.toList ds as from h4) r1 hxs (SeqAt.canLay_of_shaped sd) hroom, ?_⟩
      · show PyData.eqv (SeqAt.readOf s.heap its.toArray[j]) d = true
        rw [at_ j hj z hz]
        exact hzj
      · intro m hm hmj
        have hmd : m < ds.length := by omega
        have hz' : ds[m]? = some ds[m] := List.getElem?_eq_getElem hmd
        show PyData.eqv (SeqAt.readOf s.heap its.toArray[m]) d = false
        rw [at_ m hm _ hz']
        exact hno m _ hmj hz'
      · exact ⟨.int (j : Nat), H, I.tok _, ⟨_, rfl⟩, q⟩
end
end L2
set_option Elab.async false
set_option linter.all false
set_option maxRecDepth 100000
set_option maxHeartbeats 2000000
/-! a * n by an own __mul__, n an int -/
namespace FoOps
open PySem PySem.W PyProof.Rows
theorem int_mul : fillsNumberSlot (.type "int") "mul" = pure true := by
  unfold fillsNumberSlot
  simp only [typeLookup_type, builtinLookup_eq_fast]
  kernel_rfl
theorem look_int : typeLookup (.type "int") (dunderR "mul") = pure (some (.builtin "int.__rmul__")) := by
  rw [typeLookup_type, builtinLookup_eq_fast]
  kernel_rfl
section
variable {prog : Program} {w : World} {A : Around} {E : Value → Shared → Prop} {s : Shared} {K : Frag} {x C f g : Addr} {ox : Obj} {od : Option Obj}
theorem inPython_K {M : Model} {h : Heap} {nm : String} (X : K.In h) (hs : findIn K (.ref C) (PySem.dunder nm) = some (some (.ref f))) (hr : findIn K (.ref C) (dunderR nm) = some (some (.ref g))) : Looks M h (numberSlotInPython (.ref C) nm) true := by
  intro A Q E s k q
  unfold numberSlotInPython
  refine wpAny_bind (looks_findIn X hs A _ E s k ?_)
  show wpAny M A (calledByName (.ref C) (PySem.dunder nm) (some (.ref f)) >>= _) Q E s
  refine wpAny_bind (wpAny_pure ?_)
  refine wpAny_bind (looks_findIn X hr A _ E s k ?_)
  show wpAny M A (calledByName (.ref C) (dunderR nm) (some (.ref g)) >>= _) Q E s
  refine wpAny_bind (wpAny_pure ?_)
  rw [if_pos (by rfl)]
  exact wpAny_pure q
theorem mul_KI {i : Int} {t : Tok} {Q : Value → Shared → Prop} (X : K.In s.heap) (I : InstAt s.heap x ox C od) (hc : selfFirst K C = true) (hsub : subIn K (.type "int") (.ref C) = some false)
    (hs : findIn K (.ref C) (PySem.dunder "mul") = some (some (.ref f))) (hf : isFn K (.ref f) = true) (hr : findIn K (.ref C) (dunderR "mul") = some (some (.ref g)))
    (h : wpAny (model prog w) A (call (.ref f) [.ref x, .int i t]) (PySem.W.CmpBack Q) E s) : wpAny (model prog w) A (binaryOp .Mult (.ref x) (.int i t)) Q E s := by
  obtain ⟨cd, hcd, hm⟩ := any_some hc
  obtain ⟨rest, hm⟩ : ∃ rest, cd.mro = .ref C :: rest := by
    cases q : cd.mro with
    | nil => rw [q] at hm; cases hm
    | cons a r => rw [q] at hm; exact ⟨r, by rw [List.head?_cons] at hm; cases (beq_iff_eq.mp hm); rfl⟩
  unfold binaryOp
  refine wpAny_holding (wpAny_bind ?_)
  show wpAny _ _ (binaryOp1 "mul" (.ref x) (.int i t)) _ _ _
  unfold binaryOp1
  refine wpAny_bind (I.type.here (wpAny_bind (wpAny_typeOf (T := "int") rfl (wpAny_bind ((fills_K X hcd hm hs).here ?_)))))
  have e : (Value.ref C == Value.type "int") = false := by simp
  simp only [e, Bool.false_eq_true, if_false]
  refine wpAny_bind (wpAny_of_eq int_mul ?_)
  simp only [Bool.and_self, if_true]
  refine wpAny_bind ((looks_subIn X hsub).here ?_)
  simp only [Bool.false_eq_true, if_false, Bool.not_false, Bool.and_true, if_true]
  refine wpAny_bind ((inPython_K X hs hr).here ?_)
  simp only [if_true]
  refine wpAny_bind (wpAny_of_eq (show numberSlotInPython (.type "int") "mul" = pure false from rfl) ?_)
  simp only [Bool.not_false, if_true]
  refine wpAny_bind (wpAny_of_eq look_int ?_)
  dsimp only
  refine wpAny_bind (m := tryMethod (.ref x) _ _) ?_
  unfold tryMethod
  refine wpAny_bind (special_fn X I hs (beq_iff_eq.mp hf) (wpAny_mono h (fun v s' hv => ?_) fun _ _ e => e))
  cases v <;> first | exact hv.elim | exact wpAny_pure (wpAny_pure (wpAny_pure hv))
end
end FoOps
namespace L2
open PySem PySem.Spec PyProof.Rows
structure OwnMul (K : PySem.W.Frag) (C f g : Addr) : Prop where
  sf : PySem.W.selfFirst K C = true
  at_ : PySem.W.findIn K (.ref C) "__mul__" = some (some (.ref f))
  fn : PySem.W.isFn K (.ref f) = true
  rat : PySem.W.findIn K (.ref C) "__rmul__" = some (some (.ref g))
  sb : PySem.W.subIn K (.type "int") (.ref C) = some false
def rOwnMul (C : Addr) (sp : Sp) (E : XK) : R2 := fun x y H Q => ∃ a dx fs i, x = .ref a ∧ H a = some (.ins C dx fs) ∧ y = .int i ∧ sp [x, y] H Q E
section
variable {X : Cx} {CX : CXT} {k : Nat} {f g C : Addr} {fd : FuncData} {ps : List Str} {sp : Sp} {E : XK}
theorem op_ownMul (O : OwnMul X.K C f g) (F : FnOk X.prog X.w X.K X.mg X.base CX k f fd ps sp) (hr : Room k X.A) (hb : Binds X.K fd ps []) (hx : Passes CX X E) :
    OpR X (binaryOp .Mult) (rOwnMul C sp E) := by
  intro pins s σ H x y v u Q I rx ry h
  obtain ⟨a, dx, fs, i, rfl, ha, rfl, q⟩ := h
  obtain rfl : v = Value.ref a := rx
  obtain ⟨mA, J, _⟩ := ins_get I.hok ha
  obtain ⟨od, J, _⟩ := J.look
  have run : wpAny (model X.prog X.w) X.A (call (.ref f) [.ref a, u]) (PySem.W.CmpBack (EP X pins σ Q)) X.xe s := by
    refine wpAny_mono (run_fn (us := [.ref a, u]) (vs := [.ref a, .int i]) F hr hb .nil hx I (.cons rfl (.cons ry .nil)) q) (fun r s' z => ?_) fun _ _ z => z
    obtain ⟨z1, H1, I1, rz, qz⟩ := z
    exact cmpBack_of (not_ni rz) ⟨z1, H1, I1, rz, qz⟩
  obtain ⟨t, rfl⟩ := ry
  exact FoOps.mul_KI I.kIn J O.sf O.sb O.at_ O.fn O.rat run
end
end L2
set_option Elab.async false
set_option linter.all false
set_option maxRecDepth 100000
set_option maxHeartbeats 2000000
/-! t + a, t - a, n * a by an own reflected operator -/
namespace FoOps
open PySem PySem.W PyProof.Rows
section
variable {prog : Program} {w : World} {A : Around} {E : Value → Shared → Prop} {s : Shared} {K : Frag} {x C f g : Addr} {ox : Obj} {od : Option Obj}
theorem refl_KT {op : Operator} {a : Value} {T : String} {Q : Value → Shared → Prop} (X : K.In s.heap) (I : InstAt s.heap x ox C od) (hT : s.TypeIs a T)
    (hfl : fillsNumberSlot (.type T) op.info.2 = pure false) (hc : selfFirst K C = true)
    (hs : findIn K (.ref C) (PySem.dunder op.info.2) = some (some (.ref f))) (hr : findIn K (.ref C) (dunderR op.info.2) = some (some (.ref g))) (hf : isFn K (.ref g) = true)
    (h : wpAny (model prog w) A (call (.ref g) [.ref x, a]) (PySem.W.CmpBack Q) E s) : wpAny (model prog w) A (binaryOp op a (.ref x)) Q E s := by
  obtain ⟨cd, hcd, hm⟩ := any_some hc
  obtain ⟨rest, hm⟩ : ∃ rest, cd.mro = .ref C :: rest := by
    cases q : cd.mro with
    | nil => rw [q] at hm; cases hm
    | cons a r => rw [q] at hm; exact ⟨r, by rw [List.head?_cons] at hm; cases (beq_iff_eq.mp hm); rfl⟩
  unfold binaryOp
  refine wpAny_holding (wpAny_bind ?_)
  unfold binaryOp1
  refine wpAny_bind (wpAny_typeOf hT (wpAny_bind (I.type.here (wpAny_bind (wpAny_of_eq hfl ?_)))))
  have e : (Value.type T == Value.ref C) = false := by simp
  simp only [e, Bool.false_eq_true, if_false]
  refine wpAny_bind ((fills_K X hcd hm hs).here ?_)
  simp only [Bool.false_and, Bool.false_eq_true, if_false, Bool.not_false, Bool.and_true, if_true]
  refine wpAny_bind (wpAny_pure ?_)
  simp only [Bool.false_eq_true, if_false]
  refine wpAny_bind (m := tryMethod (.ref x) _ a) ?_
  unfold tryMethod
  refine wpAny_bind (special_fn X I hr (beq_iff_eq.mp hf) (wpAny_mono h (fun v s' hv => ?_) fun _ _ e => e))
  cases v <;> first | exact hv.elim | exact wpAny_pure (wpAny_bind (wpAny_rule (wpAny_pure (wpAny_pure hv))))
theorem int_mul_ni {i : Int} {t : Tok} {dx : Addr} {Q : Value → Shared → Prop} (hx : s.heap.get? x = some (instObj C dx)) (h : Q .notImplemented s) : wpAny (model prog w) A (call (.builtin "int.__mul__") [.int i t, .ref x]) Q E s := by
  refine wpAny_call (codeAny_call_builtin F.slot_int_mul.plain F.entry_int_mul (F.slot_int_mul.check _ _ _ _ _ _ _ _ rfl (F.args_int_mul_2 _ _) ?_))
  obtain ⟨hp, gg, d, tk, os⟩ := s
  have hx' : hp.get? x = some (instObj C dx) := hx
  unfold Builtin.«int.__mul__» Builtin.Int.intBinary
  refine wpAny_bind (wpAny_of_eq (a := ((Value.int i t : Value), [Value.ref x])) (by first | rfl | (simp only [slotArgs]; rfl)) ?_)
  refine wpAny_bind (wpAny_of_eq (a := i) rfl ?_)
  refine wpAny_bind ?_
  show wpAny _ _ (asInt? (.ref x)) _ _ _
  unfold asInt?
  refine wpAny_bind (wpAny_load hx' ?_)
  refine wpAny_pure ?_
  dsimp only
  refine wpAny_bind (wpAny_rule ?_)
  exact wpAny_pure h
theorem mul_RI {i : Int} {t : Tok} {dx : Addr} {Q : Value → Shared → Prop} (X : K.In s.heap) (I : InstAt s.heap x (instObj C dx) C od) (hc : selfFirst K C = true) (hsub : subIn K (.ref C) (.type "int") = some false)
    (hs : findIn K (.ref C) (PySem.dunder "mul") = some (some (.ref f))) (hr : findIn K (.ref C) (dunderR "mul") = some (some (.ref g))) (hf : isFn K (.ref g) = true)
    (h : wpAny (model prog w) A (call (.ref g) [.ref x, .int i t]) (PySem.W.CmpBack Q) E s) : wpAny (model prog w) A (binaryOp .Mult (.int i t) (.ref x)) Q E s := by
  obtain ⟨cd, hcd, hm⟩ := any_some hc
  obtain ⟨rest, hm⟩ : ∃ rest, cd.mro = .ref C :: rest := by
    cases q : cd.mro with
    | nil => rw [q] at hm; cases hm
    | cons a r => rw [q] at hm; exact ⟨r, by rw [List.head?_cons] at hm; cases (beq_iff_eq.mp hm); rfl⟩
  unfold binaryOp
  refine wpAny_holding (wpAny_bind ?_)
  show wpAny _ _ (binaryOp1 "mul" (.int i t) (.ref x)) _ _ _
  unfold binaryOp1
  refine wpAny_bind (wpAny_typeOf (T := "int") rfl (wpAny_bind (I.type.here (wpAny_bind (wpAny_of_eq int_mul ?_)))))
  have e : (Value.type "int" == Value.ref C) = false := by simp
  simp only [e, Bool.false_eq_true, if_false]
  refine wpAny_bind ((fills_K X hcd hm hs).here ?_)
  simp only [Bool.and_self, if_true]
  refine wpAny_bind ((looks_subIn X hsub).here ?_)
  simp only [Bool.false_eq_true, if_false, Bool.not_false, Bool.and_true, if_true]
  refine wpAny_bind (wpAny_of_eq (show numberSlotInPython (.type "int") "mul" = pure false from rfl) ?_)
  simp only [Bool.false_eq_true, if_false]
  have ha : s.TypeIs (.int i t) "int" := typeIs_int s i t
  simp only [tryMethod]
  refine wpAny_bind (wpAny_bind (wpAny_callSpecial?_slot ha F.slot_int_mul (wpAny_mono (int_mul_ni (Q := fun v s1 => v = .notImplemented ∧ s1 = s) I.at_ ⟨rfl, rfl⟩) (fun v s₁ h₁ => ?_) fun _ _ x => x)))
  obtain ⟨rfl, rfl⟩ := h₁
  refine wpAny_pure ?_
  dsimp only
  refine wpAny_bind (wpAny_bind (special_fn X I hr (beq_iff_eq.mp hf) (wpAny_mono h (fun v s' hv => ?_) fun _ _ e => e)))
  cases v <;> first | exact hv.elim | exact wpAny_pure (wpAny_bind (wpAny_rule (wpAny_pure (wpAny_pure hv))))
end
end FoOps
namespace L2
open PySem PySem.Spec PyProof.Rows
/-- an own class whose reflected operator is the def at g -/
structure OwnRefl (K : PySem.W.Frag) (C : Addr) (op : Operator) (f g : Addr) : Prop where
  sf : PySem.W.selfFirst K C = true
  at_ : PySem.W.findIn K (.ref C) (PySem.dunder op.info.2) = some (some (.ref f))
  rat : PySem.W.findIn K (.ref C) (dunderR op.info.2) = some (some (.ref g))
  fn : PySem.W.isFn K (.ref g) = true
/-- t op a: t a tracked tuple, a an instance -/
def rReflT (C : Addr) (sp : Sp) (E : XK) : R2 := fun x y H Q => ∃ b xs a dx fs, x = .ref b ∧ H b = some (.tup xs) ∧ y = .ref a ∧ H a = some (.ins C dx fs) ∧ sp [y, x] H Q E
def rReflI (C : Addr) (sp : Sp) (E : XK) : R2 := fun x y H Q => ∃ (i : Int) (a dx : Addr) (fs : List (Str × V)), x = .int i ∧ y = .ref a ∧ H a = some (.ins C dx fs) ∧ sp [y, x] H Q E
section
variable {X : Cx} {CX : CXT} {k : Nat} {f g C : Addr} {fd : FuncData} {ps : List Str} {sp : Sp} {E : XK}
theorem op_reflT {op : Operator} (O : OwnRefl X.K C op f g) (hfl : fillsNumberSlot (.type "tuple") op.info.2 = pure false) (F : FnOk X.prog X.w X.K X.mg X.base CX k g fd ps sp) (hr : Room k X.A) (hb : Binds X.K fd ps []) (hx : Passes CX X E) :
    OpR X (binaryOp op) (rReflT C sp E) := by
  intro pins s σ H x y v u Q I rx ry h
  obtain ⟨b, xs, a, dx, fs, rfl, hb', rfl, ha, q⟩ := h
  obtain rfl : v = Value.ref b := rx
  obtain rfl : u = Value.ref a := ry
  obtain ⟨mA, J, _⟩ := ins_get I.hok ha
  obtain ⟨od, J, _⟩ := J.look
  obtain ⟨_, _, _, o, h1, h2, _⟩ := (show ObjOk X.prog X.w H s.heap b (.tup xs) from I.hok b _ hb')
  refine FoOps.refl_KT I.kIn J ⟨o, h1, h2⟩ hfl O.sf O.at_ O.rat O.fn ?_
  refine wpAny_mono (run_fn (us := [.ref a, .ref b]) (vs := [.ref a, .ref b]) F hr hb .nil hx I (.cons rfl (.cons rfl .nil)) q) (fun r s' z => ?_) fun _ _ z => z
  obtain ⟨z1, H1, I1, rz, qz⟩ := z
  exact cmpBack_of (not_ni rz) ⟨z1, H1, I1, rz, qz⟩
theorem op_reflI (O : OwnRefl X.K C .Mult f g) (hsub : PySem.W.subIn X.K (.ref C) (.type "int") = some false) (F : FnOk X.prog X.w X.K X.mg X.base CX k g fd ps sp) (hr : Room k X.A) (hb : Binds X.K fd ps []) (hx : Passes CX X E) :
    OpR X (binaryOp .Mult) (rReflI C sp E) := by
  intro pins s σ H x y v u Q I rx ry h
  obtain ⟨i, a, dx, fs, rfl, rfl, ha, q⟩ := h
  obtain rfl : u = Value.ref a := ry
  obtain ⟨mA, J, _⟩ := ins_get I.hok ha
  obtain ⟨od, J, _⟩ := J.look
  have run : wpAny (model X.prog X.w) X.A (call (.ref g) [.ref a, v]) (PySem.W.CmpBack (EP X pins σ Q)) X.xe s := by
    refine wpAny_mono (run_fn (us := [.ref a, v]) (vs := [.ref a, .int i]) F hr hb .nil hx I (.cons rfl (.cons rx .nil)) q) (fun r s' z => ?_) fun _ _ z => z
    obtain ⟨z1, H1, I1, rz, qz⟩ := z
    exact cmpBack_of (not_ni rz) ⟨z1, H1, I1, rz, qz⟩
  obtain ⟨t, rfl⟩ := rx
  exact FoOps.mul_RI I.kIn J O.sf hsub O.at_ O.rat O.fn run
end
end L2
set_option Elab.async false
set_option linter.all false
set_option maxRecDepth 100000
set_option maxHeartbeats 2000000
/-! C.m() of a static method -/
namespace L2
open PySem PySem.Spec PyProof.Rows
structure Stat (K : PySem.W.Frag) (C : Addr) (m : Str) (p f : Addr) : Prop where
  ga : PySem.W.specialIn K (.ref C) "__getattribute__" = some (some (.builtin "type.__getattribute__"))
  ty : PySem.W.typeIn K (.ref C) = some (.type "type")
  rd : PySem.W.readsIn K C (.type "type") = true
  fc : PySem.W.findCls K (.ref C) (.type "type") m = some (.get (.builtin "staticmethod.__get__") (.ref p) .none (.ref C))
  rc : ∃ rest, PySem.W.recIn K p "staticmethod" = some (.ref f :: rest)
  kp : PySem.W.keepIn K (.ref f) = true
section
variable {X : Cx} {CX : CXT} {k : Nat} {f C p : Addr} {fd : FuncData} {ps : List Str} {sp : Sp} {E : XK} {n m : Str} {np pos apos : Pos}
theorem pe_static0 {pl : Sem Bool} (hn : PE X (.Name n np) (tC (.ref C))) (S : Stat X.K C m p f) (F : FnOk X.prog X.w X.K X.mg X.base CX k f fd ps sp) (hr : Room k X.A) (hb : Binds X.K fd ps []) (hx : Passes CX X E)
    (ht : eval (.Call (.Attribute (.Name n np) m apos) [] [] pos) X.env = (do
      let ov ← eval (.Name n np) X.env
      standAt apos.atName
      let (f, first) ← holding [ov] (getMethod ov m pl)
      callWith pos f first (backTo pos (starEach [] X.env)) (backToKw pos (keywordEach [] X.env))) := by rfl) :
    PE X (.Call (.Attribute (.Name n np) m apos) [] [] pos) (tCall sp [] E tNil) := by
  refine ⟨fun pins s σ H Q I h => ?_⟩
  refine PySem.W.methodCall_KW (pl := pl) (thn (hn.run pins s σ H (fun v H' => v = .ref C ∧ H' = H) I ⟨rfl, rfl⟩) fun u s1 hh => ?_) ht
  obtain ⟨x, H1, I1, rx, ex, eH⟩ := hh
  subst ex
  subst eH
  obtain rfl : u = Value.ref C := rx
  obtain ⟨m', hF⟩ := I1.fr
  obtain ⟨rest, hrc⟩ := S.rc
  refine PySem.W.method_of_cls hF I1.ok.mod.kin S.ga (PySem.W.cls_sm hF I1.ok.mod.kin S.ty S.rd S.fc hrc rfl ?_)
  have I2 := I1.tok (s1.toks + 1)
  exact PySem.W.callWith_K0 (first := []) I2.kIn S.kp (run_fn (us := []) (vs := []) F hr hb .nil hx I2 .nil h)
end
end L2
set_option Elab.async false
set_option linter.all false
set_option maxRecDepth 100000
set_option maxHeartbeats 2000000
/-! an own error over ValueError (perhaps over others between), whose __init__ says super().__init__(text) and keeps one field -/
namespace FoX
open PySem PySem.W PySem.Calls PyProof.Rows PySem.HandSPX
theorem one_sz (v : Value) : [v].length ≤ sizeLine := by
  rw [sizeLine_eq]
  exact (by decide : 1 ≤ 16777216)
section
variable {prog : Program} {w : World} {A : Around} {E : Value → Shared → Prop} {h : Heap} {g : Array GenState} {d : Drawn} {t : Nat} {os : OsState}
/-- the bound built-in __init__ called -/
theorem mw_call {nm q : Str} {C N u e t0 : Addr} {bs bm : List Value} {hdct : Bool} {sn : List Str} {sub : List Value} {ab : Bool} {col : Option Bool} {dd : Option Addr} {k0 k1 k2 k3 k5 : Option Value} {rest : List Value} {Q : Value → Shared → Prop}
    (hC : h.get? C = some (excClassObj nm q C N bs bm hdct sn sub ab col dd k0 k1 k2 k3 k5 "ValueError.__new__")) (he : h.get? e = some (HandSPX.excO C t0)) (hu : h.get? u = some (kxs_mw "ValueError.__init__" e)) (hz : rest.length ≤ sizeLine)
    (hq : ∀ h' t1, (∀ b o, b ≠ e → h.get? b = some o → h'.get? b = some o) → h'.get? e = some (HandSPX.excO C t1) → Q .none ⟨h', g, d, t, os⟩) :
    wpAny (model prog w) A (call (.ref u) rest) Q E ⟨h, g, d, t, os⟩ := by
  refine wpAny_call (codeAny_of_tree ?_)
  show wpAny (model prog w) A.in1 (callAny (.ref u) ⟨rest, []⟩) _ _ _
  simp only [callAny]
  refine wpAny_bind (wpAny_load hu ?_)
  have tb : (Value.type "method-wrapper" == Value.type "method" || Value.type "method-wrapper" == Value.type "builtin_function_or_method" || Value.type "method-wrapper" == Value.type "method-wrapper") = true := by decide
  simp only [kxs_mw, tb, if_true]
  refine KFB.if_so (by decide) (wpAny_bind (check_bound_init F.excBase_ValueError.toExcCallFacts hC he rfl ?_))
  refine wpAny_bind (wpAny_pure (wpAny_pure ⟨plainId_quiet F.excBase_ValueError.init.plain _, codeAny_builtin F.excBase_ValueError.initEntry ?_⟩))
  exact exc_init_tree (cls := .ref C) (t0 := t0) (dv := none) (c2 := .none) (c3 := .none) (b4 := .bool false) he hz fun h' k e' _ => hq h' _ k e'
end
end FoX
set_option Elab.async false
set_option linter.all false
set_option maxRecDepth 100000
set_option maxHeartbeats 2000000
namespace FoX_thing
open PySem PySem.W PySem.Calls PyProof.Rows PySem.HandSPX FoX
/-- the text of such an __init__ -/
def xB (msg : Str) (a1 a2 a3 a4 a5 a6 q1 q2 q3 q4 : Pos) (j : Nat) : List Stmt :=
  [.Expr (.Call (.Attribute (.Call (.Name "super" a1) [] [] a2) "__init__" a3) [.Constant (.str msg) j a4] [] a5) a6, .Assign [.Attribute (.Name "self" q1) (Str.ofString "thing") q2] (.Name (Str.ofString "thing") q3) q4]
def xS : Scope := { kind := .function, names := [(Str.ofString "self", .local), ((Str.ofString "thing"), .local), (Str.ofString "__class__", .free), (Str.ofString "super", .globalImplicit)], isGenerator := false, isCoroutine := false, more := [] }
def xA (p1 p2 : Pos) : Arguments := { posonlyargs := [], args := [{ arg := "self", annotation := none, pos := p1 }, { arg := (Str.ofString "thing"), annotation := none, pos := p2 }], vararg := none, kwonlyargs := [], kw_defaults := [], kwarg := none, defaults := [] }
/-- what the written part says of the class at C and its __init__ at fI -/
structure XTxt (P : Program) (K : Frag) (mg : Str → Option Value) (C fI : Addr) : Prop where
  cls : ∃ nm q N bs bm sn sub ab col dd k0 k1 k2 k3 k5, K.lookup C = some (excClassObj nm q C N bs bm true sn sub ab col dd k0 k1 k2 k3 k5 "ValueError.__new__") ∧ refsVE bm = true
  sa : findIn K (.ref C) "__setattr__" = some (some (.builtin "object.__setattr__"))
  ga : findIn K (.ref C) "__getattribute__" = some (some (.builtin "BaseException.__getattribute__"))
  gg : findIn K (.ref C) "__getattr__" = some none
  noN : findIn K (.ref C) (Str.ofString "thing") = some none
  iC : findIn K (.ref C) "__init__" = some (some (.ref fI))
  tC : typeIn K (.ref fI) = some (.type "function")
  kC : keepIn K (.ref C) = true
  exC : subIn K (.ref C) (.type "BaseException") = some true
  tyC : typeIn K (.ref C) = some (.type "type")
  hdC : hasDictIn K C = true
  sup : ks_superIn K C C "__init__" = some (some (.builtin "ValueError.__init__"))
  tp : nsIn K cStatics "thirdparty.any" = some none
  zs : mg "super" = none
  ve : subIn K (.ref C) (.type "ValueError") = some true
  mr : mroIn K C (.ref C) = some true
  top : (P.main.scope.names.lookup ("super" : Str)).isSome = false
  fn : ∃ (qual msg : Str) (oc : Value) (od : Option Addr) (doc pm kV : Value) (an : Option Addr) (cc cda : Addr) (ct : Value) (osl : Array (Option Value)) (p1 p2 a1 a2 a3 a4 a5 a6 q1 q2 q3 q4 : Pos) (j : Nat) (ccl cl : Value) (cdd cld : Option Addr) (vs : Array Value) (ccs csl : Array (Option Value)) (file : Str) (tf : Tok),
    K.lookup fI = some ⟨oc, od, .func (ksFn "__init__" qual (xA p1 p2) (xB msg a1 a2 a3 a4 a5 a6 q1 q2 q3 q4 j) xS .none kV doc pm an (.ref cda) ct cc), osl⟩ ∧ codeIn K (.ref cda) qual = true ∧
    K.lookup cda = some ⟨ccl, cdd, .fields vs, ccs⟩ ∧ vs[2]? = some (.str file tf) ∧ ((P.main.file : Str) == file) = true ∧ (a3.endLine == a5.line) = true ∧ K.lookup cc = some ⟨cl, cld, .cell (some (.ref C)), csl⟩
theorem xcel : ∀ y ∈ xS.names, y.2 ≠ .cell := by decide
/-- the call of super's method, its tree -/
theorem x_tree (msg : Str) (a1 a2 a3 a4 a5 : Pos) (j : Nat) (env : Env) (hl : (a3.endLine == a5.line) = true) : eval (.Call (.Attribute (.Call (.Name "super" a1) [] [] a2) "__init__" a3) [.Constant (.str msg) j a4] [] a5) env = (do
      let ov ← attributeBase (.Call (.Name "super" a1) [] [] a2) "__init__" env (eval (.Call (.Name "super" a1) [] [] a2) env)
      standAt a3.atName
      let (f, first) ← holding [ov] (getMethod ov "__init__" (do return (← importBound (.Call (.Name "super" a1) [] [] a2) env).getD true))
      callWith a5 f first (backTo a5 (starEach [.Constant (.str msg) j a4] env)) []) := by
  rw [arm_eval_Call]
  unfold methodCall methodCallPos
  simp only [hl, Bool.or_true, if_true]
  rfl
/-- what __init__ leaves of a fresh error at x -/
structure XEnd (h h' : Heap) (x C dx : Addr) (v : Value) : Prop where
  keep : ∀ b o, b ≠ x → h.get? b = some o → h'.get? b = some o
  obj : ∃ t1 : Addr, h'.get? x = some { cls := .ref C, dict := some dx, data := .fields #[.ref t1, .none, .none, .none, .bool false, .none] }
  dbig : h.objs.size ≤ dx
  dne : dx ≠ x
  ns : h'.Ns1 dx (fun y => if y = (Str.ofString "thing") then some v else none)
section
variable {prog : Program} {w : World} {A : Around} {E : Value → Shared → Prop} {R : Result → Shared → Prop} {s : Shared} {K : Frag} {mg : Str → Option Value} {C fI : Addr}
theorem x_init (T : XTxt prog K mg C fI) {x t0 : Addr} {v : Value} (X : K.In s.heap) (hg : s.heap.Ns mainGlobals mg) (hbl : ∃ mb, s.heap.Ns builtinsNs mb ∧ ∀ y : Str, y ≠ "__name__" → mb y = bootBuiltins y) (hlim : s.heap.NoLimit)
    (hx : s.heap.get? x = some (HandSPX.excO C t0)) (hnx : K.lookup x = none) (hroom : A.depth < recursionLimit) (hq : ∀ h' tk dx, XEnd s.heap h' x C dx v → R (.ok (.ret .none)) { s with heap := h', toks := tk }) :
    codeAny (model prog w) A (.call (.ref fI) ⟨[.ref x, v], []⟩) R s := by
  obtain ⟨qual, msg, oc, od, doc, pm, kV, an, cc, cda, ct, osl, p1, p2, a1, a2, a3, a4, a5, a6, q1, q2, q3, q4, j, ccl, cl, cdd, cld, vs, ccs, csl, file, tf, ho, hcd, hcode, hvs, hfile, hline, hcell⟩ := T.fn
  obtain ⟨nm, q, N, bs, bm, sn, sub, ab, col, dd, k0, k1, k2, k3, k5, hC, hbm⟩ := T.cls
  have hcl : clsIn K C = some { name := nm, bases := bs, mro := .ref C :: bm, ns := N, qualname := q, hasDict := true, slotNames := sn, subclasses := sub, abstract := ab, collection := col, hasDel := false } := by unfold clsIn; rw [hC] <;> rfl
  obtain ⟨hp, g, d, tk, os⟩ := s
  refine ks_codeAny_call_defAt (fd := ksFn "__init__" qual (xA p1 p2) (xB msg a1 a2 a3 a4 a5 a6 q1 q2 q3 q4 j) xS .none kV doc pm an (.ref cda) ct cc) (body := xB msg a1 a2 a3 a4 a5 a6 q1 q2 q3 q4 j) (binds := [(Str.ofString "self", .ref x), ((Str.ofString "thing"), v)]) hroom (X _ _ ho) rfl hlim (codeRec_of X hcd) rfl (BindsTo.of_eq rfl) xcel ?_ (fun h₁ hns k => ?_) rfl rfl rfl
  · intro y hy
    rcases List.mem_cons.mp hy with rfl | hy
    · exact rfl
    · rcases List.mem_cons.mp hy with rfl | hy
      · exact rfl
      · cases hy
  have X₁ : K.In h₁ := X.keeps k
  have hx₁ : h₁.get? x = some (HandSPX.excO C t0) := k _ _ hx
  have I₁ : InstAt h₁ x (HandSPX.excO C t0) C none := ⟨hx₁, rfl, rfl, trivial⟩
  have vself : (fun y : Str => List.lookup y (List.reverse [((Str.ofString "self"), Value.ref x), ((Str.ofString "thing"), v)])) (Str.ofString "self") = some (.ref x) := by
    have e : ((Str.ofString "self") == (Str.ofString "thing")) = false := by decide +kernel
    simp [List.lookup, e]
  have vfld : (fun y : Str => List.lookup y (List.reverse [((Str.ofString "self"), Value.ref x), ((Str.ofString "thing"), v)])) (Str.ofString "thing") = some v := by
    simp [List.lookup]
  obtain ⟨mb, hb1, hb2⟩ := hbl
  -- super().__init__(text)
  refine ks_wpAt_execs_cons (ks_wpAt_Expr_any (ks_wpAt_MethodCall ?_ (x_tree msg a1 a2 a3 a4 a5 j _ hline)) rfl rfl)
  refine ks_wpAt_super_base (f := fI) (fd := ksFn "__init__" qual (xA p1 p2) (xB msg a1 a2 a3 a4 a5 a6 q1 q2 q3 q4 j) xS .none kV doc pm an (.ref cda) ct cc) (ar := { arg := "self", annotation := none, pos := p1 }) rfl rfl rfl rfl (X₁ _ _ ho) rfl rfl rfl (X₁ _ _ hcode) rfl hvs hfile T.top ?_
  refine ks_loadName_global rfl rfl (loadGlobal_builtin (hg.keeps k) T.zs (hb1.keeps k) ((hb2 _ (by decide +kernel)).trans (by decide +kernel)) ⟨rfl, ?_⟩)
  refine wpAny_loadName_free rfl rfl rfl ⟨_, X₁ _ _ hcell, rfl⟩ ?_
  refine wpAny_loadName_local rfl rfl hns vself ?_
  obtain ⟨oD, hD1, hD2⟩ : ∃ oD, h₁.get? C = some oD ∧ oD.data = .cls { name := nm, bases := bs, mro := .ref C :: bm, ns := N, qualname := q, hasDict := true, slotNames := sn, subclasses := sub, abstract := ab, collection := col, hasDel := false } := ⟨_, X₁ _ _ hC, rfl⟩
  refine ks_wpAny_isType_cls hD1 hD2 ⟨rfl, ?_⟩
  refine ks_wpAny_call_super hD1 hD2 hx₁ rfl (fun c e => by cases e) (looks_mroIn X₁ T.mr) (fun h₂ e₂ k₂ => ?_)
  have X₂ : K.In h₂ := X₁.keeps k₂
  have hx₂ : h₂.get? x = some (HandSPX.excO C t0) := k₂ _ _ hx₁
  have I₂ : InstAt h₂ x (HandSPX.excO C t0) C none := ⟨hx₂, rfl, rfl, trivial⟩
  have hsup := T.sup
  unfold ks_superIn at hsup
  rw [hcl] at hsup
  have hmro : Looks (model prog w) h₂ (mroOf (.ref C)) (.ref C :: bm) := (looks_clsIn X₂ hcl).andThen .now
  refine kxs_getMethod kxs_ValueError e₂ (looks_opaque X₂ T.tp) hmro rfl X₂ hsup (I₂.type.andThen (looks_subIn X₂ T.ve)) (ks_ne X₂ I₂ hcl) rfl ?_
  -- the wrapper called
  have hk₃ : ∀ b o, h₂.get? b = some o → (h₂.push (kxs_mw "ValueError.__init__" x)).get? b = some o := fun b o e => Heap.get?_push_of_some _ e
  have hu₃ : (h₂.push (kxs_mw "ValueError.__init__" x)).get? h₂.objs.size = some (kxs_mw "ValueError.__init__" x) := Heap.get?_push_at rfl rfl
  refine kxs_callWith (i := "ValueError.__init__") (x := x) rfl (evalArgs_plain (Calls.spliced_cons (Calls.Constant_str (pos := a4) (k := j) (Calls.spliced_nil ⟨hu₃, ?_⟩))))
  refine mw_call (X₂.keeps hk₃ _ _ hC) (hk₃ _ _ hx₂) hu₃ (one_sz _) (fun h₄ t1 k₄ hx₄ => ?_)
  have kall : ∀ b o, b ≠ x → hp.get? b = some o → h₄.get? b = some o := fun b o hb e => k₄ b o hb (hk₃ b o (k₂ b o (k b o e)))
  have xC : x ≠ C := ks_ne X₂ I₂ hcl
  have X₄ : K.In h₄ := fun b o e => kall b o (fun z => by rw [z, hnx] at e; cases e) (X b o e)
  have hL : hp.objs.size ≠ x := Nat.ne_of_gt (Heap.lt_size hx)
  have hns₄ : h₄.Ns hp.objs.size (fun y => List.lookup y (List.reverse [((Str.ofString "self"), Value.ref x), ((Str.ofString "thing"), v)])) := by
    obtain ⟨oL, es, ep, hoL, r⟩ := hns
    exact ⟨oL, es, ep, k₄ _ _ hL (hk₃ _ _ (k₂ _ _ hoL)), r⟩
  -- self.field = field
  refine wpAt_of_wpAny ?_
  refine wpAny_execs_cons (plainObj_wpAny_Assign_Attribute ?_)
  refine wpAny_Name (wpAny_loadName_local rfl rfl hns₄ vfld (wpAny_Name (wpAny_loadName_local rfl rfl hns₄ vself ?_) (by decide))) (by decide)
  refine set_plain X₄ (ox := HandSPX.excO C t1) (od := none) ⟨hx₄, rfl, rfl, trivial⟩ T.sa ?_
  refine exc_osa X₄ hx₄ hcl (show refsVE (.ref C :: bm) = true from hbm) rfl T.noN (fun h₅ tk₅ dx k₅ dn dne hx₅ hn₅ => ?_)
  refine wpAny_execs_nil (hq h₅ tk₅ dx ⟨fun b o hb e => k₅ b o hb (kall b o hb e), ⟨t1, hx₅⟩, ?_, dne, hn₅⟩)
  have z1 : hp.objs.size < h₄.objs.size := hns₄.lt
  exact Nat.le_of_lt (Nat.lt_of_lt_of_le z1 dn)
/-- a made error -/
structure XMade (h h' : Heap) (e C d : Addr) (v : Value) : Prop where
  keep : ∀ b o, h.get? b = some o → h'.get? b = some o
  new : h.objs.size ≤ e
  obj : ∃ oe vs, h'.get? e = some oe ∧ oe.cls = .ref C ∧ oe.dict = some d ∧ oe.data = .fields vs ∧ vs[1]? = some .none
  dbig : h.objs.size ≤ d
  dne : d ≠ e
  ns : h'.Ns1 d (fun y => if y = (Str.ofString "thing") then some v else none)
theorem x_made (T : XTxt prog K mg C fI) {v : Value} (X : K.In s.heap) (hg : s.heap.Ns mainGlobals mg) (hbl : ∃ mb, s.heap.Ns builtinsNs mb ∧ ∀ y : Str, y ≠ "__name__" → mb y = bootBuiltins y) (hlim : s.heap.NoLimit) (hroom : A.depth + 1 < recursionLimit)
    (hq : ∀ h' tk e d, XMade s.heap h' e C d v → R (.ok (.ret (.ref e))) { s with heap := h', toks := tk }) : codeAny (model prog w) A (.call (.ref C) ⟨[v], []⟩) R s := by
  obtain ⟨nm, q, N, bs, bm, sn, sub, ab, col, dd, k0, k1, k2, k3, k5, hC, hbm⟩ := T.cls
  obtain ⟨hp, g, dr, tk, os⟩ := s
  have k : ∀ b o, hp.get? b = some o → ((hp.push (kdv_tup [v])).push (HandSPX.excO C hp.objs.size)).get? b = some o := fun b o e => Heap.get?_push_of_some _ (Heap.get?_push_of_some _ e)
  have hget : ((hp.push (kdv_tup [v])).push (HandSPX.excO C hp.objs.size)).get? (hp.objs.size + 1) = some (HandSPX.excO C hp.objs.size) := by heap_get
  have hnx : K.lookup (hp.objs.size + 1) = none := by
    cases e : K.lookup (hp.objs.size + 1) with
    | none => rfl
    | some o => exact absurd (Nat.lt_of_succ_lt (Heap.lt_size (X _ _ e))) (Nat.lt_irrefl _)
  refine call_own F.excBase_ValueError (fun Y => refsVE_contains Y bm hbm) (X _ _ hC) (looks_findIn X T.iC) (fun self => bind_fn X self T.tC) (one_sz v) ?_
  obtain ⟨mb, hb1, hb2⟩ := hbl
  refine x_init (s := ⟨(hp.push (kdv_tup [v])).push (HandSPX.excO C hp.objs.size), g, dr, tk, os⟩) T (X.keeps k) (hg.keeps k) ⟨mb, hb1.keeps k, hb2⟩ (hlim.keeps k) hget hnx ?_ fun h' tk' dx ⟨k', ⟨t1, hx⟩, dn, dne, hns⟩ => ?_
  · show A.depth + 1 < recursionLimit
    exact hroom
  · have old : ∀ b o, hp.get? b = some o → h'.get? b = some o := fun b o e => k' b o (Nat.ne_of_lt (Nat.lt_succ_of_lt (Heap.lt_size e))) (k b o e)
    have z : hp.objs.size + 1 + 1 ≤ dx := by
      first
        | (simpa only [Heap.size_push] using dn)
        | exact dn
        | (have q := dn; rw [Heap.size_push, Heap.size_push] at q; exact q)
    exact ⟨rfl, hq h' tk' (hp.objs.size + 1) dx ⟨old, Nat.le_succ _, ⟨_, _, hx, rfl, rfl, rfl, rfl⟩, Nat.le_trans (Nat.le_trans (Nat.le_succ _) (Nat.le_succ _)) z, dne, hns⟩⟩
end
end FoX_thing
namespace L2
open PySem PySem.Spec PyProof.Rows
theorem relO_thing {v : V} {v' : Value} (r : RelV v v') (f : Str) : RelO (List.lookup f [((Str.ofString "thing"), v)]) (if f = (Str.ofString "thing") then some v' else none) := by
  by_cases hw : f = (Str.ofString "thing")
  · subst hw
    rw [if_pos rfl]
    have q : List.lookup (Str.ofString "thing") [((Str.ofString "thing"), v)] = some v := by simp [List.lookup]
    rw [q]
    exact r
  · rw [if_neg hw]
    have qw : (f == (Str.ofString "thing")) = false := by simpa using hw
    have q2 : List.lookup f [((Str.ofString "thing"), v)] = none := by simp [List.lookup, qw]
    rw [q2]
    trivial
section
variable {X : Cx} {C fI : Addr} {nm : Str}
/-- Name(e) -/
def tMkX_thing (C : Addr) (ta : TA) : St → Hp → XK → Prop := fun σ H Q => ta σ H fun vs H1 => ∃ v, vs = [v] ∧ ∀ d, H1 d = none → Q (.ref C) (some d) (upd H1 d (.xd [((Str.ofString "thing"), v)]))
theorem pmk_thing {a : Expr} {ta : TA} {p pos : Pos} {k : Nat} (T : FoX_thing.XTxt X.prog X.K X.mg C fI) (gC : X.mg nm = some (.ref C)) (hr : Room k X.A) (ha : PA X [a] ta) (hg : Gl X nm) (hdb : (nm == ("__debug__" : Str)) = false)
    (he : starEach (a :: []) X.env = (false, eval a X.env) :: starEach [] X.env := by rfl) (hpl : (backTo pos (starEach [] X.env)).any (·.1) = false := by rfl) :
    PMk X (.Call (.Name nm p) [a] [] pos) (tMkX_thing C ta) := by
  intro pins s σ H Q I h
  refine wpAny_Call_Name_kw (ld_glob I hg gC ?_ hdb)
  refine PySem.W.callWith_K (h₀ := X.base) I.ok.mod.kin T.kC (thn (ha.run pos pins s σ H _ I h) fun us s1 hh => ?_) he hpl
  obtain ⟨vs, H1, I1, r1, v, ev, q1⟩ := hh
  subst ev
  refine ⟨I1.kIn, ?_⟩
  cases r1 with
  | cons rv rn =>
    rename_i v' us'
    cases rn
    show wpAny _ _ (call (.ref C) [v']) _ _ _
    have hlim := I1.nolimit
    have hgl : s1.heap.Ns mainGlobals X.mg := I1.mod.glob.keeps I1.bk
    obtain ⟨mb, hb1, hb2⟩ := I1.mod.blt
    have hbl : ∃ mb, s1.heap.Ns builtinsNs mb ∧ ∀ y : Str, y ≠ "__name__" → mb y = bootBuiltins y := ⟨mb, hb1.keeps I1.bk, hb2⟩
    obtain ⟨hp, g, dr, tk, os⟩ := s1
    refine wpAny_call (FoX_thing.x_made T I1.kIn hgl hbl hlim (by have := hr.dp; omega) fun h' tk' e d M => ?_)
    show MkP X pins σ Q (.ref e) ⟨h', g, dr, tk', os⟩
    obtain ⟨oe, fv, hoe, hc, hd, hdat, h1⟩ := M.obj
    have hns := M.ns
    obtain ⟨G', g1, g2⟩ := restrict h' fun b => decide (b ≠ e)
    have gk : ∀ b, b ≠ e → G'.get? b = h'.get? b := fun b hb => g1 b (decide_eq_true hb)
    have ge : G'.get? e = none := g2 e (by simp)
    have old : ∀ b o, hp.get? b = some o → G'.get? b = some o := fun b o q => (gk b (Nat.ne_of_lt (Nat.lt_of_lt_of_le (Heap.lt_size q) M.new))).trans (M.keep b o q)
    have ob : ObjOk X.prog X.w (upd H1 d (.xd [((Str.ofString "thing"), v)])) G' d (.xd [((Str.ofString "thing"), v)]) :=
      ⟨_, hns.at (fun o q => (gk d M.dne).trans q), fun f => relO_thing rv f⟩
    have J : Inv X pins σ (upd H1 d (.xd [((Str.ofString "thing"), v)])) ⟨G', g, dr, tk', os⟩ := I1.laid (t' := tk') old M.dbig ob
    refine ⟨e, oe, fv, ⟨G', g, dr, tk', os⟩, _, .ref C, some d, rfl, J, fun b o q => ?_, ge, hoe, ⟨hc, hd⟩, hdat, h1, ?_, rfl, I1.bare, raises_own T.exC T.tyC, q1 d (I1.hok.fresh M.dbig)⟩
    · by_cases hb : b = e
      · have q' : G'.get? b = some o := q
        rw [hb, ge] at q'; cases q'
      · exact (gk b hb).symm.trans q
    · rw [upd_ne (Ne.symm M.dne)]
      exact I1.hok.fresh M.new
/-- raise Name(e) -/
def tRaiseX_thing (C : Addr) (W : WX) (ta : TA) : TS := fun _ σ H => tMkX_thing C ta σ H fun cls d H' => W cls d σ H'
theorem ps_raise_thing {a : Expr} {ta : TA} {W : WX} {p pos pos2 : Pos} {k : Nat} (hc : X.calm = true) (T : FoX_thing.XTxt X.prog X.K X.mg C fI) (gC : X.mg nm = some (.ref C)) (hr : Room k X.A) (tk : Takes X W) (ha : PA X [a] ta) (hg : Gl X nm := by rfl) (hdb : (nm == ("__debug__" : Str)) = false := by decide)
    (he : starEach (a :: []) X.env = (false, eval a X.env) :: starEach [] X.env := by rfl) (hpl : (backTo pos (starEach [] X.env)).any (·.1) = false := by rfl) :
    PS X (.Raise (some (.Call (.Name nm p) [a] [] pos)) none pos2) (tRaiseX_thing C W ta) := ps_raise hc tk (pmk_thing T gC hr ha hg hdb he hpl)
/-- e.field, e the error that the suite holds (at a; its class cls, its dict d) -/
def tByX_thing (C : Addr) (a : Addr) (cls : Value) (d : Option Addr) (te : TE) : TE := fun σ H Q => te σ H fun x H1 => x = .ref a ∧ cls = .ref C ∧ ∃ (dd : Addr) (v : V), d = some dd ∧ H1 dd = some (.xd [((Str.ofString "thing"), v)]) ∧ Q v H1
theorem pe_by_thing {a : Addr} {oe : Obj} {cls : Value} {d : Option Addr} {pn : List (Addr × Obj)} {e : Expr} {te : TE} {pos : Pos} (T : FoX_thing.XTxt X.prog X.K X.mg C fI) (hz : Zc cls d oe) (hf : ∃ vs, oe.data = .fields vs) (he : PE (X.suite a ((a, oe) :: pn)) e te)
    (hb : attributeBase e (Str.ofString "thing") X.env (eval e X.env) = eval e X.env := by rfl) :
    PE (X.suite a ((a, oe) :: pn)) (.Attribute e (Str.ofString "thing") pos) (tByX_thing C a cls d te) := by
  refine ⟨fun pins s σ H Q I h => ?_⟩
  refine attr_of hb (thn (he.run pins s σ H _ I h) fun u s1 hh => ?_)
  obtain ⟨x, H1, I1, rx, ex, ec, dd, v, ed, ea, q⟩ := hh
  subst ex
  obtain rfl : u = Value.ref a := rx
  subst ec
  subst ed
  obtain ⟨ha, _⟩ := I1.pin (a, oe) (List.mem_append_left _ List.mem_cons_self)
  obtain ⟨vs, hd⟩ := hf
  have hx : ObjOk X.prog X.w H1 s1.heap dd (.xd [((Str.ofString "thing"), v)]) := I1.hok dd _ ea
  obtain ⟨mA, hns, hr⟩ := hx
  obtain ⟨od, ho, hl⟩ := lookIn_ns hns
  have l : List.lookup (Str.ofString "thing") [((Str.ofString "thing"), v)] = some v := by simp [List.lookup]
  obtain ⟨u, hu, ru⟩ := RelO.some_of (v := v) (o := mA (Str.ofString "thing")) (by rw [← l]; exact hr (Str.ofString "thing"))
  have J : PySem.W.InstAt s1.heap a oe C (some od) := ⟨ha, hz.1, by unfold PySem.W.notCls; rw [hd] <;> rfl, by rw [hz.2]; exact ho⟩
  exact HandSPX.exc_get I1.kIn J T.ga T.gg T.exC (PySem.W.findObj_own T.hdC T.noN rfl (by rw [hl, hu])) (handed_of ru) ⟨v, H1, I1.tok _, ru, q⟩
end
end L2
set_option Elab.async false
set_option linter.all false
set_option maxRecDepth 100000
set_option maxHeartbeats 2000000
/-! defs that are called where no guard stands (so that repr of lists and tuples can be told) -/
namespace L2
open PySem PySem.Spec PyProof.Rows
/-- the promise of a def, where nothing is being shown around it -/
structure FnG (P : Program) (w : World) (K : PySem.W.Frag) (mg : Str → Option Value) (base : Heap) (CX : CXT) (k : Nat) (f : Addr) (fd : FuncData) (ps : List Str) (sp : Sp) : Prop where
  len : ∀ vs H Q E, sp vs H Q E → vs.length = ps.length
  run : ∀ (A : Around), A.guards = some [] → ∀ (outer : List Env) (s : Shared) (H : Hp) (args : Args) (us : List Value) (vs : List V) (Q : VK) (E : XK), Room k A → Env0 P w K mg base A outer s H → BindsTo s fd args (ps.zip us) → Vals vs us → sp vs H Q E →
    codeAny (model P w) A (.call (.ref f) args) (CR CX outer P w H s Q E) s
section
variable {P : Program} {w : World} {K : PySem.W.Frag} {mg : Str → Option Value} {base : Heap}
/-- by its body -/
theorem Fun.okG {x qual : Str} {st : Stmt} {f : Addr} {fd : FuncData} {N ps : List Str} {k : Nat} {sp : Sp} (F : Fun K x qual st f fd) (S : FnScope N ps (defScope st)) (len : ∀ vs H Q E, sp vs H Q E → vs.length = ps.length)
    (walk : ∀ (cdv : Value) (A : Around) (outer : List Env) (s : Shared) (H : Hp) (vs : List V) (Q : VK) (E : XK), A.guards = some [] → Room k (A.deeper (envOfC qual (defScope st) s.heap.objs.size f cdv)) → sp vs H Q E →
      ∃ t, PSs (cxOf CX0 P w K mg base N qual (defScope st) f cdv A outer s H E).nox (defBody st) t ∧ t { nx := fun _ H' => Q .non H', rt := Q } (start N vs) H) : FnG P w K mg base CX0 (k + 1) f fd ps sp := by
  obtain ⟨oc, od, kV, doc, pm, an, cdv, ct, osl, rfl, lk, hcd⟩ := F.ex
  constructor
  · exact len
  intro A hgd outer s H args us vs Q E room env bind rel want
  have inB : ∀ b o, base.get? b = some o → s.heap.get? b = some o := fun b o z => (env.bs b o z).1
  have inK := env.mod.kin.keeps inB
  have kinds : ∀ y ∈ ps.zip us, (defScope st).names.lookup y.1 = some .local ∨ ((defScope st).names.lookup y.1 = some .cell ∧ ((cellsFrom (s.heap.objs.size + 1) (defScope st).names []).lookup y.1).isSome = true) := by
    rintro ⟨n, v⟩ hy
    exact (S.par n (List.of_mem_zip hy).1).imp id fun q => ⟨q, PySem.W.cellsFrom_some _ _ _ (.inl q)⟩
  refine codeAny_call_function room.depth (inK _ _ lk) rfl S.co S.gen rfl (PySem.W.codeRec_of inK hcd) (bind _ _ _ _ (wpAny_newFunctionEnv_cells S.kind kinds ?_))
  rintro _ rfl s1 entry
  refine ⟨(env.mod.nolimit.keeps inB).keeps entry.toInCall.keep, codeAny_func ?_⟩
  obtain ⟨t, body, told⟩ := walk cdv A outer s H vs Q E hgd (room.deeper _) want
  have start0 := inv_start (CX := CX0) (E := E) S room.hd env (len _ _ _ _ want) rel entry
  refine wpAny_mono (body.nox.run [] s1 (start N vs) H _ start0 told) ?_ fun _ _ z => z
  intro fl s' z
  cases fl with
  | ret u =>
    obtain ⟨v, σ', H', J, rv, q⟩ := z
    exact ⟨v, H', J.os, J.bare, J.base, J.hok, rv, q⟩
  | next =>
    obtain ⟨σ', H', J, q⟩ := z
    exact ⟨.non, H', J.os, J.bare, J.base, J.hok, rfl, q⟩
  | brk => exact z.elim fun _ z => z.elim fun _ z => z.2.elim
  | cont => exact z.elim fun _ z => z.elim fun _ z => z.2.elim
end
section
variable {X : Cx} {CX : CXT} {k : Nat} {f : Addr} {fd : FuncData} {ps : List Str} {sp : Sp} {E : XK} {x : Str} {p pos : Pos} {e : Expr} {es : List Expr} {t : TA}
/-- f(e, ..) of such a def -/
theorem pe_callG (F : FnG X.prog X.w X.K X.mg X.base CX k f fd ps sp) (hgd : X.A.guards = some []) (hr : Room k X.A) (hg : Gl X x) (hm : X.mg x = some (.ref f)) (hk : PySem.W.keepIn X.K (.ref f) = true) (hb : Binds X.K fd ps []) (hx : Passes CX X E)
    (ha : PA X (e :: es) t) (hdb : (x == ("__debug__" : Str)) = false := by decide) (he : starEach (e :: es) X.env = (false, eval e X.env) :: starEach es X.env := by rfl) (hpl : (backTo pos (starEach es X.env)).any (·.1) = false := by rfl) :
    PE X (.Call (.Name x p) (e :: es) [] pos) (tCall sp [] E t) := by
  constructor
  intro pins s σ H Q I h
  refine wpAny_Call_Name_kw (ld_glob I hg hm (PySem.W.callWith_K (h₀ := X.base) I.ok.mod.kin hk (thn (ha.run pos pins s σ H _ I h) ?_) he hpl) hdb)
  rintro us s1 ⟨vs, H1, I1, rel, want⟩
  refine ⟨I1.kIn, ?_⟩
  rw [List.append_nil] at want
  have ln : us.length = ps.length := rel.length.symm.trans (F.len _ _ _ _ want)
  have bnd := hb s1 us I1.kIn (by rw [List.append_nil]; exact ln)
  rw [List.append_nil] at bnd
  refine wpAny_call (codeAny_mono (F.run X.A hgd X.stack s1 H1 ⟨us, []⟩ us vs Q E hr I1.env0 bnd rel want) ?_)
  intro r s' z
  rcases r with e | (u | _ | _ | _)
  · exact hx pins σ H1 s1 e s' I1 z
  all_goals first | exact I1.after z | exact False.elim z
end
end L2
namespace L2
open PySem PySem.Spec PyProof.Rows
/-- the end of a law whose def is such a one -/
theorem walk_ofG {l : PySem.W.OpenLaw} {n k : Nat} {q : Program} {loose : List Str} {XP : (Str → Option Value) → Heap → Prop} {YP : World → Heap → Prop} {d : DefRec} {K : Params → PySem.W.Frag} {sp : World → Sp} {x : Str}
    (hn : l.most = some n) (hn2 : n ≤ sizeLine) (hdf : d.params.defaults = []) (hr : Room k callerA) (hY : ∀ (w : World) (h : Heap), YP w h → (K w.params).In h)
    (F : ∀ (w : World) (mg : Str → Option Value) (fa : Addr) (h : Heap), (K w.params).In h → h.Ns mainGlobals mg → mg d.name = some (.ref fa) →
      ∃ fd : FuncData, (∀ (s : Shared) (u : Value), BindsTo s fd ⟨[u], []⟩ [(x, u)]) ∧ ∀ base : Heap, (K w.params).In base → base.Ns mainGlobals mg → FnG l.prog w (K w.params) mg base CX0 k fa fd [x] (sp w))
    (hsp : ∀ (w : World) (H : Hp) (a : Addr) (ns : List Int), ns.length ≤ n → SqL (K w.params) H a (ns.map V.int) → sp w [.ref a] H (fun v _ => v = .bl true) E0) :
    PySem.W.WalkO q loose XP YP l.row.toRowW d [] (fun f vs => PySem.call f vs) := by
  refine Att.attach_call hn hdf fun w s₀ s₁ mg mb fa o pm cd doc a vs ns G Y _ _ _ hmg hobj hints hlen hg => ?_
  have inK := hY w _ Y
  obtain ⟨fd, bind, told⟩ := F w mg fa _ inK G.T.g hmg
  have rel := vals_ints hints
  have long : ns.length ≤ sizeLine := Nat.le_trans hlen hn2
  -- any abstract heap that knows at most the script, as it lies
  have key : ∀ H : Hp, (∀ b u, H b = some u → b = a ∧ (K w.params).lookup a = none ∧ u = .frz { cls := .type "list", data := .seq vs.toArray } (.lst (ns.map V.int))) → SqL (K w.params) H a (ns.map V.int) → HOk l.prog w H s₁.heap →
      codeAny (model l.prog w) callerA (.call (.ref fa) ⟨[.ref a], []⟩) (fun r s' => r = .ok (.ret (.bool true)) ∧ OldK s₁.heap s'.heap ∧ s'.os = s₁.os ∧ AllBare s'.gens) s₁ := by
    intro H only sq ok
    have keepN : ∀ {b : Addr} {m : Str → Option Value}, s₁.heap.Ns b m → (hidT s₁.heap H).Ns b m := by
      rintro b m ⟨ob, es, ep, h1, h2, r⟩
      refine ⟨ob, es, ep, hidT_get h1 ?_, h2, r⟩
      cases hH : H b with
      | none => rfl
      | some u =>
        obtain ⟨rfl, _, _⟩ := only b u hH
        rw [hobj] at h1
        cases h1
        cases h2
    have kIn' : (K w.params).In (hidT s₁.heap H) := fun b ob z => hidT_get (inK b ob z) (by
      cases hH : H b with
      | none => rfl
      | some u =>
        obtain ⟨rfl, hno, _⟩ := only b u hH
        rw [hno] at z
        cases z)
    obtain ⟨mc, c1, c2⟩ := G.T.nolimit
    have env : Env0 l.prog w (K w.params) mg (hidT s₁.heap H) callerA [] s₁ H := by
      refine ⟨rfl, ⟨kIn', keepN G.T.g, ⟨mb, keepN G.T.b, G.T.builtins⟩, ⟨mc, keepN c1, c2⟩⟩, fun b ob z => of_hidT z, Nat.le_of_eq (hidT_size _ _), trivial, fun b hb => ?_, ok, .of_eq hg⟩
      have hb' : b ∈ ([] : List Addr) := hb
      cases hb'
    refine codeAny_mono ((told _ kIn' (keepN G.T.g)).run callerA rfl [] s₁ H ⟨[.ref a], []⟩ [.ref a] [.ref a] _ _ hr env (bind s₁ (.ref a)) (.cons rfl .nil) (hsp w H a ns hlen sq)) ?_
    intro r s' z
    cases r with
    | error e => exact False.elim z
    | ok fl =>
      cases fl with
      | next => exact False.elim z
      | brk => exact False.elim z
      | cont => exact False.elim z
      | ret u =>
        obtain ⟨v, H', os, bare, un, ok', rv, ev⟩ := z
        have ev' : v = .bl true := ev
        subst ev'
        obtain rfl : u = Value.bool true := rv
        refine ⟨rfl, OldK.of_keep fun b ob hb => ?_, os, bare⟩
        cases hH : H b with
        | none =>
          refine un.keep b ob hb hH (fun hm => ?_) (by simp)
          have hm' : b ∈ ([] : List Addr) := hm
          cases hm'
        | some u =>
          obtain ⟨rfl, _, rfl⟩ := only b u hH
          obtain ⟨e1, _⟩ := ok b _ hH
          obtain ⟨e2, _⟩ := ok' b _ (un.frzs b _ _ hH)
          rw [hb] at e1
          cases e1
          exact e2
  by_cases hk : (K w.params).lookup a = none
  · refine key (fun b => if b = a then some (.frz { cls := .type "list", data := .seq vs.toArray } (.lst (ns.map V.int))) else none) (fun b u z => ?_) (.inl (.inr ⟨_, if_pos rfl⟩)) (fun b u z => ?_)
    · try dsimp only at z
      by_cases hb : b = a
      · rw [if_pos hb] at z
        exact ⟨hb, hk, (Option.some.inj z).symm⟩
      · rw [if_neg hb] at z
        cases z
    · try dsimp only at z
      by_cases hb : b = a
      · rw [if_pos hb] at z
        cases z
        subst hb
        exact ⟨hobj, by rw [List.length_map]; exact long, vs, _, rel, hobj⟩
      · rw [if_neg hb] at z
        cases z
  · obtain ⟨ob, hob⟩ := Option.ne_none_iff_exists'.mp hk
    have same := inK a ob hob
    rw [hobj] at same
    cases same
    refine key (fun _ => none) (fun b u z => by cases z) (.inr ⟨_, vs.toArray, _, hob, rfl, rfl, rfl, ?_, by simpa using rel⟩) (fun b u z => by cases z)
    rw [List.size_toArray, hints.length]
    exact long
end L2
set_option Elab.async false
set_option linter.all false
set_option maxRecDepth 100000
set_option maxHeartbeats 2000000
/-! repr of data, where no guard stands -/
namespace L2
open PySem PySem.Spec PyProof.Rows
def rReprD (K : PySem.W.Frag) : List V → Hp → VK → Prop := fun xs H Q => ∃ x d, xs = [x] ∧ Dp K H x d ∧ d.showable = true ∧ d.hasDict = false ∧ d.depth ≤ 60 ∧ d.shown.length ≤ sizeLine ∧ Q (.str d.shown) H
theorem call_reprD {X : Cx} (hgd : X.A.guards = some []) (hu : X.A.units + 64 < cLine) : CallR X (.builtin "repr") (rReprD X.K) := by
  intro pins s σ H xs us Q I r h
  obtain ⟨x, d, rfl, hd, hs, hnd, hdp, hz, q⟩ := h
  obtain ⟨u, rfl, rx⟩ := vals1 r
  obtain ⟨as, rd⟩ := Dp.reads I d x u hd rx
  cases hd with
  | non =>
    obtain rfl : u = Value.none := rx
    exact PySem.P.repr_of_none ⟨.str "None", H, I.tok _, ⟨_, rfl⟩, q⟩
  | bl b =>
    obtain rfl : u = Value.bool b := rx
    exact PySem.P.repr_of_bool ⟨.str _, H, I.tok _, ⟨_, rfl⟩, q⟩
  | int i =>
    obtain ⟨t, rfl⟩ := rx
    exact PySem.P.repr_of_int (by simpa [PyData.showable] using hs) ⟨.str (toString i), H, I.tok _, ⟨_, rfl⟩, q⟩
  | str y =>
    obtain ⟨t, rfl⟩ := rx
    exact PySem.P.repr_of_str ⟨.str (reprText y), H, I.tok _, ⟨_, rfl⟩, q⟩ hz
  | @lst a ys ds h1 h2 =>
    obtain rfl : u = Value.ref a := rx
    exact repr_of_reads' rd hs (fun z => by rw [hnd] at z; cases z) hgd (by omega) (fun _ _ z => z) (fun h' v tk k => ⟨.str _, H, I.kept k, ⟨_, rfl⟩, q⟩) hz
  | @tup a ys ds h1 h2 =>
    obtain rfl : u = Value.ref a := rx
    exact repr_of_reads' rd hs (fun z => by rw [hnd] at z; cases z) hgd (by omega) (fun _ _ z => z) (fun h' v tk k => ⟨.str _, H, I.kept k, ⟨_, rfl⟩, q⟩) hz
end L2
namespace L2
open PySem PySem.Spec PyProof.Rows
/-- what an own error class says, so that isinstance asks its instances rightly -/
structure XIsC (K : PySem.W.Frag) (D : Addr) : Prop where
  hg : PySem.W.findIn K (.ref D) "__getattribute__" = some (some (.builtin "BaseException.__getattribute__"))
  hk : PySem.W.findIn K (.ref D) "__getattr__" = some none
  hs : PySem.W.subIn K (.ref D) (.type "BaseException") = some true
  hd : PySem.W.hasDictIn K D = true
  ha : PySem.W.findIn K (.ref D) "__class__" = some (some (.builtin "object.__class__"))
  hn : PySem.W.specialIn K (.builtin "object.__class__") "__get__" = some (some (.builtin "getset_descriptor.__get__"))
  ht : PySem.W.takesIn K (.builtin "object.__class__") = some true
  hm : PySem.W.mroIn K D (.type "object") = some true
end L2
namespace L2
open PySem PySem.Spec PyProof.Rows
/-- isinstance(e, c), e the error that the suite holds (at a; its class cls, its dict d) -/
def rIsX (K : PySem.W.Frag) (a : Addr) (cls : Value) (d : Option Addr) : List V → Hp → VK → Prop := fun xs H Q => ∃ (D dd : Addr) (fs : List (Str × V)) (c : V) (cv : Value) (b : Bool), xs = [.ref a, c] ∧ cls = .ref D ∧ d = some dd ∧ H dd = some (.xd fs) ∧ ClsV c cv ∧ XIsC K D ∧
  PySem.W.kitOne K (.ref D) cv = some b ∧ Q (.bl b) H
theorem call_isX {X : Cx} {a : Addr} {oe : Obj} {cls : Value} {d : Option Addr} {pn : List (Addr × Obj)} (hz : Zc cls d oe) (hf : ∃ vs, oe.data = .fields vs) : CallR (X.suite a ((a, oe) :: pn)) (.builtin "isinstance") (rIsX X.K a cls d) := by
  intro pins s σ H xs us Q I r h
  obtain ⟨D, dd, fs, c, cv, b, rfl, rfl, rfl, hdd, hcv, T, e, q⟩ := h
  obtain ⟨u1, u2, rfl, r1, r2⟩ := vals2 r
  obtain rfl : u1 = Value.ref a := r1
  obtain rfl := hcv.eq r2
  obtain ⟨ha, _⟩ := I.pin (a, oe) (List.mem_append_left _ List.mem_cons_self)
  obtain ⟨vs, hd⟩ := hf
  obtain ⟨mA, hns, _⟩ := (show ObjOk X.prog X.w H s.heap dd (.xd fs) from I.hok dd _ hdd)
  obtain ⟨od, ho, _⟩ := lookIn_ns hns
  have J : PySem.W.InstAt s.heap a oe D (some od) := ⟨ha, hz.1, by unfold PySem.W.notCls; rw [hd] <;> rfl, by rw [hz.2]; exact ho⟩
  have hcl : (PySem.W.clsIn X.K D).isSome = true := by
    obtain ⟨cd, hc, _⟩ := PySem.W.any_some T.hd
    rw [hc]
    rfl
  exact PySem.W.kia_one (PySem.W.kitx_exc hcl T.hg T.hk T.hs T.ha T.hn T.ht T.hm) I.kIn J e (fun z => nomatch z) fun tk => ⟨.bl b, H, I.kept (t' := tk) fun _ _ z => z, rfl, q⟩
end L2

set_option Elab.async false
set_option linter.all false
set_option maxRecDepth 100000
set_option maxHeartbeats 2000000
namespace Fo
open PySem L2
/-! ### the text by places -/
def top (i : Nat) : Stmt := PySem.Challenge.pw_filledonce_k01_points.main.body.getD i (.Pass ⟨0, 0, 0, 0⟩)
abbrev sWhole : Stmt := top 5
abbrev sInit : Stmt := inClass (top 7) 0
abbrev sAdd : Stmt := inClass (top 7) 3
abbrev sSub : Stmt := inClass (top 7) 5
abbrev sCross : Stmt := inClass (top 7) 9
abbrev sMul : Stmt := inClass (top 7) 7
abbrev sEq : Stmt := inClass (top 7) 2
abbrev sPairM : Stmt := inClass (top 7) 10
abbrev sIsPoint : Stmt := top 8
abbrev sAsPoint : Stmt := top 9
abbrev sOperand : Stmt := top 10
abbrev sSide : Stmt := top 11
abbrev sQuarter : Stmt := top 12
/-! ### data -/
theorem xy_ : ¬ (("x" : Str) = "y") := by decide +kernel
theorem yx_ : ¬ (("y" : Str) = "x") := by decide +kernel
def ptF (x y : Int) : List (Str × V) := putF "y" (.int y) (putF "x" (.int x) [])
theorem ptF_x (x y : Int) : (ptF x y).lookup ("x" : Str) = some (.int x) := by
  unfold ptF
  rw [lookup_putF, if_neg xy_, lookup_putF, if_pos rfl]
theorem ptF_y (x y : Int) : (ptF x y).lookup ("y" : Str) = some (.int y) := by
  unfold ptF
  rw [lookup_putF, if_pos rfl]
theorem ptF_no (x y : Int) {m : Str} (h1 : ¬ m = "y") (h2 : ¬ m = "x") : (ptF x y).lookup m = none := by
  unfold ptF
  rw [lookup_putF, if_neg h1, lookup_putF, if_neg h2]
  all_goals rfl
/-- an instance of Point with these numbers -/
def IsP (C : Addr) (v : V) (x y : Int) (H : Hp) : Prop := ∃ a dx, v = .ref a ∧ H a = some (.ins C dx (ptF x y))
/-- it, or a pair that stands for it -/
def IsPt (C : Addr) (v : V) (x y : Int) (H : Hp) : Prop := ∃ a, v = .ref a ∧ ((∃ dx, H a = some (.ins C dx (ptF x y))) ∨ H a = some (.tup [.int x, .int y]))
theorem IsP.ex {C : Addr} {v : V} {x y : Int} {H H' : Hp} (e : Same H H') (h : IsP C v x y H) : IsP C v x y H' := by
  obtain ⟨a, dx, rfl, h⟩ := h
  exact ⟨a, dx, rfl, e _ _ h⟩
theorem IsPt.ex {C : Addr} {v : V} {x y : Int} {H H' : Hp} (e : Same H H') (h : IsPt C v x y H) : IsPt C v x y H' := by
  obtain ⟨a, rfl, h⟩ := h
  rcases h with ⟨dx, h⟩ | h
  · exact ⟨a, rfl, .inl ⟨dx, e _ _ h⟩⟩
  · exact ⟨a, rfl, .inr (e _ _ h)⟩
theorem IsP.pt {C : Addr} {v : V} {x y : Int} {H : Hp} (h : IsP C v x y H) : IsPt C v x y H := by
  obtain ⟨a, dx, rfl, h⟩ := h
  exact ⟨a, rfl, .inl ⟨dx, h⟩⟩
theorem same_new {H : Hp} {p : Addr} {o : HO} (h : H p = none) : Same H (upd H p o) := fun a u e => by
  rw [upd_ne (ne_of_none e h)]
  exact e
def Sm (n : Nat) (x : Int) : Prop := x.natAbs < 2 ^ n
theorem Sm.mul {n : Nat} {x y : Int} (hx : Sm n x) (hy : Sm n y) (h0 : 0 < n) (h1 : n ≤ 1000) : CMulW x y := wide_mul hx hy h0 h0 (by omega)
theorem Sm.sub {n : Nat} {x y : Int} (hx : Sm n x) (hy : Sm n y) : Sm (n + 1) (x - y) := by
  unfold Sm at *
  rw [Nat.pow_succ]
  omega
theorem Sm.up {n m : Nat} {x : Int} (hx : Sm n x) (h : n ≤ m) : Sm m x := Nat.lt_of_lt_of_le hx (Nat.pow_le_pow_right (by decide) h)
/-! ### promises -/
def spWhole : Sp := fun vs H Q _ => ∃ i : Int, vs = [.int i] ∧ Q (.bl true) H
def spInit (C : Addr) : Sp := fun vs H Q _ => ∃ (p dx : Addr) (x y : Int), vs = [.ref p, .int x, .int y] ∧ H p = some (.ins C dx []) ∧ Q .non (upd (upd H p (.ins C dx (putF "x" (.int x) []))) p (.ins C dx (ptF x y)))
def spIsPoint (C : Addr) : Sp := fun vs H Q _ => ∃ (v : V) (x y : Int), vs = [v] ∧ IsPt C v x y H ∧ Q (.bl true) H
def spAsPoint (C : Addr) : Sp := fun vs H Q _ => ∃ (v : V) (x y : Int), vs = [v] ∧ IsPt C v x y H ∧ ∀ w H', Same H H' → IsP C w x y H' → (IsP C v x y H → w = v) → Q w H'
def spBin (C : Addr) (g : Int → Int → Int) : Sp := fun vs H Q _ => ∃ (v u : V) (x y z t : Int), vs = [v, u] ∧ IsP C v x y H ∧ IsPt C u z t H ∧ ∀ w H', Same H H' → IsP C w (g x z) (g y t) H' → Q w H'
def spCross (C : Addr) : Sp := fun vs H Q _ => ∃ (n : Nat) (v u : V) (x y z t : Int), vs = [v, u] ∧ IsP C v x y H ∧ IsPt C u z t H ∧ 0 < n ∧ n ≤ 1000 ∧ Sm n x ∧ Sm n y ∧ Sm n z ∧ Sm n t ∧ ∀ H', Same H H' → Q (.int (x * t - y * z)) H'
def sideI (ax ay bx by' px py : Int) : Int := (bx - ax) * (py - ay) - (by' - ay) * (px - ax)
def spSide (C : Addr) : Sp := fun vs H Q _ => ∃ (n : Nat) (a b p : V) (ax ay bx by' px py : Int), vs = [a, b, p] ∧ IsPt C a ax ay H ∧ IsPt C b bx by' H ∧ IsPt C p px py H ∧ n < 1000 ∧
  Sm n ax ∧ Sm n ay ∧ Sm n bx ∧ Sm n by' ∧ Sm n px ∧ Sm n py ∧ ∀ H', Same H H' → Q (.int (sideI ax ay bx by' px py)) H'
def spQuarter (C : Addr) : Sp := fun vs H Q _ => ∃ (v : V) (x y : Int), vs = [v] ∧ IsPt C v x y H ∧ ∀ w H', Same H H' → IsP C w (-y) x H' → Q w H'
/-- what the top has written of Point -/
structure Txt (K : PySem.W.Frag) (mg : Str → Option Value) (C : Addr) : Prop where
  cl : Cls K C
  nX : NoAttr K C "x"
  nY : NoAttr K C "y"
  mgC : mg "Point" = some (.ref C)
  isi : mg "isinstance" = none
  len : mg "len" = none
  int : mg "int" = none
  bool : mg "bool" = none
  tuple : mg "tuple" = none
  ha : PySem.W.findIn K (.ref C) "__class__" = some (some (.builtin "object.__class__"))
  hn : PySem.W.specialIn K (.builtin "object.__class__") "__get__" = some (some (.builtin "getset_descriptor.__get__"))
  htk : PySem.W.takesIn K (.builtin "object.__class__") = some true
  hm : PySem.W.mroIn K C (.type "object") = some true
  kTC : PySem.W.kitOne K (.type "tuple") (.ref C) = some false
  kCC : PySem.W.kitOne K (.ref C) (.ref C) = some true
section
variable {P : Program} {w : World} {K : PySem.W.Frag} {mg : Str → Option Value} {base : Heap}
theorem scWhole : FnScope ["value"] ["value"] (defScope sWhole) := ⟨rfl, rfl, rfl, by decide +kernel, rfl, by decide +kernel, by decide +kernel⟩
theorem ok_whole {f C : Addr} {fd : FuncData} (F : Fun K "is_whole" "is_whole" sWhole f fd) (T : Txt K mg C) : FnOk P w K mg base CX0 1 f fd ["value"] spWhole := by
  refine F.ok scWhole (fun vs H Q E h => ?_) (fun cdv A outer s H vs Q E hr h => ?_)
  · obtain ⟨i, rfl, _⟩ := h
    rfl
  · obtain ⟨i, rfl, k⟩ := h
    refine ⟨_, pss_one (ps_ret (pe_and (pe_callB call_isi (by rfl) T.isi (by decide +kernel) (pa_cons (pv 0) (pa_cons (pe_bltn (v := .ty "int") (by rfl) T.int (by decide +kernel) rfl) pa_nil)))
      (pe_one (pe_not (pe_callB call_isi (by rfl) T.isi (by decide +kernel) (pa_cons (pv 0) (pa_cons (pe_bltn (v := .ty "bool") (by rfl) T.bool (by decide +kernel) rfl) pa_nil))))))), ?_⟩
    refine ⟨_, rfl, _, _, _, _, true, rfl, .ty _, .base (.int i), kit_ty (by decide +kernel), true, rfl, ?_⟩
    refine iteT ?_
    exact ⟨_, rfl, _, _, _, _, false, rfl, .ty _, .base (.int i), kit_ty (by decide +kernel), false, rfl, k⟩

theorem scInit : FnScope ["self", "x", "y"] ["self", "x", "y"] (defScope sInit) := ⟨rfl, rfl, rfl, by decide +kernel, rfl, by decide +kernel, by decide +kernel⟩
theorem ok_init {f C fW : Addr} {fd fdW : FuncData} (F : Fun K "__init__" "Point.__init__" sInit f fd) (T : Txt K mg C) (FW : Fun K "is_whole" "is_whole" sWhole fW fdW) (bW : Binds K fdW ["value"] []) (mW : mg "is_whole" = some (.ref fW)) :
    FnOk P w K mg base CX0 2 f fd ["self", "x", "y"] (spInit C) := by
  have GW : FnOk P w K mg base CX0 1 fW fdW ["value"] spWhole := ok_whole FW T
  refine F.ok scInit (fun vs H Q E h => ?_) (fun cdv A outer s H vs Q E hr h => ?_)
  · obtain ⟨p, dx, x, y, rfl, _⟩ := h
    rfl
  · obtain ⟨p, dx, x, y, rfl, hp, k⟩ := h
    refine ⟨_, pss_cons (ps_if (PW.pt (pw_or (pt_not (pt_val (pe_call GW hr rfl mW FW.kp bW .nil pass0 (pa_cons (pv 1) pa_nil)))) (pw_or1 (pt_not (pt_val (pe_call GW hr rfl mW FW.kp bW .nil pass0 (pa_cons (pv 2) pa_nil))))))) (pss_one ps_never) pss_nil)
      (pss_cons (ps_fld (pv 0) (pv 1) rfl) (pss_one (ps_fld (pv 0) (pv 2) rfl))), ?_⟩
    refine ⟨_, rfl, x, rfl, true, rfl, ?_⟩
    refine iteF ?_
    refine ⟨_, rfl, y, rfl, true, rfl, ?_⟩
    refine iteF ?_
    refine ⟨_, rfl, _, rfl, p, C, dx, [], rfl, hp, T.cl, T.nX, (by show 0 < 1000; decide), ?_⟩
    refine ⟨_, rfl, _, rfl, p, C, dx, _, rfl, upd_same, T.cl, T.nY, (by show 1 < 1000; decide), ?_⟩
    exact k
theorem ty_ins {C a dx : Addr} {fs : List (Str × V)} {H : Hp} (T : Txt K mg C) (h : H a = some (.ins C dx fs)) : TyX K H (.ref a) (.ref C) := .base (.ins h T.cl T.ha T.hn T.htk T.hm)
theorem scIsPoint : FnScope ["thing"] ["thing"] (defScope sIsPoint) := ⟨rfl, rfl, rfl, by decide +kernel, rfl, by decide +kernel, by decide +kernel⟩
theorem ok_is_point {f C fW : Addr} {fd fdW : FuncData} (F : Fun K "is_point" "is_point" sIsPoint f fd) (T : Txt K mg C) (FW : Fun K "is_whole" "is_whole" sWhole fW fdW) (bW : Binds K fdW ["value"] []) (mW : mg "is_whole" = some (.ref fW)) :
    FnOk P w K mg base CX0 2 f fd ["thing"] (spIsPoint C) := by
  have GW : FnOk P w K mg base CX0 1 fW fdW ["value"] spWhole := ok_whole FW T
  refine F.ok scIsPoint (fun vs H Q E h => ?_) (fun cdv A outer s H vs Q E hr h => ?_)
  · obtain ⟨v, x, y, rfl, _⟩ := h
    rfl
  · obtain ⟨v, x, y, rfl, ⟨a, rfl, hv⟩, k⟩ := h
    refine ⟨_, pss_cons (ps_if (pt_val (pe_callB call_isi (by rfl) T.isi (by decide +kernel) (pa_cons (pv 0) (pa_cons (pe_glob (v := .ref C) rfl T.mgC rfl) pa_nil)))) (pss_one (ps_ret pe_bl)) pss_nil)
      (pss_one (ps_ret (pe_and (pe_callB call_isi (by rfl) T.isi (by decide +kernel) (pa_cons (pv 0) (pa_cons (pe_bltn (v := .ty "tuple") (by rfl) T.tuple (by decide +kernel) rfl) pa_nil)))
        (pe_and (pe_cmpR op_eq (pe_callB call_len_seq (by rfl) T.len PySem.boot_len (pa_cons (pv 0) pa_nil)) pe_int (nomark _))
        (pe_and (pe_call GW hr rfl mW FW.kp bW .nil pass0 (pa_cons (pe_ix ix_tup (pv 0) pe_int (fun _ _ => rfl)) pa_nil))
        (pe_one (pe_call GW hr rfl mW FW.kp bW .nil pass0 (pa_cons (pe_ix ix_tup (pv 0) pe_int (fun _ _ => rfl)) pa_nil)))))))), ?_⟩
    rcases hv with ⟨dx, hv⟩ | hv
    · refine ⟨_, rfl, _, _, _, _, true, rfl, .own C, ty_ins T hv, T.kCC, true, rfl, ?_⟩
      refine iteT ?_
      exact k
    · refine ⟨_, rfl, _, _, _, _, false, rfl, .own C, .base (.tup hv), T.kTC, false, rfl, ?_⟩
      refine iteF ?_
      refine ⟨_, rfl, _, _, _, _, true, rfl, .ty _, .base (.tup hv), kit_ty (by decide +kernel), true, rfl, ?_⟩
      refine iteT ?_
      refine ⟨_, rfl, a, _, rfl, .inr (SqT.of hv), rfl, true, rfl, ?_⟩
      refine iteT ?_
      refine ⟨_, rfl, a, _, _, _, rfl, rfl, SqT.of hv, atI_nat (j := 0) rfl, x, rfl, true, rfl, ?_⟩
      refine iteT ?_
      exact ⟨_, rfl, a, _, _, _, rfl, rfl, SqT.of hv, atI_nat (j := 1) rfl, y, rfl, k⟩

/-- a new Point -/
theorem made_same {C x dx : Addr} {H : Hp} {X Y : Int} (nx : H x = none) (nd : H dx = none) : Same H (upd (upd (upd (upd H dx (.own x)) x (.ins C dx [])) x (.ins C dx (putF "x" (.int X) []))) x (.ins C dx (ptF X Y))) := fun b o e => by
  have n1 : b ≠ x := ne_of_none e nx
  have n2 : b ≠ dx := ne_of_none e nd
  rw [upd_ne n1, upd_ne n1, upd_ne n1, upd_ne n2]
  exact e
theorem made_is {C x dx : Addr} {H : Hp} {X Y : Int} : IsP C (.ref x) X Y (upd (upd (upd (upd H dx (.own x)) x (.ins C dx [])) x (.ins C dx (putF "x" (.int X) []))) x (.ins C dx (ptF X Y))) := ⟨x, dx, rfl, upd_same⟩
/-- Point(a, b) of two numbers: spInit's reading at a new instance -/
theorem make_pt {C : Addr} {H : Hp} {X Y : Int} {Q : VK} {E : XK} (k : ∀ v H', Same H H' → IsP C v X Y H' → Q v H') :
    ∀ x dx, H x = none → H dx = none → dx ≠ x → spInit C (.ref x :: ([.int X, .int Y] ++ [])) (upd (upd H dx (.own x)) x (.ins C dx [])) (fun v H2 => v = .non ∧ Q (.ref x) H2) E := fun x dx nx nd _ =>
  ⟨x, dx, X, Y, rfl, upd_same, rfl, k _ _ (made_same nx nd) made_is⟩
/-- the program's defs that others call, as they stand -/
structure Defs (K : PySem.W.Frag) (mg : Str → Option Value) (C fW fI fP fA fO : Addr) (fdW fdI fdP fdA fdO : FuncData) : Prop where
  T : Txt K mg C
  FW : Fun K "is_whole" "is_whole" sWhole fW fdW
  bW : Binds K fdW ["value"] []
  mW : mg "is_whole" = some (.ref fW)
  M : Mk K C fI
  FI : Fun K "__init__" "Point.__init__" sInit fI fdI
  bI : Binds K fdI ["self", "x", "y"] []
  FP : Fun K "is_point" "is_point" sIsPoint fP fdP
  bP : Binds K fdP ["thing"] []
  mP : mg "is_point" = some (.ref fP)
  FA : Fun K "as_point" "as_point" sAsPoint fA fdA
  bA : Binds K fdA ["thing"] []
  mA : mg "as_point" = some (.ref fA)
  FO : Fun K "operand" "operand" sOperand fO fdO
  bO : Binds K fdO ["thing"] []
  mO : mg "operand" = some (.ref fO)
variable {C fW fI fP fA fO : Addr} {fdW fdI fdP fdA fdO : FuncData}
theorem Defs.GW (D : Defs K mg C fW fI fP fA fO fdW fdI fdP fdA fdO) : FnOk P w K mg base CX0 1 fW fdW ["value"] spWhole := ok_whole D.FW D.T
theorem Defs.GI (D : Defs K mg C fW fI fP fA fO fdW fdI fdP fdA fdO) : FnOk P w K mg base CX0 2 fI fdI ["self", "x", "y"] (spInit C) := ok_init D.FI D.T D.FW D.bW D.mW
theorem Defs.GP (D : Defs K mg C fW fI fP fA fO fdW fdI fdP fdA fdO) : FnOk P w K mg base CX0 2 fP fdP ["thing"] (spIsPoint C) := ok_is_point D.FP D.T D.FW D.bW D.mW
theorem scAsPoint : FnScope ["thing"] ["thing"] (defScope sAsPoint) := ⟨rfl, rfl, rfl, by decide +kernel, rfl, by decide +kernel, by decide +kernel⟩
theorem Defs.GA (D : Defs K mg C fW fI fP fA fO fdW fdI fdP fdA fdO) : FnOk P w K mg base CX0 4 fA fdA ["thing"] (spAsPoint C) := by
  have GP : FnOk P w K mg base CX0 2 fP fdP ["thing"] (spIsPoint C) := D.GP
  have GI : FnOk P w K mg base CX0 2 fI fdI ["self", "x", "y"] (spInit C) := D.GI
  have T := D.T
  refine D.FA.ok scAsPoint (fun vs H Q E h => ?_) (fun cdv A outer s H vs Q E hr h => ?_)
  · obtain ⟨v, x, y, rfl, _⟩ := h
    rfl
  · obtain ⟨v, x, y, rfl, hp, k⟩ := h
    refine ⟨_, pss_cons (ps_if (pt_not (pt_val (pe_call GP (hr.mono (by decide)) rfl D.mP D.FP.kp D.bP .nil pass0 (pa_cons (pv 0) pa_nil)))) (pss_one ps_never) pss_nil)
      (pss_cons (ps_if (pt_val (pe_callB call_isi (by rfl) T.isi (by decide +kernel) (pa_cons (pv 0) (pa_cons (pe_glob (v := .ref C) rfl T.mgC rfl) pa_nil)))) (pss_one (ps_ret (pv 0))) pss_nil)
      (pss_one (ps_ret (pe_make D.M GI hr rfl T.mgC D.bI .nil pass0 (pa_cons (pe_ix ix_tup (pv 0) pe_int (fun _ _ => rfl)) (pa_cons (pe_ix ix_tup (pv 0) pe_int (fun _ _ => rfl)) pa_nil)))))), ?_⟩
    refine ⟨_, rfl, v, x, y, rfl, hp, true, rfl, ?_⟩
    refine iteF ?_
    obtain ⟨a, rfl, hv⟩ := hp
    rcases hv with ⟨dx, hv⟩ | hv
    · refine ⟨_, rfl, _, _, _, _, true, rfl, .own C, ty_ins T hv, T.kCC, true, rfl, ?_⟩
      refine iteT ?_
      exact ⟨_, rfl, k _ _ (Same.refl _) ⟨a, dx, rfl, hv⟩ fun _ => rfl⟩
    · refine ⟨_, rfl, _, _, _, _, false, rfl, .own C, .base (.tup hv), T.kTC, false, rfl, ?_⟩
      refine iteF ?_
      refine ⟨_, rfl, a, _, _, _, rfl, rfl, SqT.of hv, atI_nat (j := 0) rfl, _, rfl, a, _, _, _, rfl, rfl, SqT.of hv, atI_nat (j := 1) rfl, ?_⟩
      refine make_pt fun v H2 e2 h2 => k v H2 e2 h2 fun hp => ?_
      obtain ⟨b, dy, q1, q2⟩ := hp
      cases q1
      rw [hv] at q2
      cases q2
theorem scOperand : FnScope ["thing"] ["thing"] (defScope sOperand) := ⟨rfl, rfl, rfl, by decide +kernel, rfl, by decide +kernel, by decide +kernel⟩
theorem Defs.GO (D : Defs K mg C fW fI fP fA fO fdW fdI fdP fdA fdO) : FnOk P w K mg base CX0 5 fO fdO ["thing"] (spAsPoint C) := by
  have GP : FnOk P w K mg base CX0 2 fP fdP ["thing"] (spIsPoint C) := D.GP
  have GA : FnOk P w K mg base CX0 4 fA fdA ["thing"] (spAsPoint C) := D.GA
  refine D.FO.ok scOperand (fun vs H Q E h => ?_) (fun cdv A outer s H vs Q E hr h => ?_)
  · obtain ⟨v, x, y, rfl, _⟩ := h
    rfl
  · obtain ⟨v, x, y, rfl, hp, k⟩ := h
    refine ⟨_, pss_cons (ps_if (pt_not (pt_val (pe_call GP (hr.mono (by decide)) rfl D.mP D.FP.kp D.bP .nil pass0 (pa_cons (pv 0) pa_nil)))) (pss_one ps_never) pss_nil)
      (pss_one (ps_ret (pe_call GA hr rfl D.mA D.FA.kp D.bA .nil pass0 (pa_cons (pv 0) pa_nil)))), ?_⟩
    refine ⟨_, rfl, v, x, y, rfl, hp, true, rfl, ?_⟩
    refine iteF ?_
    exact ⟨_, rfl, v, x, y, rfl, hp, k⟩
theorem scAdd : FnScope ["self", "other", "by"] ["self", "other"] (defScope sAdd) := ⟨rfl, rfl, rfl, by decide +kernel, rfl, by decide +kernel, by decide +kernel⟩
theorem ok_add {f : Addr} {fd : FuncData} (F : Fun K "__add__" "Point.__add__" sAdd f fd) (D : Defs K mg C fW fI fP fA fO fdW fdI fdP fdA fdO) : FnOk P w K mg base CX0 6 f fd ["self", "other"] (spBin C (· + ·)) := by
  have GO : FnOk P w K mg base CX0 5 fO fdO ["thing"] (spAsPoint C) := D.GO
  have GI : FnOk P w K mg base CX0 2 fI fdI ["self", "x", "y"] (spInit C) := D.GI
  have T := D.T
  refine F.ok scAdd (fun vs H Q E h => ?_) (fun cdv A outer s H vs Q E hr h => ?_)
  · obtain ⟨v, u, x, y, z, t, rfl, _⟩ := h
    rfl
  · obtain ⟨v, u, x, y, z, t, rfl, hv, hu, k⟩ := h
    refine ⟨_, pss_cons (ps_set (i := 2) scAdd.nd rfl (Or.inl rfl) (pe_call GO hr rfl D.mO D.FO.kp D.bO .nil pass0 (pa_cons (pv 1) pa_nil)))
      (pss_one (ps_ret (pe_make D.M GI (hr.mono (by decide)) rfl T.mgC D.bI .nil pass0 (pa_cons (pe_op op_add (pe_fld (pv 0) rfl) (pe_fld (pv 2) rfl)) (pa_cons (pe_op op_add (pe_fld (pv 0) rfl) (pe_fld (pv 2) rfl)) pa_nil))))), ?_⟩
    refine ⟨_, rfl, u, z, t, rfl, hu, fun w H' e hw _ => ?_⟩
    obtain ⟨a, dx, rfl, ha⟩ := hv.ex e
    obtain ⟨b, dy, rfl, hb⟩ := hw
    refine ⟨_, rfl, a, C, dx, _, _, rfl, ha, T.cl, T.nX, ptF_x _ _, _, rfl, b, C, dy, _, _, rfl, hb, T.cl, T.nX, ptF_x _ _, _, _, rfl, rfl, ?_⟩
    refine ⟨_, rfl, a, C, dx, _, _, rfl, ha, T.cl, T.nY, ptF_y _ _, _, rfl, b, C, dy, _, _, rfl, hb, T.cl, T.nY, ptF_y _ _, _, _, rfl, rfl, ?_⟩
    exact make_pt fun v H2 e2 h2 => k v H2 (e.trans e2) h2
theorem scSub : FnScope ["self", "other", "by"] ["self", "other"] (defScope sSub) := ⟨rfl, rfl, rfl, by decide +kernel, rfl, by decide +kernel, by decide +kernel⟩
theorem ok_sub {f : Addr} {fd : FuncData} (F : Fun K "__sub__" "Point.__sub__" sSub f fd) (D : Defs K mg C fW fI fP fA fO fdW fdI fdP fdA fdO) : FnOk P w K mg base CX0 6 f fd ["self", "other"] (spBin C (· - ·)) := by
  have GO : FnOk P w K mg base CX0 5 fO fdO ["thing"] (spAsPoint C) := D.GO
  have GI : FnOk P w K mg base CX0 2 fI fdI ["self", "x", "y"] (spInit C) := D.GI
  have T := D.T
  refine F.ok scSub (fun vs H Q E h => ?_) (fun cdv A outer s H vs Q E hr h => ?_)
  · obtain ⟨v, u, x, y, z, t, rfl, _⟩ := h
    rfl
  · obtain ⟨v, u, x, y, z, t, rfl, hv, hu, k⟩ := h
    refine ⟨_, pss_cons (ps_set (i := 2) scSub.nd rfl (Or.inl rfl) (pe_call GO hr rfl D.mO D.FO.kp D.bO .nil pass0 (pa_cons (pv 1) pa_nil)))
      (pss_one (ps_ret (pe_make D.M GI (hr.mono (by decide)) rfl T.mgC D.bI .nil pass0 (pa_cons (pe_op op_sub (pe_fld (pv 0) rfl) (pe_fld (pv 2) rfl)) (pa_cons (pe_op op_sub (pe_fld (pv 0) rfl) (pe_fld (pv 2) rfl)) pa_nil))))), ?_⟩
    refine ⟨_, rfl, u, z, t, rfl, hu, fun w H' e hw _ => ?_⟩
    obtain ⟨a, dx, rfl, ha⟩ := hv.ex e
    obtain ⟨b, dy, rfl, hb⟩ := hw
    refine ⟨_, rfl, a, C, dx, _, _, rfl, ha, T.cl, T.nX, ptF_x _ _, _, rfl, b, C, dy, _, _, rfl, hb, T.cl, T.nX, ptF_x _ _, _, _, rfl, rfl, ?_⟩
    refine ⟨_, rfl, a, C, dx, _, _, rfl, ha, T.cl, T.nY, ptF_y _ _, _, rfl, b, C, dy, _, _, rfl, hb, T.cl, T.nY, ptF_y _ _, _, _, rfl, rfl, ?_⟩
    exact make_pt fun v H2 e2 h2 => k v H2 (e.trans e2) h2
theorem scCross : FnScope ["self", "other", "second"] ["self", "other"] (defScope sCross) := ⟨rfl, rfl, rfl, by decide +kernel, rfl, by decide +kernel, by decide +kernel⟩
theorem ok_cross {f : Addr} {fd : FuncData} (F : Fun K "cross" "Point.cross" sCross f fd) (D : Defs K mg C fW fI fP fA fO fdW fdI fdP fdA fdO) : FnOk P w K mg base CX0 5 f fd ["self", "other"] (spCross C) := by
  have GA : FnOk P w K mg base CX0 4 fA fdA ["thing"] (spAsPoint C) := D.GA
  have T := D.T
  refine F.ok scCross (fun vs H Q E h => ?_) (fun cdv A outer s H vs Q E hr h => ?_)
  · obtain ⟨n, v, u, x, y, z, t, rfl, _⟩ := h
    rfl
  · obtain ⟨n, v, u, x, y, z, t, rfl, hv, hu, n0, n1, sx, sy, sz, st, k⟩ := h
    refine ⟨_, pss_cons (ps_set (i := 2) scCross.nd rfl (Or.inl rfl) (pe_call GA hr rfl D.mA D.FA.kp D.bA .nil pass0 (pa_cons (pv 1) pa_nil)))
      (pss_one (ps_ret (pe_op op_sub (pe_op op_mulW (pe_fld (pv 0) rfl) (pe_fld (pv 2) rfl)) (pe_op op_mulW (pe_fld (pv 0) rfl) (pe_fld (pv 2) rfl))))), ?_⟩
    refine ⟨_, rfl, u, z, t, rfl, hu, fun w H' e hw _ => ?_⟩
    obtain ⟨a, dx, rfl, ha⟩ := hv.ex e
    obtain ⟨b, dy, rfl, hb⟩ := hw
    refine ⟨_, rfl, a, C, dx, _, _, rfl, ha, T.cl, T.nX, ptF_x _ _, _, rfl, b, C, dy, _, _, rfl, hb, T.cl, T.nY, ptF_y _ _, _, _, rfl, rfl, sx.mul st n0 n1, ?_⟩
    refine ⟨_, rfl, a, C, dx, _, _, rfl, ha, T.cl, T.nY, ptF_y _ _, _, rfl, b, C, dy, _, _, rfl, hb, T.cl, T.nX, ptF_x _ _, _, _, rfl, rfl, sy.mul sz n0 n1, ?_⟩
    exact ⟨_, _, rfl, rfl, k H' e⟩
theorem IsPt.opnd {v : V} {x y : Int} {H : Hp} (h : IsPt C v x y H) : (∃ b dy gs, v = .ref b ∧ H b = some (.ins C dy gs)) ∨ ∃ b xs, v = .ref b ∧ H b = some (.tup xs) := by
  obtain ⟨a, rfl, h⟩ := h
  rcases h with ⟨dx, h⟩ | h
  · exact .inl ⟨a, dx, _, rfl, h⟩
  · exact .inr ⟨a, _, rfl, h⟩
theorem cross_no (x y : Int) : (ptF x y).lookup ("cross" : Str) = none := ptF_no _ _ (by decide +kernel) (by decide +kernel)
theorem scSide : FnScope ["a", "b", "point", "start", "end", "place"] ["a", "b", "point"] (defScope sSide) := ⟨rfl, rfl, rfl, by decide +kernel, rfl, by decide +kernel, by decide +kernel⟩
theorem ok_side {f : Addr} {fd : FuncData} (F : Fun K "side" "side" sSide f fd) (D : Defs K mg C fW fI fP fA fO fdW fdI fdP fdA fdO) : FnOk P w K mg base CX0 7 f fd ["a", "b", "point"] (spSide C) := by
  have GA : FnOk P w K mg base CX0 4 fA fdA ["thing"] (spAsPoint C) := D.GA
  have T := D.T
  refine F.ok scSide (fun vs H Q E h => ?_) (fun cdv A outer s H vs Q E hr h => ?_)
  · obtain ⟨n, a, b, p, ax, ay, bx, by', px, py, rfl, _⟩ := h
    rfl
  · obtain ⟨n, a, b, p, ax, ay, bx, by', px, py, rfl, ha, hb, hp, n1, s1, s2, s3, s4, s5, s6, k⟩ := h
    have hr4 : Room 4 _ := hr.mono (by decide)
    refine ⟨_, pss_cons (ps_set (i := 3) scSide.nd rfl (Or.inl rfl) (pe_call GA hr4 rfl D.mA D.FA.kp D.bA .nil pass0 (pa_cons (pv 0) pa_nil)))
      (pss_cons (ps_set (i := 4) scSide.nd rfl (Or.inl rfl) (pe_call GA hr4 rfl D.mA D.FA.kp D.bA .nil pass0 (pa_cons (pv 1) pa_nil)))
      (pss_cons (ps_set (i := 5) scSide.nd rfl (Or.inl rfl) (pe_call GA hr4 rfl D.mA D.FA.kp D.bA .nil pass0 (pa_cons (pv 2) pa_nil)))
      (pss_one (ps_ret (pe_op op_sub
        (pe_op op_mulW (pe_op op_sub (pe_fld (pv 4) rfl) (pe_fld (pv 3) rfl)) (pe_op op_sub (pe_fld (pv 5) rfl) (pe_fld (pv 3) rfl)))
        (pe_op op_mulW (pe_op op_sub (pe_fld (pv 4) rfl) (pe_fld (pv 3) rfl)) (pe_op op_sub (pe_fld (pv 5) rfl) (pe_fld (pv 3) rfl)))))))), ?_⟩
    refine ⟨_, rfl, a, ax, ay, rfl, ha, fun w1 H1 e1 h1 _ => ?_⟩
    refine ⟨_, rfl, b, bx, by', rfl, hb.ex e1, fun w2 H2 e2 h2 _ => ?_⟩
    refine ⟨_, rfl, p, px, py, rfl, hp.ex (e1.trans e2), fun w3 H3 e3 h3 _ => ?_⟩
    obtain ⟨a1, d1, rfl, z1⟩ := (h1.ex e2).ex e3
    obtain ⟨a2, d2, rfl, z2⟩ := h2.ex e3
    obtain ⟨a3, d3, rfl, z3⟩ := h3
    refine ⟨_, rfl, a2, C, d2, _, _, rfl, z2, T.cl, T.nX, ptF_x _ _, _, rfl, a1, C, d1, _, _, rfl, z1, T.cl, T.nX, ptF_x _ _, _, _, rfl, rfl, ?_⟩
    refine ⟨_, rfl, a3, C, d3, _, _, rfl, z3, T.cl, T.nY, ptF_y _ _, _, rfl, a1, C, d1, _, _, rfl, z1, T.cl, T.nY, ptF_y _ _, _, _, rfl, rfl, ?_⟩
    refine ⟨_, _, rfl, rfl, (s3.sub s1).mul (s6.sub s2) (Nat.succ_pos _) n1, ?_⟩
    refine ⟨_, rfl, a2, C, d2, _, _, rfl, z2, T.cl, T.nY, ptF_y _ _, _, rfl, a1, C, d1, _, _, rfl, z1, T.cl, T.nY, ptF_y _ _, _, _, rfl, rfl, ?_⟩
    refine ⟨_, rfl, a3, C, d3, _, _, rfl, z3, T.cl, T.nX, ptF_x _ _, _, rfl, a1, C, d1, _, _, rfl, z1, T.cl, T.nX, ptF_x _ _, _, _, rfl, rfl, ?_⟩
    refine ⟨_, _, rfl, rfl, (s4.sub s2).mul (s5.sub s1) (Nat.succ_pos _) n1, ?_⟩
    exact ⟨_, _, rfl, rfl, k _ ((e1.trans e2).trans e3)⟩
theorem scQuarter : FnScope ["point", "old"] ["point"] (defScope sQuarter) := ⟨rfl, rfl, rfl, by decide +kernel, rfl, by decide +kernel, by decide +kernel⟩
theorem ok_quarter {f : Addr} {fd : FuncData} (F : Fun K "quarter" "quarter" sQuarter f fd) (D : Defs K mg C fW fI fP fA fO fdW fdI fdP fdA fdO) : FnOk P w K mg base CX0 5 f fd ["point"] (spQuarter C) := by
  have GA : FnOk P w K mg base CX0 4 fA fdA ["thing"] (spAsPoint C) := D.GA
  have GI : FnOk P w K mg base CX0 2 fI fdI ["self", "x", "y"] (spInit C) := D.GI
  have T := D.T
  refine F.ok scQuarter (fun vs H Q E h => ?_) (fun cdv A outer s H vs Q E hr h => ?_)
  · obtain ⟨v, x, y, rfl, _⟩ := h
    rfl
  · obtain ⟨v, x, y, rfl, hv, k⟩ := h
    refine ⟨_, pss_cons (ps_set (i := 1) scQuarter.nd rfl (Or.inl rfl) (pe_call GA hr rfl D.mA D.FA.kp D.bA .nil pass0 (pa_cons (pv 0) pa_nil)))
      (pss_one (ps_ret (pe_make D.M GI (hr.mono (by decide)) rfl T.mgC D.bI .nil pass0 (pa_cons (pe_un un_neg (pe_fld (pv 1) rfl)) (pa_cons (pe_fld (pv 1) rfl) pa_nil))))), ?_⟩
    refine ⟨_, rfl, v, x, y, rfl, hv, fun w H' e hw _ => ?_⟩
    obtain ⟨b, dy, rfl, hb⟩ := hw
    refine ⟨_, rfl, b, C, dy, _, _, rfl, hb, T.cl, T.nY, ptF_y _ _, _, rfl, ?_⟩
    refine ⟨_, rfl, b, C, dy, _, _, rfl, hb, T.cl, T.nX, ptF_x _ _, ?_⟩
    exact make_pt fun v H2 e2 h2 => k v H2 (e.trans e2) h2
def spMul (C : Addr) : Sp := fun vs H Q _ => ∃ (v : V) (x y m : Int), vs = [v, .int m] ∧ IsP C v x y H ∧ CMulW x m ∧ CMulW y m ∧ ∀ w H', Same H H' → IsP C w (x * m) (y * m) H' → Q w H'
theorem scMul : FnScope ["self", "other"] ["self", "other"] (defScope sMul) := ⟨rfl, rfl, rfl, by decide +kernel, rfl, by decide +kernel, by decide +kernel⟩
theorem ok_mul {f : Addr} {fd : FuncData} (F : Fun K "__mul__" "Point.__mul__" sMul f fd) (D : Defs K mg C fW fI fP fA fO fdW fdI fdP fdA fdO) : FnOk P w K mg base CX0 4 f fd ["self", "other"] (spMul C) := by
  have GW : FnOk P w K mg base CX0 1 fW fdW ["value"] spWhole := D.GW
  have GI : FnOk P w K mg base CX0 2 fI fdI ["self", "x", "y"] (spInit C) := D.GI
  have T := D.T
  refine F.ok scMul (fun vs H Q E h => ?_) (fun cdv A outer s H vs Q E hr h => ?_)
  · obtain ⟨v, x, y, m, rfl, _⟩ := h
    rfl
  · obtain ⟨v, x, y, m, rfl, hv, c1, c2, k⟩ := h
    refine ⟨_, pss_cons (ps_if (pt_not (pt_val (pe_call GW (hr.mono (by decide)) rfl D.mW D.FW.kp D.bW .nil pass0 (pa_cons (pv 1) pa_nil)))) (pss_one ps_never) pss_nil)
      (pss_one (ps_ret (pe_make D.M GI hr rfl T.mgC D.bI .nil pass0 (pa_cons (pe_op op_mulW (pe_fld (pv 0) rfl) (pv 1)) (pa_cons (pe_op op_mulW (pe_fld (pv 0) rfl) (pv 1)) pa_nil))))), ?_⟩
    refine ⟨_, rfl, m, rfl, true, rfl, ?_⟩
    refine iteF ?_
    obtain ⟨a, dx, rfl, ha⟩ := hv
    refine ⟨_, rfl, a, C, dx, _, _, rfl, ha, T.cl, T.nX, ptF_x _ _, _, rfl, _, _, rfl, rfl, c1, ?_⟩
    refine ⟨_, rfl, a, C, dx, _, _, rfl, ha, T.cl, T.nY, ptF_y _ _, _, rfl, _, _, rfl, rfl, c2, ?_⟩
    exact make_pt k
def spEqP (C : Addr) : Sp := fun vs H Q _ => ∃ (v u : V) (x y z t : Int), vs = [v, u] ∧ IsP C v x y H ∧ ((IsP C u z t H ∧ Q (.bl (decide (x = z) && decide (y = t))) H) ∨ ((∃ b xs, u = .ref b ∧ H b = some (.tup xs)) ∧ Q (.bl false) H))
theorem scEq : FnScope ["self", "other"] ["self", "other"] (defScope sEq) := ⟨rfl, rfl, rfl, by decide +kernel, rfl, by decide +kernel, by decide +kernel⟩
theorem ok_eq {f : Addr} {fd : FuncData} (F : Fun K "__eq__" "Point.__eq__" sEq f fd) (T : Txt K mg C) : FnOk P w K mg base CX0 1 f fd ["self", "other"] (spEqP C) := by
  refine F.ok scEq (fun vs H Q E h => ?_) (fun cdv A outer s H vs Q E hr h => ?_)
  · obtain ⟨v, u, x, y, z, t, rfl, _⟩ := h
    rfl
  · obtain ⟨v, u, x, y, z, t, rfl, ⟨a, dx, rfl, ha⟩, hu⟩ := h
    refine ⟨_, pss_one (ps_ret (pe_and (pe_callB call_isi (by rfl) T.isi (by decide +kernel) (pa_cons (pv 1) (pa_cons (pe_glob (v := .ref C) rfl T.mgC rfl) pa_nil)))
      (pe_and (pe_cmpR op_eq (pe_fld (pv 0) rfl) (pe_fld (pv 1) rfl) (nomark _)) (pe_one (pe_cmpR op_eq (pe_fld (pv 0) rfl) (pe_fld (pv 1) rfl) (nomark _)))))), ?_⟩
    rcases hu with ⟨⟨b, dy, rfl, hb⟩, k⟩ | ⟨⟨b, xs, rfl, hb⟩, k⟩
    · refine ⟨_, rfl, _, _, _, _, true, rfl, .own C, ty_ins T hb, T.kCC, true, rfl, ?_⟩
      refine iteT ?_
      refine ⟨_, rfl, a, C, dx, _, _, rfl, ha, T.cl, T.nX, ptF_x _ _, _, rfl, b, C, dy, _, _, rfl, hb, T.cl, T.nX, ptF_x _ _, rfl, _, rfl, ?_⟩
      have ei : ∀ i j : Int, decide (V.int i = V.int j) = decide (i = j) := fun i j => by
        by_cases h : i = j
        · rw [h, decide_eq_true rfl, decide_eq_true rfl]
        · rw [decide_eq_false h, decide_eq_false (fun q => h (by cases q; rfl))]
      rw [ei x z]
      by_cases hxz : x = z
      · rw [decide_eq_true hxz] at *
        refine iteT ?_
        refine ⟨_, rfl, a, C, dx, _, _, rfl, ha, T.cl, T.nY, ptF_y _ _, _, rfl, b, C, dy, _, _, rfl, hb, T.cl, T.nY, ptF_y _ _, rfl, ?_⟩
        rw [ei y t]
        simpa using k
      · rw [decide_eq_false hxz] at *
        refine iteF ?_
        simpa using k
    · refine ⟨_, rfl, _, _, _, _, false, rfl, .own C, .base (.tup hb), T.kTC, false, rfl, ?_⟩
      refine iteF ?_
      exact k
def spPairM (C : Addr) : Sp := fun vs H Q _ => ∃ (v : V) (x y : Int), vs = [v] ∧ IsP C v x y H ∧ ∀ q H', H q = none → Same H H' → H' q = some (.tup [.int x, .int y]) → Q (.ref q) H'
theorem scPairM : FnScope ["self"] ["self"] (defScope sPairM) := ⟨rfl, rfl, rfl, by decide +kernel, rfl, by decide +kernel, by decide +kernel⟩
theorem ok_pairM {f : Addr} {fd : FuncData} (F : Fun K "pair" "Point.pair" sPairM f fd) (T : Txt K mg C) : FnOk P w K mg base CX0 1 f fd ["self"] (spPairM C) := by
  refine F.ok scPairM (fun vs H Q E h => ?_) (fun cdv A outer s H vs Q E hr h => ?_)
  · obtain ⟨v, x, y, rfl, _⟩ := h
    rfl
  · obtain ⟨v, x, y, rfl, ⟨a, dx, rfl, ha⟩, k⟩ := h
    refine ⟨_, pss_one (ps_ret (pe_tup (pa_cons (pe_fld (pv 0) rfl) (pa_cons (pe_fld (pv 0) rfl) pa_nil)))), ?_⟩
    refine ⟨_, rfl, a, C, dx, _, _, rfl, ha, T.cl, T.nX, ptF_x _ _, _, rfl, a, C, dx, _, _, rfl, ha, T.cl, T.nY, ptF_y _ _, (by show 2 ≤ sizeLine; decide), fun t nt => ?_⟩
    exact k t _ nt (same_new nt) upd_same
end
end Fo

set_option Elab.async false
set_option linter.all false
set_option maxRecDepth 100000
set_option maxHeartbeats 2000000
namespace Fo
open PySem L2
/-! ### filledonce.points where it raises -/
def Scal : V → Prop
  | .non => True
  | .bl _ => True
  | .int _ => True
  | .str _ => True
  | _ => False
def wholeV : V → Bool
  | .int _ => true
  | _ => false
/-- what is no point: one of some kinds -/
inductive Bad (H : Hp) : V → Prop
  | non : Bad H .non
  | bl (b : Bool) : Bad H (.bl b)
  | int (i : Int) : Bad H (.int i)
  | str (z : Str) : Bad H (.str z)
  | lst {a : Addr} {xs : List V} (h : H a = some (.lst xs)) : Bad H (.ref a)
  | tup {a : Addr} {xs : List V} (h : H a = some (.tup xs)) (n : xs.length ≠ 2) : Bad H (.ref a)
  | two {a : Addr} {u v : V} (h : H a = some (.tup [u, v])) (su : Scal u) (sv : Scal v) (n : (wholeV u && wholeV v) = false) : Bad H (.ref a)
theorem Bad.ex {H H' : Hp} {v : V} (e : Same H H') (h : Bad H v) : Bad H' v := by
  cases h with
  | non => exact .non
  | bl b => exact .bl b
  | int i => exact .int i
  | str z => exact .str z
  | lst h => exact .lst (e _ _ h)
  | tup h n => exact .tup (e _ _ h) n
  | two h su sv n => exact .two (e _ _ h) su sv n
/-- what the top says besides of Point and of the error InvalidPoint at CI -/
structure TxtX (P : Program) (K : PySem.W.Frag) (mg : Str → Option Value) (C CI fII : Addr) : Prop where
  kNC : PySem.W.kitOne K (.type "NoneType") (.ref C) = some false
  kBC : PySem.W.kitOne K (.type "bool") (.ref C) = some false
  kIC : PySem.W.kitOne K (.type "int") (.ref C) = some false
  kSC : PySem.W.kitOne K (.type "str") (.ref C) = some false
  kLC : PySem.W.kitOne K (.type "list") (.ref C) = some false
  xI : FoX_thing.XTxt P K mg CI fII
  gI : mg "InvalidPoint" = some (.ref CI)
def XD (v : V) : HO := .xd [((Str.ofString "thing"), v)]
def spWholeX : Sp := fun vs H Q _ => ∃ v : V, vs = [v] ∧ Scal v ∧ Q (.bl (wholeV v)) H
def spIsPointX (C : Addr) : Sp := fun vs H Q _ => ∃ v : V, vs = [v] ∧ Bad H v ∧ Q (.bl false) H
def spInitX (C CI : Addr) : Sp := fun vs H _ E => ∃ (p : Addr) (u v : V), vs = [.ref p, u, v] ∧ Scal u ∧ Scal v ∧ (wholeV u && wholeV v) = false ∧ ∀ t d H', Same H H' → H' t = some (.tup [u, v]) → H' d = some (XD (.ref t)) → E (.ref CI) (some d) H'
def spBadX (CI : Addr) : Sp := fun vs H _ E => ∃ v : V, vs = [v] ∧ Bad H v ∧ ∀ d H', Same H H' → H' d = some (XD v) → E (.ref CI) (some d) H'
section
variable {P : Program} {w : World} {K : PySem.W.Frag} {mg : Str → Option Value} {base : Heap} {C fW fI fP fA fO CI fII : Addr} {fdW fdI fdP fdA fdO : FuncData}
theorem ok_wholeX {f : Addr} {fd : FuncData} (F : Fun K "is_whole" "is_whole" sWhole f fd) (T : Txt K mg C) : FnOk P w K mg base CX0 1 f fd ["value"] spWholeX := by
  refine F.ok scWhole (fun vs H Q E h => ?_) (fun cdv A outer s H vs Q E hr h => ?_)
  · obtain ⟨v, rfl, _⟩ := h
    rfl
  · obtain ⟨v, rfl, sv, k⟩ := h
    refine ⟨_, pss_one (ps_ret (pe_and (pe_callB call_isi (by rfl) T.isi (by decide +kernel) (pa_cons (pv 0) (pa_cons (pe_bltn (v := .ty "int") (by rfl) T.int (by decide +kernel) rfl) pa_nil)))
      (pe_one (pe_not (pe_callB call_isi (by rfl) T.isi (by decide +kernel) (pa_cons (pv 0) (pa_cons (pe_bltn (v := .ty "bool") (by rfl) T.bool (by decide +kernel) rfl) pa_nil))))))), ?_⟩
    cases v with
    | non =>
      refine ⟨_, rfl, _, _, _, _, false, rfl, .ty _, .base .non, kit_ty (by decide +kernel), false, rfl, ?_⟩
      exact iteF k
    | bl b =>
      refine ⟨_, rfl, _, _, _, _, true, rfl, .ty _, .base (.bl b), kit_ty (by decide +kernel), true, rfl, ?_⟩
      refine iteT ?_
      exact ⟨_, rfl, _, _, _, _, true, rfl, .ty _, .base (.bl b), kit_ty (by decide +kernel), true, rfl, k⟩
    | int i =>
      refine ⟨_, rfl, _, _, _, _, true, rfl, .ty _, .base (.int i), kit_ty (by decide +kernel), true, rfl, ?_⟩
      refine iteT ?_
      exact ⟨_, rfl, _, _, _, _, false, rfl, .ty _, .base (.int i), kit_ty (by decide +kernel), false, rfl, k⟩
    | str z =>
      refine ⟨_, rfl, _, _, _, _, false, rfl, .ty _, .base (.str z), kit_ty (by decide +kernel), false, rfl, ?_⟩
      exact iteF k
    | _ => exact sv.elim
theorem ok_is_pointX (D : Defs K mg C fW fI fP fA fO fdW fdI fdP fdA fdO) (TX : TxtX P K mg C CI fII) : FnOk P w K mg base CX0 2 fP fdP ["thing"] (spIsPointX C) := by
  have GW : FnOk P w K mg base CX0 1 fW fdW ["value"] spWholeX := ok_wholeX D.FW D.T
  have T := D.T
  refine D.FP.ok scIsPoint (fun vs H Q E h => ?_) (fun cdv A outer s H vs Q E hr h => ?_)
  · obtain ⟨v, rfl, _⟩ := h
    rfl
  · obtain ⟨v, rfl, bad, k⟩ := h
    refine ⟨_, pss_cons (ps_if (pt_val (pe_callB call_isi (by rfl) T.isi (by decide +kernel) (pa_cons (pv 0) (pa_cons (pe_glob (v := .ref C) rfl T.mgC rfl) pa_nil)))) (pss_one (ps_ret pe_bl)) pss_nil)
      (pss_one (ps_ret (pe_and (pe_callB call_isi (by rfl) T.isi (by decide +kernel) (pa_cons (pv 0) (pa_cons (pe_bltn (v := .ty "tuple") (by rfl) T.tuple (by decide +kernel) rfl) pa_nil)))
        (pe_and (pe_cmpR op_eq (pe_callB call_len_seq (by rfl) T.len PySem.boot_len (pa_cons (pv 0) pa_nil)) pe_int (nomark _))
        (pe_and (pe_call GW hr rfl D.mW D.FW.kp D.bW .nil pass0 (pa_cons (pe_ix ix_tup (pv 0) pe_int (fun _ _ => rfl)) pa_nil))
        (pe_one (pe_call GW hr rfl D.mW D.FW.kp D.bW .nil pass0 (pa_cons (pe_ix ix_tup (pv 0) pe_int (fun _ _ => rfl)) pa_nil)))))))), ?_⟩
    cases bad with
    | non =>
      refine ⟨_, rfl, _, _, _, _, false, rfl, .own C, .base .non, TX.kNC, false, rfl, ?_⟩
      refine iteF ?_
      refine ⟨_, rfl, _, _, _, _, false, rfl, .ty _, .base .non, kit_ty (by decide +kernel), false, rfl, ?_⟩
      exact iteF k
    | bl b =>
      refine ⟨_, rfl, _, _, _, _, false, rfl, .own C, .base (.bl b), TX.kBC, false, rfl, ?_⟩
      refine iteF ?_
      refine ⟨_, rfl, _, _, _, _, false, rfl, .ty _, .base (.bl b), kit_ty (by decide +kernel), false, rfl, ?_⟩
      exact iteF k
    | int i =>
      refine ⟨_, rfl, _, _, _, _, false, rfl, .own C, .base (.int i), TX.kIC, false, rfl, ?_⟩
      refine iteF ?_
      refine ⟨_, rfl, _, _, _, _, false, rfl, .ty _, .base (.int i), kit_ty (by decide +kernel), false, rfl, ?_⟩
      exact iteF k
    | str z =>
      refine ⟨_, rfl, _, _, _, _, false, rfl, .own C, .base (.str z), TX.kSC, false, rfl, ?_⟩
      refine iteF ?_
      refine ⟨_, rfl, _, _, _, _, false, rfl, .ty _, .base (.str z), kit_ty (by decide +kernel), false, rfl, ?_⟩
      exact iteF k
    | lst h =>
      refine ⟨_, rfl, _, _, _, _, false, rfl, .own C, .base (.lst h), TX.kLC, false, rfl, ?_⟩
      refine iteF ?_
      refine ⟨_, rfl, _, _, _, _, false, rfl, .ty _, .base (.lst h), kit_ty (by decide +kernel), false, rfl, ?_⟩
      exact iteF k
    | @tup a xs h n =>
      refine ⟨_, rfl, _, _, _, _, false, rfl, .own C, .base (.tup h), T.kTC, false, rfl, ?_⟩
      refine iteF ?_
      refine ⟨_, rfl, _, _, _, _, true, rfl, .ty _, .base (.tup h), kit_ty (by decide +kernel), true, rfl, ?_⟩
      refine iteT ?_
      refine ⟨_, rfl, a, _, rfl, .inr (SqT.of h), rfl, _, rfl, ?_⟩
      have e : decide (V.int (xs.length : Int) = V.int 2) = false := decide_eq_false (fun q => n (by injection q with q; omega))
      rw [e]
      exact iteF k
    | @two a u v h su sv n =>
      refine ⟨_, rfl, _, _, _, _, false, rfl, .own C, .base (.tup h), T.kTC, false, rfl, ?_⟩
      refine iteF ?_
      refine ⟨_, rfl, _, _, _, _, true, rfl, .ty _, .base (.tup h), kit_ty (by decide +kernel), true, rfl, ?_⟩
      refine iteT ?_
      refine ⟨_, rfl, a, _, rfl, .inr (SqT.of h), rfl, true, rfl, ?_⟩
      refine iteT ?_
      refine ⟨_, rfl, a, _, _, _, rfl, rfl, SqT.of h, atI_nat (j := 0) rfl, u, rfl, su, _, rfl, ?_⟩
      cases hw : wholeV u with
      | false => exact iteF k
      | true =>
        rw [hw, Bool.true_and] at n
        refine iteT ?_
        refine ⟨_, rfl, a, _, _, _, rfl, rfl, SqT.of h, atI_nat (j := 1) rfl, v, rfl, sv, ?_⟩
        rw [n]
        exact k
/-- Point(u, v) of two that are not both integers -/
theorem ok_initX (D : Defs K mg C fW fI fP fA fO fdW fdI fdP fdA fdO) (TX : TxtX P K mg C CI fII) : FnOk P w K mg base (L2.CX P w) 3 fI fdI ["self", "x", "y"] (spInitX C CI) := by
  have GW : FnOk P w K mg base CX0 1 fW fdW ["value"] spWholeX := ok_wholeX D.FW D.T
  refine D.FI.okX scInit (fun vs H Q E h => ?_) (fun cdv A outer s H vs Q E hr h => ?_)
  · obtain ⟨p, u, v, rfl, _⟩ := h
    rfl
  · obtain ⟨p, u, v, rfl, su, sv, n, k⟩ := h
    have hr1 : Room 1 _ := hr.mono (by decide)
    refine ⟨_, pss_cons (ps_if (PW.pt (pw_or (pt_not (pt_val (pe_call GW hr1 rfl D.mW D.FW.kp D.bW .nil pass0 (pa_cons (pv 1) pa_nil)))) (pw_or1 (pt_not (pt_val (pe_call GW hr1 rfl D.mW D.FW.kp D.bW .nil pass0 (pa_cons (pv 2) pa_nil)))))))
        (pss_one (ps_raise_thing (W := fun cls d _ H => E cls d H) rfl TX.xI TX.gI hr (takes_of rfl rfl rfl rfl) (pa_cons (pe_tup (pa_cons (pv 1) (pa_cons (pv 2) pa_nil))) pa_nil))) pss_nil)
      (pss_cons ps_never (pss_one ps_never)), ?_⟩
    have fin : ∀ (t : Addr), H t = none → ∀ d, (upd H t (.tup [u, v])) d = none → E (.ref CI) (some d) (upd (upd H t (.tup [u, v])) d (XD (.ref t))) := fun t nt d nd => by
      refine k t d _ ((same_new nt).trans (same_new nd)) ?_ upd_same
      exact same_new nd _ _ upd_same
    refine ⟨_, rfl, u, rfl, su, _, rfl, ?_⟩
    cases hw : wholeV u with
    | false =>
      refine iteT ?_
      refine iteT ?_
      exact ⟨_, rfl, _, rfl, (by show 2 ≤ sizeLine; decide), fun t nt => ⟨_, rfl, fun d nd => fin t nt d nd⟩⟩
    | true =>
      rw [hw, Bool.true_and] at n
      refine iteF ?_
      refine ⟨_, rfl, v, rfl, sv, _, rfl, ?_⟩
      rw [n]
      refine iteT ?_
      exact ⟨_, rfl, _, rfl, (by show 2 ≤ sizeLine; decide), fun t nt => ⟨_, rfl, fun d nd => fin t nt d nd⟩⟩
theorem ok_as_pointX (D : Defs K mg C fW fI fP fA fO fdW fdI fdP fdA fdO) (TX : TxtX P K mg C CI fII) : FnOk P w K mg base (L2.CX P w) 3 fA fdA ["thing"] (spBadX CI) := by
  have GP : FnOk P w K mg base CX0 2 fP fdP ["thing"] (spIsPointX C) := ok_is_pointX D TX
  refine D.FA.okX scAsPoint (fun vs H Q E h => ?_) (fun cdv A outer s H vs Q E hr h => ?_)
  · obtain ⟨v, rfl, _⟩ := h
    rfl
  · obtain ⟨v, rfl, bad, k⟩ := h
    refine ⟨_, pss_cons (ps_if (pt_not (pt_val (pe_call GP hr rfl D.mP D.FP.kp D.bP .nil pass0 (pa_cons (pv 0) pa_nil))))
        (pss_one (ps_raise_thing (W := fun cls d _ H => E cls d H) rfl TX.xI TX.gI hr (takes_of rfl rfl rfl rfl) (pa_cons (pv 0) pa_nil))) pss_nil)
      (pss_cons ps_never (pss_one ps_never)), ?_⟩
    refine ⟨_, rfl, v, rfl, bad, false, rfl, ?_⟩
    refine iteT ?_
    exact ⟨_, rfl, _, rfl, fun d nd => k d _ (same_new nd) upd_same⟩
end
end Fo

set_option Elab.async false
set_option linter.all false
set_option maxRecDepth 100000
set_option maxHeartbeats 2000000
namespace Fo
open PySem L2
/-! ### the law's own helpers: the pool and its draws -/
abbrev sHand : Stmt := top 14
abbrev sDraw : Stmt := top 15
/-- what stands but at p stands -/
def But (p : Addr) (H H' : Hp) : Prop := ∀ b o, b ≠ p → H b = some o → H' b = some o
theorem But.refl (p : Addr) (H : Hp) : But p H H := fun _ _ _ h => h
theorem But.trans {p : Addr} {H H1 H2 : Hp} (a : But p H H1) (b : But p H1 H2) : But p H H2 := fun c o n h => b c o n (a c o n h)
theorem But.upd {p : Addr} {H : Hp} {o : HO} : But p H (upd H p o) := fun b u n h => by
  rw [upd_ne n]
  exact h
theorem But.of {p : Addr} {H H' : Hp} (e : Same H H') : But p H H' := fun b o _ h => e b o h
/-- from a heap that does not know p -/
theorem But.same {p : Addr} {H0 H H' : Hp} (h0 : H0 p = none) (e : Same H0 H) (b : But p H H') : Same H0 H' := fun c o h => b c o (ne_of_none h h0) (e c o h)
def PoolAt (p : Addr) (H : Hp) : Prop := ∃ i j : Int, H p = some (.lst [.int i, .int j]) ∧ 0 ≤ i ∧ 0 ≤ j ∧ j < 2147483647
theorem PoolAt.ex {p : Addr} {H H' : Hp} (e : Same H H') (h : PoolAt p H) : PoolAt p H' := by
  obtain ⟨i, j, h, r⟩ := h
  exact ⟨i, j, e _ _ h, r⟩
def spHand (K : PySem.W.Frag) : Sp := fun vs H Q _ => ∃ (a : Addr) (ns : List Int) (k : Int), vs = [.ref a, .int k] ∧ SqL K H a (ns.map V.int) ∧ ns.length ≤ 63 ∧ 0 ≤ k ∧ k ≤ 100 ∧
  ∀ p H', H p = none → Same H H' → PoolAt p H' → Q (.ref p) H'
def spDraw : Sp := fun vs H Q _ => ∃ (p : Addr) (m : Int), vs = [.ref p, .int m] ∧ PoolAt p H ∧ 0 < m ∧ m < 1073741824 ∧
  ∀ r H', 0 ≤ r → r < m → But p H H' → PoolAt p H' → Q (.int r) H'
structure TxtL (mg : Str → Option Value) : Prop where
  int : mg "int" = none
  range : mg "range" = none
  max : mg "max" = none
  min : mg "min" = none
  len : mg "len" = none
theorem head_int {ns : List Int} {lo hi : Option Int} : ∃ c : Int, atI (cutV (ns.map V.int) lo hi ++ [V.int 0]) 0 = some (V.int c) := by
  have e : cutV (ns.map V.int) lo hi = ((ns.drop (HT.sIx (ns.map V.int).length 0 lo)).take (HT.sIx (ns.map V.int).length (ns.map V.int).length hi - HT.sIx (ns.map V.int).length 0 lo)).map V.int := by
    unfold cutV
    rw [← List.map_drop, ← List.map_take]
  rw [e]
  cases (ns.drop (HT.sIx (ns.map V.int).length 0 lo)).take (HT.sIx (ns.map V.int).length (ns.map V.int).length hi - HT.sIx (ns.map V.int).length 0 lo) with
  | nil => exact ⟨0, atI_nat (j := 0) rfl⟩
  | cons c r => exact ⟨c, atI_nat (j := 0) rfl⟩
section
variable {P : Program} {w : World} {K : PySem.W.Frag} {mg : Str → Option Value} {base : Heap}
theorem scHand : FnScope ["script", "k", "cell", "seed"] ["script", "k"] (defScope sHand) := ⟨rfl, rfl, rfl, by decide +kernel, rfl, by decide +kernel, by decide +kernel⟩
theorem ok_hand {f : Addr} {fd : FuncData} (F : Fun K "_law_hand" "_law_hand" sHand f fd) (T : TxtL mg) : FnOk P w K mg base CX0 1 f fd ["script", "k"] (spHand K) := by
  refine F.ok scHand (fun vs H Q E h => ?_) (fun cdv A outer s H vs Q E hr h => ?_)
  · obtain ⟨a, ns, k, rfl, _⟩ := h
    rfl
  · obtain ⟨a, ns, k, rfl, hS, hl, k0, k1, q⟩ := h
    refine ⟨_, pss_cons (ps_set (i := 2) scHand.nd rfl (Or.inl rfl) (pe_ix ix_list (pe_op op_cat (pe_slice sl_list (pv 0) (po_some (pv 1)) (po_some (pe_op op_add (pv 1) pe_int))) (pe_lst (pa_cons pe_int pa_nil))) pe_int (fun _ _ => rfl)))
      (pss_cons (ps_set (i := 3) scHand.nd rfl (Or.inl rfl) (pe_op op_mod (pe_op op_mul (pe_op op_add (pe_op op_add (pe_op op_mod (pe_callTy call_int1 (by rfl) T.int (by decide +kernel) (pa_cons (pv 2) pa_nil)) pe_int) (pe_op op_mul pe_int (pv 1))) pe_int) pe_int) pe_int))
      (pss_one (ps_ret (pe_lst (pa_cons (pe_op op_mul (pe_callTy call_int1 (by rfl) T.int (by decide +kernel) (pa_cons (pe_cmpR op_ge (pv 2) (pe_op op_pow pe_int pe_int) (nomark _)) pa_nil)) (pv 2)) (pa_cons (pv 3) pa_nil)))))), ?_⟩
    obtain ⟨c, hc⟩ := head_int (ns := ns) (lo := some k) (hi := some (k + 1))
    -- cell
    refine ⟨_, rfl, _, rfl, _, rfl, _, rfl, _, _, rfl, rfl, _, rfl, a, _, rfl, hS, fun p1 n1 => ?_⟩
    refine ⟨(by show 1 ≤ sizeLine; decide), fun p2 n2 => ?_⟩
    have ne12 : p1 ≠ p2 := fun q => by rw [← q, upd_same] at n2; cases n2
    refine ⟨p1, p2, _, _, rfl, rfl, (by rw [upd_ne ne12, upd_same]), upd_same, ?_, fun p3 n3 => ?_⟩
    · have := cutV_length (ns.map V.int) (some k) (some (k + 1))
      rw [List.length_map] at this
      show _ + 1 ≤ sizeLine
      exact Nat.le_trans (Nat.add_le_add_right this 1) (Nat.le_trans (Nat.add_le_add_right hl 1) (by decide))
    refine ⟨p3, _, _, _, rfl, rfl, SqL.of upd_same, hc, ?_⟩
    have e1 : Same H (upd H p1 (.lst (cutV (ns.map V.int) (some k) (some (k + 1))))) := same_new n1
    have e2 := e1.trans (same_new (o := .lst [V.int 0]) n2)
    have e3 := e2.trans (same_new (o := .lst (cutV (ns.map V.int) (some k) (some (k + 1)) ++ [V.int 0])) n3)
    -- seed
    refine ⟨_, rfl, .inl ⟨_, rfl, ?_⟩⟩
    refine ⟨_, _, rfl, rfl, (by show (0 : Int) < 2147483647; decide), _, rfl, _, _, rfl, rfl, .inl ⟨by decide, by decide⟩, _, _, rfl, rfl, _, _, rfl, rfl, _, _, rfl, rfl, .inr ⟨by decide, by decide⟩, _, _, rfl, rfl, (by show (0 : Int) < 2147483629; decide), ?_⟩
    -- the list
    refine ⟨_, rfl, _, _, rfl, rfl, ⟨by decide, by decide, by decide⟩, _, _, rfl, rfl, .inr ⟨_, rfl, ?_⟩⟩
    refine ⟨_, rfl, _, _, rfl, rfl, .inl ?_, _, rfl, (by show 2 ≤ sizeLine; decide), fun p4 n4 => ?_⟩
    · split <;> exact ⟨by decide, by decide⟩
    · refine q p4 _ (Same.free e3 n4) (e3.trans (same_new n4)) ⟨_, _, upd_same, ?_, ?_, ?_⟩
      · by_cases hb : (10 : Int) ^ (18 : Int).toNat ≤ c
        · have h0 : (0 : Int) ≤ (10 : Int) ^ (18 : Int).toNat := by decide
          rw [decide_eq_true hb]
          show 0 ≤ 1 * c
          omega
        · rw [decide_eq_false hb]
          show 0 ≤ 0 * c
          omega
      · exact Int.emod_nonneg _ (by decide)
      · exact Int.lt_trans (Int.emod_lt_of_pos _ (by decide)) (by decide)
theorem scDraw : FnScope ["pool", "many", "found"] ["pool", "many"] (defScope sDraw) := ⟨rfl, rfl, rfl, by decide +kernel, rfl, by decide +kernel, by decide +kernel⟩
theorem ok_draw {f : Addr} {fd : FuncData} (F : Fun K "_law_draw" "_law_draw" sDraw f fd) (T : TxtL mg) : FnOk P w K mg base CX0 1 f fd ["pool", "many"] spDraw := by
  refine F.ok scDraw (fun vs H Q E h => ?_) (fun cdv A outer s H vs Q E hr h => ?_)
  · obtain ⟨p, m, rfl, _⟩ := h
    rfl
  · obtain ⟨p, m, rfl, ⟨i, j, hp, i0, j0, j1⟩, m0, m1, q⟩ := h
    refine ⟨_, pss_cons (ps_if (pt_cmpR op_gt (pe_ix ix_list (pv 0) pe_int (fun _ _ => rfl)) pe_int (nomark _))
        (pss_cons (ps_set (i := 2) scDraw.nd rfl (Or.inl rfl) (pe_op op_mod (pe_callTy call_int1 (by rfl) T.int (by decide +kernel) (pa_cons (pe_ix ix_list (pv 0) pe_int (fun _ _ => rfl)) pa_nil)) (pv 1)))
        (pss_cons (ps_asg (pe_op op_fdiv (pe_ix ix_list (pv 0) pe_int (fun _ _ => rfl)) (pv 1)) (pg_sub (pv 0) pe_int set_list))
        (pss_one (ps_ret (pv 2))))) pss_nil)
      (pss_cons (ps_asg (pe_op op_mod (pe_callTy call_int1 (by rfl) T.int (by decide +kernel) (pa_cons (pe_op op_add (pe_op op_mul (pe_ix ix_list (pv 0) pe_int (fun _ _ => rfl)) pe_int) pe_int) pa_nil)) pe_int) (pg_sub (pv 0) pe_int set_list))
      (pss_one (ps_ret (pe_op op_mod (pe_op op_fdiv (pe_op op_mod (pe_callTy call_int1 (by rfl) T.int (by decide +kernel) (pa_cons (pe_op op_mul (pe_ix ix_list (pv 0) pe_int (fun _ _ => rfl)) (pe_ix ix_list (pv 0) pe_int (fun _ _ => rfl))) pa_nil)) pe_int) pe_int) (pv 1))))), ?_⟩
    refine ⟨_, rfl, p, _, _, _, rfl, rfl, SqL.of hp, atI_nat (j := 0) rfl, _, _, rfl, rfl, _, rfl, ?_⟩
    refine ite2 (fun hi => ?_) (fun hi => ?_)
    · refine ⟨_, rfl, p, _, _, _, rfl, rfl, SqL.of hp, atI_nat (j := 0) rfl, .inl ⟨_, rfl, ?_⟩⟩
      refine ⟨_, rfl, _, _, rfl, rfl, m0, ?_⟩
      refine ⟨_, rfl, p, _, _, _, rfl, rfl, SqL.of hp, atI_nat (j := 0) rfl, _, rfl, _, _, rfl, rfl, ⟨m0, m1⟩, ?_⟩
      refine ⟨_, rfl, p, _, _, 0, rfl, rfl, hp, rfl, ?_⟩
      refine ⟨_, rfl, ?_⟩
      refine q _ _ (Int.emod_nonneg _ (by omega)) (Int.emod_lt_of_pos _ m0) But.upd ⟨_, _, upd_same, Int.ediv_nonneg i0 (by omega), j0, j1⟩
    · refine ⟨_, rfl, p, _, _, _, rfl, rfl, SqL.of hp, atI_nat (j := 1) rfl, _, _, rfl, rfl, .inr ⟨by decide, by decide⟩, _, _, rfl, rfl, .inl ⟨_, rfl, ?_⟩⟩
      refine ⟨_, _, rfl, rfl, (by show (0 : Int) < 2147483647; decide), ?_⟩
      refine ⟨_, rfl, p, _, _, 1, rfl, rfl, hp, rfl, ?_⟩
      have a0 : (0 : Int) ≤ (j * 48271 + 11) % 2147483647 := Int.emod_nonneg _ (by decide)
      have a1 : (j * 48271 + 11) % 2147483647 < (2147483647 : Int) := Int.emod_lt_of_pos _ (by decide)
      refine ⟨_, rfl, p, _, _, _, rfl, rfl, SqL.of upd_same, atI_nat (j := 1) rfl, _, rfl, p, _, _, _, rfl, rfl, SqL.of upd_same, atI_nat (j := 1) rfl, _, _, rfl, rfl, .inl ⟨by omega, by omega⟩, .inl ⟨_, rfl, ?_⟩⟩
      refine ⟨_, _, rfl, rfl, (by show (0 : Int) < 2147483629; decide), _, _, rfl, rfl, ⟨by decide, by decide⟩, _, rfl, _, _, rfl, rfl, m0, ?_⟩
      exact q _ _ (Int.emod_nonneg _ (by omega)) (Int.emod_lt_of_pos _ m0) But.upd ⟨_, _, upd_same, i0, a0, a1⟩
end
end Fo

set_option Elab.async false
set_option linter.all false
set_option maxRecDepth 100000
set_option maxHeartbeats 2000000
namespace Fo
open PySem L2
/-! ### what raises, and the law's own door to it -/
theorem SqT.ex {K : PySem.W.Frag} {H H' : Hp} {a : Addr} {xs : List V} (e : Same H H') (h : SqT K H a xs) : SqT K H' a xs := by
  rcases h with (h | ⟨o, h⟩) | h
  · exact .inl (.inl (e _ _ h))
  · exact .inl (.inr ⟨o, e _ _ h⟩)
  · exact .inr h
mutual
theorem Dp.ex {K : PySem.W.Frag} {H H' : Hp} (e : Same H H') : ∀ (d : PyData) (v : V), Dp K H v d → Dp K H' v d
  | .none, _, h => by
    cases h
    exact .non
  | .bool b, _, h => by
    cases h
    exact .bl b
  | .int i, _, h => by
    cases h
    exact .int i
  | .str x, _, h => by
    cases h
    exact .str x
  | .list ds, _, h => by
    cases h with
    | lst hs ha => exact .lst (e.seq hs) (DpAll.ex e ds _ ha)
  | .tuple ds, _, h => by
    cases h with
    | tup hs ha => exact .tup (SqT.ex e hs) (DpAll.ex e ds _ ha)
  | .dict _, _, h => by cases h
theorem DpAll.ex {K : PySem.W.Frag} {H H' : Hp} (e : Same H H') : ∀ (ds : List PyData) (vs : List V), DpAll K H vs ds → DpAll K H' vs ds
  | [], _, h => by
    cases h
    exact .nil
  | d :: ds, _, h => by
    cases h with
    | cons h1 h2 => exact .cons (Dp.ex e d _ h1) (DpAll.ex e ds _ h2)
end
structure ShowsOk (d : PyData) : Prop where
  s : d.showable = true
  nd : d.hasDict = false
  dp : d.depth ≤ 60
  z : d.shown.length ≤ sizeLine
abbrev sRefused : Stmt := top 18
def spCrossX (C CI : Addr) : Sp := fun vs H _ E => ∃ (p v : V) (x y : Int), vs = [p, v] ∧ IsP C p x y H ∧ Bad H v ∧ ∀ d H', Same H H' → H' d = some (XD v) → E (.ref CI) (some d) H'
def spSideX (C CI : Addr) : Sp := fun vs H _ E => ∃ (a b v : V) (ax ay bx by' : Int), vs = [a, b, v] ∧ IsPt C a ax ay H ∧ IsPt C b bx by' H ∧ Bad H v ∧ ∀ d H', Same H H' → H' d = some (XD v) → E (.ref CI) (some d) H'
def spRefused (K : PySem.W.Frag) : Sp := fun vs H Q _ => ∃ (n : Int) (v : V) (d : PyData), vs = [.int n, v] ∧ ShowsOk d ∧
  ((n = 0 ∧ ∃ a u w ds, v = .ref a ∧ H a = some (.tup [u, w]) ∧ Scal u ∧ Scal w ∧ (wholeV u && wholeV w) = false ∧ d = .tuple ds ∧ DpAll K H [u, w] ds) ∨ ((n = 1 ∨ n = 2 ∨ n = 3) ∧ Bad H v ∧ Dp K H v d)) ∧
  ∀ H', Same H H' → Q (.str d.shown) H'
/-- what the top says of the errors besides -/
structure RTxt (P : Program) (K : PySem.W.Frag) (mg : Str → Option Value) (C CI fII CF CN : Addr) : Prop where
  TX : TxtX P K mg C CI fII
  gF : mg "FillError" = some (.ref CF)
  gN : mg "NoDirection" = some (.ref CN)
  ex : PySem.W.exmOne K (.ref CI) (.ref CF) = some true
  is : XIsC K CI
  k1 : PySem.W.kitOne K (.ref CI) (.ref CI) = some true
  k2 : PySem.W.kitOne K (.ref CI) (.ref CN) = some false
  zR : mg "repr" = none
section
variable {P : Program} {w : World} {K : PySem.W.Frag} {mg : Str → Option Value} {base : Heap} {C fW fI fP fA fO CI fII CF CN : Addr} {fdW fdI fdP fdA fdO : FuncData}
theorem ok_quarterX {f : Addr} {fd : FuncData} (F : Fun K "quarter" "quarter" sQuarter f fd) (D : Defs K mg C fW fI fP fA fO fdW fdI fdP fdA fdO) (TX : TxtX P K mg C CI fII) : FnOk P w K mg base (L2.CX P w) 4 f fd ["point"] (spBadX CI) := by
  have GA : FnOk P w K mg base (L2.CX P w) 3 fA fdA ["thing"] (spBadX CI) := ok_as_pointX D TX
  refine F.okX scQuarter (fun vs H Q E h => ?_) (fun cdv A outer s H vs Q E hr h => ?_)
  · obtain ⟨v, rfl, _⟩ := h
    rfl
  · obtain ⟨v, rfl, bad, k⟩ := h
    refine ⟨_, pss_cons (ps_set (i := 1) scQuarter.nd rfl (Or.inl rfl) (pe_call (E := E) GA hr rfl D.mA D.FA.kp D.bA .nil (passes_call (takes_of rfl rfl rfl rfl) fun _ _ _ _ h => h) (pa_cons (pv 0) pa_nil)))
      (pss_one ps_never), ?_⟩
    exact ⟨_, rfl, v, rfl, bad, k⟩
theorem ok_crossX {f : Addr} {fd : FuncData} (F : Fun K "cross" "Point.cross" sCross f fd) (D : Defs K mg C fW fI fP fA fO fdW fdI fdP fdA fdO) (TX : TxtX P K mg C CI fII) : FnOk P w K mg base (L2.CX P w) 4 f fd ["self", "other"] (spCrossX C CI) := by
  have GA : FnOk P w K mg base (L2.CX P w) 3 fA fdA ["thing"] (spBadX CI) := ok_as_pointX D TX
  refine F.okX scCross (fun vs H Q E h => ?_) (fun cdv A outer s H vs Q E hr h => ?_)
  · obtain ⟨p, v, x, y, rfl, _⟩ := h
    rfl
  · obtain ⟨p, v, x, y, rfl, hp, bad, k⟩ := h
    refine ⟨_, pss_cons (ps_set (i := 2) scCross.nd rfl (Or.inl rfl) (pe_call (E := E) GA hr rfl D.mA D.FA.kp D.bA .nil (passes_call (takes_of rfl rfl rfl rfl) fun _ _ _ _ h => h) (pa_cons (pv 1) pa_nil)))
      (pss_one ps_never), ?_⟩
    exact ⟨_, rfl, v, rfl, bad, k⟩
theorem ok_sideX {f : Addr} {fd : FuncData} (F : Fun K "side" "side" sSide f fd) (D : Defs K mg C fW fI fP fA fO fdW fdI fdP fdA fdO) (TX : TxtX P K mg C CI fII) : FnOk P w K mg base (L2.CX P w) 7 f fd ["a", "b", "point"] (spSideX C CI) := by
  have GAX : FnOk P w K mg base (L2.CX P w) 3 fA fdA ["thing"] (spBadX CI) := ok_as_pointX D TX
  have GA : FnOk P w K mg base CX0 4 fA fdA ["thing"] (spAsPoint C) := D.GA
  refine F.okX scSide (fun vs H Q E h => ?_) (fun cdv A outer s H vs Q E hr h => ?_)
  · obtain ⟨a, b, v, ax, ay, bx, by', rfl, _⟩ := h
    rfl
  · obtain ⟨a, b, v, ax, ay, bx, by', rfl, ha, hb, bad, k⟩ := h
    have hr4 : Room 4 _ := hr.mono (by decide)
    refine ⟨_, pss_cons (ps_set (i := 3) scSide.nd rfl (Or.inl rfl) (pe_call GA hr4 rfl D.mA D.FA.kp D.bA .nil pass0 (pa_cons (pv 0) pa_nil)))
      (pss_cons (ps_set (i := 4) scSide.nd rfl (Or.inl rfl) (pe_call GA hr4 rfl D.mA D.FA.kp D.bA .nil pass0 (pa_cons (pv 1) pa_nil)))
      (pss_cons (ps_set (i := 5) scSide.nd rfl (Or.inl rfl) (pe_call (E := E) GAX (hr.mono (by decide)) rfl D.mA D.FA.kp D.bA .nil (passes_call (takes_of rfl rfl rfl rfl) fun _ _ _ _ h => h) (pa_cons (pv 2) pa_nil)))
      (pss_one ps_never))), ?_⟩
    refine ⟨_, rfl, a, ax, ay, rfl, ha, fun w1 H1 e1 h1 _ => ?_⟩
    refine ⟨_, rfl, b, bx, by', rfl, hb.ex e1, fun w2 H2 e2 h2 _ => ?_⟩
    have e := e1.trans e2
    exact ⟨_, rfl, v, rfl, bad.ex e, fun d H' e' hd => k d H' (e.trans e') hd⟩
/-- what a call lets out is taken, whatever the slots -/
def EW (W : WX) (n : Nat) : XK := fun cls d H => ∀ σ : L2.St, σ.length = n → W cls d σ H
theorem passesW {X : Cx} {W : WX} {n : Nat} (tk : Takes X W) (hn : X.N.length = n) : Passes (L2.CX X.prog X.w) X (EW W n) := fun _ σ _ _ e s' I c => tk e s' (XE.of_call I (fun _ _ _ h => h σ (I.len.trans hn)) c)
theorem ix_tupK {X : Cx} {K : PySem.W.Frag} (h : X.K = K) : IxR X (rIxT K) := by
  subst h
  exact ix_tup
theorem scRefused : FnScope ["door", "thing", "e"] ["door", "thing"] (defScope sRefused) := ⟨rfl, rfl, rfl, by decide +kernel, rfl, by decide +kernel, by decide +kernel⟩
theorem int_eqT {i j : Int} (h : i = j) : decide (V.int i = V.int j) = true := decide_eq_true (by rw [h])
theorem int_eqF {i j : Int} (h : i ≠ j) : decide (V.int i = V.int j) = false := decide_eq_false (fun q => h (by injection q))
theorem ok_refused {f fS fX fQ fSd : Addr} {fd fdS fdX fdQ fdSd : FuncData} (F : Fun K "_law_refused" "_law_refused" sRefused f fd) (D : Defs K mg C fW fI fP fA fO fdW fdI fdP fdA fdO) (FS : Fun K "__sub__" "Point.__sub__" sSub fS fdS) (bS : Binds K fdS ["self", "other"] []) (oS : OwnOp K C .Sub fS)
    (FX : Fun K "cross" "Point.cross" sCross fX fdX) (bX : Binds K fdX ["self", "other"] []) (mX : Meth K C "cross" fX) (FQ : Fun K "quarter" "quarter" sQuarter fQ fdQ) (bQ : Binds K fdQ ["point"] []) (mQ : mg "quarter" = some (.ref fQ))
    (FSd : Fun K "side" "side" sSide fSd fdSd) (bSd : Binds K fdSd ["a", "b", "point"] []) (mSd : mg "side" = some (.ref fSd)) (R : RTxt P K mg C CI fII CF CN) : FnG P w K mg base CX0 8 f fd ["door", "thing"] (spRefused K) := by
  have GQ : FnOk P w K mg base (L2.CX P w) 4 fQ fdQ ["point"] (spBadX CI) := ok_quarterX FQ D R.TX
  have GX : FnOk P w K mg base (L2.CX P w) 4 fX fdX ["self", "other"] (spCrossX C CI) := ok_crossX FX D R.TX
  have GSd : FnOk P w K mg base (L2.CX P w) 7 fSd fdSd ["a", "b", "point"] (spSideX C CI) := ok_sideX FSd D R.TX
  have GIX : FnOk P w K mg base (L2.CX P w) 3 fI fdI ["self", "x", "y"] (spInitX C CI) := ok_initX D R.TX
  have GI : FnOk P w K mg base CX0 2 fI fdI ["self", "x", "y"] (spInit C) := D.GI
  have T := D.T
  refine F.okG scRefused (fun vs H Q E h => ?_) (fun cdv A outer s H vs Q E hgd hr h => ?_)
  · obtain ⟨n, v, d, rfl, _⟩ := h
    rfl
  · obtain ⟨n, v, d, rfl, sh, hc, k⟩ := h
    have hr4 : Room 4 _ := hr.mono (by decide)
    have hu : (A.deeper (PyProof.Rows.envOfC (Str.ofString "_law_refused") (defScope sRefused) s.heap.objs.size f cdv)).units + 64 < cLine := by
      have := hr.un
      omega
    have cR : ∀ (a : Addr) (pn : List (Addr × Obj)), CallR ((cxOf CX0 P w K mg base ["door", "thing", "e"] "_law_refused" (defScope sRefused) f cdv A outer s H E).nox.suite a pn) (.builtin "repr") (rReprD K) := fun a pn => call_reprD hgd hu
    have hT : ∃ (tb : WX → TS) (ts : Addr → Value → Option Addr → TS), PS (cxOf CX0 P w K mg base ["door", "thing", "e"] "_law_refused" (defScope sRefused) f cdv A outer s H E).nox ((defBody sRefused).getD 0 (.Pass ⟨0, 0, 0, 0⟩)) (fun D σ H => tb (wAs K (.ref CF) 2 ts (fun _ _ _ _ => False) D) D σ H) ∧
        (∀ (W : WX) (D' : Ends), (∀ (v' : V) (dd : Addr) (H' : Hp), Same H H' → H' dd = some (XD v') → Dp K H' v' d → EW W 3 (.ref CI) (some dd) H') → tb W D' (start ["door", "thing", "e"] [.int n, v]) H) ∧
        (∀ (a dd : Addr) (v' : V) (σ : L2.St) (H' : Hp) (D' : Ends), σ[2]? = some (some (.ref a)) → H' dd = some (XD v') → Dp K H' v' d → D'.rt (.str d.shown) H' → ts a (.ref CI) (some dd) D' σ H') := by
      refine ⟨_, _, ps_try_as (i := 2) (c := .ref CF) (Wout := fun _ _ _ _ => False) rfl rfl scRefused.nd rfl rfl ⟨rfl, by decide, .inl R.gF⟩ takes0
      (fun W pn xe tk po => pss_one (ps_if (pt_cmpR op_eq (pv 0) pe_int (nomark _))
          (pss_one (ps_expr (pe_make (E := EW W 3) D.M GIX hr4 rfl T.mgC D.bI .nil (passesW tk rfl) (pa_cons (pe_ix (ix_tupK (K := K) rfl) (pv 1) pe_int (fun _ _ => rfl)) (pa_cons (pe_ix (ix_tupK (K := K) rfl) (pv 1) pe_int (fun _ _ => rfl)) pa_nil)))))
          (pss_one (ps_if (pt_cmpR op_eq (pv 0) pe_int (nomark _))
            (pss_one (ps_expr (pe_call (E := EW W 3) GQ hr4 rfl mQ FQ.kp bQ .nil (passesW tk rfl) (pa_cons (pv 1) pa_nil))))
            (pss_one (ps_if (pt_cmpR op_eq (pv 0) pe_int (nomark _))
              (pss_one (ps_expr (pe_call (E := EW W 3) GSd hr rfl mSd FSd.kp bSd .nil (passesW tk rfl) (pa_cons (pe_tup (pa_cons pe_int (pa_cons pe_int pa_nil))) (pa_cons (pe_tup (pa_cons pe_int (pa_cons pe_int pa_nil))) (pa_cons (pv 1) pa_nil))))))
              (pss_one (ps_expr (pe_meth (E := EW W 3) (pe_make D.M GI (hr.mono (by decide)) rfl T.mgC D.bI .nil pass0 (pa_cons pe_int (pa_cons pe_int pa_nil))) T.cl mX GX hr4 bX .nil (passesW tk rfl) (pa_cons (pv 1) pa_nil))))))))))
      (fun a oe cls dd pn hz hf => pss_one (ps_ret (pe_and (pe_callB (call_isX hz hf) (by rfl) T.isi (by decide +kernel) (pa_cons (pv 2) (pa_cons (pe_glob (v := .ref CI) rfl R.TX.gI rfl) pa_nil)))
        (pe_and (pe_not (pe_callB (call_isX hz hf) (by rfl) T.isi (by decide +kernel) (pa_cons (pv 2) (pa_cons (pe_glob (v := .ref CN) rfl R.gN rfl) pa_nil))))
        (pe_one (pe_callB (cR a ((a, oe) :: pn)) (by rfl) R.zR (by decide +kernel) (pa_cons (pe_by_thing R.TX.xI hz hf (pv 2)) pa_nil))))))), ?_, ?_⟩
      · intro W D' hW
        have mk : ∀ (t dd : Addr) (u w : V) (ds : List PyData) (H1 H' : Hp), Same H H1 → Same H1 H' → H' t = some (.tup [u, w]) → H' dd = some (XD (.ref t)) → d = .tuple ds → DpAll K H [u, w] ds → EW W 3 (.ref CI) (some dd) H' := fun t dd u w ds H1 H' e1 e2 ht hd ed ha => by
          subst ed
          exact hW _ dd H' (e1.trans e2) hd (.tup (SqT.of ht) (DpAll.ex (e1.trans e2) ds _ ha))
        rcases hc with ⟨rfl, a, u, w', ds, rfl, ha, su, sw, nw, ed, hda⟩ | ⟨hn, bad, hdp⟩
        · refine ⟨_, rfl, rfl, _, rfl, ?_⟩
          rw [int_eqT rfl]
          refine iteT ?_
          refine ⟨_, rfl, a, _, _, _, rfl, rfl, SqT.of ha, atI_nat (j := 0) rfl, _, rfl, a, _, _, _, rfl, rfl, SqT.of ha, atI_nat (j := 1) rfl, fun x dx nx ndx ne => ?_⟩
          have e1 : Same H (upd (upd H dx (.own x)) x (.ins C dx [])) := (same_new ndx).trans (same_new (by rw [upd_ne ne.symm]; exact nx))
          exact ⟨x, u, w', rfl, su, sw, nw, fun t dd H' e2 ht hd => mk t dd u w' ds _ H' e1 e2 ht hd ed hda⟩
        · have fin : ∀ (dd : Addr) (H' : Hp), Same H H' → H' dd = some (XD v) → EW W 3 (.ref CI) (some dd) H' := fun dd H' e' hd => hW v dd H' e' hd (Dp.ex e' d v hdp)
          refine ⟨_, rfl, rfl, _, rfl, ?_⟩
          rw [int_eqF (by omega)]
          refine iteF ?_
          refine ⟨_, rfl, rfl, _, rfl, ?_⟩
          rcases hn with rfl | rfl | rfl
          · rw [int_eqT rfl]
            refine iteT ?_
            exact ⟨_, rfl, v, rfl, bad, fin⟩
          · rw [int_eqF (by decide)]
            refine iteF ?_
            refine ⟨_, rfl, rfl, _, rfl, ?_⟩
            rw [int_eqT rfl]
            refine iteT ?_
            refine ⟨(by show 2 ≤ sizeLine; decide), fun t1 n1 => ⟨(by show 2 ≤ sizeLine; decide), fun t2 n2 => ⟨_, rfl, ?_⟩⟩⟩
            have e2 := (same_new (o := .tup [.int 0, .int 0]) n1).trans (same_new (o := .tup [.int 1, .int 0]) n2)
            exact ⟨.ref t1, .ref t2, v, 0, 0, 1, 0, rfl, ⟨t1, rfl, .inr (same_new n2 _ _ upd_same)⟩, ⟨t2, rfl, .inr upd_same⟩, bad.ex e2, fun dd H' e' hd => fin dd H' (e2.trans e') hd⟩
          · rw [int_eqF (by decide)]
            refine iteF ?_
            refine ⟨_, rfl, rfl, _, rfl, ?_⟩
            rw [int_eqF (by decide)]
            refine iteF ?_
            refine fun x dx nx nd ne => ⟨x, dx, 1, 2, rfl, upd_same, rfl, ?_⟩
            have e1 := made_same (C := C) (X := 1) (Y := 2) nx nd
            have h1 := made_is (C := C) (x := x) (dx := dx) (H := H) (X := 1) (Y := 2)
            obtain ⟨a1, d1, q1, z1⟩ := id h1
            exact ⟨a1, d1, _, q1, z1, cross_no _ _, _, rfl, .ref x, v, _, _, rfl, h1, bad.ex e1, fun dd H' e' hd => fin dd H' (e1.trans e') hd⟩
      · intro a dd v' σ H' D' hσ hd hdp k'
        refine ⟨_, hσ, CI, dd, _, _, _, true, rfl, rfl, rfl, hd, .own CI, R.is, R.k1, true, rfl, ?_⟩
        refine iteT ?_
        refine ⟨_, hσ, CI, dd, _, _, _, false, rfl, rfl, rfl, hd, .own CN, R.is, R.k2, false, rfl, true, rfl, ?_⟩
        refine iteT ?_
        exact ⟨_, hσ, rfl, rfl, dd, v', rfl, hd, v', d, rfl, hdp, sh.s, sh.nd, sh.dp, sh.z, k'⟩
    obtain ⟨tb, ts, hPS, h1, h2⟩ := hT
    refine ⟨_, pss_cons hPS (pss_one ps_never), ?_⟩
    refine h1 _ _ fun v' dd H' e' hd hdp σ hσ => ⟨true, R.ex, fun _ a na => ?_, fun z => nomatch z⟩
    refine h2 a dd v' _ H' _ ?_ hd hdp (k H' e')
    rw [List.getElem?_set_self (by omega)]
end
end Fo

set_option Elab.async false
set_option linter.all false
set_option maxRecDepth 100000
set_option maxHeartbeats 2000000
namespace Fo
open PySem L2
/-! ### the reflected operators, origin, the law's numbers -/
abbrev sRadd : Stmt := inClass (top 7) 4
abbrev sRsub : Stmt := inClass (top 7) 6
abbrev sRmul : Stmt := inClass (top 7) 8
abbrev sOrigin : Stmt := inClass (top 7) 1
abbrev sNumber : Stmt := top 16
abbrev sTwo : Stmt := top 17
def spOrigin (C : Addr) : Sp := fun vs H Q _ => vs = [] ∧ ∀ w H', Same H H' → IsP C w 0 0 H' → Q w H'
def spNumber : Sp := fun vs H Q _ => ∃ p : Addr, vs = [.ref p] ∧ PoolAt p H ∧ ∀ x H', But p H H' → PoolAt p H' → Sm 101 x → Q (.int x) H'
def spTwo : Sp := fun vs H Q _ => ∃ p : Addr, vs = [.ref p] ∧ PoolAt p H ∧ ∀ q x y H', But p H H' → PoolAt p H' → H' q = some (.tup [.int x, .int y]) → Sm 101 x → Sm 101 y → Q (.ref q) H'
section
variable {P : Program} {w : World} {K : PySem.W.Frag} {mg : Str → Option Value} {base : Heap} {C fW fI fP fA fO : Addr} {fdW fdI fdP fdA fdO : FuncData}
theorem scRadd : FnScope ["self", "other"] ["self", "other"] (defScope sRadd) := ⟨rfl, rfl, rfl, by decide +kernel, rfl, by decide +kernel, by decide +kernel⟩
theorem ok_radd {f fS : Addr} {fd fdS : FuncData} (F : Fun K "__radd__" "Point.__radd__" sRadd f fd) (D : Defs K mg C fW fI fP fA fO fdW fdI fdP fdA fdO) (FS : Fun K "__add__" "Point.__add__" sAdd fS fdS) (bS : Binds K fdS ["self", "other"] []) (oS : OwnOp K C .Add fS) :
    FnOk P w K mg base CX0 7 f fd ["self", "other"] (spBin C (· + ·)) := by
  have GS : FnOk P w K mg base CX0 6 fS fdS ["self", "other"] (spBin C (· + ·)) := ok_add FS D
  refine F.ok scRadd (fun vs H Q E h => ?_) (fun cdv A outer s H vs Q E hr h => ?_)
  · obtain ⟨v, u, x, y, z, t, rfl, _⟩ := h
    rfl
  · obtain ⟨v, u, x, y, z, t, rfl, hv, hu, k⟩ := h
    refine ⟨_, pss_one (ps_ret (pe_op (op_own oS FoOps.tup_add GS hr bS pass0) (pv 0) (pv 1))), ?_⟩
    obtain ⟨a, d, q, z'⟩ := id hv
    exact ⟨_, rfl, _, rfl, a, d, _, q, z', hu.opnd, v, u, x, y, z, t, rfl, hv, hu, k⟩
theorem scRsub : FnScope ["self", "other"] ["self", "other"] (defScope sRsub) := ⟨rfl, rfl, rfl, by decide +kernel, rfl, by decide +kernel, by decide +kernel⟩
theorem ok_rsub {f fS : Addr} {fd fdS : FuncData} (F : Fun K "__rsub__" "Point.__rsub__" sRsub f fd) (D : Defs K mg C fW fI fP fA fO fdW fdI fdP fdA fdO) (FS : Fun K "__sub__" "Point.__sub__" sSub fS fdS) (bS : Binds K fdS ["self", "other"] []) (oS : OwnOp K C .Sub fS) :
    FnOk P w K mg base CX0 7 f fd ["self", "other"] (spBin C (fun a b => b - a)) := by
  have GS : FnOk P w K mg base CX0 6 fS fdS ["self", "other"] (spBin C (· - ·)) := ok_sub FS D
  have GO : FnOk P w K mg base CX0 5 fO fdO ["thing"] (spAsPoint C) := D.GO
  refine F.ok scRsub (fun vs H Q E h => ?_) (fun cdv A outer s H vs Q E hr h => ?_)
  · obtain ⟨v, u, x, y, z, t, rfl, _⟩ := h
    rfl
  · obtain ⟨v, u, x, y, z, t, rfl, hv, hu, k⟩ := h
    refine ⟨_, pss_one (ps_ret (pe_op (op_own oS FoOps.tup_sub GS hr bS pass0) (pe_call GO (hr.mono (by decide)) rfl D.mO D.FO.kp D.bO .nil pass0 (pa_cons (pv 1) pa_nil)) (pv 0))), ?_⟩
    refine ⟨_, rfl, u, z, t, rfl, hu, fun w1 H1 e1 h1 _ => ?_⟩
    have hv1 := hv.ex e1
    obtain ⟨a, d, q, z'⟩ := id h1
    exact ⟨_, rfl, a, d, _, q, z', hv1.pt.opnd, w1, v, z, t, x, y, rfl, h1, hv1.pt, fun w2 H2 e2 h2 => k w2 H2 (e1.trans e2) h2⟩
theorem scRmul : FnScope ["self", "other"] ["self", "other"] (defScope sRmul) := ⟨rfl, rfl, rfl, by decide +kernel, rfl, by decide +kernel, by decide +kernel⟩
theorem ok_rmul {f fM g : Addr} {fd fdM : FuncData} (F : Fun K "__rmul__" "Point.__rmul__" sRmul f fd) (D : Defs K mg C fW fI fP fA fO fdW fdI fdP fdA fdO) (FM : Fun K "__mul__" "Point.__mul__" sMul fM fdM) (bM : Binds K fdM ["self", "other"] []) (oM : OwnMul K C fM g) :
    FnOk P w K mg base CX0 5 f fd ["self", "other"] (spMul C) := by
  have GM : FnOk P w K mg base CX0 4 fM fdM ["self", "other"] (spMul C) := ok_mul FM D
  refine F.ok scRmul (fun vs H Q E h => ?_) (fun cdv A outer s H vs Q E hr h => ?_)
  · obtain ⟨v, x, y, m, rfl, _⟩ := h
    rfl
  · obtain ⟨v, x, y, m, rfl, hv, c1, c2, k⟩ := h
    refine ⟨_, pss_one (ps_ret (pe_op (op_ownMul oM GM hr bM pass0) (pv 0) (pv 1))), ?_⟩
    obtain ⟨a, d, q, z'⟩ := id hv
    exact ⟨_, rfl, _, rfl, a, d, _, m, q, z', rfl, v, x, y, m, rfl, hv, c1, c2, k⟩
theorem scOrigin : FnScope [] [] (defScope sOrigin) := ⟨rfl, rfl, rfl, by decide +kernel, rfl, by decide +kernel, by decide +kernel⟩
theorem ok_origin {f : Addr} {fd : FuncData} (F : Fun K "origin" "Point.origin" sOrigin f fd) (D : Defs K mg C fW fI fP fA fO fdW fdI fdP fdA fdO) : FnOk P w K mg base CX0 4 f fd [] (spOrigin C) := by
  have GI : FnOk P w K mg base CX0 2 fI fdI ["self", "x", "y"] (spInit C) := D.GI
  refine F.ok scOrigin (fun vs H Q E h => ?_) (fun cdv A outer s H vs Q E hr h => ?_)
  · obtain ⟨rfl, _⟩ := h
    rfl
  · obtain ⟨rfl, k⟩ := h
    refine ⟨_, pss_one (ps_ret (pe_make D.M GI hr rfl D.T.mgC D.bI .nil pass0 (pa_cons pe_int (pa_cons pe_int pa_nil)))), ?_⟩
    exact make_pt k
theorem scNumber : FnScope ["pool", "number"] ["pool"] (defScope sNumber) := ⟨rfl, rfl, rfl, by decide +kernel, rfl, by decide +kernel, by decide +kernel⟩
theorem menu5 {a b r : Int} (a0 : 0 ≤ a) (a1 : a < 30) (b0 : 0 ≤ b) (b1 : b < 3) (h0 : 0 ≤ r) (h1 : r < 5) : ∃ m : Int, atI [V.int 0, V.int 1, V.int 2, V.int a, V.int ((10 : Int) ^ (30 : Int).toNat + b)] r = some (V.int m) ∧ Sm 101 m := by
  have p : (10 : Int) ^ (30 : Int).toNat = 1000000000000000000000000000000 := by decide
  have : r = 0 ∨ r = 1 ∨ r = 2 ∨ r = 3 ∨ r = 4 := by omega
  unfold Sm
  rcases this with rfl | rfl | rfl | rfl | rfl
  · exact ⟨0, rfl, by decide⟩
  · exact ⟨1, rfl, by decide⟩
  · exact ⟨2, rfl, by decide⟩
  · exact ⟨a, rfl, by omega⟩
  · exact ⟨_, rfl, by rw [p]; omega⟩
theorem ok_number {f fD : Addr} {fd fdD : FuncData} (F : Fun K "_law_number" "_law_number" sNumber f fd) (T : TxtL mg) (FD : Fun K "_law_draw" "_law_draw" sDraw fD fdD) (bD : Binds K fdD ["pool", "many"] []) (mD : mg "_law_draw" = some (.ref fD)) :
    FnOk P w K mg base CX0 2 f fd ["pool"] spNumber := by
  have GD : FnOk P w K mg base CX0 1 fD fdD ["pool", "many"] spDraw := ok_draw FD T
  refine F.ok scNumber (fun vs H Q E h => ?_) (fun cdv A outer s H vs Q E hr h => ?_)
  · obtain ⟨p, rfl, _⟩ := h
    rfl
  · obtain ⟨p, rfl, hp, k⟩ := h
    refine ⟨_, pss_cons (ps_set (i := 1) scNumber.nd rfl (Or.inl rfl) (pe_ix ix_list (pe_lst (pa_cons pe_int (pa_cons pe_int (pa_cons pe_int (pa_cons (pe_call GD hr rfl mD FD.kp bD .nil pass0 (pa_cons (pv 0) (pa_cons pe_int pa_nil)))
        (pa_cons (pe_op op_add (pe_op op_pow pe_int pe_int) (pe_call GD hr rfl mD FD.kp bD .nil pass0 (pa_cons (pv 0) (pa_cons pe_int pa_nil)))) pa_nil)))))) (pe_call GD hr rfl mD FD.kp bD .nil pass0 (pa_cons (pv 0) (pa_cons pe_int pa_nil))) (fun _ _ => rfl)))
      (pss_one (ps_ret (pe_ifExp (pt_cmpR op_eq (pe_call GD hr rfl mD FD.kp bD .nil pass0 (pa_cons (pv 0) (pa_cons pe_int pa_nil))) pe_int (nomark _)) (pv 1) (pe_un un_neg (pv 1))))), ?_⟩
    refine ⟨_, rfl, p, 30, rfl, hp, by decide, by decide, fun a H1 a0 a1 b1 p1 => ?_⟩
    refine ⟨_, _, rfl, rfl, ⟨by decide, by decide, by decide⟩, _, rfl, p, 3, rfl, p1, by decide, by decide, fun b H2 b0 b1' b2 p2 => ?_⟩
    refine ⟨_, _, rfl, rfl, (by show 5 ≤ sizeLine; decide), fun l nl => ?_⟩
    refine ⟨_, rfl, p, 5, rfl, p2.ex (same_new nl), by decide, by decide, fun r H3 r0 r1 b3 p3 => ?_⟩
    have ne : l ≠ p := by
      obtain ⟨i, j, h, _⟩ := p2
      exact (ne_of_none h nl).symm
    obtain ⟨m, hm, sm⟩ := menu5 a0 a1 b0 b1' r0 r1
    refine ⟨l, _, _, _, rfl, rfl, SqL.of (b3 _ _ ne upd_same), hm, ?_⟩
    refine ⟨_, rfl, p, 2, rfl, p3, by decide, by decide, fun c H4 c0 c1 b4 p4 => ?_⟩
    have bb : But p H H4 := ((b1.trans b2).trans (But.of (same_new nl))).trans (b3.trans b4)
    refine ⟨rfl, _, rfl, ?_⟩
    refine ite2 (fun hi => ?_) (fun hi => ?_)
    · exact ⟨_, rfl, k m H4 bb p4 sm⟩
    · refine ⟨_, rfl, _, rfl, k (-m) H4 bb p4 ?_⟩
      unfold Sm at *
      rw [Int.natAbs_neg]
      exact sm
theorem scTwo : FnScope ["pool"] ["pool"] (defScope sTwo) := ⟨rfl, rfl, rfl, by decide +kernel, rfl, by decide +kernel, by decide +kernel⟩
theorem ok_two {f fN fD : Addr} {fd fdN fdD : FuncData} (F : Fun K "_law_two" "_law_two" sTwo f fd) (T : TxtL mg) (FD : Fun K "_law_draw" "_law_draw" sDraw fD fdD) (bD : Binds K fdD ["pool", "many"] []) (mD : mg "_law_draw" = some (.ref fD))
    (FN : Fun K "_law_number" "_law_number" sNumber fN fdN) (bN : Binds K fdN ["pool"] []) (mN : mg "_law_number" = some (.ref fN)) : FnOk P w K mg base CX0 3 f fd ["pool"] spTwo := by
  have GN : FnOk P w K mg base CX0 2 fN fdN ["pool"] spNumber := ok_number FN T FD bD mD
  refine F.ok scTwo (fun vs H Q E h => ?_) (fun cdv A outer s H vs Q E hr h => ?_)
  · obtain ⟨p, rfl, _⟩ := h
    rfl
  · obtain ⟨p, rfl, hp, k⟩ := h
    refine ⟨_, pss_one (ps_ret (pe_tup (pa_cons (pe_call GN hr rfl mN FN.kp bN .nil pass0 (pa_cons (pv 0) pa_nil)) (pa_cons (pe_call GN hr rfl mN FN.kp bN .nil pass0 (pa_cons (pv 0) pa_nil)) pa_nil)))), ?_⟩
    refine ⟨_, rfl, p, rfl, hp, fun x H1 b1 p1 s1 => ?_⟩
    refine ⟨_, rfl, p, rfl, p1, fun y H2 b2 p2 s2 => ?_⟩
    refine ⟨(by show 2 ≤ sizeLine; decide), fun t nt => ?_⟩
    exact k t x y _ ((b1.trans b2).trans (But.of (same_new nt))) (p2.ex (same_new nt)) upd_same s1 s2
end
end Fo

set_option Elab.async false
set_option linter.all false
set_option maxRecDepth 100000
set_option maxHeartbeats 2000000
namespace Fo
open PySem L2
/-! ### small facts of the law -/
theorem seq_gen {t1 t2 : TS} {D : Ends} {σ : L2.St} {H : Hp} (cond : L2.St → Hp → Prop) (h1 : ∀ N : L2.St → Hp → Prop, (∀ σ' H', cond σ' H' → N σ' H') → t1 { D with nx := N } σ H) (h2 : ∀ σ' H', cond σ' H' → t2 D σ' H') : tSeq t1 t2 D σ H := h1 _ h2
abbrev tp (x y : Int) : PyData := .tuple [.int x, .int y]
abbrev tl3 (d : PyData) : PyData := .list [d, d, d]
theorem tp_lay (x y : Int) : (tp x y).canLay0 = true := rfl
theorem tp_sh (x y : Int) : SeqAt.shaped (tp x y) = true := rfl
theorem tl3_sh (x y : Int) : SeqAt.shaped (tl3 (tp x y)) = true := rfl
theorem eqv_sh {d : PyData} (h : SeqAt.shaped d = true) : (!PyData.eqv d d) = false := by
  rw [SeqAt.eqv_refl d (SeqAt.canLay_of_shaped h)]
  rfl
theorem tp_dp {K : PySem.W.Frag} {H : Hp} {a : Addr} {x y : Int} (h : H a = some (.tup [.int x, .int y])) : Dp K H (.ref a) (tp x y) := .tup (SqT.of h) (.cons (.int x) (.cons (.int y) .nil))
theorem tp_eqv (x y z t : Int) : PyData.eqv (tp x y) (tp z t) = (decide (x = z) && decide (y = t)) := by
  by_cases h1 : x = z <;> by_cases h2 : y = t <;> simp [tp, PyData.eqv, PyData.eqvAll, h1, h2]
theorem neT {i j : Int} (h : i = j) : (!decide (V.int i = V.int j)) = false := by
  rw [int_eqT h]
  rfl
theorem bl_ne (b : Bool) : (!decide (V.bl b = V.bl b)) = false := by
  rw [decide_eq_true rfl]
  rfl
theorem str_ne (z : Str) : (!decide (V.str z = V.str z)) = false := by
  rw [decide_eq_true rfl]
  rfl
theorem Sm.add {n : Nat} {x y : Int} (hx : Sm n x) (hy : Sm n y) : Sm (n + 1) (x + y) := by
  unfold Sm at *
  rw [Nat.pow_succ]
  omega
theorem pair_no (x y : Int) : (ptF x y).lookup ("pair" : Str) = none := ptF_no _ _ (by decide +kernel) (by decide +kernel)
/-- the two pairs and their points -/
structure Pts (C pa qa a1 a2 : Addr) (x y z t : Int) (H : Hp) : Prop where
  p : H pa = some (.tup [.int x, .int y])
  q : H qa = some (.tup [.int z, .int t])
  one : IsP C (.ref a1) x y H
  other : IsP C (.ref a2) z t H
theorem Pts.ex {C pa qa a1 a2 : Addr} {x y z t : Int} {H H' : Hp} (e : Same H H') (h : Pts C pa qa a1 a2 x y z t H) : Pts C pa qa a1 a2 x y z t H' := ⟨e _ _ h.p, e _ _ h.q, h.one.ex e, h.other.ex e⟩
theorem IsP.at {C a : Addr} {x y : Int} {H : Hp} (h : IsP C (.ref a) x y H) : ∃ d, H a = some (.ins C d (ptF x y)) := by
  obtain ⟨b, d, e, h⟩ := h
  cases e
  exact ⟨d, h⟩
theorem IsP.ref {C : Addr} {v : V} {x y : Int} {H : Hp} (h : IsP C v x y H) : ∃ a, v = .ref a := by
  obtain ⟨b, d, e, h⟩ := h
  exact ⟨b, e⟩
theorem pt_of {C a : Addr} {x y : Int} {H : Hp} (h : H a = some (.tup [.int x, .int y])) : IsPt C (.ref a) x y H := ⟨a, rfl, .inr h⟩
/-- a pair with a part that is no integer, and what repr shows of it -/
def Two (K : PySem.W.Frag) (H : Hp) (v : V) (d : PyData) : Prop := ShowsOk d ∧ ∃ a u w ds, v = .ref a ∧ H a = some (.tup [u, w]) ∧ Scal u ∧ Scal w ∧ (wholeV u && wholeV w) = false ∧ d = .tuple ds ∧ DpAll K H [u, w] ds
def Odd (K : PySem.W.Frag) (H : Hp) (v : V) (d : PyData) : Prop := ShowsOk d ∧ SeqAt.shaped (tl3 (.str d.shown)) = true ∧ Bad H v ∧ Dp K H v d
theorem Two.ex {K : PySem.W.Frag} {H H' : Hp} {v : V} {d : PyData} (e : Same H H') (h : Two K H v d) : Two K H' v d := by
  obtain ⟨s, a, u, w, ds, e1, h1, su, sw, n, e2, h2⟩ := h
  exact ⟨s, a, u, w, ds, e1, e _ _ h1, su, sw, n, e2, DpAll.ex e ds _ h2⟩
theorem Odd.ex {K : PySem.W.Frag} {H H' : Hp} {v : V} {d : PyData} (e : Same H H') (h : Odd K H v d) : Odd K H' v d := ⟨h.1, h.2.1, h.2.2.1.ex e, Dp.ex e d v h.2.2.2⟩
theorem Two.dp {K : PySem.W.Frag} {H : Hp} {v : V} {d : PyData} (h : Two K H v d) : Dp K H v d := by
  obtain ⟨s, a, u, w, ds, rfl, h1, su, sw, n, rfl, h2⟩ := h
  exact .tup (SqT.of h1) h2
theorem shows_by {d : PyData} (h : (d.showable && !d.hasDict && decide (d.depth ≤ 60) && decide (d.shown.length ≤ 1000)) = true) : ShowsOk d := by
  simp only [Bool.and_eq_true, Bool.not_eq_true', decide_eq_true_eq] at h
  exact ⟨h.1.1.1, h.1.1.2, h.1.2, Nat.le_trans h.2 (by decide)⟩
theorem shows_n1 : ShowsOk (.tuple [.none, .int 1]) := shows_by (by decide +kernel)
theorem shows_t1 : ShowsOk (.tuple [.bool true, .int 1]) := shows_by (by decide +kernel)
theorem shows_12 : ShowsOk (.tuple [.int 1, .str "2"]) := shows_by (by decide +kernel)
theorem shows_0f : ShowsOk (.tuple [.int 0, .bool false]) := shows_by (by decide +kernel)
theorem odd_by {d : PyData} (h : (d.showable && !d.hasDict && decide (d.depth ≤ 60) && decide (d.shown.length ≤ 1000)) = true) (h2 : SeqAt.shaped (tl3 (.str d.shown)) = true) {K : PySem.W.Frag} {H : Hp} {v : V} (b : Bad H v) (p : Dp K H v d) : Odd K H v d := ⟨shows_by h, h2, b, p⟩
theorem odd_none {K : PySem.W.Frag} {H : Hp} : Odd K H .non .none := odd_by (by decide +kernel) (by decide +kernel) .non .non
theorem odd_5 {K : PySem.W.Frag} {H : Hp} : Odd K H (.int 5) (.int 5) := odd_by (by decide +kernel) (by decide +kernel) (.int 5) (.int 5)
theorem odd_ab {K : PySem.W.Frag} {H : Hp} : Odd K H (.str "ab") (.str "ab") := odd_by (by decide +kernel) (by decide +kernel) (.str _) (.str _)
theorem odd_1 {K : PySem.W.Frag} {H : Hp} {a : Addr} (h : H a = some (.tup [.int 1])) : Odd K H (.ref a) (.tuple [.int 1]) := odd_by (by decide +kernel) (by decide +kernel) (.tup h (by decide)) (.tup (SqT.of h) (.cons (.int 1) .nil))
theorem odd_123 {K : PySem.W.Frag} {H : Hp} {a : Addr} (h : H a = some (.tup [.int 1, .int 2, .int 3])) : Odd K H (.ref a) (.tuple [.int 1, .int 2, .int 3]) := odd_by (by decide +kernel) (by decide +kernel) (.tup h (by decide)) (.tup (SqT.of h) (.cons (.int 1) (.cons (.int 2) (.cons (.int 3) .nil))))
theorem odd_l12 {K : PySem.W.Frag} {H : Hp} {a : Addr} (h : H a = some (.lst [.int 1, .int 2])) : Odd K H (.ref a) (.list [.int 1, .int 2]) := odd_by (by decide +kernel) (by decide +kernel) (.lst h) (.lst (SqL.of h) (.cons (.int 1) (.cons (.int 2) .nil)))
theorem odd_t0 {K : PySem.W.Frag} {H : Hp} {a : Addr} (h : H a = some (.tup [.bl true, .int 0])) : Odd K H (.ref a) (.tuple [.bool true, .int 0]) := odd_by (by decide +kernel) (by decide +kernel) (.two h trivial trivial rfl) (.tup (SqT.of h) (.cons (.bl true) (.cons (.int 0) .nil)))
theorem odd_1n {K : PySem.W.Frag} {H : Hp} {a : Addr} (h : H a = some (.tup [.int 1, .non])) : Odd K H (.ref a) (.tuple [.int 1, .none]) := odd_by (by decide +kernel) (by decide +kernel) (.two h trivial trivial rfl) (.tup (SqT.of h) (.cons (.int 1) (.cons .non .nil)))
theorem side_zero (x y z t : Int) : sideI z t (z + x) (t + y) ((x + z) * 1) ((y + t) * 1) = 0 := by
  unfold sideI
  have e1 : z + x - z = x := by omega
  have e2 : (y + t) * 1 - t = y := by omega
  have e3 : t + y - t = y := by omega
  have e4 : (x + z) * 1 - z = x := by omega
  rw [e1, e2, e3, e4, Int.mul_comm y x]
  omega
end Fo

set_option Elab.async false
set_option linter.all false
set_option maxRecDepth 100000
set_option maxHeartbeats 2000000
namespace Fo
open PySem L2
abbrev sLaw : Stmt := top 19
abbrev lawN : List Str := ["script", "k", "pool", "p", "q", "many", "one", "other", "plus", "minus", "times", "cross", "thing", "odd", "door"]
theorem scLaw : FnScope lawN ["script"] (defScope sLaw) := ⟨rfl, rfl, rfl, by decide +kernel, rfl, by decide +kernel, by decide +kernel⟩
def spLaw (K : PySem.W.Frag) : Sp := fun vs H Q _ => ∃ (a : Addr) (ns : List Int), vs = [.ref a] ∧ SqL K H a (ns.map V.int) ∧ ns.length ≤ 63 ∧ ∀ H', Q (.bl true) H'
/-- the law's own helpers and the other defs, as they stand -/
structure LDefs (P : Program) (K : PySem.W.Frag) (mg : Str → Option Value) (C CI fII CF CN fH fD fN fTw fR fQ fSd fX fAd fS fRa fRs fM fRm fE fPm fOr pO : Addr) (fdH fdD fdN fdTw fdR fdQ fdSd fdX fdAd fdS fdRa fdRs fdM fdRm fdE fdPm fdOr : FuncData) : Prop where
  TL : TxtL mg
  R : RTxt P K mg C CI fII CF CN
  FH : Fun K "_law_hand" "_law_hand" sHand fH fdH
  bH : Binds K fdH ["script", "k"] []
  mH : mg "_law_hand" = some (.ref fH)
  FD : Fun K "_law_draw" "_law_draw" sDraw fD fdD
  bD : Binds K fdD ["pool", "many"] []
  mD : mg "_law_draw" = some (.ref fD)
  FN : Fun K "_law_number" "_law_number" sNumber fN fdN
  bN : Binds K fdN ["pool"] []
  mN : mg "_law_number" = some (.ref fN)
  FTw : Fun K "_law_two" "_law_two" sTwo fTw fdTw
  bTw : Binds K fdTw ["pool"] []
  mTw : mg "_law_two" = some (.ref fTw)
  FR : Fun K "_law_refused" "_law_refused" sRefused fR fdR
  bR : Binds K fdR ["door", "thing"] []
  mR : mg "_law_refused" = some (.ref fR)
  FQ : Fun K "quarter" "quarter" sQuarter fQ fdQ
  bQ : Binds K fdQ ["point"] []
  mQ : mg "quarter" = some (.ref fQ)
  FSd : Fun K "side" "side" sSide fSd fdSd
  bSd : Binds K fdSd ["a", "b", "point"] []
  mSd : mg "side" = some (.ref fSd)
  FX : Fun K "cross" "Point.cross" sCross fX fdX
  bX : Binds K fdX ["self", "other"] []
  mX : Meth K C "cross" fX
  FAd : Fun K "__add__" "Point.__add__" sAdd fAd fdAd
  bAd : Binds K fdAd ["self", "other"] []
  oA : OwnOp K C .Add fAd
  FS : Fun K "__sub__" "Point.__sub__" sSub fS fdS
  bS : Binds K fdS ["self", "other"] []
  oS : OwnOp K C .Sub fS
  FRa : Fun K "__radd__" "Point.__radd__" sRadd fRa fdRa
  bRa : Binds K fdRa ["self", "other"] []
  oRA : OwnRefl K C .Add fAd fRa
  FRs : Fun K "__rsub__" "Point.__rsub__" sRsub fRs fdRs
  bRs : Binds K fdRs ["self", "other"] []
  oRS : OwnRefl K C .Sub fS fRs
  FM : Fun K "__mul__" "Point.__mul__" sMul fM fdM
  bM : Binds K fdM ["self", "other"] []
  oM : OwnMul K C fM fRm
  FRm : Fun K "__rmul__" "Point.__rmul__" sRmul fRm fdRm
  bRm : Binds K fdRm ["self", "other"] []
  oRM : OwnRefl K C .Mult fM fRm
  sI : PySem.W.subIn K (.ref C) (.type "int") = some false
  FE : Fun K "__eq__" "Point.__eq__" sEq fE fdE
  bE : Binds K fdE ["self", "other"] []
  oE : OwnEqC K C fE
  FPm : Fun K "pair" "Point.pair" sPairM fPm fdPm
  bPm : Binds K fdPm ["self"] []
  mPm : Meth K C "pair" fPm
  FOr : Fun K "origin" "Point.origin" sOrigin fOr fdOr
  bOr : Binds K fdOr [] []
  sOr : Stat K C "origin" pO fOr
section
variable {P : Program} {w : World} {K : PySem.W.Frag} {mg : Str → Option Value} {base : Heap} {C fW fI fP fA fO CI fII CF CN fH fD fN fTw fR fQ fSd fX fAd fS fRa fRs fM fRm fE fPm fOr pO : Addr} {fdW fdI fdP fdA fdO fdH fdD fdN fdTw fdR fdQ fdSd fdX fdAd fdS fdRa fdRs fdM fdRm fdE fdPm fdOr : FuncData}
theorem ok_law {f : Addr} {fd : FuncData} (F : Fun K "law" "law" sLaw f fd) (D : Defs K mg C fW fI fP fA fO fdW fdI fdP fdA fdO) (L : LDefs P K mg C CI fII CF CN fH fD fN fTw fR fQ fSd fX fAd fS fRa fRs fM fRm fE fPm fOr pO fdH fdD fdN fdTw fdR fdQ fdSd fdX fdAd fdS fdRa fdRs fdM fdRm fdE fdPm fdOr) :
    FnG P w K mg base CX0 9 f fd ["script"] (spLaw K) := by
  have GR : FnG P w K mg base CX0 8 fR fdR ["door", "thing"] (spRefused K) := ok_refused L.FR D L.FS L.bS L.oS L.FX L.bX L.mX L.FQ L.bQ L.mQ L.FSd L.bSd L.mSd L.R
  have GSd : FnOk P w K mg base CX0 7 fSd fdSd ["a", "b", "point"] (spSide C) := ok_side L.FSd D
  have GX : FnOk P w K mg base CX0 5 fX fdX ["self", "other"] (spCross C) := ok_cross L.FX D
  have GQ : FnOk P w K mg base CX0 5 fQ fdQ ["point"] (spQuarter C) := ok_quarter L.FQ D
  have GAd : FnOk P w K mg base CX0 6 fAd fdAd ["self", "other"] (spBin C (· + ·)) := ok_add L.FAd D
  have GS : FnOk P w K mg base CX0 6 fS fdS ["self", "other"] (spBin C (· - ·)) := ok_sub L.FS D
  have GRa : FnOk P w K mg base CX0 7 fRa fdRa ["self", "other"] (spBin C (· + ·)) := ok_radd L.FRa D L.FAd L.bAd L.oA
  have GRs : FnOk P w K mg base CX0 7 fRs fdRs ["self", "other"] (spBin C (fun a b => b - a)) := ok_rsub L.FRs D L.FS L.bS L.oS
  have GM : FnOk P w K mg base CX0 4 fM fdM ["self", "other"] (spMul C) := ok_mul L.FM D
  have GRm : FnOk P w K mg base CX0 5 fRm fdRm ["self", "other"] (spMul C) := ok_rmul L.FRm D L.FM L.bM L.oM
  have GE : FnOk P w K mg base CX0 1 fE fdE ["self", "other"] (spEqP C) := ok_eq L.FE D.T
  have GPm : FnOk P w K mg base CX0 1 fPm fdPm ["self"] (spPairM C) := ok_pairM L.FPm D.T
  have GOr : FnOk P w K mg base CX0 4 fOr fdOr [] (spOrigin C) := ok_origin L.FOr D
  have GI : FnOk P w K mg base CX0 2 fI fdI ["self", "x", "y"] (spInit C) := D.GI
  have GH : FnOk P w K mg base CX0 1 fH fdH ["script", "k"] (spHand K) := ok_hand L.FH L.TL
  have GN : FnOk P w K mg base CX0 2 fN fdN ["pool"] spNumber := ok_number L.FN L.TL L.FD L.bD L.mD
  have GTw : FnOk P w K mg base CX0 3 fTw fdTw ["pool"] spTwo := ok_two L.FTw L.TL L.FD L.bD L.mD L.FN L.bN L.mN
  refine F.okG scLaw (fun vs H Q E h => ?_) (fun cdv A outer s H vs Q E hgd0 hr h => ?_)
  · obtain ⟨a, ns, rfl, _⟩ := h
    rfl
  · obtain ⟨sa, ns, rfl, hS, hlen, k⟩ := h
    have hgd : (A.deeper (PyProof.Rows.envOfC (Str.ofString "law") (defScope sLaw) s.heap.objs.size f cdv)).guards = some [] := hgd0
    have hr8 : Room 8 _ := hr
    have hr7 : Room 7 _ := hr.mono (by decide)
    have hr6 : Room 6 _ := hr.mono (by decide)
    have hr5 : Room 5 _ := hr.mono (by decide)
    have hr4 : Room 4 _ := hr.mono (by decide)
    have hr3 : Room 3 _ := hr.mono (by decide)
    have hr2 : Room 2 _ := hr.mono (by decide)
    have hr1 : Room 1 _ := hr.mono (by decide)
    have hu : (A.deeper (PyProof.Rows.envOfC (Str.ofString "law") (defScope sLaw) s.heap.objs.size f cdv)).units + 64 < cLine := by
      have := hr.un
      omega
    have cR : CallR (cxOf CX0 P w K mg base lawN "law" (defScope sLaw) f cdv A outer s H E).nox (.builtin "repr") (rReprD K) := call_reprD hgd0 hu
    refine ⟨_, pss_cons (ps_for PassesOwn.never rfl (pi_range1 rfl L.TL.range (pa_cons (pe_callB (call_max2 rfl) (by rfl) L.TL.max (by decide +kernel) (pa_cons pe_int (pa_cons (pe_callB (call_min2 rfl) (by rfl) L.TL.min (by decide +kernel) (pa_cons (pe_callB call_len_seq (by rfl) L.TL.len PySem.boot_len (pa_cons (pv 0) pa_nil)) (pa_cons pe_int pa_nil))) pa_nil))) pa_nil)) (pg_name (i := 1) scLaw.nd rfl (Or.inl rfl))
        (pss_cons (ps_set (i := 2) scLaw.nd rfl (Or.inl rfl) (pe_call GH hr1 rfl L.mH L.FH.kp L.bH .nil pass0 (pa_cons (pv 0) (pa_cons (pv 1) pa_nil))))
        (pss_cons (ps_par3 (i := 3) (j := 4) (l := 5) (by rfl) scLaw.nd rfl rfl rfl (by decide) (by decide) (by decide) rfl rfl rfl (pa_cons (pe_call GTw hr3 rfl L.mTw L.FTw.kp L.bTw .nil pass0 (pa_cons (pv 2) pa_nil)) (pa_cons (pe_call GTw hr3 rfl L.mTw L.FTw.kp L.bTw .nil pass0 (pa_cons (pv 2) pa_nil)) (pa_cons (pe_call GN hr2 rfl L.mN L.FN.kp L.bN .nil pass0 (pa_cons (pv 2) pa_nil)) pa_nil))) (by rfl))
        (pss_cons (ps_par (i := 6) (j := 7) (by rfl) scLaw.nd rfl rfl (by decide) rfl rfl (pa_cons (pe_make D.M GI hr3 rfl D.T.mgC D.bI .nil pass0 (pa_cons (pe_ix (r := rIxT K) ix_tup (pv 3) pe_int (fun _ _ => rfl)) (pa_cons (pe_ix (r := rIxT K) ix_tup (pv 3) pe_int (fun _ _ => rfl)) pa_nil))) (pa_cons (pe_make D.M GI hr3 rfl D.T.mgC D.bI .nil pass0 (pa_cons (pe_ix (r := rIxT K) ix_tup (pv 4) pe_int (fun _ _ => rfl)) (pa_cons (pe_ix (r := rIxT K) ix_tup (pv 4) pe_int (fun _ _ => rfl)) pa_nil))) pa_nil)) (by rfl))
        (pss_cons (ps_if (PW.pt (pw_or (pt_cmpR (op_neD hr.units) (pe_tup (pa_cons (pe_fld (pv 6) rfl) (pa_cons (pe_fld (pv 6) rfl) pa_nil))) (pv 3) (nomark _)) (pw_or (pt_cmpR (op_neD hr.units) (pe_meth0 (pv 6) D.T.cl L.mPm GPm hr1 L.bPm .nil pass0) (pv 3) (nomark _)) (pw_or (pt_cmpR op_ne (pe_cmpR (op_ownEq L.oE GE hr1 L.bE pass0) (pv 6) (pv 7) (nomark _)) (pe_cmpR (op_eqD hr.units) (pv 3) (pv 4) (nomark _)) (nomark _)) (pw_or1 (pt_cmpR (op_ownEq L.oE GE hr1 L.bE pass0) (pv 6) (pv 3) (nomark _))))))) (pss_one (ps_ret pe_bl)) pss_nil)
        (pss_cons (ps_par (i := 8) (j := 9) (by rfl) scLaw.nd rfl rfl (by decide) rfl rfl (pa_cons (pe_tup (pa_cons (pe_op op_add (pe_ix (r := rIxT K) ix_tup (pv 3) pe_int (fun _ _ => rfl)) (pe_ix (r := rIxT K) ix_tup (pv 4) pe_int (fun _ _ => rfl))) (pa_cons (pe_op op_add (pe_ix (r := rIxT K) ix_tup (pv 3) pe_int (fun _ _ => rfl)) (pe_ix (r := rIxT K) ix_tup (pv 4) pe_int (fun _ _ => rfl))) pa_nil))) (pa_cons (pe_tup (pa_cons (pe_op op_sub (pe_ix (r := rIxT K) ix_tup (pv 3) pe_int (fun _ _ => rfl)) (pe_ix (r := rIxT K) ix_tup (pv 4) pe_int (fun _ _ => rfl))) (pa_cons (pe_op op_sub (pe_ix (r := rIxT K) ix_tup (pv 3) pe_int (fun _ _ => rfl)) (pe_ix (r := rIxT K) ix_tup (pv 4) pe_int (fun _ _ => rfl))) pa_nil))) pa_nil)) (by rfl))
        (pss_cons (ps_if (pt_cmpR (op_neD hr.units) (pe_lst (pa_cons (pe_meth0 (pe_op (op_own L.oA FoOps.tup_add GAd hr6 L.bAd pass0) (pv 6) (pv 7)) D.T.cl L.mPm GPm hr1 L.bPm .nil pass0) (pa_cons (pe_meth0 (pe_op (op_own L.oA FoOps.tup_add GAd hr6 L.bAd pass0) (pv 6) (pv 4)) D.T.cl L.mPm GPm hr1 L.bPm .nil pass0) (pa_cons (pe_meth0 (pe_op (op_reflT L.oRA FoOps.tup_add GRa hr7 L.bRa pass0) (pv 3) (pv 7)) D.T.cl L.mPm GPm hr1 L.bPm .nil pass0) pa_nil)))) (pe_lst (pa_cons (pv 8) (pa_cons (pv 8) (pa_cons (pv 8) pa_nil)))) (nomark _)) (pss_one (ps_ret pe_bl)) pss_nil)
        (pss_cons (ps_if (pt_cmpR (op_neD hr.units) (pe_lst (pa_cons (pe_meth0 (pe_op (op_own L.oS FoOps.tup_sub GS hr6 L.bS pass0) (pv 6) (pv 7)) D.T.cl L.mPm GPm hr1 L.bPm .nil pass0) (pa_cons (pe_meth0 (pe_op (op_own L.oS FoOps.tup_sub GS hr6 L.bS pass0) (pv 6) (pv 4)) D.T.cl L.mPm GPm hr1 L.bPm .nil pass0) (pa_cons (pe_meth0 (pe_op (op_reflT L.oRS FoOps.tup_sub GRs hr7 L.bRs pass0) (pv 3) (pv 7)) D.T.cl L.mPm GPm hr1 L.bPm .nil pass0) pa_nil)))) (pe_lst (pa_cons (pv 9) (pa_cons (pv 9) (pa_cons (pv 9) pa_nil)))) (nomark _)) (pss_one (ps_ret pe_bl)) pss_nil)
        (pss_cons (ps_set (i := 10) scLaw.nd rfl (Or.inl rfl) (pe_tup (pa_cons (pe_op op_mulW (pe_ix (r := rIxT K) ix_tup (pv 3) pe_int (fun _ _ => rfl)) (pv 5)) (pa_cons (pe_op op_mulW (pe_ix (r := rIxT K) ix_tup (pv 3) pe_int (fun _ _ => rfl)) (pv 5)) pa_nil))))
        (pss_cons (ps_if (PW.pt (pw_or (pt_cmpR (op_neD hr.units) (pe_meth0 (pe_op (op_ownMul L.oM GM hr4 L.bM pass0) (pv 6) (pv 5)) D.T.cl L.mPm GPm hr1 L.bPm .nil pass0) (pv 10) (nomark _)) (pw_or (pt_cmpR (op_neD hr.units) (pe_meth0 (pe_op (op_reflI L.oRM L.sI GRm hr5 L.bRm pass0) (pv 5) (pv 6)) D.T.cl L.mPm GPm hr1 L.bPm .nil pass0) (pv 10) (nomark _)) (pw_or1 (pt_cmpR (op_neD hr.units) (pe_meth0 (pv 6) D.T.cl L.mPm GPm hr1 L.bPm .nil pass0) (pv 3) (nomark _)))))) (pss_one (ps_ret pe_bl)) pss_nil)
        (pss_cons (ps_set (i := 11) scLaw.nd rfl (Or.inl rfl) (pe_op op_sub (pe_op op_mulW (pe_ix (r := rIxT K) ix_tup (pv 3) pe_int (fun _ _ => rfl)) (pe_ix (r := rIxT K) ix_tup (pv 4) pe_int (fun _ _ => rfl))) (pe_op op_mulW (pe_ix (r := rIxT K) ix_tup (pv 3) pe_int (fun _ _ => rfl)) (pe_ix (r := rIxT K) ix_tup (pv 4) pe_int (fun _ _ => rfl)))))
        (pss_cons (ps_if (PW.pt (pw_or (pt_cmpR op_ne (pe_meth (pv 6) D.T.cl L.mX GX hr5 L.bX .nil pass0 (pa_cons (pv 7) pa_nil)) (pv 11) (nomark _)) (pw_or (pt_cmpR op_ne (pe_meth (pv 6) D.T.cl L.mX GX hr5 L.bX .nil pass0 (pa_cons (pv 4) pa_nil)) (pv 11) (nomark _)) (pw_or1 (pt_cmpR op_ne (pe_call GSd hr7 rfl L.mSd L.FSd.kp L.bSd .nil pass0 (pa_cons (pe_tup (pa_cons pe_int (pa_cons pe_int pa_nil))) (pa_cons (pv 3) (pa_cons (pv 7) pa_nil)))) (pv 11) (nomark _)))))) (pss_one (ps_ret pe_bl)) pss_nil)
        (pss_cons (ps_if (PW.pt (pw_or (pt_cmpR (op_neD hr.units) (pe_meth0 (pe_call GQ hr5 rfl L.mQ L.FQ.kp L.bQ .nil pass0 (pa_cons (pv 6) pa_nil)) D.T.cl L.mPm GPm hr1 L.bPm .nil pass0) (pe_tup (pa_cons (pe_un un_neg (pe_ix (r := rIxT K) ix_tup (pv 3) pe_int (fun _ _ => rfl))) (pa_cons (pe_ix (r := rIxT K) ix_tup (pv 3) pe_int (fun _ _ => rfl)) pa_nil))) (nomark _)) (pw_or (pt_cmpR (op_ownNe L.oE GE hr2 L.bE pass0) (pe_call GQ hr5 rfl L.mQ L.FQ.kp L.bQ .nil pass0 (pa_cons (pv 3) pa_nil)) (pe_make D.M GI hr3 rfl D.T.mgC D.bI .nil pass0 (pa_cons (pe_un un_neg (pe_ix (r := rIxT K) ix_tup (pv 3) pe_int (fun _ _ => rfl))) (pa_cons (pe_ix (r := rIxT K) ix_tup (pv 3) pe_int (fun _ _ => rfl)) pa_nil))) (nomark _)) (pw_or1 (pt_cmpR op_lt (pe_meth (pv 6) D.T.cl L.mX GX hr5 L.bX .nil pass0 (pa_cons (pe_call GQ hr5 rfl L.mQ L.FQ.kp L.bQ .nil pass0 (pa_cons (pv 6) pa_nil)) pa_nil)) pe_int (nomark _)))))) (pss_one (ps_ret pe_bl)) pss_nil)
        (pss_cons (ps_if (pt_cmpR op_ne (pe_call GSd hr7 rfl L.mSd L.FSd.kp L.bSd .nil pass0 (pa_cons (pv 4) (pa_cons (pe_tup (pa_cons (pe_op op_add (pe_ix (r := rIxT K) ix_tup (pv 4) pe_int (fun _ _ => rfl)) (pe_ix (r := rIxT K) ix_tup (pv 3) pe_int (fun _ _ => rfl))) (pa_cons (pe_op op_add (pe_ix (r := rIxT K) ix_tup (pv 4) pe_int (fun _ _ => rfl)) (pe_ix (r := rIxT K) ix_tup (pv 3) pe_int (fun _ _ => rfl))) pa_nil))) (pa_cons (pe_op (op_ownMul L.oM GM hr4 L.bM pass0) (pe_op (op_own L.oA FoOps.tup_add GAd hr6 L.bAd pass0) (pv 6) (pv 7)) pe_int) pa_nil)))) pe_int (nomark _)) (pss_one (ps_ret pe_bl)) pss_nil)
        (pss_cons (ps_for PassesOwn.never rfl (pi_list (pe_lst (pa_cons (pe_tup (pa_cons pe_non (pa_cons pe_int pa_nil))) (pa_cons (pe_tup (pa_cons pe_bl (pa_cons pe_int pa_nil))) (pa_cons (pe_tup (pa_cons pe_int (pa_cons pe_str pa_nil))) (pa_cons (pe_tup (pa_cons pe_int (pa_cons pe_bl pa_nil))) pa_nil)))))) (pg_name (i := 12) scLaw.nd rfl (Or.inl rfl))
        (pss_one (ps_if (pt_cmpR op_ne (pe_callG GR hgd hr8 rfl L.mR L.FR.kp L.bR pass0 (pa_cons pe_int (pa_cons (pv 12) pa_nil))) (pe_callB cR (by rfl) L.R.zR (by decide +kernel) (pa_cons (pv 12) pa_nil)) (nomark _)) (pss_one (ps_ret pe_bl)) pss_nil)))
        (pss_one (ps_for PassesOwn.never rfl (pi_list (pe_lst (pa_cons pe_non (pa_cons pe_int (pa_cons (pe_tup (pa_cons pe_int pa_nil)) (pa_cons (pe_tup (pa_cons pe_int (pa_cons pe_int (pa_cons pe_int pa_nil)))) (pa_cons (pe_lst (pa_cons pe_int (pa_cons pe_int pa_nil))) (pa_cons (pe_tup (pa_cons pe_bl (pa_cons pe_int pa_nil))) (pa_cons pe_str (pa_cons (pe_tup (pa_cons pe_int (pa_cons pe_non pa_nil))) pa_nil)))))))))) (pg_name (i := 13) scLaw.nd rfl (Or.inr rfl))
        (pss_one (ps_if (pt_cmpR (op_neD hr.units) (pe_lc (own := [("door", 14)]) (g := gName 14) (tt := tYes) rfl scLaw.nd (pi_range2 rfl L.TL.range (pa_cons pe_int (pa_cons pe_int pa_nil))) (blkOk_by (own := [("door", 14)]) (N := lawN) (sc := defScope sLaw) (by decide +kernel)) (fun _ _ _ _ _ => pg_name (i := 14) scLaw.nd rfl (Or.inl rfl)) (fun _ _ _ _ _ => pts_nil) (fun _ _ _ _ _ => (pe_callG GR hgd hr8 rfl L.mR L.FR.kp L.bR pass0 (pa_cons (pv 14) (pa_cons (pv 13) pa_nil))))) (pe_op op_rep (pe_lst (pa_cons (pe_callB cR (by rfl) L.R.zR (by decide +kernel) (pa_cons (pv 13) pa_nil)) pa_nil)) pe_int) (nomark _)) (pss_one (ps_ret pe_bl)) pss_nil)))))))))))))))))))
      (pss_one (ps_ret (pe_cmpR (op_ownEq L.oE GE hr1 L.bE pass0) (pe_static0 (pe_glob (v := .ref C) rfl D.T.mgC rfl) L.sOr GOr hr4 L.bOr pass0) (pe_make D.M GI hr3 rfl D.T.mgC D.bI .nil pass0 (pa_cons pe_int (pa_cons pe_int pa_nil))) (nomark _)))), ?_⟩
    -- range(max(1, min(len(script), 8)))
    refine ⟨_, rfl, sa, _, rfl, .inl hS, _, _, rfl, _, _, rfl, ?_⟩
    have hn8 : ∀ z : Int, z = (if (if (8 : Int) < ((ns.map V.int).length : Int) then (8 : Int) else ((ns.map V.int).length : Int)) > 1 then (if (8 : Int) < ((ns.map V.int).length : Int) then (8 : Int) else ((ns.map V.int).length : Int)) else 1) → 0 ≤ z ∧ z ≤ 8 := by
      intro z hz
      split at hz <;> split at hz <;> omega
    obtain ⟨n0, n8⟩ := hn8 _ rfl
    refine ⟨_, rfl, by omega, by omega, ?_⟩
    refine for_range (lo := 0) (fun i σ H' => ∃ v1 v2 v3 v4 v5 v6 v7 v8 v9 v10 v11 v12 v13 v14 : Option V, σ = [some (.ref sa), v1, v2, v3, v4, v5, v6, v7, v8, v9, v10, v11, v12, v13, v14] ∧ Same H H')
      ⟨_, _, _, _, _, _, _, _, _, _, _, _, _, _, rfl, Same.refl _⟩ ?_ ?_
    case refine_2 =>
      rintro σ H' ⟨v1, v2, v3, v4, v5, v6, v7, v8, v9, v10, v11, v12, v13, v14, rfl, eH⟩
      -- Point.origin() == Point(0, 0)
      refine ⟨rfl, fun o1 H1 e1 h1 => ?_⟩
      refine fun c dc nc nd ne => ⟨c, dc, 0, 0, rfl, upd_same, rfl, ?_⟩
      have e2 := made_same (C := C) (X := 0) (Y := 0) nc nd
      have h2 := made_is (C := C) (x := c) (dx := dc) (H := H1) (X := 0) (Y := 0)
      have h12 := h1.ex e2
      obtain ⟨b1, d1, q1, z1⟩ := id h12
      obtain ⟨b2, d2, q2, z2⟩ := id h2
      refine ⟨b1, d1, _, q1, z1, .inl ⟨b2, d2, _, q2, z2⟩, o1, .ref c, 0, 0, 0, 0, rfl, h12, .inl ⟨h2, ?_⟩⟩
      exact k _
    rintro i σ H0 hi ⟨v1, v2, v3, v4, v5, v6, v7, v8, v9, v10, v11, v12, v13, v14, rfl, eH⟩
    have hik : (i : Int) ≤ 100 := by omega
    clear hn8 n0 n8 hi
    -- pool = _law_hand(script, k)
    refine seq_gen (fun σ' H' => ∃ pl, σ' = [some (.ref sa), some (.int (0 + i)), some (.ref pl), v3, v4, v5, v6, v7, v8, v9, v10, v11, v12, v13, v14] ∧ H0 pl = none ∧ Same H0 H' ∧ PoolAt pl H') (fun N hN => ?_) ?_
    · refine ⟨_, rfl, _, rfl, sa, ns, _, rfl, eH.seq hS, hlen, by omega, by omega, fun pl H1 hpl e1 p1 => ?_⟩
      exact hN _ _ ⟨pl, rfl, hpl, e1, p1⟩
    rintro σ H1 ⟨pl, rfl, hpl, e1, p1⟩
    -- p, q, many
    refine seq_gen (fun σ' H' => ∃ (pa qa : Addr) (x y z t m : Int), σ' = [some (.ref sa), some (.int (0 + i)), some (.ref pl), some (.ref pa), some (.ref qa), some (.int m), v6, v7, v8, v9, v10, v11, v12, v13, v14] ∧ Same H0 H' ∧ H' pa = some (.tup [.int x, .int y]) ∧ H' qa = some (.tup [.int z, .int t]) ∧ Sm 101 x ∧ Sm 101 y ∧ Sm 101 z ∧ Sm 101 t ∧ Sm 101 m) (fun N hN => ?_) ?_
    · refine ⟨_, rfl, pl, rfl, p1, fun pa x y H2 b2 p2 hp sx sy => ?_⟩
      have ne1 : pa ≠ pl := by
        obtain ⟨i', j', h', _⟩ := p2
        exact ne_of hp h' (by intro z; cases z)
      refine ⟨_, rfl, pl, rfl, p2, fun qa z t H3 b3 p3 hq sz st => ?_⟩
      have ne2 : qa ≠ pl := by
        obtain ⟨i', j', h', _⟩ := p3
        exact ne_of hq h' (by intro z; cases z)
      refine ⟨_, rfl, pl, rfl, p3, fun m H4 b4 p4 sm => ?_⟩
      refine ⟨_, _, _, rfl, hN _ _ ⟨pa, qa, x, y, z, t, m, rfl, (b2.trans (b3.trans b4)).same hpl e1, b4 _ _ ne1 (b3 _ _ ne1 hp), b4 _ _ ne2 hq, sx, sy, sz, st, sm⟩⟩
    rintro σ H2 ⟨pa, qa, x, y, z, t, m, rfl, e2, hp, hq, sx, sy, sz, st, sm⟩
    clear e1 p1
    -- one, other
    refine seq_gen (fun σ' H' => ∃ (a1 a2 : Addr), σ' = [some (.ref sa), some (.int (0 + i)), some (.ref pl), some (.ref pa), some (.ref qa), some (.int m), some (.ref a1), some (.ref a2), v8, v9, v10, v11, v12, v13, v14] ∧ Same H0 H' ∧ Pts C pa qa a1 a2 x y z t H') (fun N hN => ?_) ?_
    · refine ⟨_, rfl, pa, _, _, _, rfl, rfl, SqT.of hp, atI_nat (j := 0) rfl, _, rfl, pa, _, _, _, rfl, rfl, SqT.of hp, atI_nat (j := 1) rfl, ?_⟩
      refine fun c dc nc nd ne => ⟨c, dc, x, y, rfl, upd_same, rfl, ?_⟩
      have e3 := made_same (C := C) (X := x) (Y := y) nc nd
      have h1 := made_is (C := C) (x := c) (dx := dc) (H := H2) (X := x) (Y := y)
      have hq3 := e3 _ _ hq
      refine ⟨_, rfl, qa, _, _, _, rfl, rfl, SqT.of hq3, atI_nat (j := 0) rfl, _, rfl, qa, _, _, _, rfl, rfl, SqT.of hq3, atI_nat (j := 1) rfl, ?_⟩
      refine fun c' dc' nc' nd' ne' => ⟨c', dc', z, t, rfl, upd_same, rfl, ?_⟩
      have e4 := made_same (C := C) (X := z) (Y := t) nc' nd'
      refine ⟨_, _, rfl, hN _ _ ⟨c, c', rfl, e2.trans (e3.trans e4), e4 _ _ (e3 _ _ hp), e4 _ _ hq3, h1.ex e4, made_is⟩⟩
    rintro σ H3 ⟨a1, a2, rfl, e3, W3⟩
    clear e2 hp hq
    obtain ⟨d1, z1⟩ := W3.one.at
    obtain ⟨d2, z2⟩ := W3.other.at
    -- (one.x, one.y) != p or one.pair() != p or (one == other) != (p == q) or one == p
    refine seq_gen (fun σ' H' => σ' = [some (.ref sa), some (.int (0 + i)), some (.ref pl), some (.ref pa), some (.ref qa), some (.int m), some (.ref a1), some (.ref a2), v8, v9, v10, v11, v12, v13, v14] ∧ Same H3 H') (fun N hN => ?_) ?_
    · refine ⟨_, rfl, a1, C, d1, _, _, rfl, z1, D.T.cl, D.T.nX, ptF_x _ _, _, rfl, a1, C, d1, _, _, rfl, z1, D.T.cl, D.T.nY, ptF_y _ _, (by show 2 ≤ sizeLine; decide), fun c nc => ?_⟩
      have f1 := same_new (o := .tup [.int x, .int y]) nc
      refine ⟨_, rfl, _, _, tp_dp upd_same, tp_dp (f1 _ _ W3.p), tp_sh _ _, tp_sh _ _, _, rfl, ?_⟩
      rw [eqv_sh (tp_sh x y)]
      refine iteF ?_
      have W4 := W3.ex f1
      refine ⟨_, rfl, a1, d1, _, rfl, f1 _ _ z1, pair_no _ _, .ref a1, x, y, rfl, W4.one, fun g H5 ng f2 hg => ?_⟩
      have W5 := W4.ex f2
      refine ⟨_, rfl, _, _, tp_dp hg, tp_dp W5.p, tp_sh _ _, tp_sh _ _, _, rfl, ?_⟩
      rw [eqv_sh (tp_sh x y)]
      refine iteF ?_
      have f12 := f1.trans f2
      refine ⟨_, rfl, _, rfl, a1, d1, _, rfl, f12 _ _ z1, .inl ⟨a2, d2, _, rfl, f12 _ _ z2⟩, .ref a1, .ref a2, x, y, z, t, rfl, W5.one, .inl ⟨W5.other, ?_⟩⟩
      refine ⟨_, rfl, _, rfl, _, _, tp_dp W5.p, tp_dp W5.q, tp_sh _ _, tp_sh _ _, rfl, _, rfl, ?_⟩
      rw [tp_eqv, bl_ne]
      refine iteF ?_
      refine ⟨_, rfl, _, rfl, a1, d1, _, rfl, f12 _ _ z1, .inr ⟨pa, _, rfl, W5.p⟩, .ref a1, .ref pa, x, y, z, t, rfl, W5.one, .inr ⟨⟨pa, _, rfl, W5.p⟩, false, rfl, ?_⟩⟩
      refine iteF ?_
      exact hN _ _ ⟨rfl, f12⟩
    rintro σ H4 ⟨rfl, f4⟩
    replace e3 := e3.trans f4
    replace W3 := W3.ex f4
    clear z1 z2 d1 d2 f4
    -- plus, minus
    refine seq_gen (fun σ' H' => ∃ c8 c9, σ' = [some (.ref sa), some (.int (0 + i)), some (.ref pl), some (.ref pa), some (.ref qa), some (.int m), some (.ref a1), some (.ref a2), some (.ref c8), some (.ref c9), v10, v11, v12, v13, v14] ∧ Same H4 H' ∧ H' c8 = some (.tup [.int (x + z), .int (y + t)]) ∧ H' c9 = some (.tup [.int (x - z), .int (y - t)])) (fun N hN => ?_) ?_
    · refine ⟨_, rfl, pa, _, _, _, rfl, rfl, SqT.of W3.p, atI_nat (j := 0) rfl, _, rfl, qa, _, _, _, rfl, rfl, SqT.of W3.q, atI_nat (j := 0) rfl, _, _, rfl, rfl, ?_⟩
      refine ⟨_, rfl, pa, _, _, _, rfl, rfl, SqT.of W3.p, atI_nat (j := 1) rfl, _, rfl, qa, _, _, _, rfl, rfl, SqT.of W3.q, atI_nat (j := 1) rfl, _, _, rfl, rfl, (by show 2 ≤ sizeLine; decide), fun c8 n8 => ?_⟩
      have f1 := same_new (o := .tup [.int (x + z), .int (y + t)]) n8
      have W4 := W3.ex f1
      refine ⟨_, rfl, pa, _, _, _, rfl, rfl, SqT.of W4.p, atI_nat (j := 0) rfl, _, rfl, qa, _, _, _, rfl, rfl, SqT.of W4.q, atI_nat (j := 0) rfl, _, _, rfl, rfl, ?_⟩
      refine ⟨_, rfl, pa, _, _, _, rfl, rfl, SqT.of W4.p, atI_nat (j := 1) rfl, _, rfl, qa, _, _, _, rfl, rfl, SqT.of W4.q, atI_nat (j := 1) rfl, _, _, rfl, rfl, (by show 2 ≤ sizeLine; decide), fun c9 n9 => ?_⟩
      have f2 := same_new (o := .tup [.int (x - z), .int (y - t)]) n9
      exact ⟨_, _, rfl, hN _ _ ⟨c8, c9, rfl, f1.trans f2, f2 _ _ upd_same, upd_same⟩⟩
    rintro σ H5 ⟨c8, c9, rfl, f5, h8, h9⟩
    have W5 := W3.ex f5
    replace e3 := e3.trans f5
    clear f5 W3
    -- the sums
    obtain ⟨d1, z1⟩ := W5.one.at
    obtain ⟨d2, z2⟩ := W5.other.at
    refine seq_gen (fun σ' H' => σ' = [some (.ref sa), some (.int (0 + i)), some (.ref pl), some (.ref pa), some (.ref qa), some (.int m), some (.ref a1), some (.ref a2), some (.ref c8), some (.ref c9), v10, v11, v12, v13, v14] ∧ Same H5 H') (fun N hN => ?_) ?_
    · refine ⟨_, rfl, _, rfl, a1, d1, _, rfl, z1, .inl ⟨a2, d2, _, rfl, z2⟩, .ref a1, .ref a2, x, y, z, t, rfl, W5.one, W5.other.pt, fun w1 H6 f1 h1 => ?_⟩
      obtain ⟨b1, g1, rfl, y1⟩ := id h1
      refine ⟨b1, g1, _, rfl, y1, pair_no _ _, .ref b1, _, _, rfl, h1, fun r1 H7 _ f2 hr1' => ?_⟩
      have W7 := (W5.ex f1).ex f2
      have k1 := f1.trans f2
      refine ⟨_, rfl, _, rfl, a1, d1, _, rfl, k1 _ _ z1, .inr ⟨qa, _, rfl, W7.q⟩, .ref a1, .ref qa, x, y, z, t, rfl, W7.one, pt_of W7.q, fun w2 H8 f3 h2 => ?_⟩
      obtain ⟨b2, g2, rfl, y2⟩ := id h2
      refine ⟨b2, g2, _, rfl, y2, pair_no _ _, .ref b2, _, _, rfl, h2, fun r2 H9 _ f4 hr2' => ?_⟩
      have W9 := (W7.ex f3).ex f4
      have k2 := f3.trans f4
      refine ⟨_, rfl, _, rfl, pa, _, a2, d2, _, rfl, W9.p, rfl, k2 _ _ (k1 _ _ z2), .ref a2, .ref pa, z, t, x, y, rfl, W9.other, pt_of W9.p, fun w3 Ha f5 h3 => ?_⟩
      obtain ⟨b3, g3, rfl, y3⟩ := id h3
      refine ⟨b3, g3, _, rfl, y3, pair_no _ _, .ref b3, _, _, rfl, h3, fun r3 Hb _ f6 hr3' => ?_⟩
      have k3 := f5.trans f6
      refine ⟨(by show 3 ≤ sizeLine; decide), fun l1 nl1 => ?_⟩
      have k4 := same_new (o := .lst [.ref r1, .ref r2, .ref r3]) nl1
      refine ⟨_, rfl, _, rfl, _, rfl, (by show 3 ≤ sizeLine; decide), fun l2 nl2 => ?_⟩
      have k5 := same_new (o := .lst [.ref c8, .ref c8, .ref c8]) nl2
      have kk := k1.trans (k2.trans (k3.trans (k4.trans k5)))
      have q1 := k5 _ _ (k4 _ _ (k3 _ _ (k2 _ _ hr1')))
      have q2 := k5 _ _ (k4 _ _ (k3 _ _ hr2'))
      have q3 := k5 _ _ (k4 _ _ hr3')
      have q8 := kk _ _ h8
      dsimp only at q1 q2 q3
      rw [Int.add_comm z x, Int.add_comm t y] at q3
      refine ⟨_, _, .lst (SqL.of (k5 _ _ upd_same)) (.cons (tp_dp q1) (.cons (tp_dp q2) (.cons (tp_dp q3) .nil))), .lst (SqL.of upd_same) (.cons (tp_dp q8) (.cons (tp_dp q8) (.cons (tp_dp q8) .nil))), tl3_sh _ _, tl3_sh _ _, _, rfl, ?_⟩
      rw [eqv_sh (tl3_sh _ _)]
      refine iteF ?_
      exact hN _ _ ⟨rfl, kk⟩
    rintro σ H6 ⟨rfl, f6⟩
    replace e3 := e3.trans f6
    replace h8 := f6 _ _ h8
    replace h9 := f6 _ _ h9
    replace W5 := W5.ex f6
    clear z1 z2 d1 d2 f6
    -- the differences
    obtain ⟨d1, z1⟩ := W5.one.at
    obtain ⟨d2, z2⟩ := W5.other.at
    refine seq_gen (fun σ' H' => σ' = [some (.ref sa), some (.int (0 + i)), some (.ref pl), some (.ref pa), some (.ref qa), some (.int m), some (.ref a1), some (.ref a2), some (.ref c8), some (.ref c9), v10, v11, v12, v13, v14] ∧ Same H6 H') (fun N hN => ?_) ?_
    · refine ⟨_, rfl, _, rfl, a1, d1, _, rfl, z1, .inl ⟨a2, d2, _, rfl, z2⟩, .ref a1, .ref a2, x, y, z, t, rfl, W5.one, W5.other.pt, fun w1 Hx f1 h1 => ?_⟩
      obtain ⟨b1, g1, rfl, y1⟩ := id h1
      refine ⟨b1, g1, _, rfl, y1, pair_no _ _, .ref b1, _, _, rfl, h1, fun r1 H7 _ f2 hr1' => ?_⟩
      have W7 := (W5.ex f1).ex f2
      have k1 := f1.trans f2
      refine ⟨_, rfl, _, rfl, a1, d1, _, rfl, k1 _ _ z1, .inr ⟨qa, _, rfl, W7.q⟩, .ref a1, .ref qa, x, y, z, t, rfl, W7.one, pt_of W7.q, fun w2 H8 f3 h2 => ?_⟩
      obtain ⟨b2, g2, rfl, y2⟩ := id h2
      refine ⟨b2, g2, _, rfl, y2, pair_no _ _, .ref b2, _, _, rfl, h2, fun r2 H9 _ f4 hr2' => ?_⟩
      have W9 := (W7.ex f3).ex f4
      have k2 := f3.trans f4
      refine ⟨_, rfl, _, rfl, pa, _, a2, d2, _, rfl, W9.p, rfl, k2 _ _ (k1 _ _ z2), .ref a2, .ref pa, z, t, x, y, rfl, W9.other, pt_of W9.p, fun w3 Ha f5 h3 => ?_⟩
      obtain ⟨b3, g3, rfl, y3⟩ := id h3
      refine ⟨b3, g3, _, rfl, y3, pair_no _ _, .ref b3, _, _, rfl, h3, fun r3 Hb _ f6 hr3' => ?_⟩
      have k3 := f5.trans f6
      refine ⟨(by show 3 ≤ sizeLine; decide), fun l1 nl1 => ?_⟩
      have k4 := same_new (o := .lst [.ref r1, .ref r2, .ref r3]) nl1
      refine ⟨_, rfl, _, rfl, _, rfl, (by show 3 ≤ sizeLine; decide), fun l2 nl2 => ?_⟩
      have k5 := same_new (o := .lst [.ref c9, .ref c9, .ref c9]) nl2
      have kk := k1.trans (k2.trans (k3.trans (k4.trans k5)))
      have q1 := k5 _ _ (k4 _ _ (k3 _ _ (k2 _ _ hr1')))
      have q2 := k5 _ _ (k4 _ _ (k3 _ _ hr2'))
      have q3 := k5 _ _ (k4 _ _ hr3')
      dsimp only at q1 q2 q3
      have q8 := kk _ _ h9
      refine ⟨_, _, .lst (SqL.of (k5 _ _ upd_same)) (.cons (tp_dp q1) (.cons (tp_dp q2) (.cons (tp_dp q3) .nil))), .lst (SqL.of upd_same) (.cons (tp_dp q8) (.cons (tp_dp q8) (.cons (tp_dp q8) .nil))), tl3_sh _ _, tl3_sh _ _, _, rfl, ?_⟩
      rw [eqv_sh (tl3_sh _ _)]
      refine iteF ?_
      exact hN _ _ ⟨rfl, kk⟩
    rintro σ Hc ⟨rfl, f6⟩
    replace e3 := e3.trans f6
    replace h8 := f6 _ _ h8
    replace h9 := f6 _ _ h9
    replace W5 := W5.ex f6
    clear z1 z2 d1 d2 f6
    clear h8 h9
    -- times
    refine seq_gen (fun σ' H' => ∃ c10, σ' = [some (.ref sa), some (.int (0 + i)), some (.ref pl), some (.ref pa), some (.ref qa), some (.int m), some (.ref a1), some (.ref a2), some (.ref c8), some (.ref c9), some (.ref c10), v11, v12, v13, v14] ∧ Same Hc H' ∧ H' c10 = some (.tup [.int (x * m), .int (y * m)])) (fun N hN => ?_) ?_
    · refine ⟨_, rfl, pa, _, _, _, rfl, rfl, SqT.of W5.p, atI_nat (j := 0) rfl, _, rfl, _, _, rfl, rfl, sx.mul sm (by decide) (by decide), ?_⟩
      refine ⟨_, rfl, pa, _, _, _, rfl, rfl, SqT.of W5.p, atI_nat (j := 1) rfl, _, rfl, _, _, rfl, rfl, sy.mul sm (by decide) (by decide), (by show 2 ≤ sizeLine; decide), fun c nc => ?_⟩
      exact hN _ _ ⟨c, rfl, same_new nc, upd_same⟩
    rintro σ Hd ⟨c10, rfl, fd, h10⟩
    replace e3 := e3.trans fd
    replace W5 := W5.ex fd
    clear fd
    -- (one * many).pair() != times or ..
    refine seq_gen (fun σ' H' => σ' = [some (.ref sa), some (.int (0 + i)), some (.ref pl), some (.ref pa), some (.ref qa), some (.int m), some (.ref a1), some (.ref a2), some (.ref c8), some (.ref c9), some (.ref c10), v11, v12, v13, v14] ∧ Same Hd H') (fun N hN => ?_) ?_
    · obtain ⟨d1, z1⟩ := W5.one.at
      refine ⟨_, rfl, _, rfl, a1, d1, _, m, rfl, z1, rfl, .ref a1, x, y, m, rfl, W5.one, sx.mul sm (by decide) (by decide), sy.mul sm (by decide) (by decide), fun w1 H6 f1 h1 => ?_⟩
      obtain ⟨b1, g1, rfl, y1⟩ := id h1
      refine ⟨b1, g1, _, rfl, y1, pair_no _ _, .ref b1, _, _, rfl, h1, fun r1 H7 _ f2 hr1' => ?_⟩
      have k1 := f1.trans f2
      refine ⟨_, rfl, _, _, tp_dp hr1', tp_dp (k1 _ _ h10), tp_sh _ _, tp_sh _ _, _, rfl, ?_⟩
      rw [eqv_sh (tp_sh _ _)]
      refine iteF ?_
      have W7 := W5.ex k1
      refine ⟨_, rfl, _, rfl, m, a1, d1, _, rfl, rfl, k1 _ _ z1, .ref a1, x, y, m, rfl, W7.one, sx.mul sm (by decide) (by decide), sy.mul sm (by decide) (by decide), fun w2 H8 f3 h2 => ?_⟩
      obtain ⟨b2, g2, rfl, y2⟩ := id h2
      refine ⟨b2, g2, _, rfl, y2, pair_no _ _, .ref b2, _, _, rfl, h2, fun r2 H9 _ f4 hr2' => ?_⟩
      have k2 := f3.trans f4
      refine ⟨_, rfl, _, _, tp_dp hr2', tp_dp (k2 _ _ (k1 _ _ h10)), tp_sh _ _, tp_sh _ _, _, rfl, ?_⟩
      rw [eqv_sh (tp_sh _ _)]
      refine iteF ?_
      have W9 := W7.ex k2
      refine ⟨_, rfl, a1, d1, _, rfl, k2 _ _ (k1 _ _ z1), pair_no _ _, .ref a1, x, y, rfl, W9.one, fun r3 Ha _ f5 hr3' => ?_⟩
      refine ⟨_, rfl, _, _, tp_dp hr3', tp_dp (f5 _ _ W9.p), tp_sh _ _, tp_sh _ _, _, rfl, ?_⟩
      rw [eqv_sh (tp_sh _ _)]
      refine iteF ?_
      exact hN _ _ ⟨rfl, k1.trans (k2.trans f5)⟩
    rintro σ He ⟨rfl, fe⟩
    replace e3 := e3.trans fe
    replace W5 := W5.ex fe
    clear fe h10
    -- cross
    refine seq_gen (fun σ' H' => σ' = [some (.ref sa), some (.int (0 + i)), some (.ref pl), some (.ref pa), some (.ref qa), some (.int m), some (.ref a1), some (.ref a2), some (.ref c8), some (.ref c9), some (.ref c10), some (.int (x * t - y * z)), v12, v13, v14] ∧ Same He H') (fun N hN => ?_) ?_
    · refine ⟨_, rfl, pa, _, _, _, rfl, rfl, SqT.of W5.p, atI_nat (j := 0) rfl, _, rfl, qa, _, _, _, rfl, rfl, SqT.of W5.q, atI_nat (j := 1) rfl, _, _, rfl, rfl, sx.mul st (by decide) (by decide), ?_⟩
      refine ⟨_, rfl, pa, _, _, _, rfl, rfl, SqT.of W5.p, atI_nat (j := 1) rfl, _, rfl, qa, _, _, _, rfl, rfl, SqT.of W5.q, atI_nat (j := 0) rfl, _, _, rfl, rfl, sy.mul sz (by decide) (by decide), ?_⟩
      exact ⟨_, _, rfl, rfl, hN _ _ ⟨rfl, Same.refl _⟩⟩
    rintro σ Hf ⟨rfl, ff⟩
    replace e3 := e3.trans ff
    replace W5 := W5.ex ff
    clear ff
    -- one.cross(other) != cross or ..
    refine seq_gen (fun σ' H' => σ' = [some (.ref sa), some (.int (0 + i)), some (.ref pl), some (.ref pa), some (.ref qa), some (.int m), some (.ref a1), some (.ref a2), some (.ref c8), some (.ref c9), some (.ref c10), some (.int (x * t - y * z)), v12, v13, v14] ∧ Same Hf H') (fun N hN => ?_) ?_
    · obtain ⟨d1, z1⟩ := W5.one.at
      refine ⟨_, rfl, a1, d1, _, rfl, z1, cross_no _ _, _, rfl, 101, .ref a1, .ref a2, x, y, z, t, rfl, W5.one, W5.other.pt, by decide, by decide, sx, sy, sz, st, fun H6 f1 => ?_⟩
      refine ⟨_, rfl, rfl, _, rfl, ?_⟩
      rw [neT rfl]
      refine iteF ?_
      have W6 := W5.ex f1
      refine ⟨_, rfl, a1, d1, _, rfl, f1 _ _ z1, cross_no _ _, _, rfl, 101, .ref a1, .ref qa, x, y, z, t, rfl, W6.one, pt_of W6.q, by decide, by decide, sx, sy, sz, st, fun H7 f2 => ?_⟩
      refine ⟨_, rfl, rfl, _, rfl, ?_⟩
      rw [neT rfl]
      refine iteF ?_
      have W7 := W6.ex f2
      refine ⟨(by show 2 ≤ sizeLine; decide), fun c nc => ?_⟩
      have f3 := same_new (o := .tup [.int 0, .int 0]) nc
      have W8 := W7.ex f3
      have s0 : Sm 101 0 := by
        unfold Sm
        decide
      refine ⟨_, rfl, _, rfl, 101, .ref c, .ref pa, .ref a2, 0, 0, x, y, z, t, rfl, pt_of upd_same, pt_of W8.p, W8.other.pt, by decide, s0, s0, sx, sy, sz, st, fun H9 f4 => ?_⟩
      refine ⟨_, rfl, rfl, _, rfl, ?_⟩
      rw [neT (by unfold sideI; simp)]
      refine iteF ?_
      exact hN _ _ ⟨rfl, f1.trans (f2.trans (f3.trans f4))⟩
    rintro σ Hg ⟨rfl, fg⟩
    replace e3 := e3.trans fg
    replace W5 := W5.ex fg
    clear fg
    -- quarter(one).pair() != (-p[1], p[0]) or ..
    refine seq_gen (fun σ' H' => σ' = [some (.ref sa), some (.int (0 + i)), some (.ref pl), some (.ref pa), some (.ref qa), some (.int m), some (.ref a1), some (.ref a2), some (.ref c8), some (.ref c9), some (.ref c10), some (.int (x * t - y * z)), v12, v13, v14] ∧ Same Hg H') (fun N hN => ?_) ?_
    · obtain ⟨d1, z1⟩ := W5.one.at
      refine ⟨_, rfl, .ref a1, x, y, rfl, W5.one.pt, fun w1 H6 f1 h1 => ?_⟩
      obtain ⟨b1, g1, rfl, y1⟩ := id h1
      refine ⟨b1, g1, _, rfl, y1, pair_no _ _, .ref b1, _, _, rfl, h1, fun r1 H7 _ f2 hr1' => ?_⟩
      have k1 := f1.trans f2
      have W7 := W5.ex k1
      refine ⟨_, rfl, pa, _, _, _, rfl, rfl, SqT.of W7.p, atI_nat (j := 1) rfl, _, rfl, _, rfl, pa, _, _, _, rfl, rfl, SqT.of W7.p, atI_nat (j := 0) rfl, (by show 2 ≤ sizeLine; decide), fun c nc => ?_⟩
      have f3 := same_new (o := .tup [.int (-y), .int x]) nc
      refine ⟨_, _, tp_dp (f3 _ _ hr1'), tp_dp upd_same, tp_sh _ _, tp_sh _ _, _, rfl, ?_⟩
      rw [eqv_sh (tp_sh _ _)]
      refine iteF ?_
      have W8 := W7.ex f3
      refine ⟨_, rfl, .ref pa, x, y, rfl, pt_of W8.p, fun w2 H9 f4 h2 => ?_⟩
      have W9 := W8.ex f4
      refine ⟨_, rfl, pa, _, _, _, rfl, rfl, SqT.of W9.p, atI_nat (j := 1) rfl, _, rfl, _, rfl, pa, _, _, _, rfl, rfl, SqT.of W9.p, atI_nat (j := 0) rfl, ?_⟩
      refine fun c' dc' nc' nd' ne' => ⟨c', dc', -y, x, rfl, upd_same, rfl, ?_⟩
      have f5 := made_same (C := C) (X := -y) (Y := x) nc' nd'
      have h3 := made_is (C := C) (x := c') (dx := dc') (H := H9) (X := -y) (Y := x)
      have h2' := h2.ex f5
      obtain ⟨b2, g2, rfl, y2⟩ := id h2'
      obtain ⟨d3, z3⟩ := h3.at
      refine ⟨b2, g2, _, c', d3, _, rfl, y2, rfl, z3, .ref b2, .ref c', -y, x, -y, x, rfl, h2', .inl ⟨h3, true, ?_⟩⟩
      refine ⟨?_, _, rfl, ?_⟩
      · rw [decide_eq_true rfl, decide_eq_true rfl]
        rfl
      refine iteF ?_
      have W10 := W9.ex f5
      have k2 := k1.trans (f3.trans (f4.trans f5))
      refine ⟨_, rfl, a1, d1, _, rfl, k2 _ _ z1, cross_no _ _, _, rfl, .ref a1, x, y, rfl, W10.one.pt, fun w4 Hb f6 h4 => ?_⟩
      have syn : Sm 101 (-y) := by
        unfold Sm at *
        rw [Int.natAbs_neg]
        exact sy
      refine ⟨101, .ref a1, w4, x, y, -y, x, rfl, (W10.ex f6).one, h4.pt, by decide, by decide, sx, sy, syn, sx, fun Hh f7 => ?_⟩
      refine ⟨_, _, rfl, rfl, _, rfl, ?_⟩
      have nn : ¬ (x * x - y * (-y) < 0) := by
        have h1 : 0 ≤ x * x := by
          rw [← Int.natAbs_mul_self]
          omega
        have h2 : 0 ≤ y * y := by
          rw [← Int.natAbs_mul_self]
          omega
        rw [Int.mul_neg]
        omega
      rw [decide_eq_false nn]
      refine iteF ?_
      exact hN _ _ ⟨rfl, k2.trans (f6.trans f7)⟩
    rintro σ Hh ⟨rfl, fh⟩
    replace e3 := e3.trans fh
    replace W5 := W5.ex fh
    clear fh
    -- side(q, q + p, (one + other) * 1) != 0
    refine seq_gen (fun σ' H' => σ' = [some (.ref sa), some (.int (0 + i)), some (.ref pl), some (.ref pa), some (.ref qa), some (.int m), some (.ref a1), some (.ref a2), some (.ref c8), some (.ref c9), some (.ref c10), some (.int (x * t - y * z)), v12, v13, v14] ∧ Same Hh H') (fun N hN => ?_) ?_
    · obtain ⟨d1, z1⟩ := W5.one.at
      obtain ⟨d2, z2⟩ := W5.other.at
      refine ⟨_, rfl, _, rfl, qa, _, _, _, rfl, rfl, SqT.of W5.q, atI_nat (j := 0) rfl, _, rfl, pa, _, _, _, rfl, rfl, SqT.of W5.p, atI_nat (j := 0) rfl, _, _, rfl, rfl, ?_⟩
      refine ⟨_, rfl, qa, _, _, _, rfl, rfl, SqT.of W5.q, atI_nat (j := 1) rfl, _, rfl, pa, _, _, _, rfl, rfl, SqT.of W5.p, atI_nat (j := 1) rfl, _, _, rfl, rfl, (by show 2 ≤ sizeLine; decide), fun c nc => ?_⟩
      have f1 := same_new (o := .tup [.int (z + x), .int (t + y)]) nc
      have W6 := W5.ex f1
      refine ⟨_, rfl, _, rfl, a1, d1, _, rfl, f1 _ _ z1, .inl ⟨a2, d2, _, rfl, f1 _ _ z2⟩, .ref a1, .ref a2, x, y, z, t, rfl, W6.one, W6.other.pt, fun w1 H7 f2 h1 => ?_⟩
      obtain ⟨b1, g1, rfl, y1⟩ := id h1
      have s1 : Sm 102 1 := by
        unfold Sm
        decide
      refine ⟨b1, g1, _, 1, rfl, y1, rfl, .ref b1, _, _, 1, rfl, h1, (sx.add sz).mul s1 (by decide) (by decide), (sy.add st).mul s1 (by decide) (by decide), fun w2 H8 f3 h2 => ?_⟩
      have W8 := (W6.ex f2).ex f3
      have hc8 := f3 _ _ (f2 _ _ (upd_same (H := Hh) (a := c) (o := .tup [.int (z + x), .int (t + y)])))
      refine ⟨102, .ref qa, .ref c, w2, z, t, z + x, t + y, _, _, rfl, pt_of W8.q, pt_of hc8, h2.pt, by decide, sz.up (by decide), st.up (by decide), sz.add sx, st.add sy, ?_, ?_, fun H9 f4 => ?_⟩
      · rw [Int.mul_one]
        exact sx.add sz
      · rw [Int.mul_one]
        exact sy.add st
      refine ⟨rfl, _, rfl, ?_⟩
      rw [neT (side_zero x y z t)]
      refine iteF ?_
      exact hN _ _ ⟨rfl, f1.trans (f2.trans (f3.trans f4))⟩
    rintro σ Hi ⟨rfl, fi⟩
    replace e3 := e3.trans fi
    clear fi W5
    -- for thing in ..
    refine seq_gen (fun σ' H' => ∃ v12 : Option V, σ' = [some (.ref sa), some (.int (0 + i)), some (.ref pl), some (.ref pa), some (.ref qa), some (.int m), some (.ref a1), some (.ref a2), some (.ref c8), some (.ref c9), some (.ref c10), some (.int (x * t - y * z)), v12, v13, v14] ∧ Same Hi H') (fun N hN => ?_) ?_
    · refine ⟨(by show 2 ≤ sizeLine; decide), fun t1 n1 => ⟨(by show 2 ≤ sizeLine; decide), fun t2 n2 => ⟨(by show 2 ≤ sizeLine; decide), fun t3 n3 => ⟨(by show 2 ≤ sizeLine; decide), fun t4 n4 => ⟨(by show 4 ≤ sizeLine; decide), fun l nl => ?_⟩⟩⟩⟩⟩
      have g1 := same_new (o := .tup [.non, .int 1]) n1
      have g2 := same_new (o := .tup [.bl true, .int 1]) n2
      have g3 := same_new (o := .tup [.int 1, .str "2"]) n3
      have g4 := same_new (o := .tup [.int 0, .bl false]) n4
      have g5 := same_new (o := .lst [.ref t1, .ref t2, .ref t3, .ref t4]) nl
      have gg := g1.trans (g2.trans (g3.trans (g4.trans g5)))
      have hl := upd_same (H := (upd (upd (upd (upd Hi t1 (.tup [.non, .int 1])) t2 (.tup [.bl true, .int 1])) t3 (.tup [.int 1, .str "2"])) t4 (.tup [.int 0, .bl false]))) (a := l) (o := .lst [.ref t1, .ref t2, .ref t3, .ref t4])
      have all : ∀ (j : Nat) (v : V), ([.ref t1, .ref t2, .ref t3, .ref t4] : List V)[j]? = some v → ∃ d, Two K (upd (upd (upd (upd (upd Hi t1 (.tup [.non, .int 1])) t2 (.tup [.bl true, .int 1])) t3 (.tup [.int 1, .str "2"])) t4 (.tup [.int 0, .bl false])) l (.lst [.ref t1, .ref t2, .ref t3, .ref t4])) v d := by
        intro j v hv
        match j, hv with
        | 0, hv => cases hv; exact ⟨_, shows_n1, t1, _, _, _, rfl, g5 _ _ (g4 _ _ (g3 _ _ (g2 _ _ upd_same))), trivial, trivial, rfl, rfl, .cons .non (.cons (.int 1) .nil)⟩
        | 1, hv => cases hv; exact ⟨_, shows_t1, t2, _, _, _, rfl, g5 _ _ (g4 _ _ (g3 _ _ upd_same)), trivial, trivial, rfl, rfl, .cons (.bl true) (.cons (.int 1) .nil)⟩
        | 2, hv => cases hv; exact ⟨_, shows_12, t3, _, _, _, rfl, g5 _ _ (g4 _ _ upd_same), trivial, trivial, rfl, rfl, .cons (.int 1) (.cons (.str _) .nil)⟩
        | 3, hv => cases hv; exact ⟨_, shows_0f, t4, _, _, _, rfl, g5 _ _ upd_same, trivial, trivial, rfl, rfl, .cons (.int 0) (.cons (.bl false) .nil)⟩
        | j + 4, hv => simp at hv
      refine ⟨l, rfl, ⟨_, SqL.of hl⟩, ?_⟩
      generalize (upd (upd (upd (upd (upd Hi t1 (.tup [.non, .int 1])) t2 (.tup [.bl true, .int 1])) t3 (.tup [.int 1, .str "2"])) t4 (.tup [.int 0, .bl false])) l (.lst [.ref t1, .ref t2, .ref t3, .ref t4])) = Hj at gg hl all
      clear g1 g2 g3 g4 g5
      refine for_list (K := K) (a := l) (xs := [.ref t1, .ref t2, .ref t3, .ref t4]) (fun j σ' H' => ∃ v12 : Option V, σ' = [some (.ref sa), some (.int (0 + i)), some (.ref pl), some (.ref pa), some (.ref qa), some (.int m), some (.ref a1), some (.ref a2), some (.ref c8), some (.ref c9), some (.ref c10), some (.int (x * t - y * z)), v12, v13, v14] ∧ Same Hj H') ⟨_, rfl, Same.refl _⟩ (fun j σ' H' _ h => by
        obtain ⟨_, _, e⟩ := h
        exact SqL.of (e _ _ hl)) ?_ ?_
      · rintro j v σ H6 hv ⟨v12, rfl, f6⟩
        obtain ⟨d, hd⟩ := all j v hv
        have hd6 := hd.ex f6
        refine ⟨_, rfl, 0, v, d, rfl, hd6.1, .inl ⟨rfl, hd6.2⟩, fun H7 f7 => ?_⟩
        refine ⟨_, rfl, v, d, rfl, (hd6.ex f7).dp, hd6.1.s, hd6.1.nd, hd6.1.dp, hd6.1.z, rfl, _, rfl, ?_⟩
        rw [str_ne]
        refine iteF ?_
        exact ⟨_, rfl, f6.trans f7⟩
      · rintro σ H6 ⟨v12, rfl, f6⟩
        exact hN _ _ ⟨_, rfl, gg.trans f6⟩
    rintro σ Hk ⟨u12, rfl, fk⟩
    replace e3 := e3.trans fk
    clear fk
    -- for odd in ..
    refine ⟨(by show 1 ≤ sizeLine; decide), fun t1 n1 => ⟨(by show 3 ≤ sizeLine; decide), fun t2 n2 => ⟨(by show 2 ≤ sizeLine; decide), fun t3 n3 => ⟨(by show 2 ≤ sizeLine; decide), fun t4 n4 => ⟨(by show 2 ≤ sizeLine; decide), fun t5 n5 => ⟨(by show 8 ≤ sizeLine; decide), fun l nl => ?_⟩⟩⟩⟩⟩⟩
    have g1 := same_new (o := .tup [.int 1]) n1
    have g2 := same_new (o := .tup [.int 1, .int 2, .int 3]) n2
    have g3 := same_new (o := .lst [.int 1, .int 2]) n3
    have g4 := same_new (o := .tup [.bl true, .int 0]) n4
    have g5 := same_new (o := .tup [.int 1, .non]) n5
    have g6 := same_new (o := .lst [.non, .int 5, .ref t1, .ref t2, .ref t3, .ref t4, .str "ab", .ref t5]) nl
    have gg := g1.trans (g2.trans (g3.trans (g4.trans (g5.trans g6))))
    have hl := upd_same (H := (upd (upd (upd (upd (upd Hk t1 (.tup [.int 1])) t2 (.tup [.int 1, .int 2, .int 3])) t3 (.lst [.int 1, .int 2])) t4 (.tup [.bl true, .int 0])) t5 (.tup [.int 1, .non]))) (a := l) (o := .lst [.non, .int 5, .ref t1, .ref t2, .ref t3, .ref t4, .str "ab", .ref t5])
    have all : ∀ (j : Nat) (v : V), ([.non, .int 5, .ref t1, .ref t2, .ref t3, .ref t4, .str "ab", .ref t5] : List V)[j]? = some v → ∃ d, Odd K (upd (upd (upd (upd (upd (upd Hk t1 (.tup [.int 1])) t2 (.tup [.int 1, .int 2, .int 3])) t3 (.lst [.int 1, .int 2])) t4 (.tup [.bl true, .int 0])) t5 (.tup [.int 1, .non])) l (.lst [.non, .int 5, .ref t1, .ref t2, .ref t3, .ref t4, .str "ab", .ref t5])) v d := by
      intro j v hv
      match j, hv with
      | 0, hv => cases hv; exact ⟨_, odd_none⟩
      | 1, hv => cases hv; exact ⟨_, odd_5⟩
      | 2, hv => cases hv; exact ⟨_, odd_1 (g6 _ _ (g5 _ _ (g4 _ _ (g3 _ _ (g2 _ _ upd_same)))))⟩
      | 3, hv => cases hv; exact ⟨_, odd_123 (g6 _ _ (g5 _ _ (g4 _ _ (g3 _ _ upd_same))))⟩
      | 4, hv => cases hv; exact ⟨_, odd_l12 (g6 _ _ (g5 _ _ (g4 _ _ upd_same)))⟩
      | 5, hv => cases hv; exact ⟨_, odd_t0 (g6 _ _ (g5 _ _ upd_same))⟩
      | 6, hv => cases hv; exact ⟨_, odd_ab⟩
      | 7, hv => cases hv; exact ⟨_, odd_1n (g6 _ _ upd_same)⟩
      | j + 8, hv => simp at hv
    refine ⟨l, rfl, ⟨_, SqL.of hl⟩, ?_⟩
    generalize (upd (upd (upd (upd (upd (upd Hk t1 (.tup [.int 1])) t2 (.tup [.int 1, .int 2, .int 3])) t3 (.lst [.int 1, .int 2])) t4 (.tup [.bl true, .int 0])) t5 (.tup [.int 1, .non])) l (.lst [.non, .int 5, .ref t1, .ref t2, .ref t3, .ref t4, .str "ab", .ref t5])) = Hj at gg hl all
    clear g1 g2 g3 g4 g5 g6
    refine for_list (K := K) (a := l) (xs := [.non, .int 5, .ref t1, .ref t2, .ref t3, .ref t4, .str "ab", .ref t5]) (fun j σ' H' => ∃ v13 v14 : Option V, σ' = [some (.ref sa), some (.int (0 + i)), some (.ref pl), some (.ref pa), some (.ref qa), some (.int m), some (.ref a1), some (.ref a2), some (.ref c8), some (.ref c9), some (.ref c10), some (.int (x * t - y * z)), u12, v13, v14] ∧ Same Hj H') ⟨_, _, rfl, Same.refl _⟩ (fun j σ' H' _ h => by
      obtain ⟨_, _, _, e⟩ := h
      exact SqL.of (e _ _ hl)) ?_ ?_
    · rintro j v σ H6 hv ⟨v13, v14, rfl, f6⟩
      obtain ⟨d, hd⟩ := all j v hv
      have hd6 := hd.ex f6
      refine ⟨1, 4, rfl, ⟨by decide, by decide, by decide, by decide⟩, fun Dl nDl => ?_⟩
      refine lc_range (lo := 1) (n := 3) (fun c H' => Same H6 H' ∧ H' Dl = some (.lst (List.replicate c (.str d.shown)))) ⟨same_new nDl, upd_same⟩ ?_ ?_
      · rintro c H7 hc ⟨f7, hD⟩
        refine ⟨rfl, ?_⟩
        unfold tYes
        dsimp only
        rw [if_pos rfl]
        have hd7 := hd6.ex f7
        refine ⟨_, rfl, _, rfl, 1 + c, v, d, rfl, hd7.1, .inr ⟨by omega, hd7.2.2⟩, fun H8 f8 => ?_⟩
        refine ⟨_, f8 _ _ hD, ?_, But.upd.same nDl (f7.trans f8), ?_⟩
        · rw [List.length_replicate]
          exact Nat.lt_of_lt_of_le hc (by decide)
        · rw [← List.replicate_succ']
          exact upd_same
      · rintro H7 ⟨f7, hD⟩
        have hd7 := hd6.ex f7
        refine ⟨_, rfl, v, d, rfl, hd7.2.2.2, hd7.1.s, hd7.1.nd, hd7.1.dp, hd7.1.z, (by show 1 ≤ sizeLine; decide), fun l1 nl1 => ?_⟩
        have f8 := same_new (o := .lst [.str d.shown]) nl1
        refine ⟨l1, 3, _, rfl, rfl, upd_same, by decide, by decide, (by show 3 ≤ sizeLine; decide), fun l2 nl2 => ?_⟩
        have f9 := same_new (o := .lst (List.replicate (3 : Int).toNat [V.str d.shown]).flatten) nl2
        refine ⟨tl3 (.str d.shown), tl3 (.str d.shown), .lst (SqL.of (f9 _ _ (f8 _ _ hD))) (.cons (.str _) (.cons (.str _) (.cons (.str _) .nil))), .lst (SqL.of upd_same) (.cons (.str _) (.cons (.str _) (.cons (.str _) .nil))), hd7.2.1, hd7.2.1, _, rfl, ?_⟩
        rw [eqv_sh hd7.2.1]
        refine iteF ?_
        exact ⟨_, _, rfl, f6.trans (f7.trans (f8.trans f9))⟩
    · rintro σ H6 ⟨v13, v14, rfl, f6⟩
      exact ⟨_, _, _, _, _, _, _, _, _, _, _, _, _, _, rfl, eH.trans (e3.trans (gg.trans f6))⟩

end
end Fo
set_option Elab.async false
set_option linter.all false
set_option maxRecDepth 100000
set_option maxHeartbeats 2000000
namespace Fo
open PySem L2
theorem all_mk {l : PySem.W.OpenLaw} {w : World} {K : PySem.W.Frag} {h : Heap} {mg : Str → Option Value} {fa C CI CF CN fII pO cdaI ccI NI fW fI fP fA fO fSd fQ fX fAd fS fRa fRs fM fRm fE fPm fOr fH fD fN fTw fR fZ : Addr} (X : K.In h) (G : h.Ns mainGlobals mg) (hfa : mg "law" = some (.ref fa))
    {nmI qI quI msI fiI : Str} {bsI bmI subI rsO : List Value} {snI : List Str} {abI : Bool} {colI : Option Bool} {ddI odII anII cddI cldI : Option Addr} {e0I e1I e2I e3I e5I : Option Value} {ocII kVII dcII pmII ctII cclI clI : Value} {slII ccsI cslI : Array (Option Value)} {vsI : Array Value} {p1 p2 r1 r2 r3 r4 r5 r6 q1 q2 q3 q4 : Pos} {jI : Nat} {tfI : Tok}
    {odW anW odI anI odP anP odA anA odO anO odSd anSd odQ anQ odX anX odAd anAd odS anS odRa anRa odRs anRs odM anM odRm anRm odE anE odPm anPm odOr anOr odH anH odD anD odN anN odTw anTw odR anR odZ anZ : Option Addr} {slW slI slP slA slO slSd slQ slX slAd slS slRa slRs slM slRm slE slPm slOr slH slD slN slTw slR slZ : Array (Option Value)} {ocW kVW dcW pmW cdW ctW ocI kVI dcI pmI cdI ctI ocP kVP dcP pmP cdP ctP ocA kVA dcA pmA cdA ctA ocO kVO dcO pmO cdO ctO ocSd kVSd dcSd pmSd cdSd ctSd ocQ kVQ dcQ pmQ cdQ ctQ ocX kVX dcX pmX cdX ctX ocAd kVAd dcAd pmAd cdAd ctAd ocS kVS dcS pmS cdS ctS ocRa kVRa dcRa pmRa cdRa ctRa ocRs kVRs dcRs pmRs cdRs ctRs ocM kVM dcM pmM cdM ctM ocRm kVRm dcRm pmRm cdRm ctRm ocE kVE dcE pmE cdE ctE ocPm kVPm dcPm pmPm cdPm ctPm ocOr kVOr dcOr pmOr cdOr ctOr ocH kVH dcH pmH cdH ctH ocD kVD dcD pmD cdD ctD ocN kVN dcN pmN cdN ctN ocTw kVTw dcTw pmTw cdTw ctTw ocR kVR dcR pmR cdR ctR ocZ kVZ dcZ pmZ cdZ ctZ : Value}
    (aC : PySem.W.nsIn K mainGlobals "Point" = some (some (.ref C)))
    (rcO : PySem.W.findCls K (.ref C) (.type "type") "origin" = some (.get (.builtin "staticmethod.__get__") (.ref pO) .none (.ref C)))
    (reO : PySem.W.recIn K pO "staticmethod" = some (.ref fOr :: rsO))
    (aW : PySem.W.nsIn K mainGlobals "is_whole" = some (some (.ref fW)))
    (lW : K.lookup fW = some ⟨ocW, odW, .func (PySem.W.fnOf "is_whole" "is_whole" (defArgs sWhole) (defBody sWhole) (defScope sWhole) .none kVW dcW pmW anW cdW ctW), slW⟩)
    (cW : PySem.W.codeIn K cdW "is_whole" = true)
    (kW : PySem.W.keepIn K (.ref fW) = true)
    (aI : PySem.W.findIn K (.ref C) "__init__" = some (some (.ref fI)))
    (iI : PySem.W.isFn K (.ref fI) = true)
    (lI : K.lookup fI = some ⟨ocI, odI, .func (PySem.W.fnOf "__init__" "Point.__init__" (defArgs sInit) (defBody sInit) (defScope sInit) .none kVI dcI pmI anI cdI ctI), slI⟩)
    (cI : PySem.W.codeIn K cdI "Point.__init__" = true)
    (kI : PySem.W.keepIn K (.ref fI) = true)
    (aP : PySem.W.nsIn K mainGlobals "is_point" = some (some (.ref fP)))
    (lP : K.lookup fP = some ⟨ocP, odP, .func (PySem.W.fnOf "is_point" "is_point" (defArgs sIsPoint) (defBody sIsPoint) (defScope sIsPoint) .none kVP dcP pmP anP cdP ctP), slP⟩)
    (cP : PySem.W.codeIn K cdP "is_point" = true)
    (kP : PySem.W.keepIn K (.ref fP) = true)
    (aA : PySem.W.nsIn K mainGlobals "as_point" = some (some (.ref fA)))
    (lA : K.lookup fA = some ⟨ocA, odA, .func (PySem.W.fnOf "as_point" "as_point" (defArgs sAsPoint) (defBody sAsPoint) (defScope sAsPoint) .none kVA dcA pmA anA cdA ctA), slA⟩)
    (cA : PySem.W.codeIn K cdA "as_point" = true)
    (kA : PySem.W.keepIn K (.ref fA) = true)
    (aO : PySem.W.nsIn K mainGlobals "operand" = some (some (.ref fO)))
    (lO : K.lookup fO = some ⟨ocO, odO, .func (PySem.W.fnOf "operand" "operand" (defArgs sOperand) (defBody sOperand) (defScope sOperand) .none kVO dcO pmO anO cdO ctO), slO⟩)
    (cO : PySem.W.codeIn K cdO "operand" = true)
    (kO : PySem.W.keepIn K (.ref fO) = true)
    (aSd : PySem.W.nsIn K mainGlobals "side" = some (some (.ref fSd)))
    (lSd : K.lookup fSd = some ⟨ocSd, odSd, .func (PySem.W.fnOf "side" "side" (defArgs sSide) (defBody sSide) (defScope sSide) .none kVSd dcSd pmSd anSd cdSd ctSd), slSd⟩)
    (cSd : PySem.W.codeIn K cdSd "side" = true)
    (kSd : PySem.W.keepIn K (.ref fSd) = true)
    (aQ : PySem.W.nsIn K mainGlobals "quarter" = some (some (.ref fQ)))
    (lQ : K.lookup fQ = some ⟨ocQ, odQ, .func (PySem.W.fnOf "quarter" "quarter" (defArgs sQuarter) (defBody sQuarter) (defScope sQuarter) .none kVQ dcQ pmQ anQ cdQ ctQ), slQ⟩)
    (cQ : PySem.W.codeIn K cdQ "quarter" = true)
    (kQ : PySem.W.keepIn K (.ref fQ) = true)
    (aX : PySem.W.findIn K (.ref C) "cross" = some (some (.ref fX)))
    (iX : PySem.W.isFn K (.ref fX) = true)
    (lX : K.lookup fX = some ⟨ocX, odX, .func (PySem.W.fnOf "cross" "Point.cross" (defArgs sCross) (defBody sCross) (defScope sCross) .none kVX dcX pmX anX cdX ctX), slX⟩)
    (cX : PySem.W.codeIn K cdX "Point.cross" = true)
    (kX : PySem.W.keepIn K (.ref fX) = true)
    (aAd : PySem.W.findIn K (.ref C) "__add__" = some (some (.ref fAd)))
    (iAd : PySem.W.isFn K (.ref fAd) = true)
    (lAd : K.lookup fAd = some ⟨ocAd, odAd, .func (PySem.W.fnOf "__add__" "Point.__add__" (defArgs sAdd) (defBody sAdd) (defScope sAdd) .none kVAd dcAd pmAd anAd cdAd ctAd), slAd⟩)
    (cAd : PySem.W.codeIn K cdAd "Point.__add__" = true)
    (kAd : PySem.W.keepIn K (.ref fAd) = true)
    (aS : PySem.W.findIn K (.ref C) "__sub__" = some (some (.ref fS)))
    (iS : PySem.W.isFn K (.ref fS) = true)
    (lS : K.lookup fS = some ⟨ocS, odS, .func (PySem.W.fnOf "__sub__" "Point.__sub__" (defArgs sSub) (defBody sSub) (defScope sSub) .none kVS dcS pmS anS cdS ctS), slS⟩)
    (cS : PySem.W.codeIn K cdS "Point.__sub__" = true)
    (kS : PySem.W.keepIn K (.ref fS) = true)
    (aRa : PySem.W.findIn K (.ref C) "__radd__" = some (some (.ref fRa)))
    (iRa : PySem.W.isFn K (.ref fRa) = true)
    (lRa : K.lookup fRa = some ⟨ocRa, odRa, .func (PySem.W.fnOf "__radd__" "Point.__radd__" (defArgs sRadd) (defBody sRadd) (defScope sRadd) .none kVRa dcRa pmRa anRa cdRa ctRa), slRa⟩)
    (cRa : PySem.W.codeIn K cdRa "Point.__radd__" = true)
    (kRa : PySem.W.keepIn K (.ref fRa) = true)
    (aRs : PySem.W.findIn K (.ref C) "__rsub__" = some (some (.ref fRs)))
    (iRs : PySem.W.isFn K (.ref fRs) = true)
    (lRs : K.lookup fRs = some ⟨ocRs, odRs, .func (PySem.W.fnOf "__rsub__" "Point.__rsub__" (defArgs sRsub) (defBody sRsub) (defScope sRsub) .none kVRs dcRs pmRs anRs cdRs ctRs), slRs⟩)
    (cRs : PySem.W.codeIn K cdRs "Point.__rsub__" = true)
    (kRs : PySem.W.keepIn K (.ref fRs) = true)
    (aM : PySem.W.findIn K (.ref C) "__mul__" = some (some (.ref fM)))
    (iM : PySem.W.isFn K (.ref fM) = true)
    (lM : K.lookup fM = some ⟨ocM, odM, .func (PySem.W.fnOf "__mul__" "Point.__mul__" (defArgs sMul) (defBody sMul) (defScope sMul) .none kVM dcM pmM anM cdM ctM), slM⟩)
    (cM : PySem.W.codeIn K cdM "Point.__mul__" = true)
    (kM : PySem.W.keepIn K (.ref fM) = true)
    (aRm : PySem.W.findIn K (.ref C) "__rmul__" = some (some (.ref fRm)))
    (iRm : PySem.W.isFn K (.ref fRm) = true)
    (lRm : K.lookup fRm = some ⟨ocRm, odRm, .func (PySem.W.fnOf "__rmul__" "Point.__rmul__" (defArgs sRmul) (defBody sRmul) (defScope sRmul) .none kVRm dcRm pmRm anRm cdRm ctRm), slRm⟩)
    (cRm : PySem.W.codeIn K cdRm "Point.__rmul__" = true)
    (kRm : PySem.W.keepIn K (.ref fRm) = true)
    (aE : PySem.W.findIn K (.ref C) "__eq__" = some (some (.ref fE)))
    (iE : PySem.W.isFn K (.ref fE) = true)
    (lE : K.lookup fE = some ⟨ocE, odE, .func (PySem.W.fnOf "__eq__" "Point.__eq__" (defArgs sEq) (defBody sEq) (defScope sEq) .none kVE dcE pmE anE cdE ctE), slE⟩)
    (cE : PySem.W.codeIn K cdE "Point.__eq__" = true)
    (kE : PySem.W.keepIn K (.ref fE) = true)
    (aPm : PySem.W.findIn K (.ref C) "pair" = some (some (.ref fPm)))
    (iPm : PySem.W.isFn K (.ref fPm) = true)
    (lPm : K.lookup fPm = some ⟨ocPm, odPm, .func (PySem.W.fnOf "pair" "Point.pair" (defArgs sPairM) (defBody sPairM) (defScope sPairM) .none kVPm dcPm pmPm anPm cdPm ctPm), slPm⟩)
    (cPm : PySem.W.codeIn K cdPm "Point.pair" = true)
    (kPm : PySem.W.keepIn K (.ref fPm) = true)
    (lOr : K.lookup fOr = some ⟨ocOr, odOr, .func (PySem.W.fnOf "origin" "Point.origin" (defArgs sOrigin) (defBody sOrigin) (defScope sOrigin) .none kVOr dcOr pmOr anOr cdOr ctOr), slOr⟩)
    (cOr : PySem.W.codeIn K cdOr "Point.origin" = true)
    (kOr : PySem.W.keepIn K (.ref fOr) = true)
    (aH : PySem.W.nsIn K mainGlobals "_law_hand" = some (some (.ref fH)))
    (lH : K.lookup fH = some ⟨ocH, odH, .func (PySem.W.fnOf "_law_hand" "_law_hand" (defArgs sHand) (defBody sHand) (defScope sHand) .none kVH dcH pmH anH cdH ctH), slH⟩)
    (cH : PySem.W.codeIn K cdH "_law_hand" = true)
    (kH : PySem.W.keepIn K (.ref fH) = true)
    (aD : PySem.W.nsIn K mainGlobals "_law_draw" = some (some (.ref fD)))
    (lD : K.lookup fD = some ⟨ocD, odD, .func (PySem.W.fnOf "_law_draw" "_law_draw" (defArgs sDraw) (defBody sDraw) (defScope sDraw) .none kVD dcD pmD anD cdD ctD), slD⟩)
    (cD : PySem.W.codeIn K cdD "_law_draw" = true)
    (kD : PySem.W.keepIn K (.ref fD) = true)
    (aN : PySem.W.nsIn K mainGlobals "_law_number" = some (some (.ref fN)))
    (lN : K.lookup fN = some ⟨ocN, odN, .func (PySem.W.fnOf "_law_number" "_law_number" (defArgs sNumber) (defBody sNumber) (defScope sNumber) .none kVN dcN pmN anN cdN ctN), slN⟩)
    (cN : PySem.W.codeIn K cdN "_law_number" = true)
    (kN : PySem.W.keepIn K (.ref fN) = true)
    (aTw : PySem.W.nsIn K mainGlobals "_law_two" = some (some (.ref fTw)))
    (lTw : K.lookup fTw = some ⟨ocTw, odTw, .func (PySem.W.fnOf "_law_two" "_law_two" (defArgs sTwo) (defBody sTwo) (defScope sTwo) .none kVTw dcTw pmTw anTw cdTw ctTw), slTw⟩)
    (cTw : PySem.W.codeIn K cdTw "_law_two" = true)
    (kTw : PySem.W.keepIn K (.ref fTw) = true)
    (aR : PySem.W.nsIn K mainGlobals "_law_refused" = some (some (.ref fR)))
    (lR : K.lookup fR = some ⟨ocR, odR, .func (PySem.W.fnOf "_law_refused" "_law_refused" (defArgs sRefused) (defBody sRefused) (defScope sRefused) .none kVR dcR pmR anR cdR ctR), slR⟩)
    (cR : PySem.W.codeIn K cdR "_law_refused" = true)
    (kR : PySem.W.keepIn K (.ref fR) = true)
    (aZ : PySem.W.nsIn K mainGlobals "law" = some (some (.ref fZ)))
    (lZ : K.lookup fZ = some ⟨ocZ, odZ, .func (PySem.W.fnOf "law" "law" (defArgs sLaw) (defBody sLaw) (defScope sLaw) .none kVZ dcZ pmZ anZ cdZ ctZ), slZ⟩)
    (cZ : PySem.W.codeIn K cdZ "law" = true)
    (kZ : PySem.W.keepIn K (.ref fZ) = true)
    (pg : PySem.W.plainGet K C Str.empty = true)
    (hd : PySem.W.hasDictIn K C = true)
    (po : PySem.W.plainOver K C = true)
    (sa : PySem.W.findIn K (.ref C) "__setattr__" = some (some (.builtin "object.__setattr__")))
    (mk : PySem.W.makesIn K C = true)
    (kc : PySem.W.keepIn K (.ref C) = true)
    (nX : PySem.W.findIn K (.ref C) "x" = some none)
    (nY : PySem.W.findIn K (.ref C) "y" = some none)
    (ha : PySem.W.findIn K (.ref C) "__class__" = some (some (.builtin "object.__class__")))
    (hn : PySem.W.specialIn K (.builtin "object.__class__") "__get__" = some (some (.builtin "getset_descriptor.__get__")))
    (htk : PySem.W.takesIn K (.builtin "object.__class__") = some true)
    (hm : PySem.W.mroIn K C (.type "object") = some true)
    (kTC : PySem.W.kitOne K (.type "tuple") (.ref C) = some false)
    (kCC : PySem.W.kitOne K (.ref C) (.ref C) = some true)
    (sf : PySem.W.selfFirst K C = true)
    (sbI : PySem.W.subIn K (.type "int") (.ref C) = some false)
    (sbC : PySem.W.subIn K (.ref C) (.type "int") = some false)
    (neE : PySem.W.findIn K (.ref C) "__ne__" = some (some (.builtin "object.__ne__")))
    (ntE : PySem.W.notFirst K C (.type "tuple") = true)
    (kNC : PySem.W.kitOne K (.type "NoneType") (.ref C) = some false)
    (kBC : PySem.W.kitOne K (.type "bool") (.ref C) = some false)
    (kIC : PySem.W.kitOne K (.type "int") (.ref C) = some false)
    (kSC : PySem.W.kitOne K (.type "str") (.ref C) = some false)
    (kLC : PySem.W.kitOne K (.type "list") (.ref C) = some false)
    (gaC : PySem.W.specialIn K (.ref C) "__getattribute__" = some (some (.builtin "type.__getattribute__")))
    (tyP : PySem.W.typeIn K (.ref C) = some (.type "type"))
    (rdC : PySem.W.readsIn K C (.type "type") = true)
    (z_isinstance : PySem.W.nsIn K mainGlobals "isinstance" = some none)
    (z_len : PySem.W.nsIn K mainGlobals "len" = some none)
    (z_int : PySem.W.nsIn K mainGlobals "int" = some none)
    (z_bool : PySem.W.nsIn K mainGlobals "bool" = some none)
    (z_tuple : PySem.W.nsIn K mainGlobals "tuple" = some none)
    (z_range : PySem.W.nsIn K mainGlobals "range" = some none)
    (z_max : PySem.W.nsIn K mainGlobals "max" = some none)
    (z_min : PySem.W.nsIn K mainGlobals "min" = some none)
    (z_repr : PySem.W.nsIn K mainGlobals "repr" = some none)
    (z_super : PySem.W.nsIn K mainGlobals "super" = some none)
    (aCI : PySem.W.nsIn K mainGlobals "InvalidPoint" = some (some (.ref CI)))
    (aCF : PySem.W.nsIn K mainGlobals "FillError" = some (some (.ref CF)))
    (aCN : PySem.W.nsIn K mainGlobals "NoDirection" = some (some (.ref CN)))
    (lCI : K.lookup CI = some (PySem.excClassObj nmI qI CI NI bsI bmI true snI subI abI colI ddI e0I e1I e2I e3I e5I "ValueError.__new__"))
    (rvI : PySem.HandSPX.refsVE bmI = true)
    (saI : PySem.W.findIn K (.ref CI) "__setattr__" = some (some (.builtin "object.__setattr__")))
    (gaI : PySem.W.findIn K (.ref CI) "__getattribute__" = some (some (.builtin "BaseException.__getattribute__")))
    (ggI : PySem.W.findIn K (.ref CI) "__getattr__" = some none)
    (noI : PySem.W.findIn K (.ref CI) (Str.ofString "thing") = some none)
    (inI : PySem.W.findIn K (.ref CI) "__init__" = some (some (.ref fII)))
    (tyI : PySem.W.typeIn K (.ref fII) = some (.type "function"))
    (kpI : PySem.W.keepIn K (.ref CI) = true)
    (exI : PySem.W.subIn K (.ref CI) (.type "BaseException") = some true)
    (tcI : PySem.W.typeIn K (.ref CI) = some (.type "type"))
    (hdI : PySem.W.hasDictIn K CI = true)
    (suI : PySem.W.ks_superIn K CI CI "__init__" = some (some (.builtin "ValueError.__init__")))
    (tpI : PySem.W.nsIn K cStatics "thirdparty.any" = some none)
    (veI : PySem.W.subIn K (.ref CI) (.type "ValueError") = some true)
    (mrI : PySem.W.mroIn K CI (.ref CI) = some true)
    (tsI : (l.prog.main.scope.names.lookup ("super" : Str)).isSome = false)
    (lII : K.lookup fII = some ⟨ocII, odII, .func (PySem.W.ksFn "__init__" quI (FoX_thing.xA p1 p2) (FoX_thing.xB msI r1 r2 r3 r4 r5 r6 q1 q2 q3 q4 jI) FoX_thing.xS .none kVII dcII pmII anII (.ref cdaI) ctII ccI), slII⟩)
    (cII : PySem.W.codeIn K (.ref cdaI) quI = true)
    (lcI : K.lookup cdaI = some ⟨cclI, cddI, .fields vsI, ccsI⟩)
    (vfI : vsI[2]? = some (.str fiI tfI))
    (flI : ((l.prog.main.file : Str) == fiI) = true)
    (lnI : (r3.endLine == r5.line) = true)
    (leI : K.lookup ccI = some ⟨clI, cldI, .cell (some (.ref CI)), cslI⟩)
    (caI : PySem.W.findIn K (.ref CI) "__class__" = some (some (.builtin "object.__class__")))
    (moI : PySem.W.mroIn K CI (.type "object") = some true)
    (emI : PySem.W.exmOne K (.ref CI) (.ref CF) = some true)
    (k1I : PySem.W.kitOne K (.ref CI) (.ref CI) = some true)
    (k2I : PySem.W.kitOne K (.ref CI) (.ref CN) = some false) :
    ∃ fd : FuncData, (∀ (s : Shared) (v : Value), BindsTo s fd ⟨[v], []⟩ [("script", v)]) ∧ ∀ base : Heap, K.In base → base.Ns mainGlobals mg → FnG l.prog w K mg base CX0 9 fa fd ["script"] (spLaw K) := by
  have e := hfa.symm.trans (PySem.W.mg_of X G aZ)
  cases e
  have FW := fun_mk (st := sWhole) lW cW kW
  have bW := FW.binds (ps := ["value"]) fun _ _ _ _ _ _ us hl => match us, hl with | [_], _ => rfl
  have FI := fun_mk (st := sInit) lI cI kI
  have bI := FI.binds (ps := ["self", "x", "y"]) fun _ _ _ _ _ _ us hl => match us, hl with | [_, _, _], _ => rfl
  have FP := fun_mk (st := sIsPoint) lP cP kP
  have bP := FP.binds (ps := ["thing"]) fun _ _ _ _ _ _ us hl => match us, hl with | [_], _ => rfl
  have FA := fun_mk (st := sAsPoint) lA cA kA
  have bA := FA.binds (ps := ["thing"]) fun _ _ _ _ _ _ us hl => match us, hl with | [_], _ => rfl
  have FO := fun_mk (st := sOperand) lO cO kO
  have bO := FO.binds (ps := ["thing"]) fun _ _ _ _ _ _ us hl => match us, hl with | [_], _ => rfl
  have FSd := fun_mk (st := sSide) lSd cSd kSd
  have bSd := FSd.binds (ps := ["a", "b", "point"]) fun _ _ _ _ _ _ us hl => match us, hl with | [_, _, _], _ => rfl
  have FQ := fun_mk (st := sQuarter) lQ cQ kQ
  have bQ := FQ.binds (ps := ["point"]) fun _ _ _ _ _ _ us hl => match us, hl with | [_], _ => rfl
  have FX := fun_mk (st := sCross) lX cX kX
  have bX := FX.binds (ps := ["self", "other"]) fun _ _ _ _ _ _ us hl => match us, hl with | [_, _], _ => rfl
  have FAd := fun_mk (st := sAdd) lAd cAd kAd
  have bAd := FAd.binds (ps := ["self", "other"]) fun _ _ _ _ _ _ us hl => match us, hl with | [_, _], _ => rfl
  have FS := fun_mk (st := sSub) lS cS kS
  have bS := FS.binds (ps := ["self", "other"]) fun _ _ _ _ _ _ us hl => match us, hl with | [_, _], _ => rfl
  have FRa := fun_mk (st := sRadd) lRa cRa kRa
  have bRa := FRa.binds (ps := ["self", "other"]) fun _ _ _ _ _ _ us hl => match us, hl with | [_, _], _ => rfl
  have FRs := fun_mk (st := sRsub) lRs cRs kRs
  have bRs := FRs.binds (ps := ["self", "other"]) fun _ _ _ _ _ _ us hl => match us, hl with | [_, _], _ => rfl
  have FM := fun_mk (st := sMul) lM cM kM
  have bM := FM.binds (ps := ["self", "other"]) fun _ _ _ _ _ _ us hl => match us, hl with | [_, _], _ => rfl
  have FRm := fun_mk (st := sRmul) lRm cRm kRm
  have bRm := FRm.binds (ps := ["self", "other"]) fun _ _ _ _ _ _ us hl => match us, hl with | [_, _], _ => rfl
  have FE := fun_mk (st := sEq) lE cE kE
  have bE := FE.binds (ps := ["self", "other"]) fun _ _ _ _ _ _ us hl => match us, hl with | [_, _], _ => rfl
  have FPm := fun_mk (st := sPairM) lPm cPm kPm
  have bPm := FPm.binds (ps := ["self"]) fun _ _ _ _ _ _ us hl => match us, hl with | [_], _ => rfl
  have FOr := fun_mk (st := sOrigin) lOr cOr kOr
  have bOr := FOr.binds (ps := []) fun _ _ _ _ _ _ us hl => match us, hl with | [], _ => rfl
  have FH := fun_mk (st := sHand) lH cH kH
  have bH := FH.binds (ps := ["script", "k"]) fun _ _ _ _ _ _ us hl => match us, hl with | [_, _], _ => rfl
  have FD := fun_mk (st := sDraw) lD cD kD
  have bD := FD.binds (ps := ["pool", "many"]) fun _ _ _ _ _ _ us hl => match us, hl with | [_, _], _ => rfl
  have FN := fun_mk (st := sNumber) lN cN kN
  have bN := FN.binds (ps := ["pool"]) fun _ _ _ _ _ _ us hl => match us, hl with | [_], _ => rfl
  have FTw := fun_mk (st := sTwo) lTw cTw kTw
  have bTw := FTw.binds (ps := ["pool"]) fun _ _ _ _ _ _ us hl => match us, hl with | [_], _ => rfl
  have FR := fun_mk (st := sRefused) lR cR kR
  have bR := FR.binds (ps := ["door", "thing"]) fun _ _ _ _ _ _ us hl => match us, hl with | [_, _], _ => rfl
  have FZ := fun_mk (st := sLaw) lZ cZ kZ
  have T : Txt K mg C := ⟨⟨pg, hd, po, sa⟩, nX, nY, PySem.W.mg_of X G aC, PySem.W.mg_none_of X G z_isinstance, PySem.W.mg_none_of X G z_len, PySem.W.mg_none_of X G z_int, PySem.W.mg_none_of X G z_bool, PySem.W.mg_none_of X G z_tuple, ha, hn, htk, hm, kTC, kCC⟩
  have TLm : TxtL mg := ⟨PySem.W.mg_none_of X G z_int, PySem.W.mg_none_of X G z_range, PySem.W.mg_none_of X G z_max, PySem.W.mg_none_of X G z_min, PySem.W.mg_none_of X G z_len⟩
  have Df : Defs K mg C fW fI fP fA fO _ _ _ _ _ := ⟨T, FW, bW, PySem.W.mg_of X G aW, ⟨mk, aI, iI, kc⟩, FI, bI, FP, bP, PySem.W.mg_of X G aP, FA, bA, PySem.W.mg_of X G aA, FO, bO, PySem.W.mg_of X G aO⟩
  have xt : FoX_thing.XTxt l.prog K mg CI fII := ⟨⟨_, _, _, _, _, _, _, _, _, _, _, _, _, _, _, lCI, rvI⟩, saI, gaI, ggI, noI, inI, tyI, kpI, exI, tcI, hdI, suI, tpI, PySem.W.mg_none_of X G z_super, veI, mrI, tsI, ⟨quI, msI, _, _, _, _, _, _, ccI, cdaI, _, _, p1, p2, r1, r2, r3, r4, r5, r6, q1, q2, q3, q4, jI, _, _, _, _, vsI, _, _, fiI, tfI, lII, cII, lcI, vfI, flI, lnI, leI⟩⟩
  have Rt : RTxt l.prog K mg C CI fII CF CN := ⟨⟨kNC, kBC, kIC, kSC, kLC, xt, PySem.W.mg_of X G aCI⟩, PySem.W.mg_of X G aCF, PySem.W.mg_of X G aCN, emI, ⟨gaI, ggI, exI, hdI, caI, hn, htk, moI⟩, k1I, k2I, PySem.W.mg_none_of X G z_repr⟩
  have Lf : LDefs l.prog K mg C CI fII CF CN fH fD fN fTw fR fQ fSd fX fAd fS fRa fRs fM fRm fE fPm fOr pO _ _ _ _ _ _ _ _ _ _ _ _ _ _ _ _ _ := ⟨TLm, Rt, FH, bH, PySem.W.mg_of X G aH, FD, bD, PySem.W.mg_of X G aD, FN, bN, PySem.W.mg_of X G aN, FTw, bTw, PySem.W.mg_of X G aTw, FR, bR, PySem.W.mg_of X G aR, FQ, bQ, PySem.W.mg_of X G aQ, FSd, bSd, PySem.W.mg_of X G aSd, FX, bX, ⟨aX, iX, kX⟩, FAd, bAd, ⟨sf, aAd, iAd⟩, FS, bS, ⟨sf, aS, iS⟩, FRa, bRa, ⟨sf, aAd, aRa, iRa⟩, FRs, bRs, ⟨sf, aS, aRs, iRs⟩, FM, bM, ⟨sf, aM, iM, aRm, sbI⟩, FRm, bRm, ⟨sf, aM, aRm, iRm⟩, sbC, FE, bE, ⟨aE, iE, neE, hm, ntE⟩, FPm, bPm, ⟨aPm, iPm, kPm⟩, FOr, bOr, ⟨gaC, tyP, rdC, rcO, ⟨_, reO⟩, kOr⟩⟩
  exact ⟨PySem.W.fnOf "law" "law" (defArgs sLaw) (defBody sLaw) (defScope sLaw) .none kVZ dcZ pmZ anZ cdZ ctZ, fun s v => .of_eq rfl, fun base _ _ => ok_law FZ Df Lf⟩
theorem walk {l : PySem.W.OpenLaw} {q : Program} {loose : List Str} {XP : (Str → Option Value) → Heap → Prop} {YP : World → Heap → Prop} {d : DefRec} {K : Params → PySem.W.Frag} (hn : l.most = some 63) (hdf : d.params.defaults = [])
    (hY : ∀ (w : World) (h : Heap), YP w h → (K w.params).In h)
    (F : ∀ (w : World) (mg : Str → Option Value) (fa : Addr) (h : Heap), (K w.params).In h → h.Ns mainGlobals mg → mg d.name = some (.ref fa) →
      ∃ fd : FuncData, (∀ (s : Shared) (u : Value), BindsTo s fd ⟨[u], []⟩ [("script", u)]) ∧ ∀ base : Heap, (K w.params).In base → base.Ns mainGlobals mg → FnG l.prog w (K w.params) mg base CX0 9 fa fd ["script"] (spLaw (K w.params))) :
    PySem.W.WalkO q loose XP YP l.row.toRowW d [] (fun f vs => PySem.call f vs) :=
  L2.walk_ofG (n := 63) (k := 9) (x := "script") (sp := fun w => spLaw (K w.params)) hn (by decide) hdf ⟨rfl, by decide, by decide⟩ hY F (fun _ _ a ns hl hS => ⟨a, ns, rfl, hS, hl, fun _ => rfl⟩)
end Fo

open PySem PySem.W PyProof.Rows in
set_option maxRecDepth 100000 in
set_option maxHeartbeats 0 in
theorem PySem.Challenge.cw_filledonce_k01_points_holds : PySem.Challenge.rw_filledonce_k01_points.Holds := by
  w_on; o_law; k_head; (case hw => w_witness2)
  k_fill
  refine Fo.walk (l := PySem.Challenge.rw_filledonce_k01_points) rfl rfl (fun w h Y => PySem.W.kIn_of Y) ?F
  case F =>
    intro w mg fa h KX G hmg
    refine' Fo.all_mk KX G hmg ?aC ?rcO ?reO ?aW ?lW ?cW ?kW ?aI ?iI ?lI ?cI ?kI ?aP ?lP ?cP ?kP ?aA ?lA ?cA ?kA ?aO ?lO ?cO ?kO ?aSd ?lSd ?cSd ?kSd ?aQ ?lQ ?cQ ?kQ ?aX ?iX ?lX ?cX ?kX ?aAd ?iAd ?lAd ?cAd ?kAd ?aS ?iS ?lS ?cS ?kS ?aRa ?iRa ?lRa ?cRa ?kRa ?aRs ?iRs ?lRs ?cRs ?kRs ?aM ?iM ?lM ?cM ?kM ?aRm ?iRm ?lRm ?cRm ?kRm ?aE ?iE ?lE ?cE ?kE ?aPm ?iPm ?lPm ?cPm ?kPm ?lOr ?cOr ?kOr ?aH ?lH ?cH ?kH ?aD ?lD ?cD ?kD ?aN ?lN ?cN ?kN ?aTw ?lTw ?cTw ?kTw ?aR ?lR ?cR ?kR ?aZ ?lZ ?cZ ?kZ ?pg ?hd ?po ?sa ?mk ?kc ?nX ?nY ?ha ?hn ?htk ?hm ?kTC ?kCC ?sf ?sbI ?sbC ?neE ?ntE ?kNC ?kBC ?kIC ?kSC ?kLC ?gaC ?tyP ?rdC ?z_isinstance ?z_len ?z_int ?z_bool ?z_tuple ?z_range ?z_max ?z_min ?z_repr ?z_super ?aCI ?aCF ?aCN ?lCI ?rvI ?saI ?gaI ?ggI ?noI ?inI ?tyI ?kpI ?exI ?tcI ?hdI ?suI ?tpI ?veI ?mrI ?tsI ?lII ?cII ?lcI ?vfI ?flI ?lnI ?leI ?caI ?moI ?emI ?k1I ?k2I
    (case aC => first | k_is | rfl | decide +kernel)
    (case rcO => first | k_is | rfl | decide +kernel)
    (case reO => first | k_is | rfl | decide +kernel)
    (case aW => first | k_is | rfl | decide +kernel)
    (case lW => first | k_is | rfl | decide +kernel)
    (case cW => first | k_is | rfl | decide +kernel)
    (case kW => first | k_is | rfl | decide +kernel)
    (case aI => first | k_is | rfl | decide +kernel)
    (case iI => first | k_is | rfl | decide +kernel)
    (case lI => first | k_is | rfl | decide +kernel)
    (case cI => first | k_is | rfl | decide +kernel)
    (case kI => first | k_is | rfl | decide +kernel)
    (case aP => first | k_is | rfl | decide +kernel)
    (case lP => first | k_is | rfl | decide +kernel)
    (case cP => first | k_is | rfl | decide +kernel)
    (case kP => first | k_is | rfl | decide +kernel)
    (case aA => first | k_is | rfl | decide +kernel)
    (case lA => first | k_is | rfl | decide +kernel)
    (case cA => first | k_is | rfl | decide +kernel)
    (case kA => first | k_is | rfl | decide +kernel)
    (case aO => first | k_is | rfl | decide +kernel)
    (case lO => first | k_is | rfl | decide +kernel)
    (case cO => first | k_is | rfl | decide +kernel)
    (case kO => first | k_is | rfl | decide +kernel)
    (case aSd => first | k_is | rfl | decide +kernel)
    (case lSd => first | k_is | rfl | decide +kernel)
    (case cSd => first | k_is | rfl | decide +kernel)
    (case kSd => first | k_is | rfl | decide +kernel)
    (case aQ => first | k_is | rfl | decide +kernel)
    (case lQ => first | k_is | rfl | decide +kernel)
    (case cQ => first | k_is | rfl | decide +kernel)
    (case kQ => first | k_is | rfl | decide +kernel)
    (case aX => first | k_is | rfl | decide +kernel)
    (case iX => first | k_is | rfl | decide +kernel)
    (case lX => first | k_is | rfl | decide +kernel)
    (case cX => first | k_is | rfl | decide +kernel)
    (case kX => first | k_is | rfl | decide +kernel)
    (case aAd => first | k_is | rfl | decide +kernel)
    (case iAd => first | k_is | rfl | decide +kernel)
    (case lAd => first | k_is | rfl | decide +kernel)
    (case cAd => first | k_is | rfl | decide +kernel)
    (case kAd => first | k_is | rfl | decide +kernel)
    (case aS => first | k_is | rfl | decide +kernel)
    (case iS => first | k_is | rfl | decide +kernel)
    (case lS => first | k_is | rfl | decide +kernel)
    (case cS => first | k_is | rfl | decide +kernel)
    (case kS => first | k_is | rfl | decide +kernel)
    (case aRa => first | k_is | rfl | decide +kernel)
    (case iRa => first | k_is | rfl | decide +kernel)
    (case lRa => first | k_is | rfl | decide +kernel)
    (case cRa => first | k_is | rfl | decide +kernel)
    (case kRa => first | k_is | rfl | decide +kernel)
    (case aRs => first | k_is | rfl | decide +kernel)
    (case iRs => first | k_is | rfl | decide +kernel)
    (case lRs => first | k_is | rfl | decide +kernel)
    (case cRs => first | k_is | rfl | decide +kernel)
    (case kRs => first | k_is | rfl | decide +kernel)
    (case aM => first | k_is | rfl | decide +kernel)
    (case iM => first | k_is | rfl | decide +kernel)
    (case lM => first | k_is | rfl | decide +kernel)
    (case cM => first | k_is | rfl | decide +kernel)
    (case kM => first | k_is | rfl | decide +kernel)
    (case aRm => first | k_is | rfl | decide +kernel)
    (case iRm => first | k_is | rfl | decide +kernel)
    (case lRm => first | k_is | rfl | decide +kernel)
    (case cRm => first | k_is | rfl | decide +kernel)
    (case kRm => first | k_is | rfl | decide +kernel)
    (case aE => first | k_is | rfl | decide +kernel)
    (case iE => first | k_is | rfl | decide +kernel)
    (case lE => first | k_is | rfl | decide +kernel)
    (case cE => first | k_is | rfl | decide +kernel)
    (case kE => first | k_is | rfl | decide +kernel)
    (case aPm => first | k_is | rfl | decide +kernel)
    (case iPm => first | k_is | rfl | decide +kernel)
    (case lPm => first | k_is | rfl | decide +kernel)
    (case cPm => first | k_is | rfl | decide +kernel)
    (case kPm => first | k_is | rfl | decide +kernel)
    (case lOr => first | k_is | rfl | decide +kernel)
    (case cOr => first | k_is | rfl | decide +kernel)
    (case kOr => first | k_is | rfl | decide +kernel)
    (case aH => first | k_is | rfl | decide +kernel)
    (case lH => first | k_is | rfl | decide +kernel)
    (case cH => first | k_is | rfl | decide +kernel)
    (case kH => first | k_is | rfl | decide +kernel)
    (case aD => first | k_is | rfl | decide +kernel)
    (case lD => first | k_is | rfl | decide +kernel)
    (case cD => first | k_is | rfl | decide +kernel)
    (case kD => first | k_is | rfl | decide +kernel)
    (case aN => first | k_is | rfl | decide +kernel)
    (case lN => first | k_is | rfl | decide +kernel)
    (case cN => first | k_is | rfl | decide +kernel)
    (case kN => first | k_is | rfl | decide +kernel)
    (case aTw => first | k_is | rfl | decide +kernel)
    (case lTw => first | k_is | rfl | decide +kernel)
    (case cTw => first | k_is | rfl | decide +kernel)
    (case kTw => first | k_is | rfl | decide +kernel)
    (case aR => first | k_is | rfl | decide +kernel)
    (case lR => first | k_is | rfl | decide +kernel)
    (case cR => first | k_is | rfl | decide +kernel)
    (case kR => first | k_is | rfl | decide +kernel)
    (case aZ => first | k_is | rfl | decide +kernel)
    (case lZ => first | k_is | rfl | decide +kernel)
    (case cZ => first | k_is | rfl | decide +kernel)
    (case kZ => first | k_is | rfl | decide +kernel)
    (case pg => first | k_is | rfl | decide +kernel)
    (case hd => first | k_is | rfl | decide +kernel)
    (case po => first | k_is | rfl | decide +kernel)
    (case sa => first | k_is | rfl | decide +kernel)
    (case mk => first | k_is | rfl | decide +kernel)
    (case kc => first | k_is | rfl | decide +kernel)
    (case nX => first | k_is | rfl | decide +kernel)
    (case nY => first | k_is | rfl | decide +kernel)
    (case ha => first | k_is | rfl | decide +kernel)
    (case hn => first | k_is | rfl | decide +kernel)
    (case htk => first | k_is | rfl | decide +kernel)
    (case hm => first | k_is | rfl | decide +kernel)
    (case kTC => first | k_is | rfl | decide +kernel)
    (case kCC => first | k_is | rfl | decide +kernel)
    (case sf => first | k_is | rfl | decide +kernel)
    (case sbI => first | k_is | rfl | decide +kernel)
    (case sbC => first | k_is | rfl | decide +kernel)
    (case neE => first | k_is | rfl | decide +kernel)
    (case ntE => first | k_is | rfl | decide +kernel)
    (case kNC => first | k_is | rfl | decide +kernel)
    (case kBC => first | k_is | rfl | decide +kernel)
    (case kIC => first | k_is | rfl | decide +kernel)
    (case kSC => first | k_is | rfl | decide +kernel)
    (case kLC => first | k_is | rfl | decide +kernel)
    (case gaC => first | k_is | rfl | decide +kernel)
    (case tyP => first | k_is | rfl | decide +kernel)
    (case rdC => first | k_is | rfl | decide +kernel)
    (case z_isinstance => first | k_is | rfl | decide +kernel)
    (case z_len => first | k_is | rfl | decide +kernel)
    (case z_int => first | k_is | rfl | decide +kernel)
    (case z_bool => first | k_is | rfl | decide +kernel)
    (case z_tuple => first | k_is | rfl | decide +kernel)
    (case z_range => first | k_is | rfl | decide +kernel)
    (case z_max => first | k_is | rfl | decide +kernel)
    (case z_min => first | k_is | rfl | decide +kernel)
    (case z_repr => first | k_is | rfl | decide +kernel)
    (case z_super => first | k_is | rfl | decide +kernel)
    (case aCI => first | k_is | rfl | decide +kernel)
    (case aCF => first | k_is | rfl | decide +kernel)
    (case aCN => first | k_is | rfl | decide +kernel)
    (case lCI => first | k_is | rfl | decide +kernel)
    (case rvI => first | k_is | rfl | decide +kernel)
    (case saI => first | k_is | rfl | decide +kernel)
    (case gaI => first | k_is | rfl | decide +kernel)
    (case ggI => first | k_is | rfl | decide +kernel)
    (case noI => first | k_is | rfl | decide +kernel)
    (case inI => first | k_is | rfl | decide +kernel)
    (case tyI => first | k_is | rfl | decide +kernel)
    (case kpI => first | k_is | rfl | decide +kernel)
    (case exI => first | k_is | rfl | decide +kernel)
    (case tcI => first | k_is | rfl | decide +kernel)
    (case hdI => first | k_is | rfl | decide +kernel)
    (case suI => first | k_is | rfl | decide +kernel)
    (case tpI => first | k_is | rfl | decide +kernel)
    (case veI => first | k_is | rfl | decide +kernel)
    (case mrI => first | k_is | rfl | decide +kernel)
    (case tsI => first | k_is | rfl | decide +kernel)
    (case lII => first | k_is | rfl | decide +kernel)
    (case cII => first | k_is | rfl | decide +kernel)
    (case lcI => first | k_is | rfl | decide +kernel)
    (case vfI => first | k_is | rfl | decide +kernel)
    (case flI => first | k_is | rfl | decide +kernel)
    (case lnI => first | k_is | rfl | decide +kernel)
    (case leI => first | k_is | rfl | decide +kernel)
    (case caI => first | k_is | rfl | decide +kernel)
    (case moI => first | k_is | rfl | decide +kernel)
    (case emI => first | k_is | rfl | decide +kernel)
    (case k1I => first | k_is | rfl | decide +kernel)
    (case k2I => first | k_is | rfl | decide +kernel)
#print axioms PySem.Challenge.cw_filledonce_k01_points_holds
